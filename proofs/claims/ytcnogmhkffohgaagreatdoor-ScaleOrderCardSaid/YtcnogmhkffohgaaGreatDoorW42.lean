/-
  What a quotient's nearest of package scale answers; what over makes of an element.
-/
import Derived.Test.YtcnogmhkffohgaaGreatDoorW41
import Derived.Test.YtcnogmhkffohgaaGreatDoorW33
import Derived.Deep.DeepCutAuto
import Derived.Test.YtcnogmhkffohgaaGreatDoorW19
import Derived.Test.YtcnogmhkffohgaaGreatDoorW36
import Derived.Test.YtcnogmhkffohgaaGreatDoorW37
import Derived.Test.YtcnogmhkffohgaaGreatDoorW17
import Derived.Test.YtcnogmhkffohgaaGreatDoorW28
import Derived.Test.YtcnogmhkffohgaaGreatDoorW30
import Derived.Test.YtcnogmhkffohgaaGreatDoorW38
namespace Go.Proofs.YtcnogmhkffohgaaGreatDoor
open Go.RowKit
set_option linter.unusedVariables false
set_option maxRecDepth 100000

/-- What a number is scaled to. -/
def nearQ (t by_ : Nat) (b : Bool) (X : Nat) : Int := nearZ (decide (iv b X * (t : Int) < 0)) (iv b X * (t : Int)).natAbs by_
theorem times10 {A A' : Option Addr} {n n' c c' : Nat} {b : Bool} {X T : Nat} {z : Int} {w : World} (hz : Hid (z = iv b X * (T : Int))) (h : NX w A n c (nw X)) (h' : NX w A' n' c' (nw T)) (hn : n ≤ 1000) (hn' : n' ≤ 1000) :
    Calls Tryz.prog 52 #[.agg #[.bool b, .slice A n c], .agg #[.bool false, .slice A' n' c']] w (fun e w' => ∃ A2 n2 c2, e = .returned (.agg #[.bool (decide (z < 0)), .slice A2 n2 c2]) ∧ n2 ≤ n + n' ∧ NX w' A2 n2 c2 (nw z.natAbs) ∧ Ext w w') := by
  refine (timesZ_any A A' n n' c c' b false (nw X) (nw T) w h h' (by omega) (by omega)).mono ?_
  rw [nv_nw, nv_nw]
  rintro e w' ⟨A2, n2, c2, rfl, h2, h3, h4⟩
  refine ⟨A2, n2, c2, ?_, h2, ?_, h4⟩
  · rw [hz.out]; rfl
  · rw [hz.out]; exact h3
theorem near10 {A A' : Option Addr} {n n' c c' : Nat} {b : Bool} {X Y : Nat} {z : Int} {w : World} (hz : Hid (z = nearZ b X Y)) (hY : 0 < Y) (h : NX w A n c (nw X)) (h' : NX w A' n' c' (nw Y)) (hn : n ≤ 1000) (hn' : n' ≤ 1000) :
    Calls Tryz.prog 51 #[.agg #[.bool b, .slice A n c], .slice A' n' c'] w (fun e w' => ∃ A2 n2 c2, e = .returned (.tuple #[.agg #[.bool (decide (z < 0)), .slice A2 n2 c2], .int .i64 0]) ∧ n2 ≤ n + 4 ∧ NX w' A2 n2 c2 (nw z.natAbs) ∧ Ext w w') := by
  refine (near_any A A' n n' c c' b (nw X) (nw Y) w h h' hn hn').mono ?_
  rw [nv_nw, nv_nw]
  rintro e w' (⟨h0, _⟩ | ⟨_, A2, n2, c2, rfl, h2, h3, h4⟩)
  · omega
  refine ⟨A2, n2, c2, ?_, h2, ?_, h4⟩
  · rw [hz.out]
  · rw [hz.out]; exact h3
/-- A whole number z that was made and laid in a block of its own. -/
structure LaidS (w2 wx : World) (g : Nat) (A : Option Addr) (n c N : Nat) (z : Int) : Prop where
  ext : Ext w2 wx
  lo : w2.heap.size ≤ g
  c0 : wx.cell? ⟨g, 0, none⟩ = some (.bool (decide (z < 0)))
  c1 : wx.cell? ⟨g, 1, none⟩ = some (.slice A n c)
  nx : NX wx A n c (nw z.natAbs)
  le : n ≤ N
theorem laidS_new {w2 w : World} {A : Option Addr} {n c N : Nat} {z : Int} {t : TypeId} (k : Ext w2 w) (h : NX w A n c (nw z.natAbs)) (hn : n ≤ N) : LaidS w2 (w.alloc (.cells #[.bool (decide (z < 0)), .slice A n c] t)) w.heap.size A n c N z :=
  ⟨k.alloc _, k.size, by simp, by simp, NX.ext h ((Ext.refl w).alloc _), hn⟩
theorem laidS_old {w2 w : World} {g : Nat} {A : Option Addr} {n c N : Nat} {z : Int} {b0 : Bool} {A0 : Option Addr} {n0 c0 : Nat} (k : Ext w2 w) (hg : w2.heap.size ≤ g) (h0 : w.cell? ⟨g, 0, none⟩ = some (.bool b0)) (h1 : w.cell? ⟨g, 1, none⟩ = some (.slice A0 n0 c0)) (h : NX w A n c (nw z.natAbs)) (hn : n ≤ N) :
    LaidS w2 ((w.setCell ⟨g, 0, none⟩ (.bool (decide (z < 0)))).setCell ⟨g, 1, none⟩ (.slice A n c)) g A n c N z := by
  obtain ⟨z0, z1⟩ := ans_cells h0 h1 (.bool (decide (z < 0))) (.slice A n c)
  exact ⟨(Below.setCell k hg _).setCell hg _, hg, z0, z1, rd_answer h h0 h1, hn⟩
theorem boxS_next {a b : World} {t : TypeId} (k : Ext (a.alloc (.cells #[.bool false, .slice none 0 0] t)) b) :
    b.cell? ⟨a.heap.size, 0, none⟩ = some (.bool false) ∧ b.cell? ⟨a.heap.size, 1, none⟩ = some (.slice none 0 0) ∧ b.frozen? ⟨a.heap.size, 0, none⟩ = false ∧ b.frozen? ⟨a.heap.size, 1, none⟩ = false :=
  ⟨kept_cell k (by simp) (by simp), kept_cell k (by simp) (by simp), kept_free k (by simp) (by simp), kept_free k (by simp) (by simp)⟩
theorem boxS_first {a b : World} {t : TypeId} (k : Ext (a.alloc (.cells #[.bool false, .slice none 0 0] t)).drew b) :
    b.cell? ⟨a.heap.size, 0, none⟩ = some (.bool false) ∧ b.cell? ⟨a.heap.size, 1, none⟩ = some (.slice none 0 0) ∧ b.frozen? ⟨a.heap.size, 0, none⟩ = false ∧ b.frozen? ⟨a.heap.size, 1, none⟩ = false :=
  ⟨kept_cell k (by simp) (by simp), kept_cell k (by simp) (by simp), kept_free k (by simp) (by simp), kept_free k (by simp) (by simp)⟩
theorem boxS_drawn {a b : World} {t : TypeId} (k : Ext (a.drew.alloc (.cells #[.bool false, .slice none 0 0] t)) b) :
    b.cell? ⟨a.heap.size, 0, none⟩ = some (.bool false) ∧ b.cell? ⟨a.heap.size, 1, none⟩ = some (.slice none 0 0) ∧ b.frozen? ⟨a.heap.size, 0, none⟩ = false ∧ b.frozen? ⟨a.heap.size, 1, none⟩ = false := boxS_next (a := a.drew) k
theorem boxS_carry {a b : World} {g : Nat} (k : Ext a b) (h : a.cell? ⟨g, 0, none⟩ = some (.bool false) ∧ a.cell? ⟨g, 1, none⟩ = some (.slice none 0 0) ∧ a.frozen? ⟨g, 0, none⟩ = false ∧ a.frozen? ⟨g, 1, none⟩ = false) :
    b.cell? ⟨g, 0, none⟩ = some (.bool false) ∧ b.cell? ⟨g, 1, none⟩ = some (.slice none 0 0) ∧ b.frozen? ⟨g, 0, none⟩ = false ∧ b.frozen? ⟨g, 1, none⟩ = false := by
  have hg := World.block_lt_of_cell? _ _ h.1
  exact ⟨kept_cell k hg h.1, kept_cell k hg h.2.1, kept_free k hg h.2.2.1, kept_free k hg h.2.2.2⟩
set_option maxHeartbeats 8000000 in
theorem nearest_any (T Y tn tc bn bc n c X : Nat) (TA BA A : Option Addr) (b : Bool) (w : World) (hT : NX w TA tn tc (nw T)) (hY : NX w BA bn bc (nw Y)) (hX : NX w A n c (nw X)) (ht : tn ≤ 100) (hb : bn ≤ 100) (hn : n ≤ 500) (hY0 : 0 < Y) :
    Calls Tryz.prog 26 #[.agg #[.bool false, .slice TA tn tc, .slice BA bn bc], .agg #[.bool b, .slice A n c]] w (Told w 1000 (decide (nearQ T Y b X < 0)) (nearQ T Y b X).natAbs) := by
  have HT := Lib.hid hT
  have HY := Lib.hid hY
  have HX := Lib.hid hX
  clear hT hY hX
  obtain ⟨z1, hz1⟩ : ∃ z1, z1 = iv b X * (T : Int) := ⟨_, rfl⟩
  obtain ⟨z2, hz2⟩ : ∃ z2, z2 = nearZ (decide (z1 < 0)) z1.natAbs Y := ⟨_, rfl⟩
  have hq : nearQ T Y b X = z2 := by unfold nearQ; rw [hz2, hz1]
  rw [hq]
  have HZ1 := Lib.hid hz1
  have HZ2 := Lib.hid hz2
  clear hz1 hz2 hq
  go_enter Tryz.func26, Tryz.ntmps26
  go_wp2_with fail
  obtain ⟨V, hV⟩ : ∃ V, V = (((w.alloc (.cells #[.bool false, .slice TA tn tc, .slice BA bn bc] 56)).alloc (.cells #[.bool b, .slice A n c] 54)).alloc (.cells #[.bool false, .slice none 0 0] 54)) := ⟨_, rfl⟩
  have hs1 : (w.alloc (.cells #[.bool false, .slice TA tn tc, .slice BA bn bc] 56)).heap.size = w.heap.size + 1 := by simp
  have hs2 : ((w.alloc (.cells #[.bool false, .slice TA tn tc, .slice BA bn bc] 56)).alloc (.cells #[.bool b, .slice A n c] 54)).heap.size = w.heap.size + 1 + 1 := by simp
  have kV : Ext w V := by rw [hV]; exact (((Ext.refl w).alloc _).alloc _).alloc _
  have r0 : RW V w.heap.size 56 3 (fun j => if j = 0 then .bool false else if j = 1 then .slice TA tn tc else .slice BA bn bc) := by rw [hV]; exact RW.ext (heap_alloc_new _ _) (((Ext.refl _).alloc _).alloc _)
  have r1 : RW V (w.heap.size + 1) 54 2 (two (.bool b) (.slice A n c)) := by rw [hV, ← hs1]; exact RW.ext (heap_alloc_new _ _) ((Ext.refl _).alloc _)
  have r2 : RW V (w.heap.size + 1 + 1) 54 2 (two (.bool false) (.slice none 0 0)) := by rw [hV, ← hs2]; exact heap_alloc_new _ _
  have hsV : V.heap.size = w.heap.size + 1 + 1 + 1 := by rw [hV]; simp
  rw [← hV]
  have hsV3 : w.heap.size + 3 ≤ V.heap.size := by omega
  clear hV hs1 hs2 hsV
  have q0 : V.cell? ⟨w.heap.size, 0, none⟩ = some (.bool false) := r0.cell (i := 0) (by omega)
  have q1 : V.cell? ⟨w.heap.size, 1, none⟩ = some (.slice TA tn tc) := r0.cell (i := 1) (by omega)
  have q2 : V.cell? ⟨w.heap.size, 2, none⟩ = some (.slice BA bn bc) := r0.cell (i := 2) (by omega)
  have v0 : V.cell? ⟨w.heap.size + 1, 0, none⟩ = some (.bool b) := r1.cell (i := 0) (by omega)
  have v1 : V.cell? ⟨w.heap.size + 1, 1, none⟩ = some (.slice A n c) := r1.cell (i := 1) (by omega)
  have HT5 := Lib.hid (NX.ext HT.out kV)
  have HY5 := Lib.hid (NX.ext HY.out kV)
  have HX5 := Lib.hid (NX.ext HX.out kV)
  go_cut [5] (fun s5 wx => ∃ (g : Nat) (Ax : Option Addr) (nx cx : Nat), s5 = .pointer (some ⟨g, 0, none⟩) ∧ LaidS V wx g Ax nx cx 1000 z2)
  case first =>
    have nv0 : ¬ (V.heap.size = w.heap.size) := by omega
    have mv0 : ¬ (w.heap.size = V.heap.size) := by omega
    have nv1 : ¬ (V.heap.size = w.heap.size + 1) := by omega
    have mv1 : ¬ (w.heap.size + 1 = V.heap.size) := by omega
    have nv2 : ¬ (V.heap.size = w.heap.size + 1 + 1) := by omega
    have mv2 : ¬ (w.heap.size + 1 + 1 = V.heap.size) := by omega
    go_region_held3 (fun w' => w'.cell? ⟨w.heap.size, 0, none⟩ = some (.bool false) ∧ w'.cell? ⟨w.heap.size, 1, none⟩ = some (.slice TA tn tc) ∧ w'.cell? ⟨w.heap.size, 2, none⟩ = some (.slice BA bn bc) ∧ w'.cell? ⟨w.heap.size + 1, 0, none⟩ = some (.bool b) ∧ w'.cell? ⟨w.heap.size + 1, 1, none⟩ = some (.slice A n c)) (go_keep)
      (first
        | (go_at_call 51; (refine (near10 HZ2 hY0 (by exact NX.ext h6 (by repeat (first | exact Ext.refl _ | assumption | refine Ext.drew ?_ | refine Ext.alloc ?_ _))) (by exact NX.ext HY5.out (by repeat (first | exact Ext.refl _ | assumption | refine Ext.drew ?_ | refine Ext.alloc ?_ _))) (by omega) (by omega)).mono ?_); rintro e w7 ⟨A7, n7, c7, rfl, hn7, h7, k7⟩; have k7' : Ext V w7 := Ext.trans (by repeat (first | exact Ext.refl _ | assumption | refine Ext.drew ?_ | refine Ext.alloc ?_ _)) k7; have d0 := cell_ext k7' q0; have d1 := cell_ext k7' q1; have d2 := cell_ext k7' q2; have d3 := cell_ext k7' v0; have d4 := cell_ext k7' v1; have zw7 : V.heap.size ≤ w7.heap.size := k7'.size; have aw7_0 : ¬ (w7.heap.size = w.heap.size) := (by omega); have bw7_0 : ¬ (w.heap.size = w7.heap.size) := (by omega); have aw7_1 : ¬ (w7.heap.size = w.heap.size + 1) := (by omega); have bw7_1 : ¬ (w.heap.size + 1 = w7.heap.size) := (by omega); have aw7_2 : ¬ (w7.heap.size = w.heap.size + 1 + 1) := (by omega); have bw7_2 : ¬ (w.heap.size + 1 + 1 = w7.heap.size) := (by omega); (try have Q_w7 := boxS_next k7); (try have Q_w7 := boxS_drawn k7); (try have Q_w7 := boxS_first k7); (try have Q_w7 := boxS_carry k7 Q_w6); (try have q0_w7 := Q_w7.1); (try have q1_w7 := Q_w7.2.1); (try have p0_w7 := Q_w7.2.2.1); (try have p1_w7 := Q_w7.2.2.2))
        | (go_at_call 52; (refine (times10 HZ1 (by exact NX.ext HX5.out (by repeat (first | exact Ext.refl _ | assumption | refine Ext.drew ?_ | refine Ext.alloc ?_ _))) (by exact NX.ext HT5.out (by repeat (first | exact Ext.refl _ | assumption | refine Ext.drew ?_ | refine Ext.alloc ?_ _))) (by omega) (by omega)).mono ?_); rintro e w6 ⟨A6, n6, c6, rfl, hn6, h6, k6⟩; have k6' : Ext V w6 := Ext.trans (by repeat (first | exact Ext.refl _ | assumption | refine Ext.drew ?_ | refine Ext.alloc ?_ _)) k6; have d0 := cell_ext k6' q0; have d1 := cell_ext k6' q1; have d2 := cell_ext k6' q2; have d3 := cell_ext k6' v0; have d4 := cell_ext k6' v1; have zw6 : V.heap.size ≤ w6.heap.size := k6'.size; have aw6_0 : ¬ (w6.heap.size = w.heap.size) := (by omega); have bw6_0 : ¬ (w.heap.size = w6.heap.size) := (by omega); have aw6_1 : ¬ (w6.heap.size = w.heap.size + 1) := (by omega); have bw6_1 : ¬ (w.heap.size + 1 = w6.heap.size) := (by omega); have aw6_2 : ¬ (w6.heap.size = w.heap.size + 1 + 1) := (by omega); have bw6_2 : ¬ (w.heap.size + 1 + 1 = w6.heap.size) := (by omega); (try have Q_w6 := boxS_next k6); (try have Q_w6 := boxS_drawn k6); (try have Q_w6 := boxS_first k6); (try have q0_w6 := Q_w6.1); (try have q1_w6 := Q_w6.2.1); (try have p0_w6 := Q_w6.2.2.1); (try have p1_w6 := Q_w6.2.2.2))
        | fail)
    all_goals (go_wp2_with fail; go_meet; (first | exact ⟨_, _, _, _, rfl, laidS_new k7' h7 (by omega)⟩ | exact ⟨_, _, _, _, rfl, laidS_old k7' (by omega) Q_w7.1 Q_w7.2.1 h7 (by omega)⟩))
  case rest =>
    obtain ⟨g, Ax, nx, cx, rfl, hl⟩ := hcut
    rename World => wx
    have kx := hl.ext
    have hg : w.heap.size + 1 + 1 ≠ g := by have := hl.lo; omega
    have c0 := hl.c0
    have c1 := hl.c1
    have HNX := Lib.hid hl.nx
    have hle := hl.le
    have r5 := RW.ext r2 kx
    have z0 := r5.cell (i := 0) (by omega)
    have z1' := r5.cell (i := 1) (by omega)
    have f0 := r5.frozen 0
    have f1 := r5.frozen 1
    have s5 := r5.lt
    have HE := Lib.hid (kV.trans kx)
    clear hl kx
    go_wp2
    have d := two_set r5 (.bool (decide (z2 < 0))) (.slice Ax nx cx)
    have d0 : ((wx.setCell ⟨w.heap.size + 1 + 1, 0, none⟩ (.bool (decide (z2 < 0)))).setCell ⟨w.heap.size + 1 + 1, 1, none⟩ (.slice Ax nx cx)).cell? ⟨w.heap.size + 1 + 1, 0, none⟩ = some (.bool (decide (z2 < 0))) := d.cell (i := 0) (by omega)
    have d1 : ((wx.setCell ⟨w.heap.size + 1 + 1, 0, none⟩ (.bool (decide (z2 < 0)))).setCell ⟨w.heap.size + 1 + 1, 1, none⟩ (.slice Ax nx cx)).cell? ⟨w.heap.size + 1 + 1, 1, none⟩ = some (.slice Ax nx cx) := d.cell (i := 1) (by omega)
    have d2 := two_nx (b' := decide (z2 < 0)) (A2 := Ax) (n2 := nx) (c2 := cx) r5 HNX.out
    have d3 := (HE.out.set (p := ⟨w.heap.size + 1 + 1, 0, none⟩) (by show w.heap.size ≤ w.heap.size + 1 + 1; omega) (.bool (decide (z2 < 0)))).set (p := ⟨w.heap.size + 1 + 1, 1, none⟩) (by show w.heap.size ≤ w.heap.size + 1 + 1; omega) (.slice Ax nx cx)
    generalize (wx.setCell ⟨w.heap.size + 1 + 1, 0, none⟩ (.bool (decide (z2 < 0)))).setCell ⟨w.heap.size + 1 + 1, 1, none⟩ (.slice Ax nx cx) = w9 at *
    exact bodyPost_ret (v := .agg #[.bool (decide (z2 < 0)), .slice Ax nx cx]) (by simp [results, Tryz.results26, go_sem, d0, d1]) rfl ⟨Ax, nx, cx, rfl, hle, d2, d3⟩
end Go.Proofs.YtcnogmhkffohgaaGreatDoor

/-
  What over of package scale makes of an element: the element of another row, of the nearest numbers.
-/
namespace Go.Proofs.YtcnogmhkffohgaaGreatDoor
open Go.RowKit
set_option linter.unusedVariables false
set_option maxRecDepth 100000

theorem WK.over {w : World} {g n k N m c x : Nat} {A : Option Addr} {b : Nat → Bool} {X : Nat → Nat} {s : Bool} (h : WK w g n n N b X) (hk : k < n) (hm : m ≤ N) (hx : NX w A m c (nw x)) : WK (set2 w g (k * 2) (.bool s) (.slice A m c)) g n n N (fun i => if i = k then s else b i) (fun i => if i = k then x else X i) := by
  obtain ⟨As, ns, cs, h1, h2⟩ := h
  refine ⟨fun j => if j = k then A else As j, fun j => if j = k then m else ns j, fun j => if j = k then c else cs j, ?_, fun i hi => ?_⟩
  · refine ((h1.set (show k * 2 < n * 2 by omega) _).set (show k * 2 + 1 < n * 2 by omega) _).congr fun i hi => ?_
    by_cases e1 : i = k * 2 + 1
    · subst e1
      rw [if_pos rfl]
      unfold wfUp wfF
      dsimp only
      rw [if_pos hi, if_neg (by omega), show (k * 2 + 1) / 2 = k by omega, if_pos rfl, if_pos rfl, if_pos rfl]
    · rw [if_neg e1]
      by_cases e2 : i = k * 2
      · subst e2
        rw [if_pos rfl]
        unfold wfUp wfF
        dsimp only
        rw [if_pos hi, if_pos (by omega), show k * 2 / 2 = k by omega, if_pos rfl]
      · rw [if_neg e2]
        unfold wfUp wfF
        dsimp only
        rw [if_pos hi, if_pos hi, if_neg (show ¬ i / 2 = k by omega), if_neg (show ¬ i / 2 = k by omega), if_neg (show ¬ i / 2 = k by omega), if_neg (show ¬ i / 2 = k by omega)]
  · dsimp only
    by_cases e : i = k
    · subst e
      rw [if_pos rfl, if_pos rfl, if_pos rfl, if_pos rfl]
      exact ⟨hm, NX.set2 h1 (fun _ => wf_noword) (by omega) hx _ _⟩
    · rw [if_neg e, if_neg e, if_neg e, if_neg e]
      obtain ⟨h3, h4⟩ := h2 i hi
      exact ⟨h3, NX.set2 h1 (fun _ => wf_noword) (by omega) h4 _ _⟩
theorem WK.same {w : World} {g n N : Nat} {b b' : Nat → Bool} {X X' : Nat → Nat} (h : WK w g n n N b X) (hb : ∀ i, i < n → b i = b' i) (hX : ∀ i, i < n → X i = X' i) : WK w g n n N b' X' := by
  obtain ⟨As, ns, cs, h1, h2⟩ := h
  refine ⟨As, ns, cs, h1.congr fun i hi => ?_, fun i hi => by rw [← hX i hi]; exact h2 i hi⟩
  unfold wfUp wfF
  rw [if_pos hi, if_pos hi, hb (i / 2) (by omega)]
theorem WK.cells {w : World} {g n N : Nat} {b : Nat → Bool} {X : Nat → Nat} (h : WK w g n n N b X) {i : Nat} (hi : i < n) : w.frozen? ⟨g, i * 2, none⟩ = false ∧ w.frozen? ⟨g, i * 2 + 1, none⟩ = false ∧ g < w.heap.size := by
  obtain ⟨As, ns, cs, h1, h2⟩ := h
  exact ⟨h1.frozen _, h1.frozen _, h1.lt⟩
theorem prod_le {q : Nat → Nat} : ∀ L, (∀ j, j < L → q j ≤ W64) → prodF q L ≤ W64 ^ L
  | 0, _ => Nat.le_refl _
  | L + 1, h => by
    have ih := prod_le L (fun j hj => h j (by omega))
    have h1 := h L (by omega)
    rw [prodF, Nat.pow_succ]
    first
      | exact Nat.mul_le_mul ih h1
      | (rw [Nat.mul_comm]; exact Nat.mul_le_mul ih h1)
theorem row_short {L : Nat} {q : Nat → Nat} (h : RowC L q) : prodF q L < W64 ^ 25 := by
  have h1 := prod_le (q := q) L (fun j hj => by have := (okq_lt h j hj).2; unfold W64; omega)
  have h2 : W64 ^ L ≤ W64 ^ 24 := Nat.pow_le_pow_right (by unfold W64; omega) h.2.1
  have h3 : W64 ^ 24 < W64 ^ 25 := Nat.pow_lt_pow_right (by unfold W64; omega) (by omega)
  omega
theorem cenN_le (X Q : Nat) : cenN X Q ≤ Q ∨ cenN X Q ≤ X := by
  unfold cenN
  by_cases h : X < Q - X
  · rw [if_pos h]; exact .inr (Nat.le_refl _)
  · rw [if_neg h]; exact .inl (Nat.sub_le _ _)
theorem nx_short {w : World} {A : Option Addr} {n c X k : Nat} (h : NX w A n c (nw X)) (hX : X < W64 ^ k) : n ≤ k := by
  rw [← h.len]
  exact dg_len_le (by unfold W64; omega) hX
/-- The number that an element has at a place, scaled. -/
def scaled (T Y L : Nat) (q p : Nat → Nat) (f : Nat → Nat → Nat) (i : Nat) : Int := nearQ T Y (cenB (jnF q p (fun j => f j i) 0 L) (prodF q L)) (cenN (jnF q p (fun j => f j i) 0 L) (prodF q L))
set_option maxHeartbeats 8000000 in
theorem over_any (T Y tn tc bn bc L c d n L' d' : Nat) (TA BA A B B' : Option Addr) (As : Nat → Option Addr) (ns cs : Nat → Nat) (f : Nat → Nat → Nat) (q q' : Nat → Nat) (w : World) (hTn : NX w TA tn tc (nw T)) (hYn : NX w BA bn bc (nw Y)) (ht : tn ≤ 100) (hb : bn ≤ 100) (hY0 : 0 < Y) (hX : PX w A L c As ns cs f) (hB : FX w B L d q) (hB' : FX w B' L' d' q') (hq : Hid (∀ j, j < L → q j < 18446744073709551616)) (hq' : Hid (∀ j, j < L' → q' j < 18446744073709551616)) (hT : Tabs w) (hR : RowC L q) (hR' : RowC L' q') (hC : Hid (Lsts n L ns f q)) (hn0 : 0 < n) (hn : n ≤ 500) :
    Calls Tryz.prog 24 #[.agg #[.slice A L c], .slice B L d, .slice B' L' d', .func (.func 26) #[.agg #[.bool false, .slice TA tn tc, .slice BA bn bc]] #[]] w fun ee w' => ∃ (p : Nat → Nat) (G : Nat) (Bs : Nat → Option Addr) (F : Nat → Nat → Nat), Hid (Parts L q p) ∧ ee = .returned (.agg #[.slice (some ⟨G, 0, none⟩) L' L']) ∧ PM w' G L' n Bs (fun _ => n) F ∧ Hid (∀ j, j < L' → ∀ i, i < n → F j i = resF (decide (scaled T Y L q p f i < 0)) (nv (nw (scaled T Y L q p f i).natAbs)) (q' j)) ∧ Ext w w' := by
  have HTn := Lib.hid hTn
  have HYn := Lib.hid hYn
  have HX := Lib.hid hX
  have HB := Lib.hid hB
  have HB' := Lib.hid hB'
  have HT := Lib.hid hT
  have HR := Lib.hid hR
  have HR' := Lib.hid hR'
  clear hTn hYn hX hB hB' hT hR hR'
  have k0 : Ext w ((w.alloc (.cells #[.slice A L c] 36)).alloc (.cells #[.slice none 0 0] 36)) := ((Ext.refl w).alloc _).alloc _
  have x0 := cell_ext ((Ext.refl _).alloc (.cells #[.slice none 0 0] 36)) (one_at w (.slice A L c) 36)
  have hr0 : RW ((w.alloc (.cells #[.slice A L c] 36)).alloc (.cells #[.slice none 0 0] 36)) (w.heap.size + 1) 36 1 (fun _ => .slice none 0 0) := by
    have : RW ((w.alloc (.cells #[.slice A L c] 36)).alloc (.cells #[.slice none 0 0] 36)) (w.alloc (.cells #[.slice A L c] 36)).heap.size 36 1 (fun _ => .slice none 0 0) := heap_alloc_new _ _
    rwa [show (w.alloc (.cells #[.slice A L c] 36)).heap.size = w.heap.size + 1 by simp] at this
  go_enter Tryz.func24, Tryz.ntmps24
  go_wp2_with fail
  generalize (w.alloc (.cells #[.slice A L c] 36)).alloc (.cells #[.slice none 0 0] 36) = V at *
  refine (Wholes_any A B L c d n As ns cs f q V (HX.out.ext k0) (HB.out.ext k0) hq (HT.out.ext k0) HR.out hC hn0 (by omega)).mono ?_
  rintro e1 w1 ⟨p, g, HP, rfl, hgV, hwk, k1⟩
  replace hr0 := hr0.ext k1
  have hgw : w.heap.size ≤ g := Nat.le_trans k0.size hgV
  have hgr : w.heap.size + 1 ≠ g := by
    obtain ⟨_, _, _, h1, _⟩ := hwk
    exact hr0.ne h1 (by decide)
  have kw1 := k0.trans k1
  obtain ⟨b, hbd⟩ : ∃ b : Nat → Bool, b = fun i => cenB (jnF q p (fun j => f j i) 0 L) (prodF q L) := ⟨_, rfl⟩
  obtain ⟨X, hXd⟩ : ∃ X : Nat → Nat, X = fun i => cenN (jnF q p (fun j => f j i) 0 L) (prodF q L) := ⟨_, rfl⟩
  rw [← hbd, ← hXd] at hwk
  obtain ⟨z, hzd⟩ : ∃ z : Nat → Int, z = fun i => nearQ T Y (b i) (X i) := ⟨_, rfl⟩
  have HXB := Lib.hid (show ∀ i, X i < W64 ^ 25 from fun i => by
    have h1 := row_short HR.out
    have h2 := jn_lt (p := p) (r := fun j => f j i) L (fun j hj => ⟨(okq_lt HR.out j hj).1, (HP.out j hj).1⟩)
    have h3 := cenN_le (jnF q p (fun j => f j i) 0 L) (prodF q L)
    rw [hXd]
    show cenN (jnF q p (fun j => f j i) 0 L) (prodF q L) < _
    omega)
  have HZ := Lib.hid (show ∀ i, z i = scaled T Y L q p f i from fun i => by rw [hzd, hbd, hXd]; rfl)
  have HZD := Lib.hid hzd
  clear hbd hXd hzd k0 x0
  go_wp2
  go_loopw [23] (fun iv wr => ∃ k : Nat, k ≤ n ∧ iv = .int .i64 (k : Int) ∧ WK wr g n n 1000 (fun i => if i < k then decide (z i < 0) else b i) (fun i => if i < k then (z i).natAbs else X i) ∧ RW wr (w.heap.size + 1) 36 1 (fun _ => .slice none 0 0) ∧ Ext w wr) (fun iv _ => n - (intOf iv).toNat)
  case atStart => exact ⟨0, by omega, rfl, hwk.same (fun i _ => by rw [if_neg (by omega)]) (fun i _ => by rw [if_neg (by omega)]), hr0, kw1⟩
  case round =>
    obtain ⟨k, hk, rfl, hwr, hrr, kr⟩ := hrel
    clear hwk hr0 kw1
    by_cases hlt : k < n
    · obtain ⟨A4, m4, c4, b0, b1, hm4, hx4⟩ := hwr.at hlt (Nat.le_refl _)
      rw [if_neg (by omega)] at b0 hx4
      have HX4 := Lib.hid hx4
      clear hx4
      have i0 : (0 : Int) ≤ (k : Int) := by omega
      have i1 : (k : Int) < (n : Int) := by omega
      have ka : Ext wr (wr.alloc (.cells #[.bool (b k), .slice A4 m4 c4] 54)) := (Ext.refl wr).alloc _
      go_wp2_with fail
      have hm25 := nx_short HX4.out (HXB.out k)
      have hzk : nearQ T Y (b k) (X k) = z k := by rw [HZD.out]
      have HN := Lib.hid (nearest_any T Y tn tc bn bc m4 c4 (X k) TA BA A4 (b k) _ (NX.ext HTn.out (kr.trans ka)) (NX.ext HYn.out (kr.trans ka)) (NX.ext HX4.out ka) ht hb (by omega) hY0)
      rw [hzk] at HN
      clear hzk
      refine HN.out.mono ?_
      rintro e5 w5 ⟨A5, n5, c5, rfl, hn5, hx5, k5⟩
      replace ka := ka.trans k5
      have hw5 := hwr.ext ka
      have hr5 := hrr.ext ka
      have kr5 := kr.trans ka
      obtain ⟨f0, f1, s5⟩ := hw5.cells hlt
      have c50 := cell_ext ka b0
      have c51 := cell_ext ka b1
      have HX5 := Lib.hid hx5
      clear hx5 b0 b1 HN hwr hrr
      generalize hzz : z k = zk at *
      have HZZ := Lib.hid hzz
      clear hzz
      go_wp2_with fail
      have hput := (WK.over (s := decide (zk < 0)) (x := zk.natAbs) hw5 hlt hn5 HX5.out).same (b' := fun i => if i < k + 1 then decide (z i < 0) else b i) (X' := fun i => if i < k + 1 then (z i).natAbs else X i) (fun i _ => by
        by_cases e : i = k
        · subst e; rw [if_pos rfl, if_pos (by omega), HZZ.out]
        · rw [if_neg e]
          by_cases e2 : i < k
          · rw [if_pos e2, if_pos (by omega)]
          · rw [if_neg e2, if_neg (by omega)]) (fun i _ => by
        by_cases e : i = k
        · subst e; rw [if_pos rfl, if_pos (by omega), HZZ.out]
        · rw [if_neg e]
          by_cases e2 : i < k
          · rw [if_pos e2, if_pos (by omega)]
          · rw [if_neg e2, if_neg (by omega)])
      have hr6 := hr5.keep2 hgr (k * 2) (.bool (decide (zk < 0))) (.slice A5 n5 c5)
      have k6 := kr5.keep2 (g := g) hgw (k * 2) (.bool (decide (zk < 0))) (.slice A5 n5 c5)
      exact ⟨⟨k + 1, by omega, by go_num, hput, hr6, k6⟩, by simp [intOf]; omega⟩
    · obtain rfl : k = n := by omega
      have hfin : WK wr g k k 1000 (fun i => decide (z i < 0)) (fun i => (z i).natAbs) := hwr.same (fun i hi => by rw [if_pos hi]) (fun i hi => by rw [if_pos hi])
      have HF := Lib.hid hfin
      clear hwr hfin
      go_wp2_with fail
      refine (Element_any g k 1000 L' d' (fun i => decide (z i < 0)) (fun i => (z i).natAbs) B' q' wr HF.out (by omega) hn0 (by omega) (HB'.out.ext kr) hq' (HT.out.ext kr) HR'.out).mono ?_
      rintro e5 w5 ⟨G, Bs, F, rfl, hpm, hFv, k5⟩
      have ka : Ext w5 (w5.alloc (.cells #[.slice (some ⟨G, 0, none⟩) L' L'] 36)) := (Ext.refl w5).alloc _
      have hr6 := (hrr.ext k5).ext ka
      have c0 := hr6.cell (i := 0) (by omega)
      have z0 := hr6.frozen 0
      have hsz := hr6.lt
      have hpm6 := hpm.ext ka
      have kr6 := kr.trans (k5.trans ka)
      have HFV := Lib.hid (show ∀ j, j < L' → ∀ i, i < k → F j i = resF (decide (scaled T Y L q p f i < 0)) (nv (nw (scaled T Y L q p f i).natAbs)) (q' j) from fun j hj i hi => by rw [hFv.out j hj i hi, ← HZ.out i])
      clear hFv hpm hrr
      go_wp2_with fail
      generalize w5.alloc (.cells #[.slice (some ⟨G, 0, none⟩) L' L'] 36) = w6 at *
      have d0 := ret_cell hr6 (.slice (some ⟨G, 0, none⟩) L' L')
      have d1 := kr6.set (p := ⟨w.heap.size + 1, 0, none⟩) (by show w.heap.size ≤ w.heap.size + 1; omega) (.slice (some ⟨G, 0, none⟩) L' L')
      have d2 := hpm6.aside hr6 rfl (.slice (some ⟨G, 0, none⟩) L' L')
      generalize w6.setCell ⟨w.heap.size + 1, 0, none⟩ (.slice (some ⟨G, 0, none⟩) L' L') = w9 at *
      exact bodyPost_ret (v := .agg #[.slice (some ⟨G, 0, none⟩) L' L']) (by simp [results, Tryz.results24, go_sem, d0]) rfl ⟨p, G, Bs, F, HP, rfl, d2, HFV, d1⟩
end Go.Proofs.YtcnogmhkffohgaaGreatDoor

/-
  How many primes the wide ring takes for a row: wideCount of package scale.
-/
namespace Go.Proofs.YtcnogmhkffohgaaGreatDoor
open Go.RowKit
set_option linter.unusedVariables false
set_option maxRecDepth 100000

theorem mul10 {A A' : Option Addr} {n n' c c' : Nat} {X Y Z : Nat} {w : World} (hz : Hid (Z = X * Y)) (h : NX w A n c (nw X)) (h' : NX w A' n' c' (nw Y)) (hn : n ≤ 1000) (hn' : n' ≤ 1000) :
    Calls Tryz.prog 72 #[.slice A n c, .slice A' n' c'] w (fun e w' => ∃ A2 n2 c2, e = .returned (.slice A2 n2 c2) ∧ n2 ≤ n + n' ∧ NX w' A2 n2 c2 (nw Z) ∧ Ext w w') := by
  refine (natMul_any A A' n n' c c' (nw X) (nw Y) w h h' (by omega) (by omega)).mono ?_
  rw [nv_nw, nv_nw, ← hz.out]
  rintro e w' ⟨A2, n2, c2, rfl, h2, h3, h4⟩
  exact ⟨A2, n2, c2, rfl, h2, h3, h4⟩
theorem of10 {x : Nat} {w : World} (hx : x < 18446744073709551616) :
    Calls Tryz.prog 71 #[.int .u64 (x : Int)] w (fun e w' => ∃ A2 n2 c2, e = .returned (.slice A2 n2 c2) ∧ n2 ≤ 1 ∧ NX w' A2 n2 c2 (nw x) ∧ Ext w w') := by
  refine (ofF_any x w hx).mono ?_
  rintro e w' ⟨A2, n2, c2, rfl, h2, h3, h4, _⟩
  exact ⟨A2, n2, c2, rfl, h2, h3, h4⟩
theorem div10 {A A' : Option Addr} {n n' c c' : Nat} {X Y Z : Nat} {w : World} (hz : Hid (Z = X / Y)) (hY : 0 < Y) (h : NX w A n c (nw X)) (h' : NX w A' n' c' (nw Y)) (hn : n ≤ 1000) (hn' : n' ≤ 1000) :
    Calls Tryz.prog 69 #[.slice A n c, .slice A' n' c'] w (fun e w' => ∃ A2 n2 c2 A3 n3 c3, e = .returned (.tuple #[.slice A2 n2 c2, .slice A3 n3 c3, .int .i64 0]) ∧ n2 ≤ n + 1 ∧ NX w' A2 n2 c2 (nw Z) ∧ Ext w w') := by
  refine (div_any A A' n n' c c' (nw X) (nw Y) w h h' (by omega) (by omega)).mono ?_
  rw [nv_nw, nv_nw]
  rintro e w' (⟨h0, _⟩ | ⟨_, A2, n2, c2, A3, n3, c3, rfl, h2, _, h3, _, h4⟩)
  · omega
  exact ⟨A2, n2, c2, A3, n3, c3, rfl, h2, by rw [hz.out]; exact h3, h4⟩
theorem bl_le : ∀ k v : Nat, v < 2 ^ k → Go.bitLen v ≤ k
  | 0, v, h => by
    obtain rfl : v = 0 := by simpa using h
    exact Nat.le_refl _
  | k + 1, v, h => by
    rcases Nat.eq_zero_or_pos v with rfl | hv
    · exact Nat.zero_le _
    · rw [bits_half hv]
      have := bl_le k (v / 2) (by rw [Nat.pow_succ] at h; omega)
      omega
theorem bl_nx {w : World} {A : Option Addr} {n c X : Nat} (h : NX w A n c (nw X)) : Go.bitLen X ≤ 64 * n := by
  refine bl_le _ _ ?_
  have h1 := dg_bound X
  rw [h.len] at h1
  rw [Nat.pow_mul]
  exact h1
/-- The greatest size of a sum. -/
def mostN (n L : Nat) (q : Nat → Nat) : Nat := 4 * n * (prodF q L / 2 * (prodF q L / 2))
def wcN (n L : Nat) (q : Nat → Nat) : Nat := (Go.bitLen (mostN n L q) + 60) / 60
set_option maxHeartbeats 4000000 in
theorem wideCount_any (n L d : Nat) (B : Option Addr) (q : Nat → Nat) (w : World) (hB : FX w B L d q) (hn : n ≤ 4096) (hL : L ≤ 24) (hq : Hid (∀ j, j < L → q j < 18446744073709551616)) :
    Calls Tryz.prog 39 #[.int .i64 (n : Int), .slice B L d] w fun e w' => e = .returned (.int .i64 (wcN n L q : Int)) ∧ Ext w w' := by
  have HB := Lib.hid hB
  clear hB
  obtain ⟨Q, hQ⟩ : ∃ Q, Q = prodF q L := ⟨_, rfl⟩
  obtain ⟨H, hH⟩ : ∃ H, H = Q / 2 := ⟨_, rfl⟩
  obtain ⟨H2, hH2⟩ : ∃ H2, H2 = H * H := ⟨_, rfl⟩
  obtain ⟨M4, hM4⟩ : ∃ M4, M4 = 4 * n * H2 := ⟨_, rfl⟩
  obtain ⟨b, hb⟩ : ∃ b, b = Go.bitLen M4 := ⟨_, rfl⟩
  have hw : wcN n L q = (b + 60) / 60 := by unfold wcN mostN; rw [hb, hM4, hH2, hH, hQ]
  have HQ := Lib.hid hQ
  have HH := Lib.hid hH
  have HH2 := Lib.hid hH2
  have HM4 := Lib.hid hM4
  have HBb := Lib.hid hb
  rw [hw]
  have hP := Product_any B L d q w (by omega) HB.out hq
  rw [← hQ] at hP
  have HP := Lib.hid hP
  have hOf := fun w' => of10 (x := 4 * n) (w := w') (by omega)
  rw [show ((4 * n : Nat) : Int) = 4 * (n : Int) by omega] at hOf
  have HOf := Lib.hid hOf
  clear hQ hH hH2 hM4 hb hw hP hOf
  go_enter Tryz.func39, Tryz.ntmps39
  go_wp2_with fail
  refine HP.out.mono ?_
  rintro e1 w1 ⟨A1, n1, c1, rfl, hn1, hx1, k1⟩
  have HX1 := Lib.hid hx1
  clear hx1
  go_wp2_with fail
  refine (of10 (x := 2) (by omega)).mono ?_
  rintro e2 w2 ⟨A2, n2, c2, rfl, hn2, hx2, k2⟩
  have HX2 := Lib.hid hx2
  clear hx2
  go_wp2_with fail
  refine (div10 HH (by omega) (NX.ext HX1.out k2) HX2.out (by omega) (by omega)).mono ?_
  rintro e3 w3 ⟨A3, n3, c3, A4, n4, c4, rfl, hn3, hx3, k3⟩
  have HX3 := Lib.hid hx3
  clear hx3
  have k13 := k1.trans (k2.trans k3)
  go_wp2_with fail
  refine (HOf.out w3).mono ?_
  rintro e5 w5 ⟨A5, n5, c5, rfl, hn5, hx5, k5⟩
  have HX5 := Lib.hid hx5
  clear hx5
  go_wp2_with fail
  refine (mul10 HH2 (NX.ext HX3.out k5) (NX.ext HX3.out k5) (by omega) (by omega)).mono ?_
  rintro e6 w6 ⟨A6, n6, c6, rfl, hn6, hx6, k6⟩
  have HX6 := Lib.hid hx6
  clear hx6
  go_wp2_with fail
  refine (mul10 HM4 (NX.ext HX5.out k6) HX6.out (by omega) (by omega)).mono ?_
  rintro e7 w7 ⟨A7, n7, c7, rfl, hn7, hx7, k7⟩
  have HX7 := Lib.hid hx7
  clear hx7
  go_wp2_with fail
  refine (bitsX HX7.out (by omega) HBb).mono ?_
  rintro e8 w8 ⟨rfl, k8⟩
  have hbl : b ≤ 100000 := by
    have := bl_nx HX7.out
    rw [← HBb.out] at this
    omega
  have he : ((b : Int) + 1 + 60 - 1) / 60 = (((b + 60) / 60 : Nat) : Int) := by omega
  go_wp2
  try rw [he]
  go_ret
  exact ⟨by first | rfl | rw [he], k13.trans (k5.trans (k6.trans (k7.trans k8)))⟩
end Go.Proofs.YtcnogmhkffohgaaGreatDoor

/-
  What quotientOf and levelOf of package scale answer.
-/
namespace Go.Proofs.YtcnogmhkffohgaaGreatDoor
open Go.RowKit
set_option linter.unusedVariables false
set_option maxRecDepth 100000

set_option maxHeartbeats 4000000 in
theorem quotientOf_any (x n c : Nat) (A : Option Addr) (w : World) (hx : x < 18446744073709551616) :
    Calls Tryz.prog 74 #[.int .u64 (x : Int), .slice A n c] w fun e w' => ∃ A2 n2 c2, e = .returned (.agg #[.bool false, .slice A2 n2 c2, .slice A n c]) ∧ n2 ≤ 1 ∧ NX w' A2 n2 c2 (nw x) ∧ Ext w w' := by
  have k0 : Ext w (w.alloc (.cells #[.bool false, .slice none 0 0, .slice none 0 0] 56)) := (Ext.refl w).alloc _
  have hr0 : RW (w.alloc (.cells #[.bool false, .slice none 0 0, .slice none 0 0] 56)) w.heap.size 56 3 (fun j => if j = 0 then .bool false else .slice none 0 0) := heap_alloc_new _ _
  go_enter Tryz.func74, Tryz.ntmps74
  go_wp2_with fail
  generalize w.alloc (.cells #[.bool false, .slice none 0 0, .slice none 0 0] 56) = V at *
  refine (of10 hx).mono ?_
  rintro e1 w1 ⟨A1, n1, c1, rfl, hn1, hx1, k1⟩
  have r1 := hr0.ext k1
  have c0 := r1.cell (i := 0) (by omega)
  have c1' := r1.cell (i := 1) (by omega)
  have c2 := r1.cell (i := 2) (by omega)
  have f0 := r1.frozen 0
  have f1 := r1.frozen 1
  have f2 := r1.frozen 2
  have s1 := r1.lt
  have HX1 := Lib.hid hx1
  clear hx1
  go_wp2_with fail
  have hs := ((r1.set (show 0 < 3 by omega) (.bool false)).set (show 1 < 3 by omega) (.slice A1 n1 c1)).set (show 2 < 3 by omega) (.slice A n c)
  have d0 := hs.cell (i := 0) (by omega)
  have d1 := hs.cell (i := 1) (by omega)
  have d2 := hs.cell (i := 2) (by omega)
  have hnx : NX (((w1.setCell ⟨w.heap.size, 0, none⟩ (.bool false)).setCell ⟨w.heap.size, 1, none⟩ (.slice A1 n1 c1)).setCell ⟨w.heap.size, 2, none⟩ (.slice A n c)) A1 n1 c1 (nw x) := by
    have g1 := NX.off HX1.out c0 (fun x => by simp) (.bool false)
    have r2 := r1.set (show 0 < 3 by omega) (.bool false)
    have g2 := NX.off g1 (r2.cell (i := 1) (by omega)) (fun x => by simp) (.slice A1 n1 c1)
    have r3 := r2.set (show 1 < 3 by omega) (.slice A1 n1 c1)
    exact NX.off g2 (r3.cell (i := 2) (by omega)) (fun x => by simp) (.slice A n c)
  have k9 := (((k0.trans k1).set (p := ⟨w.heap.size, 0, none⟩) (Nat.le_refl _) (.bool false)).set (p := ⟨w.heap.size, 1, none⟩) (Nat.le_refl _) (.slice A1 n1 c1)).set (p := ⟨w.heap.size, 2, none⟩) (Nat.le_refl _) (.slice A n c)
  generalize ((w1.setCell ⟨w.heap.size, 0, none⟩ (.bool false)).setCell ⟨w.heap.size, 1, none⟩ (.slice A1 n1 c1)).setCell ⟨w.heap.size, 2, none⟩ (.slice A n c) = w9 at *
  simp at d0 d1 d2
  exact bodyPost_ret (v := .agg #[.bool false, .slice A1 n1 c1, .slice A n c]) (by simp [results, Tryz.results74, go_sem, d0, d1, d2]) rfl ⟨A1, n1, c1, rfl, hn1, hnx, k9⟩
/-- Stores into block g, one behind the other. -/
def setAll (w : World) (g : Nat) : Nat → List Value → World
  | _, [] => w
  | i, v :: l => setAll (w.setCell ⟨g, i, none⟩ v) g (i + 1) l
theorem RW.setAll {g m : Nat} {t : TypeId} : ∀ (l : List Value) (w : World) (i : Nat) (F : Nat → Value), RW w g t m F → i + l.length ≤ m → RW (Go.Proofs.YtcnogmhkffohgaaGreatDoor.setAll w g i l) g t m (fun j => if i ≤ j ∧ j < i + l.length then l.getD (j - i) (.bool false) else F j)
  | [], w, i, F, h, _ => RW.congr h fun j _ => by rw [if_neg (by simp <;> omega)]
  | v :: l, w, i, F, h, hl => by
    have hl' : i + 1 + l.length ≤ m := by simp at hl; omega
    have ih := RW.setAll l (w.setCell ⟨g, i, none⟩ v) (i + 1) _ (h.set (show i < m by simp at hl; omega) v) hl'
    refine RW.congr ih fun j hj => ?_
    by_cases e : j = i
    · subst e
      rw [if_neg (by omega), if_pos rfl, if_pos (by simp), Nat.sub_self]
      rfl
    · by_cases e2 : i + 1 ≤ j ∧ j < i + 1 + l.length
      · rw [if_pos e2, if_pos (by simp; omega), show j - i = (j - (i + 1)) + 1 by omega]
        rfl
      · rw [if_neg e2, if_neg e, if_neg (by simp; omega)]
theorem NX.setAll {g m : Nat} {t : TypeId} {A : Option Addr} {n c : Nat} {xs : List Nat} : ∀ (l : List Value) (w : World) (i : Nat) (F : Nat → Value), RW w g t m F → i + l.length ≤ m → (∀ j, i ≤ j → ∀ x : Nat, F j ≠ .int .u64 (x : Int)) → NX w A n c xs → NX (Go.Proofs.YtcnogmhkffohgaaGreatDoor.setAll w g i l) A n c xs
  | [], w, i, F, h, _, _, hx => hx
  | v :: l, w, i, F, h, hl, hF, hx => by
    have hi : i < m := by simp at hl; omega
    refine NX.setAll l (w.setCell ⟨g, i, none⟩ v) (i + 1) _ (h.set hi v) (by simp at hl; omega) (fun j hj x => ?_) (NX.off hx (h.cell hi) (hF i (Nat.le_refl _)) v)
    rw [if_neg (by omega)]
    exact hF j (by omega) x
theorem Ext.setAll {a : World} {g : Nat} (hg : a.heap.size ≤ g) : ∀ (l : List Value) (w : World) (i : Nat), Ext a w → Ext a (Go.Proofs.YtcnogmhkffohgaaGreatDoor.setAll w g i l)
  | [], w, i, h => h
  | v :: l, w, i, h => Ext.setAll hg l _ (i + 1) (h.set (p := ⟨g, i, none⟩) hg v)
/-- The cells of a level. -/
def lvlF (R W T1 B1 T2 B2 : Value) (j : Nat) : Value := if j = 0 then R else if j = 1 then W else if j = 2 then .bool false else if j = 3 then T1 else if j = 4 then B1 else if j = 5 then .bool false else if j = 6 then T2 else B2
/-- A level: a row, the wide row, and what is scaled by: of one number 1 by last, of the other plain by the product. -/
def LvlPost (w : World) (R W : Value) (L : Nat) (q : Nat → Nat) (plain last : Nat) (e : Ending) (w' : World) : Prop :=
  ∃ (A1 A2 A3 A4 : Option Addr) (n1 c1 n2 c2 n3 c3 n4 c4 : Nat), e = .returned (.agg #[R, W, .bool false, .slice A1 n1 c1, .slice A2 n2 c2, .bool false, .slice A3 n3 c3, .slice A4 n4 c4]) ∧ (n1 ≤ 1 ∧ NX w' A1 n1 c1 (nw 1)) ∧ (n2 ≤ 1 ∧ NX w' A2 n2 c2 (nw last)) ∧ (n3 ≤ 1 ∧ NX w' A3 n3 c3 (nw plain)) ∧ (n4 ≤ 1 + L ∧ NX w' A4 n4 c4 (nw (prodF q L))) ∧ Ext w w'
set_option maxHeartbeats 8000000 in
theorem scaleLevel_any (L d W wn wc plain last : Nat) (B BW : Option Addr) (q : Nat → Nat) (w : World) (hB : FX w B L d q) (hL : L ≤ 24) (hq : Hid (∀ j, j < L → q j < 18446744073709551616)) (hp : plain < 18446744073709551616) (hl : last < 18446744073709551616) :
    Calls Tryz.prog 40 #[.slice B L d, .slice BW wn wc, .int .u64 (plain : Int), .int .u64 (last : Int)] w (LvlPost w (.slice B L d) (.slice BW wn wc) L q plain last) := by
  have HB := Lib.hid hB
  clear hB
  have k0 : Ext w (w.alloc (.cells #[.slice none 0 0, .slice none 0 0, .bool false, .slice none 0 0, .slice none 0 0, .bool false, .slice none 0 0, .slice none 0 0] 58)) := (Ext.refl w).alloc _
  have hr0 : RW (w.alloc (.cells #[.slice none 0 0, .slice none 0 0, .bool false, .slice none 0 0, .slice none 0 0, .bool false, .slice none 0 0, .slice none 0 0] 58)) w.heap.size 58 8 (lvlF (.slice none 0 0) (.slice none 0 0) (.slice none 0 0) (.slice none 0 0) (.slice none 0 0) (.slice none 0 0)) := heap_alloc_new _ _
  go_enter Tryz.func40, Tryz.ntmps40
  go_wp2_with fail
  generalize w.alloc (.cells #[.slice none 0 0, .slice none 0 0, .bool false, .slice none 0 0, .slice none 0 0, .bool false, .slice none 0 0, .slice none 0 0] 58) = V at *
  refine (of10 hl).mono ?_
  rintro e1 w1 ⟨A2, n2, c2, rfl, hn2, hx2, k1⟩
  have HX2 := Lib.hid hx2
  clear hx2
  go_wp2_with fail
  refine (quotientOf_any 1 n2 c2 A2 w1 (by omega)).mono ?_
  rintro e2 w2 ⟨A1, n1, c1, rfl, hn1, hx1, k2⟩
  have HX1 := Lib.hid hx1
  clear hx1
  go_wp2_with fail
  refine (Product_any B L d q w2 (by omega) (HB.out.ext (k0.trans (k1.trans k2))) hq).mono ?_
  rintro e3 w3 ⟨A4, n4, c4, rfl, hn4, hx4, k3⟩
  have HX4 := Lib.hid hx4
  clear hx4
  go_wp2_with fail
  refine (quotientOf_any plain n4 c4 A4 w3 hp).mono ?_
  rintro e4 w4 ⟨A3, n3, c3, rfl, hn3, hx3, k4⟩
  have r1 := hr0.ext (k1.trans (k2.trans (k3.trans k4)))
  have H1 := Lib.hid (NX.ext HX1.out (k3.trans k4))
  have H2 := Lib.hid (NX.ext HX2.out (k2.trans (k3.trans k4)))
  have H3 := Lib.hid hx3
  have H4 := Lib.hid (NX.ext HX4.out k4)
  have HK := Lib.hid (k0.trans (k1.trans (k2.trans (k3.trans k4))))
  clear hx3 k0 k1 k2 k3 k4 HX1 HX2 HX4 hr0
  have g0 := r1.cell (i := 0) (by omega)
  have g1 := r1.cell (i := 1) (by omega)
  have g2 := r1.cell (i := 2) (by omega)
  have g3 := r1.cell (i := 3) (by omega)
  have g4 := r1.cell (i := 4) (by omega)
  have g5 := r1.cell (i := 5) (by omega)
  have g6 := r1.cell (i := 6) (by omega)
  have g7 := r1.cell (i := 7) (by omega)
  have f0 := r1.frozen 0
  have f1 := r1.frozen 1
  have f2 := r1.frozen 2
  have f3 := r1.frozen 3
  have f4 := r1.frozen 4
  have f5 := r1.frozen 5
  have f6 := r1.frozen 6
  have f7 := r1.frozen 7
  have s1 := r1.lt
  go_wp2_with fail
  have hr := RW.setAll [.slice B L d, .slice BW wn wc, .bool false, .slice A1 n1 c1, .slice A2 n2 c2, .bool false, .slice A3 n3 c3, .slice A4 n4 c4] w4 0 _ r1 (by simp)
  have hno : ∀ j, 0 ≤ j → ∀ x : Nat, lvlF (.slice none 0 0) (.slice none 0 0) (.slice none 0 0) (.slice none 0 0) (.slice none 0 0) (.slice none 0 0) j ≠ .int .u64 (x : Int) := fun j _ x => by
    unfold lvlF
    repeat (split; · intro h; cases h)
    intro h; cases h
  have hnx : ∀ {A : Option Addr} {n c : Nat} {xs : List Nat}, NX w4 A n c xs → NX (setAll w4 w.heap.size 0 [.slice B L d, .slice BW wn wc, .bool false, .slice A1 n1 c1, .slice A2 n2 c2, .bool false, .slice A3 n3 c3, .slice A4 n4 c4]) A n c xs := fun hx => NX.setAll _ w4 0 _ r1 (by simp) hno hx
  have hk := Ext.setAll (Nat.le_refl _) [.slice B L d, .slice BW wn wc, .bool false, .slice A1 n1 c1, .slice A2 n2 c2, .bool false, .slice A3 n3 c3, .slice A4 n4 c4] w4 0 HK.out
  have q1 := hnx H1.out
  have q2 := hnx H2.out
  have q3 := hnx H3.out
  have q4 := hnx H4.out
  have e0 := hr.cell (i := 0) (by omega)
  have e1 := hr.cell (i := 1) (by omega)
  have e2 := hr.cell (i := 2) (by omega)
  have e3 := hr.cell (i := 3) (by omega)
  have e4 := hr.cell (i := 4) (by omega)
  have e5 := hr.cell (i := 5) (by omega)
  have e6 := hr.cell (i := 6) (by omega)
  have e7 := hr.cell (i := 7) (by omega)
  simp at e0 e1 e2 e3 e4 e5 e6 e7
  clear hnx hno r1 f0 f1 f2 f3 f4 f5 f6 f7 g0 g1 g2 g3 g4 g5 g6 g7 s1 hr
  have hw9 : (((((((w4.setCell ⟨w.heap.size, 0, none⟩ (.slice B L d)).setCell ⟨w.heap.size, 1, none⟩ (.slice BW wn wc)).setCell ⟨w.heap.size, 2, none⟩ (.bool false)).setCell ⟨w.heap.size, 3, none⟩ (.slice A1 n1 c1)).setCell ⟨w.heap.size, 4, none⟩ (.slice A2 n2 c2)).setCell ⟨w.heap.size, 5, none⟩ (.bool false)).setCell ⟨w.heap.size, 6, none⟩ (.slice A3 n3 c3)).setCell ⟨w.heap.size, 7, none⟩ (.slice A4 n4 c4) = setAll w4 w.heap.size 0 [.slice B L d, .slice BW wn wc, .bool false, .slice A1 n1 c1, .slice A2 n2 c2, .bool false, .slice A3 n3 c3, .slice A4 n4 c4] := rfl
  rw [hw9]
  clear hw9
  generalize setAll w4 w.heap.size 0 [.slice B L d, .slice BW wn wc, .bool false, .slice A1 n1 c1, .slice A2 n2 c2, .bool false, .slice A3 n3 c3, .slice A4 n4 c4] = w9 at *
  exact bodyPost_ret (v := .agg #[.slice B L d, .slice BW wn wc, .bool false, .slice A1 n1 c1, .slice A2 n2 c2, .bool false, .slice A3 n3 c3, .slice A4 n4 c4]) (by simp [results, Tryz.results40, go_sem, e0, e1, e2, e3, e4, e5, e6, e7]) rfl ⟨A1, A2, A3, A4, n1, c1, n2, c2, n3, c3, n4, c4, rfl, ⟨hn1, q1⟩, ⟨hn2, q2⟩, ⟨hn3, q3⟩, ⟨hn4, q4⟩, hk⟩
end Go.Proofs.YtcnogmhkffohgaaGreatDoor

/-
  What levelsOf of package scale answers.
-/
namespace Go.Proofs.YtcnogmhkffohgaaGreatDoor
open Go.RowKit
set_option linter.unusedVariables false
set_option maxRecDepth 100000

theorem bl_lt : ∀ k v : Nat, Go.bitLen v ≤ k → v < 2 ^ k
  | 0, v, h => by
    rcases Nat.eq_zero_or_pos v with rfl | hv
    · exact Nat.one_pos
    · rw [bits_half hv] at h; omega
  | k + 1, v, h => by
    rcases Nat.eq_zero_or_pos v with rfl | hv
    · exact Nat.two_pow_pos _
    · rw [bits_half hv] at h
      have := bl_lt k (v / 2) (by omega)
      rw [Nat.pow_succ]; omega
theorem bl_mono {v w : Nat} (h : v ≤ w) : Go.bitLen v ≤ Go.bitLen w := bl_le _ _ (Nat.lt_of_le_of_lt h (bl_lt _ w (Nat.le_refl _)))
theorem prod_mono {q : Nat → Nat} {k L : Nat} (hq : ∀ j, j < L → 0 < q j) (h : k ≤ L) : prodF q k ≤ prodF q L := by
  induction L with
  | zero => rw [show k = 0 by omega]; exact Nat.le_refl _
  | succ L ih =>
    rcases Nat.lt_or_eq_of_le h with g | g
    · have h1 := ih (fun j hj => hq j (by omega)) (by omega)
      have h2 := hq L (by omega)
      rw [prodF]
      have : 1 * prodF q L ≤ q L * prodF q L := Nat.mul_le_mul_right _ h2
      omega
    · rw [g]; exact Nat.le_refl _
theorem wc_mono {q : Nat → Nat} {n k L : Nat} (hq : ∀ j, j < L → 0 < q j) (h : k ≤ L) : wcN n k q ≤ wcN n L q := by
  have h1 := prod_mono hq h
  have h2 : prodF q k / 2 ≤ prodF q L / 2 := Nat.div_le_div_right h1
  have h3 : mostN n k q ≤ mostN n L q := Nat.mul_le_mul_left _ (Nat.mul_le_mul h2 h2)
  have h4 := bl_mono h3
  unfold wcN
  omega
theorem wc_one (n L : Nat) (q : Nat → Nat) : 1 ≤ wcN n L q := by unfold wcN; omega
theorem wc_few {q : Nat → Nat} {n L : Nat} (hn : n ≤ 32) (h : Go.bitLen (prodF q L) ≤ 420) : wcN n L q ≤ 15 := by
  obtain ⟨k, hk⟩ : ∃ k, k = 419 := ⟨_, rfl⟩
  have h1 := bl_lt (k + 1) _ (show Go.bitLen (prodF q L) ≤ k + 1 by omega)
  have h2 : prodF q L / 2 < 2 ^ k := by rw [Nat.pow_succ] at h1; omega
  have h6 : mostN n L q < 2 ^ (7 + k + k) := by
    unfold mostN
    generalize prodF q L / 2 = H at *
    rw [Nat.pow_add, Nat.pow_add]
    generalize 2 ^ k = P at *
    have h3 : H * H < P * P := Nat.mul_lt_mul_of_lt_of_le h2 (Nat.le_of_lt h2) (by omega)
    have h4 : 4 * n * (H * H) ≤ 128 * (H * H) := Nat.mul_le_mul_right _ (by omega)
    have h5 : 2 ^ 7 * P * P = 128 * (P * P) := by rw [Nat.mul_assoc]
    rw [h5]
    omega
  have h7 := bl_le _ _ h6
  unfold wcN
  omega
theorem info_level : (Tryz.prog.info? 58).map (fun i => (i.zero, i.size, i.bytes)) = some (some (.agg #[.slice none 0 0, .slice none 0 0, .bool false, .slice none 0 0, .slice none 0 0, .bool false, .slice none 0 0, .slice none 0 0]), 8, 160) := by kernel_rfl
def zeroL (j : Nat) : Value := lvlF (.slice none 0 0) (.slice none 0 0) (.slice none 0 0) (.slice none 0 0) (.slice none 0 0) (.slice none 0 0) j
def newLevel (c : Nat) : Array Value := ((List.range (c * 8)).map fun i => zeroL (i % 8)).toArray
theorem newLevel_rw (w : World) (c : Nat) : RW (w.alloc (.cells (newLevel c) 58)) w.heap.size 58 (c * 8) (fun i => zeroL (i % 8)) := heap_alloc_new w _
theorem make_level (c : Nat) (hc : c ≤ 100000) (w : World) :
    (Instr.makeSlice 51 (.int .i64 (c : Int)) (.int .i64 (c : Int))).run Tryz.prog w = .ok (.slice (some ⟨w.heap.size, 0, none⟩) c c) (w.alloc (.cells (newLevel c) 58)) := by
  obtain ⟨i0, hi, hz0, hz1, hz2⟩ := info_parts info_level
  have hr := run_make (P := Tryz.prog) w 51 58 i0 (.agg #[.slice none 0 0, .slice none 0 0, .bool false, .slice none 0 0, .slice none 0 0, .bool false, .slice none 0 0, .slice none 0 0]) Tryz.underlying51 hi hz0 .i64 .i64 (c : Int) (c : Int) (by omega) (by omega) (by rw [hz2]; omega) (by omega)
  rw [hz1] at hr
  simp only [Int.toNat_natCast] at hr
  rw [hr]
  have e : madeCells (Value.agg #[.slice none 0 0, .slice none 0 0, .bool false, .slice none 0 0, .slice none 0 0, .bool false, .slice none 0 0, .slice none 0 0]).cells (c * 8) = newLevel c := by
    apply Array.toList_inj.1
    unfold newLevel madeCells zeroL lvlF
    apply List.ext_getElem?
    intro j
    by_cases hj : j < c * 8
    · rcases (show j % 8 = 0 ∨ j % 8 = 1 ∨ j % 8 = 2 ∨ j % 8 = 3 ∨ j % 8 = 4 ∨ j % 8 = 5 ∨ j % 8 = 6 ∨ j % 8 = 7 by omega) with h | h | h | h | h | h | h | h <;> simp [hj, Value.cells, h]
    · simp [hj]
  rw [e]
/-- A level's cells. -/
def LvlOk (w : World) (R W : Value) (L : Nat) (q : Nat → Nat) (plain last : Nat) (v : Nat → Value) : Prop :=
  ∃ (A1 A2 A3 A4 : Option Addr) (n1 c1 n2 c2 n3 c3 n4 c4 : Nat), (∀ j, j < 8 → v j = lvlF R W (.slice A1 n1 c1) (.slice A2 n2 c2) (.slice A3 n3 c3) (.slice A4 n4 c4) j) ∧ (n1 ≤ 1 ∧ NX w A1 n1 c1 (nw 1)) ∧ (n2 ≤ 1 ∧ NX w A2 n2 c2 (nw last)) ∧ (n3 ≤ 1 ∧ NX w A3 n3 c3 (nw plain)) ∧ (n4 ≤ 1 + L ∧ NX w A4 n4 c4 (nw (prodF q L)))
theorem LvlOk.map {w w' : World} {R W : Value} {L : Nat} {q : Nat → Nat} {plain last : Nat} {v : Nat → Value} (h : LvlOk w R W L q plain last v) (k : ∀ {A : Option Addr} {n c : Nat} {xs : List Nat}, NX w A n c xs → NX w' A n c xs) : LvlOk w' R W L q plain last v := by
  obtain ⟨A1, A2, A3, A4, n1, c1, n2, c2, n3, c3, n4, c4, h0, h1, h2, h3, h4⟩ := h
  exact ⟨A1, A2, A3, A4, n1, c1, n2, c2, n3, c3, n4, c4, h0, ⟨h1.1, k h1.2⟩, ⟨h2.1, k h2.2⟩, ⟨h3.1, k h3.2⟩, h4.1, k h4.2⟩
theorem LvlOk.noword {w : World} {R W : Value} {L : Nat} {q : Nat → Nat} {plain last : Nat} {v : Nat → Value} (h : LvlOk w R W L q plain last v) (hR : ∀ x : Nat, R ≠ .int .u64 (x : Int)) (hW : ∀ x : Nat, W ≠ .int .u64 (x : Int)) {j : Nat} (hj : j < 8) (x : Nat) : v j ≠ .int .u64 (x : Int) := by
  obtain ⟨A1, A2, A3, A4, n1, c1, n2, c2, n3, c3, n4, c4, h0, _⟩ := h
  rw [h0 j hj]
  unfold lvlF
  split
  · exact hR x
  split
  · exact hW x
  repeat (split; · intro h; cases h)
  intro h; cases h
theorem zeroL_no (j x : Nat) : zeroL j ≠ .int .u64 (x : Int) := by
  unfold zeroL lvlF
  repeat (split; · intro h; cases h)
  intro h; cases h
theorem lvl_get (R W T1 B1 T2 B2 : Value) {j : Nat} (hj : j < 8) : [R, W, .bool false, T1, B1, .bool false, T2, B2].getD j (.bool false) = lvlF R W T1 B1 T2 B2 j := by
  rcases (show j = 0 ∨ j = 1 ∨ j = 2 ∨ j = 3 ∨ j = 4 ∨ j = 5 ∨ j = 6 ∨ j = 7 by omega) with rfl | rfl | rfl | rfl | rfl | rfl | rfl | rfl <;> rfl
/-- The levels of a row in memory, of which the first k are laid. -/
def LvsK (w : World) (g L k n T : Nat) (q : Nat → Nat) (Ar Aw : Option Addr) (cr cw : Nat) : Prop :=
  ∃ v : Nat → Nat → Value, RW w g 58 (L * 8) (fun i => if i < k * 8 then v (i / 8) (i % 8) else zeroL (i % 8)) ∧ ∀ j, j < k → LvlOk w (.slice Ar (j + 1) cr) (.slice Aw (wcN n (j + 1) q) cw) (j + 1) q T (q j) (v j)
theorem LvsK.ext {w w' : World} {g L k n T : Nat} {q : Nat → Nat} {Ar Aw : Option Addr} {cr cw : Nat} (h : LvsK w g L k n T q Ar Aw cr cw) (e : Ext w w') : LvsK w' g L k n T q Ar Aw cr cw := by
  obtain ⟨v, h1, h2⟩ := h
  exact ⟨v, h1.ext e, fun j hj => (h2 j hj).map fun hx => NX.ext hx e⟩
theorem LvsK.put {w : World} {g L k n T : Nat} {q : Nat → Nat} {Ar Aw A1 A2 A3 A4 : Option Addr} {cr cw n1 c1 n2 c2 n3 c3 n4 c4 : Nat} (h : LvsK w g L k n T q Ar Aw cr cw) (hk : k < L)
    (h1 : n1 ≤ 1 ∧ NX w A1 n1 c1 (nw 1)) (h2 : n2 ≤ 1 ∧ NX w A2 n2 c2 (nw (q k))) (h3 : n3 ≤ 1 ∧ NX w A3 n3 c3 (nw T)) (h4 : n4 ≤ 1 + (k + 1) ∧ NX w A4 n4 c4 (nw (prodF q (k + 1)))) :
    LvsK (setAll w g (k * 8) [.slice Ar (k + 1) cr, .slice Aw (wcN n (k + 1) q) cw, .bool false, .slice A1 n1 c1, .slice A2 n2 c2, .bool false, .slice A3 n3 c3, .slice A4 n4 c4]) g L (k + 1) n T q Ar Aw cr cw := by
  obtain ⟨v, hr, hv⟩ := h
  have hF : ∀ j, k * 8 ≤ j → ∀ x : Nat, (if j < k * 8 then v (j / 8) (j % 8) else zeroL (j % 8)) ≠ .int .u64 (x : Int) := fun j hj x => by
    rw [if_neg (by omega)]; exact zeroL_no _ x
  have hnx : ∀ {A : Option Addr} {n' c' : Nat} {xs : List Nat}, NX w A n' c' xs → NX (setAll w g (k * 8) [.slice Ar (k + 1) cr, .slice Aw (wcN n (k + 1) q) cw, .bool false, .slice A1 n1 c1, .slice A2 n2 c2, .bool false, .slice A3 n3 c3, .slice A4 n4 c4]) A n' c' xs := fun hx => NX.setAll _ w (k * 8) _ hr (by simp; omega) hF hx
  refine ⟨fun j => if j = k then lvlF (.slice Ar (k + 1) cr) (.slice Aw (wcN n (k + 1) q) cw) (.slice A1 n1 c1) (.slice A2 n2 c2) (.slice A3 n3 c3) (.slice A4 n4 c4) else v j, ?_, fun j hj => ?_⟩
  · refine (RW.setAll _ w (k * 8) _ hr (by simp; omega)).congr fun i hi => ?_
    by_cases e : k * 8 ≤ i ∧ i < k * 8 + 8
    · dsimp only
      rw [if_pos (by simpa using e), if_pos (show i < (k + 1) * 8 by omega), show i / 8 = k by omega, if_pos rfl, lvl_get _ _ _ _ _ _ (show i - k * 8 < 8 by omega), show i % 8 = i - k * 8 by omega]
    · rw [if_neg (by simpa using e)]
      by_cases e2 : i < k * 8
      · dsimp only
        rw [if_pos e2, if_pos (show i < (k + 1) * 8 by omega), if_neg (show ¬ i / 8 = k by omega)]
      · rw [if_neg e2, if_neg (show ¬ i < (k + 1) * 8 by omega)]
  · by_cases e : j = k
    · subst e
      dsimp only
      rw [if_pos rfl]
      exact ⟨A1, A2, A3, A4, n1, c1, n2, c2, n3, c3, n4, c4, fun _ _ => rfl, ⟨h1.1, hnx h1.2⟩, ⟨h2.1, hnx h2.2⟩, ⟨h3.1, hnx h3.2⟩, h4.1, hnx h4.2⟩
    · dsimp only
      rw [if_neg e]
      exact (hv j (by omega)).map hnx
theorem LvsK.cells {w : World} {g L k n T : Nat} {q : Nat → Nat} {Ar Aw : Option Addr} {cr cw : Nat} (h : LvsK w g L k n T q Ar Aw cr cw) (hk : k < L) : g < w.heap.size ∧ ∀ j, j < 8 → w.cell? ⟨g, k * 8 + j, none⟩ = some (zeroL j) ∧ w.frozen? ⟨g, k * 8 + j, none⟩ = false := by
  obtain ⟨v, hr, hv⟩ := h
  refine ⟨hr.lt, fun j hj => ⟨?_, hr.frozen _⟩⟩
  rw [hr.cell (by omega), if_neg (by omega), show (k * 8 + j) % 8 = j by omega]
set_option maxHeartbeats 8000000 in
theorem levelsOf_any {n T L c : Nat} {Wd : Int} {A : Option Addr} {q : Nat → Nat} {w : World} (hX : FX w A L c q) (hL0 : 0 < L) (hL : L ≤ 8) (hn : StepW (2 * n)) (hTl : T < 18446744073709551616) (hq : Hid (∀ j, j < L → 0 < q j ∧ q j < 18446744073709551616)) (hbits : Hid (Go.bitLen (prodF q L) ≤ 420)) (hT : Tabs w) :
    Calls Tryz.prog 18 #[.agg #[.int .i64 (n : Int), .int .u64 (T : Int), .slice A L c, .int .i64 Wd]] w fun ee w' => ∃ (g : Nat) (Ar Aw : Option Addr) (cr cw : Nat), ee = .returned (.slice (some ⟨g, 0, none⟩) L L) ∧ LvsK w' g L L n T q Ar Aw cr cw ∧ FX w' Ar L cr q ∧ FX w' Aw (wcN n L q) cw (fun i => ((wideL (2 * n)).take (wcN n L q)).getD i 0) ∧ Ext w w' := by
  have HX := Lib.hid hX
  have HT := Lib.hid hT
  obtain ⟨ad, hA, _⟩ := hX.cells hL0
  subst hA
  have hn32 : n ≤ 32 := by rcases hn with h | h | h <;> omega
  have hn8 : 8 ≤ n := by rcases hn with h | h | h <;> omega
  have HN := Lib.hid hn
  have HQ := Lib.hid (show ∀ j, j < L → q j < 18446744073709551616 from fun j hj => (hq.out j hj).2)
  have hwc1 := wc_one n L q
  have hwc15 := wc_few hn32 hbits.out
  obtain ⟨C, hC⟩ : ∃ C, C = wcN n L q := ⟨_, rfl⟩
  rw [← hC] at hwc1 hwc15
  have HC := Lib.hid hC
  have kV : Ext w (w.alloc (.cells #[.int .i64 (n : Int), .int .u64 (T : Int), .slice (some ad) L c, .int .i64 Wd] 25)) := (Ext.refl w).alloc _
  obtain ⟨x0, x1, x2, x3⟩ := four_at w (.int .i64 (n : Int)) (.int .u64 (T : Int)) (.slice (some ad) L c) (.int .i64 Wd) 25
  clear hX hT hn hC
  go_enter Tryz.func18, Tryz.ntmps18
  go_wp2_with fail
  generalize w.alloc (.cells #[.int .i64 (n : Int), .int .u64 (T : Int), .slice (some ad) L c, .int .i64 Wd] 25) = V0 at *
  refine (clone_any ad L c q V0 (HX.out.ext kV) (by omega) HQ).mono ?_
  rintro e V ⟨A2, c2, rfl, hx2, k1⟩
  have HX2 := Lib.hid hx2
  clear hx2
  replace x0 := cell_ext k1 x0
  replace x1 := cell_ext k1 x1
  replace kV := kV.trans k1
  clear k1 x2 x3
  have w1 : IntKind.i64.wrap (2 * (n : Int)) = 2 * (n : Int) := by rw [IntKind.wrap_i64]; omega
  have w2 : IntKind.u64.wrap (2 * (n : Int)) = 2 * (n : Int) := by rw [IntKind.wrap_u64]; omega
  have hs2 : ∀ w', Tabs w' → Calls Tryz.prog 38 #[.int .i64 61, .int .u64 (2 * (n : Int)), .int .i64 (C : Int)] w' fun e w2 => ∃ A n' cp, e = .returned (.tuple #[.slice A n' cp, .int .i64 0]) ∧ NX w2 A n' cp ((wideL (2 * n)).take C) ∧ Ext w' w2 := fun w' h => by
    have := searchW (w := w') HN.out hwc1 (by omega) h
    rwa [show ((2 * n : Nat) : Int) = 2 * (n : Int) by omega] at this
  have HS := Lib.hid hs2
  have hw2 : ∀ w', Ext V w' → Calls Tryz.prog 39 #[.int .i64 (n : Int), .slice A2 L c2] w' fun e w2 => e = .returned (.int .i64 (C : Int)) ∧ Ext w' w2 := fun w' k => by
    rw [HC.out]; exact wideCount_any n L c2 A2 q w' (HX2.out.ext k) (by omega) (by omega) HQ
  have HW := Lib.hid hw2
  clear hs2 hw2
  have kk : Ext V V := Ext.refl V
  go_wp2_with fail
  go_region_held3 (fun w' => w'.cell? ⟨w.heap.size, 0, none⟩ = some (.int .i64 (n : Int))) (go_keep)
    (first
      | (go_at_call 38; refine (HS.out _ (HT.out.ext (kV.trans (by first | exact kk | exact Ext.drew kk)))).mono ?_; rintro e5 w5 ⟨A5, n5, c5, rfl, hx5, k5⟩; replace kk : Ext V w5 := (by first | exact Ext.trans kk k5 | exact Ext.trans (Ext.drew kk) k5); have d0 := cell_ext kk x0)
      | (go_at_call 39; refine (HW.out _ (by first | exact kk | exact Ext.drew kk)).mono ?_; rintro e4 w4 ⟨rfl, k4⟩; replace kk : Ext V w4 := (by first | exact Ext.trans kk k4 | exact Ext.trans (Ext.drew kk) k4); have d0 := cell_ext kk x0)
      | fail)
  all_goals
    have hl5 : n5 = C := by
      have h1 := hx5.len
      have h2 := wideL_len HN.out
      rw [List.length_take, h2] at h1
      omega
    subst hl5
    have HFW := Lib.hid (fx_of_rd hx5)
    have hroom := (fx_of_rd hx5).room
    have hroom2 := HX2.out.room
    have kw5 := kV.trans kk
    replace x0 := cell_ext kk x0
    replace x1 := cell_ext kk x1
    have HX5 := Lib.hid (HX2.out.ext kk)
    have hmk := make_level L (by omega)
    clear hx5 kk d0 k4 k5 HS HW HX2
    go_wp2_with fail
    clear hmk
    have ka : Ext w5 (w5.alloc (.cells (newLevel L) 58)) := (Ext.refl w5).alloc _
    have hlv : LvsK (w5.alloc (.cells (newLevel L) 58)) w5.heap.size L 0 n T q A2 A5 c2 c5 := ⟨fun _ _ => .bool false, (newLevel_rw w5 L).congr fun i _ => by rw [if_neg (by omega)], fun j hj => by omega⟩
    have kwa := kw5.trans ka
    obtain ⟨g, hg⟩ : ∃ g, g = w5.heap.size := ⟨_, rfl⟩
    have hgw : w.heap.size ≤ g := by rw [hg]; exact kw5.size
    have hg5 : w5.heap.size ≤ g := by omega
    rw [← hg] at hlv ⊢
    clear hg
    generalize w5.alloc (.cells (newLevel L) 58) = V6 at *
    go_loopw [30] (fun iv wr => ∃ k : Nat, k ≤ L ∧ iv = .int .i64 (k : Int) ∧ LvsK wr g L k n T q A2 A5 c2 c5 ∧ Ext w5 wr) (fun iv _ => L - (intOf iv).toNat)
    case atStart => exact ⟨0, by omega, rfl, hlv, ka⟩
    case round =>
      obtain ⟨k, hk, rfl, hlk, kr⟩ := hrel
      clear hlv ka kwa
      by_cases hlt : k < L
      · obtain ⟨adr, hA2, hcr⟩ := (HX5.out.ext kr).cells (by omega)
        have hcell := hcr k hlt
        clear hcr
        subst hA2
        have y0 := cell_ext kr x0
        have y1 := cell_ext kr x1
        have i0 : (0 : Int) ≤ (k : Int) := by omega
        have i1 : (k : Int) < (L : Int) := by omega
        have i2 : (0 : Int) ≤ (k : Int) + 1 := by omega
        have i3 : (k : Int) + 1 ≤ (c2 : Int) := by omega
        obtain ⟨Qk, hQk⟩ : ∃ Qk, Qk = q k := ⟨_, rfl⟩
        have hQl : Qk < 18446744073709551616 := by rw [hQk]; exact (hq.out k hlt).2
        rw [← hQk] at hcell
        have HQK := Lib.hid hQk
        clear hQk
        obtain ⟨D, hD⟩ : ∃ D, D = wcN n (k + 1) q := ⟨_, rfl⟩
        have hDC : D ≤ n5 := by rw [hD, HC.out]; exact wc_mono (fun j hj => (hq.out j hj).1) hlt
        have HD := Lib.hid hD
        clear hD
        have j0 : (0 : Int) ≤ (D : Int) := by omega
        have j1 : (D : Int) ≤ (c5 : Int) := by omega
        have hwk : ∀ w', Ext wr w' → Calls Tryz.prog 39 #[.int .i64 (n : Int), .slice (some adr) (k + 1) c2] w' fun e w2 => e = .returned (.int .i64 (D : Int)) ∧ Ext w' w2 := fun w' h => by
          rw [HD.out]; exact wideCount_any n (k + 1) c2 (some adr) q w' (((HX5.out.ext kr).ext h).cut hlt) (by omega) (by omega) (Lib.hid fun j hj => (hq.out j (by omega)).2)
        have HWK := Lib.hid hwk
        have hlo : ∀ w', Ext wr w' → Calls Tryz.prog 40 #[.slice (some adr) (k + 1) c2, .slice A5 D c5, .int .u64 (T : Int), .int .u64 (Qk : Int)] w' (LvlPost w' (.slice (some adr) (k + 1) c2) (.slice A5 D c5) (k + 1) q T Qk) := fun w' h => scaleLevel_any (k + 1) c2 0 D c5 T Qk (some adr) A5 q w' (((HX5.out.ext kr).ext h).cut hlt) (by omega) (Lib.hid fun j hj => (hq.out j (by omega)).2) hTl hQl
        have HLO := Lib.hid hlo
        clear hwk hlo
        obtain ⟨hgs, hgc⟩ := hlk.cells hlt
        have HGC := Lib.hid (show ∀ w', Ext wr w' → g < w'.heap.size ∧ w'.cell? ⟨g, k * 8, none⟩ = some (.slice none 0 0) ∧ w'.cell? ⟨g, k * 8 + 1, none⟩ = some (.slice none 0 0) ∧ w'.cell? ⟨g, k * 8 + 2, none⟩ = some (.bool false) ∧ w'.cell? ⟨g, k * 8 + 3, none⟩ = some (.slice none 0 0) ∧ w'.cell? ⟨g, k * 8 + 4, none⟩ = some (.slice none 0 0) ∧ w'.cell? ⟨g, k * 8 + 5, none⟩ = some (.bool false) ∧ w'.cell? ⟨g, k * 8 + 6, none⟩ = some (.slice none 0 0) ∧ w'.cell? ⟨g, k * 8 + 7, none⟩ = some (.slice none 0 0) ∧ w'.frozen? ⟨g, k * 8, none⟩ = false ∧ w'.frozen? ⟨g, k * 8 + 1, none⟩ = false ∧ w'.frozen? ⟨g, k * 8 + 2, none⟩ = false ∧ w'.frozen? ⟨g, k * 8 + 3, none⟩ = false ∧ w'.frozen? ⟨g, k * 8 + 4, none⟩ = false ∧ w'.frozen? ⟨g, k * 8 + 5, none⟩ = false ∧ w'.frozen? ⟨g, k * 8 + 6, none⟩ = false ∧ w'.frozen? ⟨g, k * 8 + 7, none⟩ = false from fun w' h => by
          obtain ⟨h1, h2⟩ := (hlk.ext h).cells hlt
          exact ⟨h1, (h2 0 (by omega)).1, (h2 1 (by omega)).1, (h2 2 (by omega)).1, (h2 3 (by omega)).1, (h2 4 (by omega)).1, (h2 5 (by omega)).1, (h2 6 (by omega)).1, (h2 7 (by omega)).1, (h2 0 (by omega)).2, (h2 1 (by omega)).2, (h2 2 (by omega)).2, (h2 3 (by omega)).2, (h2 4 (by omega)).2, (h2 5 (by omega)).2, (h2 6 (by omega)).2, (h2 7 (by omega)).2⟩)
        have HLK := Lib.hid hlk
        have hne1 : ¬ (g = w.heap.size) := by have := World.block_lt_of_cell? _ _ x0; simp at this; omega
        have ne1 : (g = w.heap.size) = False := by simp; exact hne1
        have ne2 : (w.heap.size = g) = False := by simp; exact fun e => hne1 e.symm
        have km : Ext wr wr := Ext.refl wr
        clear hgs hgc hlk hne1
        go_wp2_with fail
        go_region_held3 (fun w' => w'.cell? ⟨w.heap.size, 0, none⟩ = some (.int .i64 (n : Int)) ∧ w'.cell? ⟨w.heap.size, 1, none⟩ = some (.int .u64 (T : Int))) (go_keep)
          (first
            | (go_at_call 40; refine (HLO.out _ (by first | exact km | exact Ext.drew km)).mono ?_; rintro e9 w9 ⟨B1, B2, B3, B4, m1, e1, m2, e2, m3, e3, m4, e4, rfl, hb1, hb2, hb3, hb4, k9⟩; replace km : Ext wr w9 := (by first | exact Ext.trans km k9 | exact Ext.trans (Ext.drew km) k9); have d0 := cell_ext km y0; have d1 := cell_ext km y1; obtain ⟨s9, p0, p1, p2, p3, p4, p5, p6, p7, f0, f1, f2, f3, f4, f5, f6, f7⟩ := HGC.out _ km)
            | (go_at_call 39; refine (HWK.out _ (by first | exact km | exact Ext.drew km)).mono ?_; rintro e8 w8 ⟨rfl, k8⟩; replace km : Ext wr w8 := (by first | exact Ext.trans km k8 | exact Ext.trans (Ext.drew km) k8); have d0 := cell_ext km y0; have d1 := cell_ext km y1)
            | fail)
        all_goals
          have hput := LvsK.put (HLK.out.ext km) hlt hb1 (by rw [← HQK.out]; exact hb2) hb3 hb4
          rw [← HD.out] at hput
          have k6 := Ext.setAll hg5 [.slice (some adr) (k + 1) c2, .slice A5 D c5, .bool false, .slice B1 m1 e1, .slice B2 m2 e2, .bool false, .slice B3 m3 e3, .slice B4 m4 e4] w9 (k * 8) (kr.trans km)
          have hw : ((((((((w9.setCell ⟨g, k * 8, none⟩ (.slice (some adr) (k + 1) c2)).setCell ⟨g, k * 8 + 1, none⟩ (.slice A5 D c5)).setCell ⟨g, k * 8 + 2, none⟩ (.bool false)).setCell ⟨g, k * 8 + 3, none⟩ (.slice B1 m1 e1)).setCell ⟨g, k * 8 + 4, none⟩ (.slice B2 m2 e2)).setCell ⟨g, k * 8 + 5, none⟩ (.bool false)).setCell ⟨g, k * 8 + 6, none⟩ (.slice B3 m3 e3)).setCell ⟨g, k * 8 + 7, none⟩ (.slice B4 m4 e4)) = setAll w9 g (k * 8) [.slice (some adr) (k + 1) c2, .slice A5 D c5, .bool false, .slice B1 m1 e1, .slice B2 m2 e2, .bool false, .slice B3 m3 e3, .slice B4 m4 e4] := rfl
          rw [hw]
          rename_i hhe
          clear hhe hw
          generalize setAll w9 g (k * 8) [.slice (some adr) (k + 1) c2, .slice A5 D c5, .bool false, .slice B1 m1 e1, .slice B2 m2 e2, .bool false, .slice B3 m3 e3, .slice B4 m4 e4] = w6 at *
          clear p0 p1 p2 p3 p4 p5 p6 p7 f0 f1 f2 f3 f4 f5 f6 f7 s9 d0 d1 HLO HWK HGC
          go_wp2_with fail
          exact ⟨⟨k + 1, by omega, by go_num, hput, k6⟩, by simp [intOf]; omega⟩
      · have hkL : k = L := by omega
        subst hkL
        have HLK := Lib.hid hlk
        clear hlk
        go_wp2_with fail
        go_ret
        exact ⟨g, A2, A5, c2, c5, rfl, HLK.out, HX5.out.ext kr, by rw [← HC.out]; exact HFW.out.ext kr, kw5.trans kr⟩
end Go.Proofs.YtcnogmhkffohgaaGreatDoor
