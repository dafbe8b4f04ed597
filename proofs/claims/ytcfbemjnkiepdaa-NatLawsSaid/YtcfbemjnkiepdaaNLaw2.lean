/-
  The law NatLaws walked: products go over sums, and come in any order.
-/
import Derived.Test.YtcfbemjnkiepdaaNZ
import Derived.Deep.DeepCutAuto
namespace Go.Proofs.Ytcfbemjnkiepdaa
open Go.RowKit
set_option linter.unusedVariables false

/-- Three whole numbers that were handed in, each in a block of its own. -/
structure Tri (w W : World) (s0 s1 s2 : Value) (b0 b1 b2 : Bool) : Prop where
  ext : Ext w W
  size : w.heap.size + 3 ≤ W.heap.size
  a0 : W.cell? ⟨w.heap.size, 0, none⟩ = some (.bool b0)
  a1 : W.cell? ⟨w.heap.size, 1, none⟩ = some s0
  c0 : W.cell? ⟨w.heap.size + 1, 0, none⟩ = some (.bool b1)
  c1 : W.cell? ⟨w.heap.size + 1, 1, none⟩ = some s1
  d0 : W.cell? ⟨w.heap.size + 1 + 1, 0, none⟩ = some (.bool b2)
  d1 : W.cell? ⟨w.heap.size + 1 + 1, 1, none⟩ = some s2
theorem tri (w : World) (b0 b1 b2 : Bool) (s0 s1 s2 : Value) (t : TypeId) : Tri w (((w.alloc (.cells #[.bool b0, s0] t)).alloc (.cells #[.bool b1, s1] t)).alloc (.cells #[.bool b2, s2] t)) s0 s1 s2 b0 b1 b2 := by
  refine ⟨(((Ext.refl w).alloc _).alloc _).alloc _, by simp, ?_, ?_, ?_, ?_, ?_, ?_⟩ <;> simp [go_sem]
theorem Tri.keep {w W W' : World} {s0 s1 s2 : Value} {b0 b1 b2 : Bool} (h : Tri w W s0 s1 s2 b0 b1 b2) (k : Ext W W') : Tri w W' s0 s1 s2 b0 b1 b2 := by
  have := h.size
  have z : W.heap.size ≤ W'.heap.size := k.size
  exact ⟨h.ext.trans k, by omega, kept_cell k (by omega) h.a0, kept_cell k (by omega) h.a1, kept_cell k (by omega) h.c0, kept_cell k (by omega) h.c1, kept_cell k (by omega) h.d0, kept_cell k (by omega) h.d1⟩
theorem Ext.drew {a b : World} (h : Ext a b) : Ext a b.drew := Below.drew h

/-- A whole number z that was made and laid in a block of its own. -/
structure Laid (w2 wx : World) (g : Nat) (A : Option Addr) (n c N : Nat) (z : Int) : Prop where
  ext : Ext w2 wx
  lo : w2.heap.size ≤ g
  hi : g < wx.heap.size
  c0 : wx.cell? ⟨g, 0, none⟩ = some (.bool (decide (z < 0)))
  c1 : wx.cell? ⟨g, 1, none⟩ = some (.slice A n c)
  nx : NX wx A n c (nw z.natAbs)
  le : n ≤ N
theorem laid_new {w2 w : World} {A : Option Addr} {n c N : Nat} {z : Int} {t : TypeId} (k : Ext w2 w) (h : NX w A n c (nw z.natAbs)) (hn : n ≤ N) : Laid w2 (w.alloc (.cells #[.bool (decide (z < 0)), .slice A n c] t)) w.heap.size A n c N z :=
  ⟨k.alloc _, k.size, by simp, by simp, by simp, h.ext ((Ext.refl w).alloc _), hn⟩
theorem laid_old {w2 w : World} {g : Nat} {A : Option Addr} {n c N : Nat} {z : Int} {b0 : Bool} {A0 : Option Addr} {n0 c0 : Nat} (k : Ext w2 w) (hg : w2.heap.size ≤ g) (h0 : w.cell? ⟨g, 0, none⟩ = some (.bool b0)) (h1 : w.cell? ⟨g, 1, none⟩ = some (.slice A0 n0 c0)) (h : NX w A n c (nw z.natAbs)) (hn : n ≤ N) :
    Laid w2 ((w.setCell ⟨g, 0, none⟩ (.bool (decide (z < 0)))).setCell ⟨g, 1, none⟩ (.slice A n c)) g A n c N z := by
  obtain ⟨z0, z1⟩ := ans_cells h0 h1 (.bool (decide (z < 0))) (.slice A n c)
  refine ⟨(Below.setCell k hg _).setCell hg _, hg, ?_, z0, z1, rd_answer h h0 h1, hn⟩
  have := World.block_lt_of_cell? w ⟨g, 0, none⟩ h0
  simpa [World.setCell] using this
theorem box_next {a b : World} {t : TypeId} (k : Ext (a.alloc (.cells #[.bool false, .slice none 0 0] t)) b) :
    b.cell? ⟨a.heap.size, 0, none⟩ = some (.bool false) ∧ b.cell? ⟨a.heap.size, 1, none⟩ = some (.slice none 0 0) ∧ b.frozen? ⟨a.heap.size, 0, none⟩ = false ∧ b.frozen? ⟨a.heap.size, 1, none⟩ = false :=
  ⟨kept_cell k (by simp) (by simp), kept_cell k (by simp) (by simp), kept_free k (by simp) (by simp), kept_free k (by simp) (by simp)⟩
theorem box_first {a b : World} {t : TypeId} (k : Ext (a.alloc (.cells #[.bool false, .slice none 0 0] t)).drew b) :
    b.cell? ⟨a.heap.size, 0, none⟩ = some (.bool false) ∧ b.cell? ⟨a.heap.size, 1, none⟩ = some (.slice none 0 0) ∧ b.frozen? ⟨a.heap.size, 0, none⟩ = false ∧ b.frozen? ⟨a.heap.size, 1, none⟩ = false :=
  ⟨kept_cell k (by simp) (by simp), kept_cell k (by simp) (by simp), kept_free k (by simp) (by simp), kept_free k (by simp) (by simp)⟩
theorem box_drawn {a b : World} {t : TypeId} (k : Ext (a.drew.alloc (.cells #[.bool false, .slice none 0 0] t)) b) :
    b.cell? ⟨a.heap.size, 0, none⟩ = some (.bool false) ∧ b.cell? ⟨a.heap.size, 1, none⟩ = some (.slice none 0 0) ∧ b.frozen? ⟨a.heap.size, 0, none⟩ = false ∧ b.frozen? ⟨a.heap.size, 1, none⟩ = false := box_next (a := a.drew) k
theorem box_carry {a b : World} {g : Nat} (k : Ext a b) (h : a.cell? ⟨g, 0, none⟩ = some (.bool false) ∧ a.cell? ⟨g, 1, none⟩ = some (.slice none 0 0) ∧ a.frozen? ⟨g, 0, none⟩ = false ∧ a.frozen? ⟨g, 1, none⟩ = false) :
    b.cell? ⟨g, 0, none⟩ = some (.bool false) ∧ b.cell? ⟨g, 1, none⟩ = some (.slice none 0 0) ∧ b.frozen? ⟨g, 0, none⟩ = false ∧ b.frozen? ⟨g, 1, none⟩ = false := by
  have hg := World.block_lt_of_cell? _ _ h.1
  exact ⟨kept_cell k hg h.1, kept_cell k hg h.2.1, kept_free k hg h.2.2.1, kept_free k hg h.2.2.2⟩
theorem Laid.keep {w2 w w' : World} {g : Nat} {A : Option Addr} {n c N : Nat} {z : Int} (h : Laid w2 w g A n c N z) (k : Ext w w') : Laid w2 w' g A n c N z :=
  ⟨h.ext.trans k, h.lo, Nat.lt_of_lt_of_le h.hi k.size, kept_cell k h.hi h.c0, kept_cell k h.hi h.c1, h.nx.ext k, h.le⟩

theorem sameIntEq {A A' : Option Addr} {n n' c c' : Nat} {b : Bool} {xs : List Nat} {w : World} (h : NX w A n c xs) (h' : NX w A' n' c' xs) (hn : n ≤ 100000) (hn' : n' ≤ 100000) :
    Calls Try.prog 52 #[.agg #[.bool b, .slice A n c], .agg #[.bool b, .slice A' n' c']] w fun e w' => e = .returned (.bool true) ∧ Ext w w' := by
  have := sameIntX (b := b) (b' := b) h h' hn hn'
  rwa [show decide (b = b ∧ xs = xs) = true by simp] at this
theorem sameZ' {A A' : Option Addr} {n n' c c' : Nat} {z z' : Int} {w : World} (e : Hid (z = z')) (h : NX w A n c (nw z.natAbs)) (h' : NX w A' n' c' (nw z'.natAbs)) (hn : n ≤ 100000) (hn' : n' ≤ 100000) :
    Calls Try.prog 52 #[.agg #[.bool (decide (z < 0)), .slice A n c], .agg #[.bool (decide (z' < 0)), .slice A' n' c']] w fun e w' => e = .returned (.bool true) ∧ Ext w w' := sameZ h h' e.out hn hn'

set_option maxRecDepth 2000 in
set_option maxHeartbeats 8000000 in
theorem natLaws_walk (f0 f1 f2 : Bool) (A0 A1 A2 : Option Addr) (n0 n1 n2 c0 c1 c2 : Nat) (z0 z1 z2 : Int) (w : World) (h0 : IX w f0 A0 n0 c0 z0) (h1 : IX w f1 A1 n1 c1 z1) (h2 : IX w f2 A2 n2 c2 z2) :
    Calls Try.prog 13 #[.agg #[.bool f0, .slice A0 n0 c0], .agg #[.bool f1, .slice A1 n1 c1], .agg #[.bool f2, .slice A2 n2 c2]] w fun e w' => e = .returned (.bool true) ∧ Ext w w' := by
  have HX := Lib.hid (tri w f0 f1 f2 (.slice A0 n0 c0) (.slice A1 n1 c1) (.slice A2 n2 c2) 52)
  go_enter Try.func13, Try.ntmps13
  go_wp2_with fail
  generalize ((w.alloc (Obj.cells #[Value.bool f0, Value.slice A0 n0 c0] 52)).alloc (Obj.cells #[Value.bool f1, Value.slice A1 n1 c1] 52)).alloc (Obj.cells #[Value.bool f2, Value.slice A2 n2 c2] 52) = V at *
  have T := HX.out
  refine (fixed2_any V).mono ?_
  rintro e w1 ⟨rfl, k1⟩
  have T1 := T.keep k1
  clear HX T k1
  obtain ⟨e1, s1, a0, a1, b0, b1, d0, d1⟩ := T1
  by_cases hf : n0 ≤ 30 ∧ n1 ≤ 30 ∧ n2 ≤ 30
  · go_wp2_with fail
    refine (few3_any w1 A0 A1 A2 n0 n1 n2 c0 c1 c2 _ w1.heap.size rfl true (by simpa using hf)).mono ?_
    rintro e w2 ⟨rfl, k2⟩
    have TB : Tri w w2 (.slice A0 n0 c0) (.slice A1 n1 c1) (.slice A2 n2 c2) f0 f1 f2 := Tri.keep ⟨e1, s1, a0, a1, b0, b1, d0, d1⟩ k2
    clear e1 s1 a0 a1 b0 b1 d0 d1 k2
    obtain ⟨hn0, hn1, hn2⟩ := hf
    have x0 := h0.ext TB.ext
    have x1 := h1.ext TB.ext
    have x2 := h2.ext TB.ext
    go_upto_region 5 with fail
    go_cut [7] (fun s7 wx => ∃ (g : Nat) (A : Option Addr) (n c : Nat), s7 = .pointer (some ⟨g, 0, none⟩) ∧ Laid w2 wx g A n c 200 (z0 * (z1 + z2)))
    case first =>
      obtain ⟨e1, s1, a0, a1, b0, b1, d0, d1⟩ := TB
      have TB : Tri w w2 (.slice A0 n0 c0) (.slice A1 n1 c1) (.slice A2 n2 c2) f0 f1 f2 := ⟨e1, s1, a0, a1, b0, b1, d0, d1⟩
      have new2_0 : ¬ (w2.heap.size = w.heap.size) := by omega
      have mew2_0 : ¬ (w.heap.size = w2.heap.size) := by omega
      have new2_1 : ¬ (w2.heap.size = w.heap.size + 1) := by omega
      have mew2_1 : ¬ (w.heap.size + 1 = w2.heap.size) := by omega
      have new2_2 : ¬ (w2.heap.size = w.heap.size + 1 + 1) := by omega
      have mew2_2 : ¬ (w.heap.size + 1 + 1 = w2.heap.size) := by omega
      go_region_held3 (fun w' => w'.cell? ⟨w.heap.size, 0, none⟩ = some (.bool f0) ∧ w'.cell? ⟨w.heap.size, 1, none⟩ = some (.slice A0 n0 c0) ∧ w'.cell? ⟨w.heap.size + 1, 0, none⟩ = some (.bool f1) ∧ w'.cell? ⟨w.heap.size + 1, 1, none⟩ = some (.slice A1 n1 c1) ∧ w'.cell? ⟨w.heap.size + 1 + 1, 0, none⟩ = some (.bool f2) ∧ w'.cell? ⟨w.heap.size + 1 + 1, 1, none⟩ = some (.slice A2 n2 c2)) (go_keep)
        (first
          | (go_at_call 53; (refine (sumX (z := z1) (z' := z2) (by exact x1.ext (by repeat (first | exact Ext.refl _ | assumption | refine Ext.drew ?_ | refine Ext.alloc ?_ _))) (by exact x2.ext (by repeat (first | exact Ext.refl _ | assumption | refine Ext.drew ?_ | refine Ext.alloc ?_ _))) (by omega) (by omega)).mono ?_); rintro e w3 ⟨A3, n3, c3, rfl, hn3, hx3, k3⟩; have k3' : Ext w2 w3 := Ext.trans (by repeat (first | exact Ext.refl _ | assumption | refine Ext.drew ?_ | refine Ext.alloc ?_ _)) k3; obtain ⟨_, _, _, _, _, _, _, _⟩ := TB.keep k3'; have zw3 : w2.heap.size ≤ w3.heap.size := k3'.size; have new3_0 : ¬ (w3.heap.size = w.heap.size) := (by omega); have mew3_0 : ¬ (w.heap.size = w3.heap.size) := (by omega); have new3_1 : ¬ (w3.heap.size = w.heap.size + 1) := (by omega); have mew3_1 : ¬ (w.heap.size + 1 = w3.heap.size) := (by omega); have new3_2 : ¬ (w3.heap.size = w.heap.size + 1 + 1) := (by omega); have mew3_2 : ¬ (w.heap.size + 1 + 1 = w3.heap.size) := (by omega); (try have Q_w3 := box_next k3); (try have Q_w3 := box_drawn k3); (try have Q_w3 := box_first k3); (try have q0_w3 := Q_w3.1); (try have q1_w3 := Q_w3.2.1); (try have p0_w3 := Q_w3.2.2.1); (try have p1_w3 := Q_w3.2.2.2))
          | (go_at_call 55; (refine (timesX (z := z0) (z' := z1 + z2) (by exact x0.ext (by repeat (first | exact Ext.refl _ | assumption | refine Ext.drew ?_ | refine Ext.alloc ?_ _))) (by exact IX.ext (IX.of hx3) (by repeat (first | exact Ext.refl _ | assumption | refine Ext.drew ?_ | refine Ext.alloc ?_ _))) (by omega) (by omega)).mono ?_); rintro e w4 ⟨A4, n4, c4, rfl, hn4, hx4, k4⟩; have k4' : Ext w2 w4 := Ext.trans (by repeat (first | exact Ext.refl _ | assumption | refine Ext.drew ?_ | refine Ext.alloc ?_ _)) k4; obtain ⟨_, _, _, _, _, _, _, _⟩ := TB.keep k4'; have zw4 : w2.heap.size ≤ w4.heap.size := k4'.size; have new4_0 : ¬ (w4.heap.size = w.heap.size) := (by omega); have mew4_0 : ¬ (w.heap.size = w4.heap.size) := (by omega); have new4_1 : ¬ (w4.heap.size = w.heap.size + 1) := (by omega); have mew4_1 : ¬ (w.heap.size + 1 = w4.heap.size) := (by omega); have new4_2 : ¬ (w4.heap.size = w.heap.size + 1 + 1) := (by omega); have mew4_2 : ¬ (w.heap.size + 1 + 1 = w4.heap.size) := (by omega); (try have Q_w4 := box_next k4); (try have Q_w4 := box_drawn k4); (try have Q_w4 := box_first k4); (try have Q_w4 := box_carry k4 Q_w3); (try have q0_w4 := Q_w4.1); (try have q1_w4 := Q_w4.2.1); (try have p0_w4 := Q_w4.2.2.1); (try have p1_w4 := Q_w4.2.2.2))
          | fail)
      all_goals (go_wp2_with fail; go_meet; (first | exact ⟨_, _, _, _, rfl, laid_new k4' hx4 (by omega)⟩ | exact ⟨_, _, _, _, rfl, laid_old k4' (by omega) Q_w4.1 Q_w4.2.1 hx4 (by omega)⟩))
    case rest =>
      obtain ⟨g, Ax, nx, cx, rfl, hlaid⟩ := hcut
      rename World => wx
      have TB := TB.keep hlaid.ext
      have x0 := x0.ext hlaid.ext
      have x1 := x1.ext hlaid.ext
      have x2 := x2.ext hlaid.ext
      go_upto_region 6 with fail
      go_cut [8] (fun s8 wy => ∃ (g' : Nat) (A : Option Addr) (n c : Nat), s8 = .pointer (some ⟨g', 0, none⟩) ∧ Laid wx wy g' A n c 400 (z0 * z1 + z0 * z2))
      case first =>
        obtain ⟨e1, s1, a0, a1, b0, b1, d0, d1⟩ := TB
        have TB : Tri w wx (.slice A0 n0 c0) (.slice A1 n1 c1) (.slice A2 n2 c2) f0 f1 f2 := ⟨e1, s1, a0, a1, b0, b1, d0, d1⟩
        have newx_0 : ¬ (wx.heap.size = w.heap.size) := by omega
        have mewx_0 : ¬ (w.heap.size = wx.heap.size) := by omega
        have newx_1 : ¬ (wx.heap.size = w.heap.size + 1) := by omega
        have mewx_1 : ¬ (w.heap.size + 1 = wx.heap.size) := by omega
        have newx_2 : ¬ (wx.heap.size = w.heap.size + 1 + 1) := by omega
        have mewx_2 : ¬ (w.heap.size + 1 + 1 = wx.heap.size) := by omega
        go_region_held3 (fun w' => w'.cell? ⟨w.heap.size, 0, none⟩ = some (.bool f0) ∧ w'.cell? ⟨w.heap.size, 1, none⟩ = some (.slice A0 n0 c0) ∧ w'.cell? ⟨w.heap.size + 1, 0, none⟩ = some (.bool f1) ∧ w'.cell? ⟨w.heap.size + 1, 1, none⟩ = some (.slice A1 n1 c1) ∧ w'.cell? ⟨w.heap.size + 1 + 1, 0, none⟩ = some (.bool f2) ∧ w'.cell? ⟨w.heap.size + 1 + 1, 1, none⟩ = some (.slice A2 n2 c2)) (go_keep)
          (first
            | (go_at_call 53; (refine (sumX (z := z0 * z1) (z' := z0 * z2) (by exact IX.ext (IX.ext (IX.of hx3) k34) (by repeat (first | exact Ext.refl _ | assumption | refine Ext.drew ?_ | refine Ext.alloc ?_ _))) (by exact IX.ext (IX.of hx4) (by repeat (first | exact Ext.refl _ | assumption | refine Ext.drew ?_ | refine Ext.alloc ?_ _))) (by omega) (by omega)).mono ?_); rintro e w5 ⟨A5, n5, c5, rfl, hn5, hx5, k5⟩; have k5' : Ext wx w5 := Ext.trans (by repeat (first | exact Ext.refl _ | assumption | refine Ext.drew ?_ | refine Ext.alloc ?_ _)) k5; obtain ⟨_, _, _, _, _, _, _, _⟩ := TB.keep k5'; have zw5 : wx.heap.size ≤ w5.heap.size := k5'.size; have new5_0 : ¬ (w5.heap.size = w.heap.size) := (by omega); have mew5_0 : ¬ (w.heap.size = w5.heap.size) := (by omega); have new5_1 : ¬ (w5.heap.size = w.heap.size + 1) := (by omega); have mew5_1 : ¬ (w.heap.size + 1 = w5.heap.size) := (by omega); have new5_2 : ¬ (w5.heap.size = w.heap.size + 1 + 1) := (by omega); have mew5_2 : ¬ (w.heap.size + 1 + 1 = w5.heap.size) := (by omega); (try have Q_w5 := box_next k5); (try have Q_w5 := box_drawn k5); (try have Q_w5 := box_first k5); (try have Q_w5 := box_carry k5 Q_w4); (try have q0_w5 := Q_w5.1); (try have q1_w5 := Q_w5.2.1); (try have p0_w5 := Q_w5.2.2.1); (try have p1_w5 := Q_w5.2.2.2))
            | (go_at_call 55; (refine (timesX (z := z0) (z' := z2) (by exact x0.ext (by repeat (first | exact Ext.refl _ | assumption | refine Ext.drew ?_ | refine Ext.alloc ?_ _))) (by exact x2.ext (by repeat (first | exact Ext.refl _ | assumption | refine Ext.drew ?_ | refine Ext.alloc ?_ _))) (by omega) (by omega)).mono ?_); rintro e w4 ⟨A4, n4, c4, rfl, hn4, hx4, k4⟩; have k34 : Ext w3 w4 := (by first | exact k4 | exact Ext.trans ((Ext.refl w3).alloc _) k4); have k4' : Ext wx w4 := Ext.trans (by repeat (first | exact Ext.refl _ | assumption | refine Ext.drew ?_ | refine Ext.alloc ?_ _)) k4; obtain ⟨_, _, _, _, _, _, _, _⟩ := TB.keep k4'; have zw4 : wx.heap.size ≤ w4.heap.size := k4'.size; have new4_0 : ¬ (w4.heap.size = w.heap.size) := (by omega); have mew4_0 : ¬ (w.heap.size = w4.heap.size) := (by omega); have new4_1 : ¬ (w4.heap.size = w.heap.size + 1) := (by omega); have mew4_1 : ¬ (w.heap.size + 1 = w4.heap.size) := (by omega); have new4_2 : ¬ (w4.heap.size = w.heap.size + 1 + 1) := (by omega); have mew4_2 : ¬ (w.heap.size + 1 + 1 = w4.heap.size) := (by omega); (try have Q_w4 := box_next k4); (try have Q_w4 := box_drawn k4); (try have Q_w4 := box_first k4); (try have Q_w4 := box_carry k4 Q_w3); (try have q0_w4 := Q_w4.1); (try have q1_w4 := Q_w4.2.1); (try have p0_w4 := Q_w4.2.2.1); (try have p1_w4 := Q_w4.2.2.2))
            | (go_at_call 55; (refine (timesX (z := z0) (z' := z1) (by exact x0.ext (by repeat (first | exact Ext.refl _ | assumption | refine Ext.drew ?_ | refine Ext.alloc ?_ _))) (by exact x1.ext (by repeat (first | exact Ext.refl _ | assumption | refine Ext.drew ?_ | refine Ext.alloc ?_ _))) (by omega) (by omega)).mono ?_); rintro e w3 ⟨A3, n3, c3, rfl, hn3, hx3, k3⟩; have k3' : Ext wx w3 := Ext.trans (by repeat (first | exact Ext.refl _ | assumption | refine Ext.drew ?_ | refine Ext.alloc ?_ _)) k3; obtain ⟨_, _, _, _, _, _, _, _⟩ := TB.keep k3'; have zw3 : wx.heap.size ≤ w3.heap.size := k3'.size; have new3_0 : ¬ (w3.heap.size = w.heap.size) := (by omega); have mew3_0 : ¬ (w.heap.size = w3.heap.size) := (by omega); have new3_1 : ¬ (w3.heap.size = w.heap.size + 1) := (by omega); have mew3_1 : ¬ (w.heap.size + 1 = w3.heap.size) := (by omega); have new3_2 : ¬ (w3.heap.size = w.heap.size + 1 + 1) := (by omega); have mew3_2 : ¬ (w.heap.size + 1 + 1 = w3.heap.size) := (by omega); (try have Q_w3 := box_next k3); (try have Q_w3 := box_drawn k3); (try have Q_w3 := box_first k3); (try have q0_w3 := Q_w3.1); (try have q1_w3 := Q_w3.2.1); (try have p0_w3 := Q_w3.2.2.1); (try have p1_w3 := Q_w3.2.2.2))
            | fail)
        all_goals (go_wp2_with fail; go_meet; (first | exact ⟨_, _, _, _, rfl, laid_new k5' hx5 (by omega)⟩ | exact ⟨_, _, _, _, rfl, laid_old k5' (by omega) Q_w5.1 Q_w5.2.1 hx5 (by omega)⟩))
      case rest =>
        obtain ⟨g', Ay, ny, cy, rfl, hlaidy⟩ := hcut
        rename World => wy
        obtain ⟨bx, hbx⟩ : ∃ bx, bx = decide (z0 * (z1 + z2) < 0) := ⟨_, rfl⟩
        have zeq : z0 * z1 + z0 * z2 = z0 * (z1 + z2) := (Int.mul_add _ _ _).symm
        obtain ⟨le, ll, lh, lc0, lc1, ln, lle⟩ := hlaid
        obtain ⟨me, ml, mh, mc0, mc1, mn, mle⟩ := hlaidy
        rw [zeq, ← hbx] at mc0
        rw [zeq] at mn
        rw [← hbx] at lc0
        clear zeq
        obtain ⟨e1, s1, a0, a1, b0, b1, d0, d1⟩ := TB
        have hK : ∀ W', Ext wy W' → W'.cell? ⟨w.heap.size, 0, none⟩ = some (.bool f0) ∧ W'.cell? ⟨w.heap.size, 1, none⟩ = some (.slice A0 n0 c0) ∧ W'.cell? ⟨w.heap.size + 1, 0, none⟩ = some (.bool f1) ∧ W'.cell? ⟨w.heap.size + 1, 1, none⟩ = some (.slice A1 n1 c1) ∧ W'.cell? ⟨w.heap.size + 1 + 1, 0, none⟩ = some (.bool f2) ∧ W'.cell? ⟨w.heap.size + 1 + 1, 1, none⟩ = some (.slice A2 n2 c2) ∧ W'.cell? ⟨g, 0, none⟩ = some (.bool bx) ∧ W'.cell? ⟨g, 1, none⟩ = some (.slice Ax nx cx) ∧ W'.cell? ⟨g', 0, none⟩ = some (.bool bx) ∧ W'.cell? ⟨g', 1, none⟩ = some (.slice Ay ny cy) := fun W' k =>
          ⟨kept_cell (me.trans k) (by omega) a0, kept_cell (me.trans k) (by omega) a1, kept_cell (me.trans k) (by omega) b0, kept_cell (me.trans k) (by omega) b1, kept_cell (me.trans k) (by omega) d0, kept_cell (me.trans k) (by omega) d1, kept_cell (me.trans k) lh lc0, kept_cell (me.trans k) lh lc1, kept_cell k mh mc0, kept_cell k mh mc1⟩
        have HKH := Lib.hid hK
        obtain ⟨j0, j1, j2, j3, j4, j5, j6, j7, j8, j9⟩ := hK wy (Ext.refl _)
        have X := ln.ext me
        have Y := mn
        have ew : Ext w wy := e1.trans me
        have x0 := x0.ext me
        have x1 := x1.ext me
        have x2 := x2.ext me
        have HEX := Lib.hid hbx
        have Z1 := Lib.hid (Int.mul_comm z0 z1)
        have Z2 := Lib.hid (Int.add_assoc z0 z1 z2)
        clear hK lc0 lc1 mc0 mc1 a0 a1 b0 b1 d0 d1 hbx ln mn le ll lh ml mh
        go_upto_region 7 with fail
        go_region_held3 (fun w' => w'.cell? ⟨w.heap.size, 0, none⟩ = some (.bool f0) ∧ w'.cell? ⟨w.heap.size, 1, none⟩ = some (.slice A0 n0 c0) ∧ w'.cell? ⟨w.heap.size + 1, 0, none⟩ = some (.bool f1) ∧ w'.cell? ⟨w.heap.size + 1, 1, none⟩ = some (.slice A1 n1 c1) ∧ w'.cell? ⟨w.heap.size + 1 + 1, 0, none⟩ = some (.bool f2) ∧ w'.cell? ⟨w.heap.size + 1 + 1, 1, none⟩ = some (.slice A2 n2 c2) ∧ w'.cell? ⟨g, 0, none⟩ = some (.bool bx) ∧ w'.cell? ⟨g, 1, none⟩ = some (.slice Ax nx cx) ∧ w'.cell? ⟨g', 0, none⟩ = some (.bool bx) ∧ w'.cell? ⟨g', 1, none⟩ = some (.slice Ay ny cy)) (go_keep)
          (first
            | (go_at_call 52; refine (sameZ' Z2 (x8.ext (l9.trans l10)) x10 (by omega) (by omega)).mono ?_; rintro e w11 ⟨rfl, l11⟩; have k11 : Ext wy w11 := Ext.trans k10 l11; obtain ⟨_, _, _, _, _, _, _, _, _, _⟩ := HKH.out w11 k11)
            | (go_at_call 53; refine (sumX (x0.ext k9) (IX.of x9) (by omega) (by omega)).mono ?_; rintro e w10 ⟨A10, n10, c10, rfl, hn10, x10, l10⟩; have k10 : Ext wy w10 := Ext.trans k9 l10; obtain ⟨_, _, _, _, _, _, _, _, _, _⟩ := HKH.out w10 k10)
            | (go_at_call 53; refine (sumX (x1.ext k8) (x2.ext k8) (by omega) (by omega)).mono ?_; rintro e w9 ⟨A9, n9, c9, rfl, hn9, x9, l9⟩; have k9 : Ext wy w9 := Ext.trans k8 l9; obtain ⟨_, _, _, _, _, _, _, _, _, _⟩ := HKH.out w9 k9)
            | (go_at_call 53; refine (sumX (IX.of x7) (x2.ext k7) (by omega) (by omega)).mono ?_; rintro e w8 ⟨A8, n8, c8, rfl, hn8, x8, l8⟩; have k8 : Ext wy w8 := Ext.trans k7 l8; obtain ⟨_, _, _, _, _, _, _, _, _, _⟩ := HKH.out w8 k8)
            | (go_at_call 53; refine (sumX (x0.ext k6) (x1.ext k6) (by omega) (by omega)).mono ?_; rintro e w7 ⟨A7, n7, c7, rfl, hn7, x7, l7⟩; have k7 : Ext wy w7 := Ext.trans k6 l7; obtain ⟨_, _, _, _, _, _, _, _, _, _⟩ := HKH.out w7 k7)
            | (go_at_call 52; refine (sameZ' Z1 (x4.ext l5) x5 (by omega) (by omega)).mono ?_; rintro e w6 ⟨rfl, l6⟩; have k6 : Ext wy w6 := Ext.trans k5 l6; obtain ⟨_, _, _, _, _, _, _, _, _, _⟩ := HKH.out w6 k6)
            | (go_at_call 55; refine (timesX (x1.ext k4) (x0.ext k4) (by omega) (by omega)).mono ?_; rintro e w5 ⟨A5, n5, c5, rfl, hn5, x5, l5⟩; have k5 : Ext wy w5 := Ext.trans k4 l5; obtain ⟨_, _, _, _, _, _, _, _, _, _⟩ := HKH.out w5 k5)
            | (go_at_call 55; refine (timesX (x0.ext k3) (x1.ext k3) (by omega) (by omega)).mono ?_; rintro e w4 ⟨A4, n4, c4, rfl, hn4, x4, l4⟩; have k4 : Ext wy w4 := Ext.trans k3 l4; obtain ⟨_, _, _, _, _, _, _, _, _, _⟩ := HKH.out w4 k4)
            | (go_at_call 52; refine (sameIntEq (b := bx) (X.ext (Ext.refl wy).drew) (NX.ext Y (Ext.refl wy).drew) (by omega) (by omega)).mono ?_; rintro e w3 ⟨rfl, l3⟩; have k3 : Ext wy w3 := Ext.trans (Ext.refl wy).drew l3; obtain ⟨_, _, _, _, _, _, _, _, _, _⟩ := HKH.out w3 k3)
            | fail)
        go_wp2
        go_ret
        exact ⟨rfl, ew.trans k11⟩
  · go_wp2_with fail
    refine (few3_any w1 A0 A1 A2 n0 n1 n2 c0 c1 c2 _ w1.heap.size rfl false (by simpa using hf)).mono ?_
    rintro e w2 ⟨rfl, k2⟩
    go_wp2
    go_ret
    exact ⟨rfl, e1.trans k2⟩
theorem natLaws_walkX (f0 f1 f2 : Bool) (A0 A1 A2 : Option Addr) (n0 n1 n2 c0 c1 c2 : Nat) (xs ys zs : List Nat) (w : World) (h0 : NX w A0 n0 c0 xs) (h1 : NX w A1 n1 c1 ys) (h2 : NX w A2 n2 c2 zs) :
    Calls Try.prog 13 #[.agg #[.bool f0, .slice A0 n0 c0], .agg #[.bool f1, .slice A1 n1 c1], .agg #[.bool f2, .slice A2 n2 c2]] w fun e w' => e = .returned (.bool true) ∧ Ext w w' :=
  natLaws_walk f0 f1 f2 A0 A1 A2 n0 n1 n2 c0 c1 c2 _ _ _ w ⟨xs, h0, rfl⟩ ⟨ys, h1, rfl⟩ ⟨zs, h2, rfl⟩
end Go.Proofs.Ytcfbemjnkiepdaa
