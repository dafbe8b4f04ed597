/-
  What New of package batch answers.
-/
import Derived.Test.YtcnogmhkffohgaaGreatDoorW36
import Derived.Test.YtcnogmhkffohgaaGreatDoorW38
import Derived.Test.YtcnogmhkffohgaaGreatDoorW40
import Derived.Test.YtcnogmhkffohgaaGreatDoorW27
import Derived.Deep.Upon
import Derived.Test.YtcnogmhkffohgaaGreatDoorW35
namespace Go.Proofs.YtcnogmhkffohgaaGreatDoor
open Go.RowKit
set_option linter.unusedVariables false
set_option maxRecDepth 100000

theorem sml_all : ∀ n, n < 65 → 8 ≤ n → stepS n = true → (n = 8 ∨ n = 16 ∨ n = 32 ∨ n = 64) := by decide +kernel
theorem sml_step {n : Nat} (h : Sml n) : stepS (2 * n) = true := by rcases h with rfl | rfl | rfl | rfl <;> decide +kernel
theorem sml_log {n : Nat} (h : Sml n) : ∃ k, n = 2 ^ k ∧ 3 ≤ k ∧ k ≤ 6 := by
  rcases h with rfl | rfl | rfl | rfl
  · exact ⟨3, by decide, by omega, by omega⟩
  · exact ⟨4, by decide, by omega, by omega⟩
  · exact ⟨5, by decide, by omega, by omega⟩
  · exact ⟨6, by decide, by omega, by omega⟩
theorem sml_le {n : Nat} (h : Sml n) : 8 ≤ n ∧ n ≤ 64 ∧ n % 2 = 0 := by rcases h with rfl | rfl | rfl | rfl <;> omega
/-- A number that is no square, below T and below 1000. -/
theorem sq_both {n T : Nat} (hn : Sml n) (hT : PlainP n T) : ∃ x, x < T ∧ x < 1000 ∧ noSq T x = true := by
  have h16 : T % 16 = 1 := by
    have h1 := hT.2.1
    have h2 := Nat.mod_mul_right_mod T 16 (n / 8)
    have h3 : 16 * (n / 8) = 2 * n := by rcases hn with rfl | rfl | rfl | rfl <;> omega
    rw [h3, h1] at h2
    rw [← h2]
  obtain ⟨x, hx, he⟩ := sq_below h16 hT.1 hT.2.2
  have hT2 := isS_ge hT.2.2
  refine ⟨x % T, Nat.mod_lt _ (by omega), Nat.lt_of_le_of_lt (Nat.mod_le _ _) hx, ?_⟩
  unfold noSq
  rw [← Nat.pow_mod]
  exact decide_eq_true he
theorem fit_plain {n T : Nat} (hn : Sml n) (hT : PlainP n T) : ∃ k, 3 ≤ k ∧ k ≤ 6 ∧ Fit n T k := by
  obtain ⟨k, hk, h1, h2⟩ := sml_log hn
  obtain ⟨x, hx, _, hs⟩ := sq_both hn hT
  exact ⟨k, h1, h2, hk, by omega, by omega, by have := hT.1; omega, sml_step hn, hT.2.1, hT.2.2, x, hx, hs⟩
end Go.Proofs.YtcnogmhkffohgaaGreatDoor

/-
  What Pack of package batch answers: slots laid one by one.
-/
namespace Go.Proofs.YtcnogmhkffohgaaGreatDoor
open Go.RowKit
set_option linter.unusedVariables false
set_option maxRecDepth 100000

/-- From a to b, of what was there, only block p has changed. -/
def OnB (p : Nat) (a b : World) : Prop := a.grownBy b (some p)
theorem OnB.refl (p : Nat) (a : World) : OnB p a a := ⟨rfl, rfl, rfl, Nat.le_refl _, fun _ _ _ => rfl⟩
theorem OnB.trans {p : Nat} {a b c : World} (h : OnB p a b) (k : OnB p b c) : OnB p a c := only_trans h k
theorem OnB.of {p : Nat} {a b : World} (k : Ext a b) : OnB p a b := ⟨k.os, k.tape, k.output, k.size, fun i hi _ => k.block i hi⟩
theorem OnB.set {p : Nat} {a b : World} (h : OnB p a b) (i : Nat) (v : Value) : OnB p a (b.setCell ⟨p, i, none⟩ v) := only_trans h (only_set v)
theorem Ext.onB {p : Nat} {w a b : World} (h : Ext w a) (k : OnB p a b) (hp : w.heap.size ≤ p) : Ext w b := below_only h k h.size hp
theorem OnB.ext {p : Nat} {a b c : World} (h : OnB p a b) (k : Ext b c) : OnB p a c := h.trans (OnB.of k)
theorem OnB.rw_ {p x m : Nat} {t : TypeId} {F : Nat → Value} {a b : World} (h : OnB p a b) (hr : RW a x t m F) (hne : x ≠ p) : RW b x t m F := RW.keep hr (h.block x hr.lt (fun e => hne (by injection e)))
theorem liftY (v : Int) (q y : Nat) (w : World) (hy : Hid (y = lif v q)) (hq0 : 0 < q) (v0 : -9223372036854775808 ≤ v) (v1 : v < 9223372036854775808) (hq : q < 18446744073709551616) :
    Calls Tryz.prog 54 #[.int .i64 v, .int .u64 (q : Int)] w fun e w' => e = .returned (.int .u64 (y : Int)) ∧ Ext w w' :=
  (liftM v q w hq0 v0 v1 hq).mono fun e w' ⟨m, hm, _, he, hk⟩ => ⟨by rw [hy.out, ← hm.out]; exact he, hk⟩
theorem far_block {w : World} {g i : Nat} {p : Addr} {u v : Value} (hp : p.block ≠ g) (hc : w.cell? p = some v) : (w.setCell ⟨g, i, none⟩ u).cell? p = some v :=
  (set_far (fun e => hp (by rw [← e]))).trans hc
/-- What lies where after k of the two stores. -/
def layF (y a0 a1 : Nat) (F : Nat → Nat) : Nat → Nat → Nat
  | 0, j => F j
  | 1, j => if j = a0 then y else F j
  | _, j => if j = a1 then y else if j = a0 then y else F j
def sheetF (T : Nat) (x y : Value) (j : Nat) : Value := if j = 0 then .int .u64 (T : Int) else if j = 1 then x else y
/-- What values are laid: the first k slots'. -/
def laidF (n T : Nat) (z : Nat → Int) (k j : Nat) : Nat := if slB n j < k then lif (z (slB n j)) T else 0
theorem laid_step {n T k : Nat} {z : Nat → Int} (hn : Sml n) (hk : k < n / 2) : ∀ j, j < n → layF (lif (z k) T) (atB n k) (n - 1 - atB n k) (laidF n T z k) 2 j = laidF n T z (k + 1) j := fun j hj => by
  have hs := sl_iff hn hk hj
  show (if j = n - 1 - atB n k then lif (z k) T else if j = atB n k then lif (z k) T else laidF n T z k j) = laidF n T z (k + 1) j
  unfold laidF
  by_cases h : slB n j = k
  · rw [if_pos (show slB n j < k + 1 by omega), h]
    rcases hs.1 h with h1 | h1
    · by_cases h2 : j = n - 1 - atB n k
      · rw [if_pos h2]
      · rw [if_neg h2, if_pos h1]
    · rw [if_pos h1]
  · have h1 : ¬ j = n - 1 - atB n k := fun e => h (hs.2 (.inr e))
    have h2 : ¬ j = atB n k := fun e => h (hs.2 (.inl e))
    rw [if_neg h1, if_neg h2]
    by_cases h3 : slB n j < k
    · rw [if_pos h3, if_pos (by omega)]
    · rw [if_neg h3, if_neg (by omega)]
end Go.Proofs.YtcnogmhkffohgaaGreatDoor

/-
  What Element of package crt answers of a row of whole numbers.
-/
namespace Go.Proofs.YtcnogmhkffohgaaGreatDoor
open Go.RowKit
set_option linter.unusedVariables false
set_option maxRecDepth 100000

/-- A row of whole numbers, wherever it was made. -/
theorem WK.onB {a b : World} {p g n k N : Nat} {s : Nat → Bool} {X : Nat → Nat} {w : World} (h : WK w g n k N s X) (e : Ext w a) (o : OnB p a b) (hp : w.heap.size ≤ p) : WK b g n k N s X := h.ext (e.onB o hp)
set_option maxHeartbeats 8000000 in
theorem Element_any (g n N L d : Nat) (s : Nat → Bool) (X : Nat → Nat) (B : Option Addr) (q : Nat → Nat) (w : World) (hW : WK w g n n N s X) (hN : N ≤ 1000) (hn0 : 0 < n) (hn : n ≤ 1000) (hB : FX w B L d q) (hq : Hid (∀ j, j < L → q j < 18446744073709551616)) (hT : Tabs w) (hR : RowC L q) :
    Calls Tryz.prog 47 #[.slice (some ⟨g, 0, none⟩) n n, .slice B L d] w fun ee w' => ∃ (G : Nat) (As : Nat → Option Addr) (F : Nat → Nat → Nat), ee = .returned (.tuple #[.agg #[.slice (some ⟨G, 0, none⟩) L L], .int .i64 0]) ∧ PM w' G L n As (fun _ => n) F ∧ Hid (∀ j, j < L → ∀ i, i < n → F j i = resF (s i) (nv (nw (X i))) (q j)) ∧ Ext w w' := by
  have HW := Lib.hid hW
  have HB := Lib.hid hB
  have HT := Lib.hid hT
  have HR := Lib.hid hR
  have hL0 := hR.1
  have hL := hR.2.1
  have HQ := Lib.hid (show ∀ j, j < L → 0 < q j ∧ q j < 18446744073709551616 from okq_lt hR)
  have hmk := make_ss L (by omega)
  have hmu := make_u64 n (by omega)
  have e0 : ((n : Int) == 0) = false := by simp; omega
  have k0 : Ext w (w.alloc (.cells #[.slice none 0 0] 36)) := (Ext.refl w).alloc _
  have hr0 : RW (w.alloc (.cells #[.slice none 0 0] 36)) w.heap.size 36 1 (fun _ => .slice none 0 0) := heap_alloc_new _ _
  clear hW hB hT hR
  go_enter Tryz.func47, Tryz.ntmps47
  go_wp2_with fail
  generalize w.alloc (.cells #[.slice none 0 0] 36) = V at *
  refine (isRow_any B L d q V (by omega) (HB.out.ext k0) hq (HT.out.ext k0)).mono ?_
  rintro e1 w1 h1
  obtain ⟨rfl, k1⟩ := tells_yes h1 HR.out
  clear h1
  replace hr0 := hr0.ext k1
  have kw1 := k0.trans k1
  have kb : Ext w1 (w1.alloc (.cells (newS L) 23)) := (Ext.refl w1).alloc _
  have hs0 := newS_rw w1 L
  go_wp2_with fail
  have hr1 := hr0.ext kb
  have kw2 := kw1.trans kb
  have hGw : w.heap.size ≤ w1.heap.size := kw1.size
  clear hmk k0 k1 hr0
  have hne : w.heap.size ≠ w1.heap.size := hr1.ne hs0 (by decide)
  generalize w1.alloc (.cells (newS L) 23) = V2 at *
  obtain ⟨G, hG⟩ : ∃ G, G = w1.heap.size := ⟨_, rfl⟩
  rw [← hG] at hs0 hGw hne ⊢
  clear hG kb kw1
  go_loopw [24] (fun iv wr => ∃ (k : Nat) (Ps : Nat → Nat) (F : Nat → Nat → Nat), k ≤ L ∧ iv = .int .i64 (k : Int) ∧ RW wr G 23 L (fun j => if j < k then .slice (some ⟨Ps j, 0, none⟩) n n else .slice none 0 0) ∧ (∀ j, j < k → UW wr (Ps j) n (F j)) ∧ RW wr w.heap.size 36 1 (fun _ => .slice none 0 0) ∧ Hid (∀ j, j < k → ∀ i, i < n → F j i = resF (s i) (nv (nw (X i))) (q j)) ∧ Ext w wr) (fun iv _ => L - (intOf iv).toNat)
  case atStart => exact ⟨0, fun _ => 0, fun _ _ => 0, by omega, rfl, hs0.congr fun j _ => by rw [if_neg (by omega)], fun j hj => by omega, hr1, Lib.hid fun j hj => by omega, kw2⟩
  case round =>
    obtain ⟨k, Ps, F, hk, rfl, hgr, hus, hrr, hF, kr⟩ := hrel
    clear hs0 hr1 kw2
    by_cases hlt : k < L
    · obtain ⟨adq, rfl, hcq⟩ := (HB.out.ext kr).cells (by omega)
      have cq := hcq k hlt
      have hql := HQ.out k hlt
      clear hcq
      obtain ⟨Q, hQ⟩ : ∃ Q, Q = q k := ⟨_, rfl⟩
      rw [← hQ] at cq hql
      have HQK := Lib.hid hQ
      clear hQ
      have i0 : (0 : Int) ≤ (k : Int) := by omega
      have i1 : (k : Int) < (L : Int) := by omega
      have ka : Ext wr (wr.alloc (.cells (newU n) 22)) := (Ext.refl wr).alloc _
      have hu0 := newU_uw wr n
      have hga := hgr.ext ka
      have hra := hrr.ext ka
      have kra := kr.trans ka
      have gcell := hga.cell hlt
      have gfro := hga.frozen k
      have glt := hga.lt
      have hwG : wr.heap.size ≠ G := by have := hgr.lt; omega
      have hwR : wr.heap.size ≠ w.heap.size := by have := hrr.lt; omega
      have hPs : ∀ j, j < k → Ps j ≠ wr.heap.size := fun j hj => by have := (hus j hj).lt; omega
      have husa := fun j hj => RW.ext (hus j hj) ka
      clear hgr hrr hus
      go_wp2_with fail
      obtain ⟨P, hP⟩ : ∃ P, P = wr.heap.size := ⟨_, rfl⟩
      rw [← hP] at hu0 hwG hwR hPs ⊢
      have hPw : w.heap.size ≤ P := by rw [hP]; exact kr.size
      have hPa : P < (wr.alloc (.cells (newU n) 22)).heap.size := RW.lt hu0
      clear hP
      have hg3 := (hga.set hlt (.slice (some ⟨P, 0, none⟩) n n)).congr (G := fun j => if j < k + 1 then .slice (some ⟨if j = k then P else Ps j, 0, none⟩) n n else .slice none 0 0) fun j hj => by
        by_cases e : j = k
        · subst e; rw [if_pos rfl, if_pos (by omega), if_pos rfl]
        · rw [if_neg e]
          by_cases e2 : j < k
          · rw [if_pos e2, if_pos (by omega), if_neg e]
          · rw [if_neg e2, if_neg (by omega)]
      have hu3 : UW ((wr.alloc (.cells (newU n) 22)).setCell ⟨G, k, none⟩ (.slice (some ⟨P, 0, none⟩) n n)) P n (fun _ => 0) := ((OnB.refl G _).set k _).rw_ hu0 hwG
      have hus3 : ∀ j, j < k → UW ((wr.alloc (.cells (newU n) 22)).setCell ⟨G, k, none⟩ (.slice (some ⟨P, 0, none⟩) n n)) (Ps j) n (F j) := fun j hj => ((OnB.refl G _).set k _).rw_ (husa j hj) (RW.ne (husa j hj) hga (by decide))
      have hr3 := ((OnB.refl G (wr.alloc (.cells (newU n) 22))).set k (.slice (some ⟨P, 0, none⟩) n n)).rw_ hra hne
      have k3 := kra.set (p := ⟨G, k, none⟩) hGw (.slice (some ⟨P, 0, none⟩) n n)
      have hP3 : P < ((wr.alloc (.cells (newU n) 22)).setCell ⟨G, k, none⟩ (.slice (some ⟨P, 0, none⟩) n n)).heap.size := RW.lt hu3
      clear hga hra husa gcell gfro glt hu0 ka kra hPa
      generalize (wr.alloc (.cells (newU n) 22)).setCell ⟨G, k, none⟩ (.slice (some ⟨P, 0, none⟩) n n) = V3 at *
      have g3 : V3.cell? ⟨G, k, none⟩ = some (.slice (some ⟨P, 0, none⟩) n n) := by rw [hg3.cell hlt, if_pos (by omega), if_pos rfl]
      have HG3 := Lib.hid hg3
      have HR3 := Lib.hid hr3
      have HUS := Lib.hid hus3
      clear hg3 hr3 hus3
      obtain ⟨R, hRd⟩ : ∃ R : Nat → Nat, R = fun i => resF (s i) (nv (nw (X i))) Q := ⟨_, rfl⟩
      have HRD := Lib.hid hRd
      clear hRd
      go_loopw [37] (fun iv wz => ∃ m : Nat, m ≤ n ∧ iv = .int .i64 (m : Int) ∧ UW wz P n (fun i => if i < m then R i else 0) ∧ OnB P V3 wz) (fun iv _ => n - (intOf iv).toNat)
      case atStart => exact ⟨0, by omega, rfl, UW.congr hu3 fun i _ => by rw [if_neg (by omega)], OnB.refl _ _⟩
      case round =>
        obtain ⟨m, hm, rfl, huz, hob⟩ := hrel
        clear hu3
        have kz : Ext w wr := k3.onB hob hPw
        by_cases hmn : m < n
        · obtain ⟨A4, m4, c4, b0, b1, hm4, hx4⟩ := (HW.out.ext kz).at hmn (Nat.le_refl _)
          have HX4 := Lib.hid hx4
          clear hx4
          have gz : wr.cell? ⟨G, k, none⟩ = some (.slice (some ⟨P, 0, none⟩) n n) := (hob.rw_ HG3.out (fun e => hwG e.symm)).cell hlt |>.trans (by rw [if_pos (by omega), if_pos rfl])
          have j0 : (0 : Int) ≤ (m : Int) := by omega
          have j1 : (m : Int) < (n : Int) := by omega
          have ka : Ext wr (wr.alloc (.cells #[.bool (s m), .slice A4 m4 c4] 54)) := (Ext.refl wr).alloc _
          have hy : RW (wr.alloc (.cells #[.bool (s m), .slice A4 m4 c4] 54)) wr.heap.size 54 2 (two (.bool (s m)) (.slice A4 m4 c4)) := heap_alloc_new _ _
          have hYP : wr.heap.size ≠ P := by have := RW.lt huz; omega
          have hua := RW.ext huz ka
          have ga := cell_ext ka gz
          go_wp2_with fail
          obtain ⟨Y, hY⟩ : ∃ Y, Y = wr.heap.size := ⟨_, rfl⟩
          rw [← hY] at hy hYP ⊢
          clear hY
          generalize wr.alloc (.cells #[.bool (s m), .slice A4 m4 c4] 54) = W at *
          have y0 : W.cell? ⟨Y, 0, none⟩ = some (.bool (s m)) := hy.cell (i := 0) (by omega)
          have y1 : W.cell? ⟨Y, 1, none⟩ = some (.slice A4 m4 c4) := hy.cell (i := 1) (by omega)
          have ne1 : (Y = P) = False := by simp; exact hYP
          have ne2 : (P = Y) = False := by simp; exact fun e => hYP e.symm
          have ne3 : (G = P) = False := by simp; exact fun e => hwG e.symm
          have ne4 : (P = G) = False := by simp; exact hwG
          have kk : Ext W W := Ext.refl W
          have HC5 := Lib.hid (show ∀ w5, Ext W w5 → w5.cell? ⟨P, m, none⟩ = some (.int .u64 0) ∧ w5.frozen? ⟨P, m, none⟩ = false ∧ P < w5.heap.size from fun w5 h => ⟨by have := RW.cell (RW.ext hua h) hmn; simpa using this, RW.frozen (RW.ext hua h) m, RW.lt (RW.ext hua h)⟩)
          have HUA := Lib.hid hua
          have HOB := Lib.hid hob
          clear b0 b1 gz hua hy hob huz
          go_region_held3 (fun w' => w'.cell? ⟨G, k, none⟩ = some (.slice (some ⟨P, 0, none⟩) n n) ∧ w'.cell? ⟨Y, 0, none⟩ = some (.bool (s m)) ∧ w'.cell? ⟨Y, 1, none⟩ = some (.slice A4 m4 c4)) (go_keep)
            (first
              | (go_at_call 84; refine (residue_any (s m) A4 m4 c4 Q (nw (X m)) _ (NX.ext HX4.out (ka.trans (by first | exact kk | exact Ext.drew kk))) (by omega) hql.1 hql.2).mono ?_; rintro e5 w5 ⟨y, hyv, hyl, rfl, k5⟩; replace kk : Ext W w5 := (by first | exact Ext.trans kk k5 | exact Ext.trans (Ext.drew kk) k5); have z0 := cell_ext kk ga; have z1 := cell_ext kk y0; have z2 := cell_ext kk y1; obtain ⟨c50, f50, s5⟩ := HC5.out _ kk)
              | fail)
          all_goals
            have kx := OnB.of (p := P) (ka.trans kk)
            have hun : UW (w5.setCell ⟨P, m, none⟩ (.int .u64 (y : Int))) P n (fun i => if i < m + 1 then R i else 0) := UW.congr (UW.set (RW.ext HUA.out kk) hmn y) fun i hi => by
              by_cases e : i = m
              · subst e; rw [if_pos rfl, if_pos (by omega), HRD.out, hyv.out]
              · rw [if_neg e]
                by_cases e2 : i < m
                · rw [if_pos e2, if_pos (by omega)]
                · rw [if_neg e2, if_neg (by omega)]
            have hon := (HOB.out.trans kx).set m (.int .u64 (y : Int))
            generalize w5.setCell ⟨P, m, none⟩ (.int .u64 (y : Int)) = w6 at *
            clear z0 z1 z2 c50 f50 s5
            go_wp2
            exact ⟨⟨m + 1, by omega, by go_num, hun, hon⟩, by simp [intOf]; omega⟩
        · obtain rfl : m = n := by omega
          have hgz := hob.rw_ HG3.out (fun e => hwG e.symm)
          have hrz := hob.rw_ HR3.out (fun e => hwR e.symm)
          have hfu : UW wr P m (fun i => resF (s i) (nv (nw (X i))) (q k)) := UW.congr huz fun i hi => by rw [if_pos hi, HRD.out, HQK.out]
          have husz : ∀ j, j < k → UW wr (Ps j) m (F j) := fun j hj => hob.rw_ (HUS.out j hj) (hPs j hj)
          have hall : ∀ j, j < k + 1 → UW wr (if j = k then P else Ps j) m (if j = k then (fun i => resF (s i) (nv (nw (X i))) (q k)) else F j) := fun j hj => by
            by_cases e : j = k
            · rw [if_pos e, if_pos e]; exact hfu
            · rw [if_neg e, if_neg e]; exact husz j (by omega)
          have HF2 := Lib.hid (show ∀ j, j < k + 1 → ∀ i, i < m → (if j = k then (fun i => resF (s i) (nv (nw (X i))) (q k)) else F j) i = resF (s i) (nv (nw (X i))) (q j) from fun j hj i hi => by
            by_cases e : j = k
            · rw [if_pos e, e]
            · rw [if_neg e]; exact hF.out j (by omega) i hi)
          clear huz hfu husz
          go_wp2
          exact ⟨⟨k + 1, fun j => if j = k then P else Ps j, fun j => if j = k then (fun i => resF (s i) (nv (nw (X i))) (q k)) else F j, by omega, by go_num, hgz, hall, hrz, HF2, kz⟩, by simp [intOf]; omega⟩
    · obtain rfl : k = L := by omega
      have hpm : PM wr G k n (fun j => some ⟨Ps j, 0, none⟩) (fun _ => n) F := ⟨hgr.congr fun j hj => by rw [if_pos hj], fun j hj => UW.fx (hus j hj)⟩
      have c0 := hrr.cell (i := 0) (by omega)
      have z0 := hrr.frozen 0
      have hsz := hrr.lt
      clear hgr hus
      go_wp2_with fail
      have d0 := ret_cell hrr (.slice (some ⟨G, 0, none⟩) k k)
      have d1 := kr.set (p := ⟨w.heap.size, 0, none⟩) (Nat.le_refl _) (.slice (some ⟨G, 0, none⟩) k k)
      have d2 := hpm.aside hrr rfl (.slice (some ⟨G, 0, none⟩) k k)
      generalize wr.setCell ⟨w.heap.size, 0, none⟩ (.slice (some ⟨G, 0, none⟩) k k) = w5 at *
      exact bodyPost_ret (v := .tuple #[.agg #[.slice (some ⟨G, 0, none⟩) k k], .int .i64 0]) (by simp [results, Tryz.results47, go_sem, d0]) rfl ⟨G, _, F, rfl, d2, hF, d1⟩
end Go.Proofs.YtcnogmhkffohgaaGreatDoor
