import Derived.Test.YtjikdbcjabopnaaDoorZ22
import Derived.Test.YtjikdbcjabopnaaDoorZ21
import Derived.Deep.QuietTactic
import Derived.BigQuiet
import Derived.Test.YtjikdbcjabopnaaDoorZNLaw
import Derived.Test.YtjikdbcjabopnaaDoorZTOpen
namespace Go.Proofs.YtjikdbcjabopnaaDoor
open Go.RowKit
set_option linter.unusedVariables false
set_option maxRecDepth 100000
theorem prodF_lt {f : Nat → Nat} : ∀ k, (∀ j, j < k → f j < 18446744073709551616) → prodF f k < W64 ^ (k + 1)
 | 0, _ => by rw [prodF, Nat.zero_add, Nat.pow_one, W64_eq]; omega
 | k + 1, h => by
  have ih := prodF_lt k (fun j hj => h j (by omega))
  rw [prodF, Nat.pow_succ W64 (k + 1), Nat.mul_comm (W64 ^ (k + 1))]
  exact Nat.mul_lt_mul'' (by rw [W64_eq]; exact h k (by omega)) ih
theorem prodF_pos {f : Nat → Nat} : ∀ k, (∀ j, j < k → 0 < f j) → 0 < prodF f k
 | 0, _ => by rw [prodF]; omega
 | k + 1, h => by
  rw [prodF]
  exact Nat.mul_pos (h k (by omega)) (prodF_pos k (fun j hj => h j (by omega)))
theorem NX.len_le {w : World} {A : Option Addr} {n c X k : Nat} (h : NX w A n c (nw X)) (hX : X < W64 ^ k) : n ≤ k := by
 have h1 := h.len
 have h2 := dg_len_le W64_two hX
 rw [← h1]; exact h2
def ModPost (w : World) (P : Prop) (L : Nat) (l : Int) (f : Nat → Nat) (ee : Ending) (w' : World) : Prop :=
 (¬ P ∧ ee = .returned (.tuple #[.slice none 0 0, .int .i64 8]) ∧ Ext w w') ∨
 (P ∧ ¬ (0 ≤ l ∧ l < L) ∧ ee = .returned (.tuple #[.slice none 0 0, .int .i64 10]) ∧ Ext w w') ∨
 (P ∧ (0 ≤ l ∧ l < L) ∧ ∃ A n c, ee = .returned (.tuple #[.slice A n c, .int .i64 0]) ∧ n ≤ 9 ∧ NX w' A n c (nw (prodF f (l.toNat + 1))) ∧ Ext w w')
set_option maxHeartbeats 4000000 in
theorem modulus_any (N : Int) (T : Nat) (W : Int) (A : Option Addr) (L c : Nat) (f : Nat → Nat) (l : Int) (w : World) (n0 : -9223372036854775808 ≤ N) (n1 : N < 9223372036854775808) (l0 : -9223372036854775808 ≤ l) (l1 : l < 9223372036854775808) (hTl : T < 18446744073709551616) (hL : L ≤ 1000000000000000) (hX : FX w A L c f) (hf : Hid (∀ j, j < L → f j < 18446744073709551616)) (hT : Tabs w) :
    Calls Tryd.prog 48 #[.agg #[.int .i64 N, .int .u64 (T : Int), .slice A L c, .int .i64 W], .int .i64 l] w (ModPost w (ParP N T L f W) L l f) := by
 have HT := Lib.hid hT
 have HX := Lib.hid hX
 have hroom := hX.room
 clear hT hX
 have kV : Ext w (w.alloc (.cells #[.int .i64 N, .int .u64 (T : Int), .slice A L c, .int .i64 W] 25)) := (Ext.refl w).alloc _
 obtain ⟨x0, x1, x2, x3⟩ := four_at w (.int .i64 N) (.int .u64 (T : Int)) (.slice A L c) (.int .i64 W) 25
 go_enter Tryd.func48, Tryd.ntmps48
 go_wp2_with fail
 generalize w.alloc (.cells #[.int .i64 N, .int .u64 (T : Int), .slice A L c, .int .i64 W] 25) = V at *
 refine (check_any N T W A L c f V n0 n1 hTl hL (HX.out.ext kV) hf (HT.out.ext kV)).mono ?_
 rintro ee w1 (⟨hy, rfl, k1⟩ | ⟨hy, rfl, k1⟩)
 case inr =>
  have H := Lib.hid hy
  clear hy
  go_wp2
  go_ret2
  exact .inl ⟨H.out, rfl, kV.trans k1⟩
 have HP := Lib.hid hy
 have hL8 : L ≤ 8 := (hy 3 (by omega)).2
 have hL1 : 1 ≤ L := (hy 3 (by omega)).1
 clear hy
 have kw := kV.trans k1
 have y0 := cell_ext k1 x0
 have y1 := cell_ext k1 x1
 have y2 := cell_ext k1 x2
 have y3 := cell_ext k1 x3
 clear x0 x1 x2 x3
 by_cases h0 : l < 0
 ·have e0 : decide (l < 0) = true := by simp; omega
  have HN := Lib.hid (show ¬ (0 ≤ l ∧ l < (L : Int)) by omega)
  clear h0
  go_wp2
  go_ret2
  exact .inr (.inl ⟨HP.out, HN.out, rfl, kw⟩)
 have e0 : decide (l < 0) = false := by simp; omega
 have e0b : (l < 0) = False := by simp; omega
 have H0 := Lib.hid h0
 clear h0
 go_wp2_with fail
 refine (top_any N (T : Int) W A L c w1 (by omega)).mono ?_
 rintro ee w2 ⟨rfl, k2⟩
 have z2 := cell_ext k2 y2
 by_cases h1 : (L : Int) - 1 < l
 ·have e1 : decide ((L : Int) - 1 < l) = true := by simp; omega
  have HN := Lib.hid (show ¬ (0 ≤ l ∧ l < (L : Int)) by omega)
  clear h1
  go_wp2
  go_ret2
  exact .inr (.inl ⟨HP.out, HN.out, rfl, kw.trans k2⟩)
 have e1 : decide ((L : Int) - 1 < l) = false := by simp; omega
 have HN := Lib.hid (show (0 ≤ l ∧ l < (L : Int)) by have := H0.out; omega)
 obtain ⟨m, rfl⟩ := Int.eq_ofNat_of_zero_le (show 0 ≤ l by have := H0.out; omega)
 have hm : m + 1 ≤ L := by omega
 clear h1
 have i0 : (0 : Int) ≤ (m : Int) + 1 := by omega
 have i1 : (m : Int) + 1 ≤ (c : Int) := by omega
 have i2 : (m : Int) + 1 ≤ (L : Int) := by omega
 have HXm := Lib.hid ((HX.out.ext (kw.trans k2)).cut hm)
 obtain ⟨ad, rfl, _⟩ := HXm.out.cells (by omega)
 go_wp2_with fail
 have hP := Product_any (some ad) (m + 1) c f w2 (by omega) HXm.out (Lib.hid fun j hj => hf.out j (by omega))
 refine hP.mono ?_
 rintro ee w3 ⟨A3, n3, c3, rfl, hn3, hx3, k3⟩
 have H3 := Lib.hid hx3
 clear hx3 hP
 go_wp2
 go_ret2
 exact .inr (.inr ⟨HP.out, HN.out, A3, n3, c3, rfl, by omega, H3.out, kw.trans (k2.trans k3)⟩)
def StepPost (w : World) (P : Prop) (T L : Nat) (l : Int) (f : Nat → Nat) (ee : Ending) (w' : World) : Prop :=
 (¬ P ∧ ee = .returned (.tuple #[.slice none 0 0, .int .u64 0, .int .i64 8]) ∧ Ext w w') ∨
 (P ∧ ¬ (0 ≤ l ∧ l < L) ∧ ee = .returned (.tuple #[.slice none 0 0, .int .u64 0, .int .i64 10]) ∧ Ext w w') ∨
 (P ∧ (0 ≤ l ∧ l < L) ∧ ∃ A n c, ∃ r : Nat, Hid (r = prodF f (l.toNat + 1) % T) ∧ r < T ∧ ee = .returned (.tuple #[.slice A n c, .int .u64 (r : Int), .int .i64 0]) ∧ n ≤ 10 ∧ NX w' A n c (nw (prodF f (l.toNat + 1) / T)) ∧ Ext w w')
theorem ParP.T2 {N : Int} {T L : Nat} {f : Nat → Nat} {W : Int} (h : ParP N T L f W) : 2 ≤ T := isS_ge (h 2 (by omega)).2.2
set_option maxHeartbeats 4000000 in
theorem step_any (N : Int) (T : Nat) (W : Int) (A : Option Addr) (L c : Nat) (f : Nat → Nat) (l : Int) (w : World) (n0 : -9223372036854775808 ≤ N) (n1 : N < 9223372036854775808) (l0 : -9223372036854775808 ≤ l) (l1 : l < 9223372036854775808) (hTl : T < 18446744073709551616) (hL : L ≤ 1000000000000000) (hX : FX w A L c f) (hf : Hid (∀ j, j < L → f j < 18446744073709551616)) (hT : Tabs w) :
    Calls Tryd.prog 37 #[.agg #[.int .i64 N, .int .u64 (T : Int), .slice A L c, .int .i64 W], .int .i64 l] w (StepPost w (ParP N T L f W) T L l f) := by
 have HT := Lib.hid hT
 have HX := Lib.hid hX
 clear hT hX
 have kV : Ext w (w.alloc (.cells #[.int .i64 N, .int .u64 (T : Int), .slice A L c, .int .i64 W] 25)) := (Ext.refl w).alloc _
 obtain ⟨x0, x1, x2, x3⟩ := four_at w (.int .i64 N) (.int .u64 (T : Int)) (.slice A L c) (.int .i64 W) 25
 go_enter Tryd.func37, Tryd.ntmps37
 go_wp2_with fail
 generalize w.alloc (.cells #[.int .i64 N, .int .u64 (T : Int), .slice A L c, .int .i64 W] 25) = V at *
 refine (modulus_any N T W A L c f l V n0 n1 l0 l1 hTl hL (HX.out.ext kV) hf (HT.out.ext kV)).mono ?_
 rintro ee w1 (⟨hy, rfl, k1⟩ | ⟨hy, hl, rfl, k1⟩ | ⟨hy, hl, A1, n1', c1, rfl, hn1, hx1, k1⟩)
 ·have H := Lib.hid hy
  clear hy
  go_wp2
  go_ret3
  exact .inl ⟨H.out, rfl, kV.trans k1⟩
 ·have H := Lib.hid (And.intro hy hl)
  clear hy hl
  go_wp2
  go_ret3
  exact .inr (.inl ⟨H.out.1, H.out.2, rfl, kV.trans k1⟩)
 have hT2 := hy.T2
 have H := Lib.hid (And.intro hy hl)
 have H1 := Lib.hid hx1
 clear hy hl hx1
 have kw := kV.trans k1
 have y1 := cell_ext k1 x1
 clear x0 x1 x2 x3
 go_wp2_with fail
 refine (ofF_any T w1 hTl).mono ?_
 rintro ee w2 ⟨A2, n2, c2, rfl, hn2, hx2, k2', _⟩
 have k2 : Ext w1 w2 := k2'
 have H2 := Lib.hid (show NX w2 A2 n2 c2 (nw T) from hx2)
 clear hx2 k2'
 go_wp2_with fail
 refine (divX (NX.ext H1.out k2) H2.out (by omega) (by omega)).mono ?_
 rw [nv_nw, nv_nw]
 rintro ee w3 (⟨h0, _⟩ | ⟨_, A3, n3, c3, A4, n4, c4, rfl, hn3, hn4, hx3, hx4, k3'⟩)
 ·omega
 have k3 : Ext w2 w3 := k3'
 have H3 := Lib.hid (show NX w3 A3 n3 c3 _ from hx3)
 clear hx3 hx4 k3'
 have z1 := cell_ext (k2.trans k3) y1
 go_wp2_with fail
 refine (modM A1 n1' c1 T _ w3 (NX.ext H1.out (k2.trans k3)) (by omega) (by omega) hTl).mono ?_
 rw [nv_nw]
 rintro ee w4 ⟨r, hr, hrl, rfl, k4⟩
 go_wp2
 go_ret3
 exact .inr (.inr ⟨H.out.1, H.out.2, A3, n3, c3, r, hr, hrl, rfl, by omega, NX.ext H3.out k4, kw.trans (k2.trans (k3.trans k4))⟩)
open Go.ChangeShapes Go.WideShapes Go.ChangeAt Go.RowKit Go.Joins
structure PA (W : World) (N : Int) (T : Nat) (A : Option Addr) (L c : Nat) (Wd : Int) (f : Nat → Nat) : Prop where
 n0 : -9223372036854775808 ≤ N
 n1 : N < 9223372036854775808
 t1 : T < 18446744073709551616
 w0 : -9223372036854775808 ≤ Wd
 w1 : Wd < 9223372036854775808
 fx : FX W A L c f
 len : L ≤ 9223372036854775807
 words : ∀ j, j < L → f j < 18446744073709551616
theorem PA.ext {w w' : World} {N : Int} {T : Nat} {A : Option Addr} {L c : Nat} {Wd : Int} {f : Nat → Nat} (h : PA w N T A L c Wd f) (k : Ext w w') : PA w' N T A L c Wd f := ⟨h.n0, h.n1, h.t1, h.w0, h.w1, h.fx.ext k, h.len, h.words⟩
section
variable {H : Type} {enc : TypeId × Value → H}
theorem c_par : Tryd.prog.cellsOf 25 = 4 := by kernel_rfl
theorem params_open {W : World} {r : Reach} {b0 : Nat} {v : Value} {d : DataW H} {p : List MemPlace} (hv : Value.okWide Tryd.prog W r b0 25 v) (h : DataW.Trod enc Tryd.prog W 0 (fun _ => true) true 25 v d p) :
    ∃ N T A L c Wd f, v = .agg #[.int .i64 N, .int .u64 (T : Nat), .slice A L c, .int .i64 Wd] ∧ PA W N T A L c Wd f := by
 obtain ⟨cs, rfl, hsz⟩ := okWide_struct Tryd.underlying25 hv
 obtain ⟨fuel, hf⟩ := h
 obtain ⟨xs, n, _, _, hl, hlen, hx⟩ := DataW.trod_struct Tryd.underlying25 hf
 have hs := hsz.trans c_par
 obtain ⟨c0, c1, c2, c3, rfl⟩ : ∃ c0 c1 c2 c3, cs = #[c0, c1, c2, c3] := by
  match cs, hs with
  | ⟨[c0, c1, c2, c3]⟩, _ => exact ⟨c0, c1, c2, c3, rfl⟩
 have ei : Tryd.prog.cellsOf 3 = 1 := by kernel_rfl
 have eu : Tryd.prog.cellsOf 22 = 1 := by kernel_rfl
 have es : Tryd.prog.cellsOf 23 = 1 := by kernel_rfl
 match xs, hlen with
 | [y0, y1, y2, y3], _ =>
  have h0 : DataW.trod enc Tryd.prog W 0 (fun _ => true) true n 3 [c0] = some y0 := by
   have h1 := hx 0 _ rfl
   simpa [Value.cells, ei, eu, es] using h1
  have h1 : DataW.trod enc Tryd.prog W 0 (fun _ => true) true n 22 [c1] = some y1 := by
   have h1 := hx 1 _ rfl
   simpa [Value.cells, ei, eu, es] using h1
  have h2 : DataW.trod enc Tryd.prog W 0 (fun _ => true) true n 23 [c2] = some y2 := by
   have h1 := hx 2 _ rfl
   simpa [Value.cells, ei, eu, es] using h1
  have h3 : DataW.trod enc Tryd.prog W 0 (fun _ => true) true n 3 [c3] = some y3 := by
   have h1 := hx 3 _ rfl
   simpa [Value.cells, ei, eu, es] using h1
  obtain ⟨N, e0, _, w0⟩ := DataW.trod_int Tryd.underlying3 h0
  obtain ⟨T, e1, _, w1⟩ := DataW.trod_int Tryd.underlying22 h1
  obtain ⟨Wd, e3, _, w3⟩ := DataW.trod_int Tryd.underlying3 h3
  obtain ⟨A, L, c, f, e2, hfx, hm, hw⟩ := words_cells h2
  simp at e0 e1 e2 e3
  subst e0 e1 e2 e3
  obtain ⟨a0, a1⟩ := long_of w0
  obtain ⟨t0, t1⟩ := word_of w1
  obtain ⟨b0, b1⟩ := long_of w3
  obtain ⟨T, rfl⟩ := Int.eq_ofNat_of_zero_le t0
  exact ⟨N, T, A, L, c, Wd, f, rfl, a0, a1, by omega, b0, b1, hfx, by have : maxLen = 9223372036854775807 := by decide
                                                                      omega, hw⟩
end
def fixQ (i : Nat) : Nat := if i = 0 then 97 else 193
theorem par_fix : ParP 8 17 2 fixQ 2 := fun k hk => by
 rcases (show k = 0 ∨ k = 1 ∨ k = 2 ∨ k = 3 ∨ k = 4 ∨ k = 5 by omega) with rfl | rfl | rfl | rfl | rfl | rfl
 ·exact ⟨by decide, by decide, by decide +kernel⟩
 ·exact ⟨by decide, by decide⟩
 ·exact ⟨by decide, by decide +kernel, by decide +kernel⟩
 ·exact ⟨by decide, by decide⟩
 ·intro j hj
  rcases (show j = 0 ∨ j = 1 by omega) with rfl | rfl
  ·exact ⟨by decide, by decide, fun i hi => by omega, by decide +kernel, by decide +kernel⟩
  ·exact ⟨by decide, by decide, fun i hi => by (obtain rfl : i = 0 := by omega); decide, by decide +kernel, by decide +kernel⟩
 ·show Go.bitLen (prodF fixQ 2) ≤ rowS 8
  rw [show prodF fixQ 2 = 18721 by decide, show rowS 8 = 420 by decide]
  decide +kernel
theorem nx_one (w : World) (g : Nat) (hg : g = w.heap.size) (x : Nat) (h0 : 0 < x) (hx : x < 18446744073709551616) : NX (w.alloc (.cells #[.int .u64 (x : Int)] 22)) (some ⟨g, 0, none⟩) 1 1 (nw x) := by
 rw [nw_one h0 hx]; exact NXN.one w g hg (x : Int) x rfl hx
theorem sameY {A A' : Option Addr} {n n' c c' X : Nat} {w : World} (h : NX w A n c (nw X)) (h' : NX w A' n' c' (nw X)) (hn : n ≤ 100000) (hn' : n' ≤ 100000) :
    Calls Tryd.prog 14 #[.slice A n c, .slice A' n' c'] w fun e w' => e = .returned (.bool true) ∧ Ext w w' :=
 (sameX h h' hn hn').mono fun e w' ⟨he, hw⟩ => ⟨by rw [he, decide_eq_true rfl], hw⟩
end Go.Proofs.YtjikdbcjabopnaaDoor
