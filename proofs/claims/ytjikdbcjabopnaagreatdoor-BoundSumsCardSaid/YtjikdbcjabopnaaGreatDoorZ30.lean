import Derived.Test.YtjikdbcjabopnaaGreatDoorZ28
import Derived.Test.YtjikdbcjabopnaaGreatDoorZ29
import Derived.Test.YtjikdbcjabopnaaGreatDoorZTOpen
import Derived.Test.YtjikdbcjabopnaaGreatDoorZ24
namespace Go.Proofs.YtjikdbcjabopnaaGreatDoor
open Go.RowKit
set_option linter.unusedVariables false
set_option maxRecDepth 100000
theorem prodF_lt {f : Nat → Nat} : ∀ k, (∀ j, j < k → f j < 18446744073709551616) → prodF f k < W64 ^ (k + 1)
 | 0, _ => by rw [prodF, Nat.zero_add, Nat.pow_one, W64_eq]; omega
 | k + 1, h => by
  have ih := prodF_lt k (fun j hj => h j (by omega))
  rw [prodF, Nat.pow_succ W64 (k + 1), Nat.mul_comm (W64 ^ (k + 1))]
  exact Nat.mul_lt_mul'' (by rw [W64_eq]; exact h k (by omega)) ih
theorem prodF_pos {f : Nat → Nat} : ∀ k, (∀ j, j < k → 0 < f j) → 0 < prodF f k
 | 0, _ => by rw [prodF]; omega
 | k + 1, h => by
  rw [prodF]
  exact Nat.mul_pos (h k (by omega)) (prodF_pos k (fun j hj => h j (by omega)))
theorem NX.len_le {w : World} {A : Option Addr} {n c X k : Nat} (h : NX w A n c (nw X)) (hX : X < W64 ^ k) : n ≤ k := by
 have h1 := h.len
 have h2 := dg_len_le W64_two hX
 rw [← h1]; exact h2
def ModPost (w : World) (P : Prop) (L : Nat) (l : Int) (f : Nat → Nat) (ee : Ending) (w' : World) : Prop :=
 (¬ P ∧ ee = .returned (.tuple #[.slice none 0 0, .int .i64 8]) ∧ Ext w w') ∨
 (P ∧ ¬ (0 ≤ l ∧ l < L) ∧ ee = .returned (.tuple #[.slice none 0 0, .int .i64 10]) ∧ Ext w w') ∨
 (P ∧ (0 ≤ l ∧ l < L) ∧ ∃ A n c, ee = .returned (.tuple #[.slice A n c, .int .i64 0]) ∧ n ≤ 9 ∧ NX w' A n c (nw (prodF f (l.toNat + 1))) ∧ Ext w w')
set_option maxHeartbeats 4000000 in
theorem modulus_any (N : Int) (T : Nat) (W : Int) (A : Option Addr) (L c : Nat) (f : Nat → Nat) (l : Int) (w : World) (n0 : -9223372036854775808 ≤ N) (n1 : N < 9223372036854775808) (l0 : -9223372036854775808 ≤ l) (l1 : l < 9223372036854775808) (hTl : T < 18446744073709551616) (hL : L ≤ 1000000000000000) (hX : FX w A L c f) (hf : Hid (∀ j, j < L → f j < 18446744073709551616)) (hT : Tabs w) :
    Calls Tryz.prog 188 #[.agg #[.int .i64 N, .int .u64 (T : Int), .slice A L c, .int .i64 W], .int .i64 l] w (ModPost w (ParP N T L f W) L l f) := by
 have HT := Lib.hid hT
 have HX := Lib.hid hX
 have hroom := hX.room
 clear hT hX
 have kV : Ext w (w.alloc (.cells #[.int .i64 N, .int .u64 (T : Int), .slice A L c, .int .i64 W] 25)) := (Ext.refl w).alloc _
 obtain ⟨x0, x1, x2, x3⟩ := four_at w (.int .i64 N) (.int .u64 (T : Int)) (.slice A L c) (.int .i64 W) 25
 go_enter Tryz.func188, Tryz.ntmps188
 go_wp2_with fail
 generalize w.alloc (.cells #[.int .i64 N, .int .u64 (T : Int), .slice A L c, .int .i64 W] 25) = V at *
 refine (check_any N T W A L c f V n0 n1 hTl hL (HX.out.ext kV) hf (HT.out.ext kV)).mono ?_
 rintro ee w1 (⟨hy, rfl, k1⟩ | ⟨hy, rfl, k1⟩)
 case inr =>
  have H := Lib.hid hy
  clear hy
  go_wp2
  go_ret2
  exact .inl ⟨H.out, rfl, kV.trans k1⟩
 have HP := Lib.hid hy
 have hL8 : L ≤ 8 := (hy 3 (by omega)).2
 have hL1 : 1 ≤ L := (hy 3 (by omega)).1
 clear hy
 have kw := kV.trans k1
 have y0 := cell_ext k1 x0
 have y1 := cell_ext k1 x1
 have y2 := cell_ext k1 x2
 have y3 := cell_ext k1 x3
 clear x0 x1 x2 x3
 by_cases h0 : l < 0
 ·have e0 : decide (l < 0) = true := by simp; omega
  have HN := Lib.hid (show ¬ (0 ≤ l ∧ l < (L : Int)) by omega)
  clear h0
  go_wp2
  go_ret2
  exact .inr (.inl ⟨HP.out, HN.out, rfl, kw⟩)
 have e0 : decide (l < 0) = false := by simp; omega
 have e0b : (l < 0) = False := by simp; omega
 have H0 := Lib.hid h0
 clear h0
 go_wp2_with fail
 refine (top_any N (T : Int) W A L c w1 (by omega)).mono ?_
 rintro ee w2 ⟨rfl, k2⟩
 have z2 := cell_ext k2 y2
 by_cases h1 : (L : Int) - 1 < l
 ·have e1 : decide ((L : Int) - 1 < l) = true := by simp; omega
  have HN := Lib.hid (show ¬ (0 ≤ l ∧ l < (L : Int)) by omega)
  clear h1
  go_wp2
  go_ret2
  exact .inr (.inl ⟨HP.out, HN.out, rfl, kw.trans k2⟩)
 have e1 : decide ((L : Int) - 1 < l) = false := by simp; omega
 have HN := Lib.hid (show (0 ≤ l ∧ l < (L : Int)) by have := H0.out; omega)
 obtain ⟨m, rfl⟩ := Int.eq_ofNat_of_zero_le (show 0 ≤ l by have := H0.out; omega)
 have hm : m + 1 ≤ L := by omega
 clear h1
 have i0 : (0 : Int) ≤ (m : Int) + 1 := by omega
 have i1 : (m : Int) + 1 ≤ (c : Int) := by omega
 have i2 : (m : Int) + 1 ≤ (L : Int) := by omega
 have HXm := Lib.hid ((HX.out.ext (kw.trans k2)).cut hm)
 obtain ⟨ad, rfl, _⟩ := HXm.out.cells (by omega)
 go_wp2_with fail
 have hP := Product_any (some ad) (m + 1) c f w2 (by omega) HXm.out (Lib.hid fun j hj => hf.out j (by omega))
 refine hP.mono ?_
 rintro ee w3 ⟨A3, n3, c3, rfl, hn3, hx3, k3⟩
 have H3 := Lib.hid hx3
 clear hx3 hP
 go_wp2
 go_ret2
 exact .inr (.inr ⟨HP.out, HN.out, A3, n3, c3, rfl, by omega, H3.out, kw.trans (k2.trans k3)⟩)
def StepPost (w : World) (P : Prop) (T L : Nat) (l : Int) (f : Nat → Nat) (ee : Ending) (w' : World) : Prop :=
 (¬ P ∧ ee = .returned (.tuple #[.slice none 0 0, .int .u64 0, .int .i64 8]) ∧ Ext w w') ∨
 (P ∧ ¬ (0 ≤ l ∧ l < L) ∧ ee = .returned (.tuple #[.slice none 0 0, .int .u64 0, .int .i64 10]) ∧ Ext w w') ∨
 (P ∧ (0 ≤ l ∧ l < L) ∧ ∃ A n c, ∃ r : Nat, Hid (r = prodF f (l.toNat + 1) % T) ∧ r < T ∧ ee = .returned (.tuple #[.slice A n c, .int .u64 (r : Int), .int .i64 0]) ∧ n ≤ 10 ∧ NX w' A n c (nw (prodF f (l.toNat + 1) / T)) ∧ Ext w w')
theorem ParP.T2 {N : Int} {T L : Nat} {f : Nat → Nat} {W : Int} (h : ParP N T L f W) : 2 ≤ T := isS_ge (h 2 (by omega)).2.2
set_option maxHeartbeats 4000000 in
theorem step_any (N : Int) (T : Nat) (W : Int) (A : Option Addr) (L c : Nat) (f : Nat → Nat) (l : Int) (w : World) (n0 : -9223372036854775808 ≤ N) (n1 : N < 9223372036854775808) (l0 : -9223372036854775808 ≤ l) (l1 : l < 9223372036854775808) (hTl : T < 18446744073709551616) (hL : L ≤ 1000000000000000) (hX : FX w A L c f) (hf : Hid (∀ j, j < L → f j < 18446744073709551616)) (hT : Tabs w) :
    Calls Tryz.prog 122 #[.agg #[.int .i64 N, .int .u64 (T : Int), .slice A L c, .int .i64 W], .int .i64 l] w (StepPost w (ParP N T L f W) T L l f) := by
 have HT := Lib.hid hT
 have HX := Lib.hid hX
 clear hT hX
 have kV : Ext w (w.alloc (.cells #[.int .i64 N, .int .u64 (T : Int), .slice A L c, .int .i64 W] 25)) := (Ext.refl w).alloc _
 obtain ⟨x0, x1, x2, x3⟩ := four_at w (.int .i64 N) (.int .u64 (T : Int)) (.slice A L c) (.int .i64 W) 25
 go_enter Tryz.func122, Tryz.ntmps122
 go_wp2_with fail
 generalize w.alloc (.cells #[.int .i64 N, .int .u64 (T : Int), .slice A L c, .int .i64 W] 25) = V at *
 refine (modulus_any N T W A L c f l V n0 n1 l0 l1 hTl hL (HX.out.ext kV) hf (HT.out.ext kV)).mono ?_
 rintro ee w1 (⟨hy, rfl, k1⟩ | ⟨hy, hl, rfl, k1⟩ | ⟨hy, hl, A1, n1', c1, rfl, hn1, hx1, k1⟩)
 ·have H := Lib.hid hy
  clear hy
  go_wp2
  go_ret3
  exact .inl ⟨H.out, rfl, kV.trans k1⟩
 ·have H := Lib.hid (And.intro hy hl)
  clear hy hl
  go_wp2
  go_ret3
  exact .inr (.inl ⟨H.out.1, H.out.2, rfl, kV.trans k1⟩)
 have hT2 := hy.T2
 have H := Lib.hid (And.intro hy hl)
 have H1 := Lib.hid hx1
 clear hy hl hx1
 have kw := kV.trans k1
 have y1 := cell_ext k1 x1
 clear x0 x1 x2 x3
 go_wp2_with fail
 refine (ofF_any T w1 hTl).mono ?_
 rintro ee w2 ⟨A2, n2, c2, rfl, hn2, hx2, k2', _⟩
 have k2 : Ext w1 w2 := k2'
 have H2 := Lib.hid (show NX w2 A2 n2 c2 (nw T) from hx2)
 clear hx2 k2'
 go_wp2_with fail
 refine (divX (NX.ext H1.out k2) H2.out (by omega) (by omega)).mono ?_
 rw [nv_nw, nv_nw]
 rintro ee w3 (⟨h0, _⟩ | ⟨_, A3, n3, c3, A4, n4, c4, rfl, hn3, hn4, hx3, hx4, k3'⟩)
 ·omega
 have k3 : Ext w2 w3 := k3'
 have H3 := Lib.hid (show NX w3 A3 n3 c3 _ from hx3)
 clear hx3 hx4 k3'
 have z1 := cell_ext (k2.trans k3) y1
 go_wp2_with fail
 refine (modM A1 n1' c1 T _ w3 (NX.ext H1.out (k2.trans k3)) (by omega) (by omega) hTl).mono ?_
 rw [nv_nw]
 rintro ee w4 ⟨r, hr, hrl, rfl, k4⟩
 go_wp2
 go_ret3
 exact .inr (.inr ⟨H.out.1, H.out.2, A3, n3, c3, r, hr, hrl, rfl, by omega, NX.ext H3.out k4, kw.trans (k2.trans (k3.trans k4))⟩)
open Go.ChangeShapes Go.WideShapes Go.ChangeAt Go.RowKit Go.Joins
structure PA (W : World) (N : Int) (T : Nat) (A : Option Addr) (L c : Nat) (Wd : Int) (f : Nat → Nat) : Prop where
 n0 : -9223372036854775808 ≤ N
 n1 : N < 9223372036854775808
 t1 : T < 18446744073709551616
 w0 : -9223372036854775808 ≤ Wd
 w1 : Wd < 9223372036854775808
 fx : FX W A L c f
 len : L ≤ 9223372036854775807
 words : ∀ j, j < L → f j < 18446744073709551616
theorem PA.ext {w w' : World} {N : Int} {T : Nat} {A : Option Addr} {L c : Nat} {Wd : Int} {f : Nat → Nat} (h : PA w N T A L c Wd f) (k : Ext w w') : PA w' N T A L c Wd f := ⟨h.n0, h.n1, h.t1, h.w0, h.w1, h.fx.ext k, h.len, h.words⟩
section
variable {H : Type} {enc : TypeId × Value → H}
theorem c_par : Tryz.prog.cellsOf 25 = 4 := by kernel_rfl
theorem params_open {W : World} {r : Reach} {b0 : Nat} {v : Value} {d : DataW H} {p : List MemPlace} (hv : Value.okWide Tryz.prog W r b0 25 v) (h : DataW.Trod enc Tryz.prog W 0 (fun _ => true) true 25 v d p) :
    ∃ N T A L c Wd f, v = .agg #[.int .i64 N, .int .u64 (T : Nat), .slice A L c, .int .i64 Wd] ∧ PA W N T A L c Wd f := by
 obtain ⟨cs, rfl, hsz⟩ := okWide_struct Tryz.underlying25 hv
 obtain ⟨fuel, hf⟩ := h
 obtain ⟨xs, n, _, _, hl, hlen, hx⟩ := DataW.trod_struct Tryz.underlying25 hf
 have hs := hsz.trans c_par
 obtain ⟨c0, c1, c2, c3, rfl⟩ : ∃ c0 c1 c2 c3, cs = #[c0, c1, c2, c3] := by
  match cs, hs with
  | ⟨[c0, c1, c2, c3]⟩, _ => exact ⟨c0, c1, c2, c3, rfl⟩
 have ei : Tryz.prog.cellsOf 3 = 1 := by kernel_rfl
 have eu : Tryz.prog.cellsOf 22 = 1 := by kernel_rfl
 have es : Tryz.prog.cellsOf 23 = 1 := by kernel_rfl
 match xs, hlen with
 | [y0, y1, y2, y3], _ =>
  have h0 : DataW.trod enc Tryz.prog W 0 (fun _ => true) true n 3 [c0] = some y0 := by
   have h1 := hx 0 _ rfl
   simpa [Value.cells, ei, eu, es] using h1
  have h1 : DataW.trod enc Tryz.prog W 0 (fun _ => true) true n 22 [c1] = some y1 := by
   have h1 := hx 1 _ rfl
   simpa [Value.cells, ei, eu, es] using h1
  have h2 : DataW.trod enc Tryz.prog W 0 (fun _ => true) true n 23 [c2] = some y2 := by
   have h1 := hx 2 _ rfl
   simpa [Value.cells, ei, eu, es] using h1
  have h3 : DataW.trod enc Tryz.prog W 0 (fun _ => true) true n 3 [c3] = some y3 := by
   have h1 := hx 3 _ rfl
   simpa [Value.cells, ei, eu, es] using h1
  obtain ⟨N, e0, _, w0⟩ := DataW.trod_int Tryz.underlying3 h0
  obtain ⟨T, e1, _, w1⟩ := DataW.trod_int Tryz.underlying22 h1
  obtain ⟨Wd, e3, _, w3⟩ := DataW.trod_int Tryz.underlying3 h3
  obtain ⟨A, L, c, f, e2, hfx, hm, hw⟩ := words_cells h2
  simp at e0 e1 e2 e3
  subst e0 e1 e2 e3
  obtain ⟨a0, a1⟩ := long_of w0
  obtain ⟨t0, t1⟩ := word_of w1
  obtain ⟨b0, b1⟩ := long_of w3
  obtain ⟨T, rfl⟩ := Int.eq_ofNat_of_zero_le t0
  exact ⟨N, T, A, L, c, Wd, f, rfl, a0, a1, by omega, b0, b1, hfx, by have : maxLen = 9223372036854775807 := by decide
                                                                      omega, hw⟩
end
theorem row_size {N : Int} (h : rowS N ≠ 0) : SizeP N := by
 have key : N = 8 ∨ N = 16 ∨ N = 32 ∨ N = 64 ∨ N = 128 ∨ N = 256 ∨ N = 1024 ∨ N = 2048 ∨ N = 4096 := by
  unfold rowS at h
  by_cases h0 : N = 8 ∨ N = 16 ∨ N = 32 ∨ N = 64 ∨ N = 128 ∨ N = 256
  ·omega
  ·rw [if_neg h0] at h
   by_cases h1 : N = 1024
   ·omega
   ·rw [if_neg h1] at h
    by_cases h2 : N = 2048
    ·omega
    ·rw [if_neg h2] at h
     by_cases h3 : N = 4096
     ·omega
     ·rw [if_neg h3] at h; exact absurd rfl h
 rcases key with rfl | rfl | rfl | rfl | rfl | rfl | rfl | rfl | rfl <;> exact ⟨by decide, by decide, by decide +kernel⟩
theorem bl_pos {v : Nat} (h : 0 < v) : 0 < Go.bitLen v := by rw [bits_half h]; omega
theorem no_row {N : Int} {T L : Nat} {f : Nat → Nat} {W : Int} (h : rowS N = 0) : ¬ ParP N T L f W := fun hp => by
 have h5 : Go.bitLen (prodF f L) ≤ rowS N := hp 5 (by omega)
 have h4 : PrsP N.toNat T L f := hp 4 (by omega)
 have := bl_pos (prodF_pos (f := f) L fun j hj => by have := isS_ge (h4 j hj).2.2.2.2; omega)
 omega
set_option maxHeartbeats 2000000 in
theorem refProduct_any (B : Option Addr) (L d : Nat) (f : Nat → Nat) (w : World) (hL : L ≤ 800) (hB : FX w B L d f) (hf : Hid (∀ j, j < L → f j < 18446744073709551616)) :
    Calls Tryz.prog 53 #[.slice B L d] w fun ee w' => ∃ A2 n2 c2, ee = .returned (.slice A2 n2 c2) ∧ n2 ≤ 1 + L ∧ NX w' A2 n2 c2 (nw (prodF f L)) ∧ Ext w w' := by
 have HB := Lib.hid hB
 clear hB
 have H0 := Lib.hid (show NX (w.alloc (.cells #[.int .u64 1] 22)) (some ⟨w.heap.size, 0, none⟩) 1 1 [1] from NXN.one w w.heap.size rfl 1 1 rfl (by omega))
 have hn1 : nw 1 = [1] := nw_one (by omega) (by omega)
 rw [← hn1] at H0
 have k0 : Ext w (w.alloc (.cells #[.int .u64 1] 22)) := (Ext.refl w).alloc _
 clear hn1
 go_enter Tryz.func53, Tryz.ntmps53
 go_wp2_with fail
 go_loopw [3, 9] (fun s i wr => ∃ (k : Nat) (A1 : Option Addr) (n1 c1 : Nat), k ≤ L ∧ s = .slice A1 n1 c1 ∧ i = .int .i64 (k : Int) ∧ n1 ≤ 1 + k ∧ Hid (NX wr A1 n1 c1 (nw (prodF f k))) ∧ Ext w wr) (fun _ i _ => L - (intOf i).toNat)
 case atStart => exact ⟨0, _, 1, 1, by omega, rfl, rfl, by omega, H0, k0⟩
 case round =>
  obtain ⟨k, A1, n1, c1, hk, rfl, rfl, hn1, hx, kr⟩ := hrel
  by_cases hlt : k < L
  ·obtain ⟨ad, rfl, hc⟩ := (HB.out.ext kr).cells (by omega)
   have hcell := hc k hlt
   have hql := hf.out k hlt
   clear hc
   have HF := Lib.hid (show prodF f (k + 1) = prodF f k * f k from Nat.mul_comm _ _)
   have HL := Lib.hid (prodF_lt (f := f) (k + 1) (fun j hj => hf.out j (by omega)))
   have HS := Lib.hid (show f k = 0 → True from fun _ => trivial)
   go_wp2_with fail
   have kz : Ext wr (wr.alloc (.cells #[.int .u64 (f k : Int)] 22)) := (Ext.refl wr).alloc _
   refine (rmulX (NX.ext hx.out kz) (NXN.one wr wr.heap.size rfl (f k : Int) (f k) rfl hql) (by omega) (by omega)).mono ?_
   rw [nv_nw, nv_one, ← HF.out]
   rintro ee w2 ⟨A2, n2, c2, rfl, hn2, hx2, k2⟩
   have hn3 := NX.len_le hx2 HL.out
   have H2 := Lib.hid (show NX w2 A2 n2 c2 (nw (prodF f (k + 1))) from hx2)
   clear hx2
   have k2' : Ext wr w2 := kz.trans k2
   go_wp2
   exact ⟨⟨k + 1, A2, n2, c2, by omega, rfl, by go_num, by omega, H2, kr.trans k2'⟩, by simp [intOf]; omega⟩
  ·obtain rfl : k = L := by omega
   go_wp2
   go_ret
   exact ⟨A1, n1, c1, rfl, hn1, hx.out, kr⟩
theorem rrowX (N : Int) (R : Nat) (w : World) (hR : Hid (R = rowS N)) : Calls Tryz.prog 50 #[.int .i64 N] w fun e w' => e = .returned (.int .i64 (R : Int)) ∧ Ext w w' :=
 (rrow_any N w).mono fun e w' ⟨he, hw⟩ => ⟨by rw [hR.out]; exact he, by rw [hw]; exact Ext.refl _⟩
theorem rbitsB {A : Option Addr} {n c X B : Nat} {w : World} (h : NX w A n c (nw X)) (hn : n ≤ 1000) (hB : Hid (B = Go.bitLen X)) :
    Calls Tryz.prog 52 #[.slice A n c] w fun e w' => e = .returned (.int .i64 (B : Int)) ∧ Ext w w' :=
 (rbitsX h (by omega)).mono fun e w' ⟨he, hw⟩ => ⟨by rw [hB.out, he, nv_nw], hw⟩
set_option maxHeartbeats 8000000 in
theorem refCheck_any (N : Int) (T : Nat) (W : Int) (A : Option Addr) (L c : Nat) (f : Nat → Nat) (w : World) (n0 : -9223372036854775808 ≤ N) (n1 : N < 9223372036854775808) (hTl : T < 18446744073709551616) (hL : L ≤ 1000000000000000) (hX : FX w A L c f) (hf : Hid (∀ j, j < L → f j < 18446744073709551616)) :
    Calls Tryz.prog 11 #[.agg #[.int .i64 N, .int .u64 (T : Int), .slice A L c, .int .i64 W]] w (Chk8 w (ParP N T L f W)) := by
 have HX := Lib.hid hX
 have hroom := hX.room
 clear hX
 have kV : Ext w (w.alloc (.cells #[.int .i64 N, .int .u64 (T : Int), .slice A L c, .int .i64 W] 25)) := (Ext.refl w).alloc _
 obtain ⟨x0, x1, x2, x3⟩ := four_at w (.int .i64 N) (.int .u64 (T : Int)) (.slice A L c) (.int .i64 W) 25
 obtain ⟨R, hR0⟩ : ∃ R, R = rowS N := ⟨_, rfl⟩
 have HR := Lib.hid hR0
 clear hR0
 go_enter Tryz.func11, Tryz.ntmps11
 go_wp2_with fail
 generalize w.alloc (.cells #[.int .i64 N, .int .u64 (T : Int), .slice A L c, .int .i64 W] 25) = V0 at *
 refine (rrowX N R V0 HR).mono ?_
 rintro ee V ⟨rfl, k1⟩
 replace x0 := cell_ext k1 x0
 replace x1 := cell_ext k1 x1
 replace x2 := cell_ext k1 x2
 replace x3 := cell_ext k1 x3
 replace kV := kV.trans k1
 clear k1
 by_cases hR : R = 0
 ·subst hR
  have HN := Lib.hid (no_row (T := T) (L := L) (f := f) (W := W) HR.out.symm)
  go_wp2
  go_ret
  exact Chk8.no HN.out kV
 have eR : ((R : Int) == 0) = false := by simp; omega
 have HS := Lib.hid (row_size (show rowS N ≠ 0 by rw [← HR.out]; exact hR))
 clear hR
 by_cases h1 : W < 1
 ·have HN := Lib.hid (show ¬ ParP N T L f W from fun h => by have := (h 1 (by omega)).1; omega)
  go_wp2
  go_ret
  exact Chk8.no HN.out kV
 by_cases h2 : 16 < W
 ·have HN := Lib.hid (show ¬ ParP N T L f W from fun h => by have := (h 1 (by omega)).2; omega)
  go_wp2
  go_ret
  exact Chk8.no HN.out kV
 have e1 : decide (W < 1) = false := by simp; omega
 have e2 : decide (16 < W) = false := by simp; omega
 have HW := Lib.hid (show 1 ≤ W ∧ W ≤ 16 by omega)
 clear h1 h2
 by_cases h3 : L = 0
 ·subst h3
  have HN := Lib.hid (show ¬ ParP N T 0 f W from fun h => by have := (h 3 (by omega)).1; omega)
  go_wp2
  go_ret
  exact Chk8.no HN.out kV
 have e3 : decide ((L : Int) < 1) = false := by simp; omega
 by_cases h4 : 8 < L
 ·have HN := Lib.hid (show ¬ ParP N T L f W from fun h => by have := (h 3 (by omega)).2; omega)
  have e4 : decide (8 < (L : Int)) = true := by simp; omega
  go_wp2
  go_ret
  exact Chk8.no HN.out kV
 have e4 : decide (8 < (L : Int)) = false := by simp; omega
 obtain ⟨n, rfl, hn0, hn1⟩ := size_nat HS.out
 have HC := Lib.hid (show CountP L from ⟨by omega, by omega⟩)
 have hz : ((2 * (n : Int)) == 0) = false := by simp; omega
 have hz2 : ¬ (2 * (n : Int)) = 0 := by omega
 by_cases h5 : 1073741824 ≤ T
 ·have e5 : decide (1073741824 ≤ (T : Int)) = true := by simp; omega
  have HN := Lib.hid (show ¬ ParP (n : Int) T L f W from fun h => by have := (h 2 (by omega)).1; omega)
  clear h5
  go_wp2
  go_ret
  exact Chk8.no HN.out kV
 have e5 : decide (1073741824 ≤ (T : Int)) = false := by simp; omega
 have e5b : (1073741824 ≤ (T : Int)) = False := by simp; omega
 have H5 := Lib.hid h5
 clear h5
 by_cases h6 : T % (2 * n) = 1
 case neg =>
  have e6 : ((T : Int) % (2 * (n : Int)) != 1) = true := by
   have : ¬ (T : Int) % (2 * (n : Int)) = 1 := by rw [show 2 * (n : Int) = ((2 * n : Nat) : Int) by omega, ← Int.natCast_emod]; omega
   simpa using this
  have HN := Lib.hid (show ¬ ParP (n : Int) T L f W from fun h => h6 (h 2 (by omega)).2.1)
  clear h6
  go_wp2
  go_ret
  exact Chk8.no HN.out kV
 have e6 : ((T : Int) % (2 * (n : Int)) != 1) = false := by
  have : (T : Int) % (2 * (n : Int)) = 1 := by rw [show 2 * (n : Int) = ((2 * n : Nat) : Int) by omega, ← Int.natCast_emod, h6]; rfl
  rw [this]; rfl
 have H6 := Lib.hid h6
 clear h6
 go_wp2_with fail
 refine (ris_any T V hTl).mono ?_
 cases hi : isR T
 ·rintro ee w2 ⟨rfl, k2⟩
  have HN := Lib.hid (show ¬ ParP (n : Int) T L f W from fun h => by have := (h 2 (by omega)).2.2; rw [is_same, hi] at this; cases this)
  clear hi
  go_wp2
  go_ret
  exact Chk8.no HN.out (kV.trans k2)
 rintro ee V2 ⟨rfl, k2⟩
 have HPl := Lib.hid (show PlainP n T from ⟨by have := H5.out; omega, H6.out, by rw [is_same]; exact hi⟩)
 clear hi e5 e5b e6 H5 H6
 replace x0 := cell_ext k2 x0
 replace x1 := cell_ext k2 x1
 replace x2 := cell_ext k2 x2
 replace x3 := cell_ext k2 x3
 replace kV := kV.trans k2
 clear k2
 go_wp2
 go_loopw [57] (fun i wr => ∃ k : Nat, k ≤ L ∧ i = .int .i64 (k : Int) ∧ Hid (∀ j, j < k → f j < 1125899906842624 ∧ f j ≠ T ∧ (∀ i, i < j → f i ≠ f j) ∧ FrP n (f j)) ∧ Ext V2 wr) (fun i _ => L - (intOf i).toNat)
 case atStart => exact ⟨0, by omega, rfl, Lib.hid fun j hj => by omega, Ext.refl _⟩
 case round =>
  obtain ⟨k, hk, rfl, hall, kr⟩ := hrel
  have y0 := cell_ext kr x0
  have y1 := cell_ext kr x1
  have y2 := cell_ext kr x2
  have y3 := cell_ext kr x3
  by_cases hlt : k < L
  ·have hx := HX.out.ext (kV.trans kr)
   obtain ⟨ad, rfl, hc⟩ := hx.cells (by omega)
   have hcell := hc k hlt
   have hql := hf.out k hlt
   clear hc hx
   have i0 : (0 : Int) ≤ (k : Int) := by omega
   have i1 : (k : Int) ≤ (L : Int) := by omega
   have i2 : (k : Int) ≤ (c : Int) := by omega
   have i3 : (k : Int) < (L : Int) := by omega
   by_cases h7 : 1125899906842624 ≤ f k
   ·have HN := Lib.hid (show ¬ ParP (n : Int) T L f W from fun h => by have := (h 4 (by omega) k hlt).1; omega)
    have e7 : (1125899906842624 ≤ (f k : Int)) = True := by simp; omega
    have e8 : decide (1125899906842624 ≤ (f k : Int)) = true := by simp; omega
    clear h7
    go_wp2
    go_ret
    exact Chk8.no HN.out (kV.trans kr)
   have e7 : (1125899906842624 ≤ (f k : Int)) = False := by simp; omega
   have e8 : decide (1125899906842624 ≤ (f k : Int)) = false := by simp; omega
   have H7 := Lib.hid h7
   clear h7
   by_cases h6 : f k % (2 * n) = 1
   case neg =>
    have e6 : ((f k : Int) % (2 * (n : Int)) != 1) = true := by
     have : ¬ (f k : Int) % (2 * (n : Int)) = 1 := by rw [show 2 * (n : Int) = ((2 * n : Nat) : Int) by omega, ← Int.natCast_emod]; omega
     simpa using this
    have HN := Lib.hid (show ¬ ParP (n : Int) T L f W from fun h => h6 (h 4 (by omega) k hlt).2.2.2.1)
    clear h6
    go_wp2
    go_ret
    exact Chk8.no HN.out (kV.trans kr)
   have e6 : ((f k : Int) % (2 * (n : Int)) != 1) = false := by
    have : (f k : Int) % (2 * (n : Int)) = 1 := by rw [show 2 * (n : Int) = ((2 * n : Nat) : Int) by omega, ← Int.natCast_emod, h6]; rfl
    rw [this]; rfl
   have H6 := Lib.hid h6
   clear h6
   by_cases h8 : f k = T
   ·have HN := Lib.hid (show ¬ ParP (n : Int) T L f W from fun h => (h 4 (by omega) k hlt).2.1 h8)
    have h9 : ((f k : Int) == (T : Int)) = true := by rw [h8]; simp
    clear h8
    go_wp2
    go_ret
    exact Chk8.no HN.out (kV.trans kr)
   have h9 : ((f k : Int) == (T : Int)) = false := by simp; omega
   have H8 := Lib.hid h8
   clear h8
   go_wp2_with fail
   refine (ris_any (f k) wr hql).mono ?_
   cases hi : isR (f k)
   ·rintro ee w2 ⟨rfl, k2⟩
    have HN := Lib.hid (show ¬ ParP (n : Int) T L f W from fun h => by have := (h 4 (by omega) k hlt).2.2.2.2; rw [is_same, hi] at this; cases this)
    clear hi
    go_wp2
    go_ret
    exact Chk8.no HN.out (kV.trans (kr.trans k2))
   rintro ee w2 ⟨rfl, k2⟩
   have HF := Lib.hid (show FrP n (f k) from ⟨H6.out, by rw [is_same]; exact hi⟩)
   clear hi e7 e8 e6 h9
   have z2 := cell_ext k2 y2
   go_wp2
   go_loopw [86] (fun i wz => ∃ j : Nat, j ≤ k ∧ i = .int .i64 (j : Int) ∧ Hid (∀ i, i < j → f i ≠ f k) ∧ wz = w2) (fun i _ => k - (intOf i).toNat)
   case atStart => exact ⟨0, by omega, rfl, Lib.hid fun i hi => by omega, rfl⟩
   case round =>
    obtain ⟨j, hj, rfl, hno2, rfl⟩ := hrel
    by_cases hlt2 : j < k
    ·obtain ⟨ad2, e2, hc2⟩ := (HX.out.ext (kV.trans (kr.trans k2))).cells (by omega)
     have hcell2 := hc2 j (by omega)
     injection e2 with e2
     subst e2
     clear hc2
     by_cases g3 : f j = f k
     ·have HN := Lib.hid (show ¬ ParP (n : Int) T L f W from fun h => (h 4 (by omega) k hlt).2.2.1 j hlt2 g3)
      rw [g3] at hcell2
      clear g3
      generalize f k = qk at *
      go_wp2
      go_ret
      exact Chk8.no HN.out (kV.trans (kr.trans k2))
     ·have HE := Lib.hid (show ∀ i, i < j + 1 → f i ≠ f k from fun i hi => by
         by_cases h : i = j
         ·subst h; exact g3
         ·exact hno2.out i (by omega))
      have hne : ((f j : Int) == (f k : Int)) = false := by simp; omega
      clear g3
      go_wp2
      exact ⟨⟨j + 1, by omega, by go_num, HE, by trivial⟩, by simp [intOf]; omega⟩
    ·have HE := Lib.hid (show ∀ j, j < k + 1 → f j < 1125899906842624 ∧ f j ≠ T ∧ (∀ i, i < j → f i ≠ f j) ∧ FrP n (f j) from fun i hi => by
        by_cases h : i = k
        ·subst h; exact ⟨by have := H7.out; omega, H8.out, fun l hl => hno2.out l (by omega), HF.out⟩
        ·exact hall.out i (by omega))
     go_wp2
     exact ⟨⟨k + 1, by omega, by go_num, HE, kr.trans k2⟩, by simp [intOf]; omega⟩
  ·have HPr := Lib.hid (show PrsP n T L f from fun j hj => hall.out j (by omega))
   obtain ⟨B, hB0⟩ : ∃ B, B = Go.bitLen (prodF f L) := ⟨_, rfl⟩
   have HP := Lib.hid (show BitsP (n : Int) (prodF f L) ↔ B ≤ R by rw [HR.out, hB0]; exact Iff.rfl)
   have HB := Lib.hid hB0
   clear hB0 hall
   have kk : Ext wr wr := Ext.refl wr
   go_wp2_with fail
   go_region_held3 (fun w' => w'.cell? ⟨w.heap.size, 0, none⟩ = some (.int .i64 (n : Int)) ∧ w'.cell? ⟨w.heap.size, 2, none⟩ = some (.slice A L c)) (go_keep)
    (first
     | (go_at_call 52; refine (rbitsB (NX.ext HN.out (by first | exact kx | exact Ext.drew kx)) (by omega) HB).mono ?_; rintro e5 w5 ⟨rfl, k5⟩; (try replace kx := Ext.trans (by first | exact kx | exact Ext.drew kx) k5); replace kk : Ext wr w5 := (by first | exact Ext.trans kk k5 | exact Ext.trans (Ext.drew kk) k5); have d0 := cell_ext kk y0; have d2 := cell_ext kk y2)
     | (go_at_call 53; refine (refProduct_any A L c f _ (by omega) (HX.out.ext (kV.trans (kr.trans (by first | exact kk | exact Ext.drew kk)))) hf).mono ?_; rintro e4 w4 ⟨A2, n2, c2, rfl, hn2, hx2, k4⟩; have HN := Lib.hid hx2; clear hx2; have kx : Ext w4 w4 := Ext.refl w4; replace kk : Ext wr w4 := (by first | exact Ext.trans kk k4 | exact Ext.trans (Ext.drew kk) k4); have d0 := cell_ext kk y0; have d2 := cell_ext kk y2)
     | (go_at_call 50; refine (rrowX (n : Int) R _ HR).mono ?_; rintro e6 w6 ⟨rfl, k6⟩; (try replace kx := Ext.trans (by first | exact kx | exact Ext.drew kx) k6); replace kk : Ext wr w6 := (by first | exact Ext.trans kk k6 | exact Ext.trans (Ext.drew kk) k6); have d0 := cell_ext kk y0; have d2 := cell_ext kk y2)
     | fail)
   all_goals
    have kz := kV.trans (kr.trans kk)
    clear hTl hL n0 n1 hz hz2
    by_cases h : R < B
    ·have H := Lib.hid (show ¬ ParP (n : Int) T L f W from fun h' => by have := HP.out.1 (h' 5 (by omega)); omega)
     have e3 : (R : Int) < (B : Int) := by omega
     go_wp2
     go_ret
     exact Chk8.no H.out kz
    ·have H := Lib.hid (show ParP (n : Int) T L f W from fun k hk => by
        rcases (show k = 0 ∨ k = 1 ∨ k = 2 ∨ k = 3 ∨ k = 4 ∨ k = 5 by omega) with rfl | rfl | rfl | rfl | rfl | rfl
        ·exact HS.out
        ·exact HW.out
        ·exact HPl.out
        ·exact HC.out
        ·exact HPr.out
        ·exact HP.out.2 (by omega))
     have e3 : ¬ (R : Int) < (B : Int) := by omega
     go_wp2
     go_ret
     exact Chk8.yes H.out kz
def fixQ (i : Nat) : Nat := if i = 0 then 97 else 193
theorem par_fix : ParP 8 17 2 fixQ 2 := fun k hk => by
 rcases (show k = 0 ∨ k = 1 ∨ k = 2 ∨ k = 3 ∨ k = 4 ∨ k = 5 by omega) with rfl | rfl | rfl | rfl | rfl | rfl
 ·exact ⟨by decide, by decide, by decide +kernel⟩
 ·exact ⟨by decide, by decide⟩
 ·exact ⟨by decide, by decide +kernel, by decide +kernel⟩
 ·exact ⟨by decide, by decide⟩
 ·intro j hj
  rcases (show j = 0 ∨ j = 1 by omega) with rfl | rfl
  ·exact ⟨by decide, by decide, fun i hi => by omega, by decide +kernel, by decide +kernel⟩
  ·exact ⟨by decide, by decide, fun i hi => by (obtain rfl : i = 0 := by omega); decide, by decide +kernel, by decide +kernel⟩
 ·show Go.bitLen (prodF fixQ 2) ≤ rowS 8
  rw [show prodF fixQ 2 = 18721 by decide, show rowS 8 = 420 by decide]
  decide +kernel
theorem nx_one (w : World) (g : Nat) (hg : g = w.heap.size) (x : Nat) (h0 : 0 < x) (hx : x < 18446744073709551616) : NX (w.alloc (.cells #[.int .u64 (x : Int)] 22)) (some ⟨g, 0, none⟩) 1 1 (nw x) := by
 rw [nw_one h0 hx]; exact NXN.one w g hg (x : Int) x rfl hx
theorem sameY {A A' : Option Addr} {n n' c c' X : Nat} {w : World} (h : NX w A n c (nw X)) (h' : NX w A' n' c' (nw X)) (hn : n ≤ 100000) (hn' : n' ≤ 100000) :
    Calls Tryz.prog 30 #[.slice A n c, .slice A' n' c'] w fun e w' => e = .returned (.bool true) ∧ Ext w w' :=
 (sameX h h' hn hn').mono fun e w' ⟨he, hw⟩ => ⟨by rw [he, decide_eq_true rfl], hw⟩
def ErrZ (P : Prop) (z : Nat) : Prop := (P ∧ z = 0) ∨ (¬ P ∧ z = 8)
theorem errZ (P : Prop) : ∃ z, ErrZ P z := by
 by_cases h : P
 ·exact ⟨0, .inl ⟨h, rfl⟩⟩
 ·exact ⟨8, .inr ⟨h, rfl⟩⟩
theorem Chk8.z {w w' : World} {P : Prop} {z : Nat} {e : Ending} (h : Chk8 w P e w') (hz : ErrZ P z) : e = .returned (.int .i64 (z : Int)) ∧ Ext w w' := by
 rcases h with ⟨h, he, hw⟩ | ⟨h, he, hw⟩
 ·rcases hz with ⟨_, rfl⟩ | ⟨h', _⟩
  ·exact ⟨he, hw⟩
  ·exact absurd h h'
 ·rcases hz with ⟨h', _⟩ | ⟨_, rfl⟩
  ·exact absurd h' h
  ·exact ⟨he, hw⟩
theorem checkZ {N : Int} {T : Nat} {Wd : Int} {A : Option Addr} {L c : Nat} {f : Nat → Nat} {z : Nat} {w : World} (hP : PA w N T A L c Wd f) (hL : L ≤ 100) (hT : Tabs w) (hz : Hid (ErrZ (ParP N T L f Wd) z)) :
    Calls Tryz.prog 107 #[.agg #[.int .i64 N, .int .u64 (T : Int), .slice A L c, .int .i64 Wd]] w fun e w' => e = .returned (.int .i64 (z : Int)) ∧ Ext w w' :=
 (check_any N T Wd A L c f w hP.n0 hP.n1 hP.t1 (by omega) hP.fx (Lib.hid hP.words) hT).mono fun e w' h => h.z hz.out
theorem rcheckZ {N : Int} {T : Nat} {Wd : Int} {A : Option Addr} {L c : Nat} {f : Nat → Nat} {z : Nat} {w : World} (hP : PA w N T A L c Wd f) (hL : L ≤ 100) (hz : Hid (ErrZ (ParP N T L f Wd) z)) :
    Calls Tryz.prog 11 #[.agg #[.int .i64 N, .int .u64 (T : Int), .slice A L c, .int .i64 Wd]] w fun e w' => e = .returned (.int .i64 (z : Int)) ∧ Ext w w' :=
 (refCheck_any N T Wd A L c f w hP.n0 hP.n1 hP.t1 (by omega) hP.fx (Lib.hid hP.words)).mono fun e w' h => h.z hz.out
theorem rmodulusA {N : Int} {T : Nat} {Wd : Int} {A : Option Addr} {L c : Nat} {f : Nat → Nat} {m : Nat} {w : World} (hP : PA w N T A L c Wd f) (hL : L ≤ 100) (hm : m + 1 ≤ L) :
    Calls Tryz.prog 99 #[.agg #[.int .i64 N, .int .u64 (T : Int), .slice A L c, .int .i64 Wd], .int .i64 (m : Int)] w fun e w' => ∃ A2 n2 c2, e = .returned (.slice A2 n2 c2) ∧ n2 ≤ 101 ∧ NX w' A2 n2 c2 (nw (prodF f (m + 1))) ∧ Ext w w' := by
 have kV : Ext w (w.alloc (.cells #[.int .i64 N, .int .u64 (T : Int), .slice A L c, .int .i64 Wd] 25)) := (Ext.refl w).alloc _
 obtain ⟨x0, x1, x2, x3⟩ := four_at w (.int .i64 N) (.int .u64 (T : Int)) (.slice A L c) (.int .i64 Wd) 25
 have hroom := hP.fx.room
 have HXm := Lib.hid ((hP.fx.ext kV).cut hm)
 have hf := Lib.hid (show ∀ j, j < m + 1 → f j < 18446744073709551616 from fun j hj => hP.words j (by omega))
 clear hP
 obtain ⟨ad, rfl, _⟩ := HXm.out.cells (by omega)
 have i0 : (0 : Int) ≤ (m : Int) + 1 := by omega
 have i1 : (m : Int) + 1 ≤ (c : Int) := by omega
 have i2 : (m : Int) + 1 ≤ (L : Int) := by omega
 go_enter Tryz.func99, Tryz.ntmps99
 go_wp2_with fail
 refine (refProduct_any (some ad) (m + 1) c f _ (by omega) HXm.out hf).mono ?_
 rintro ee w3 ⟨A3, n3, c3, rfl, hn3, hx3, k3⟩
 have H3 := Lib.hid hx3
 clear hx3
 go_wp2
 go_ret
 exact ⟨A3, n3, c3, rfl, by omega, H3.out, kV.trans k3⟩
theorem rstepA {N : Int} {T : Nat} {Wd : Int} {A : Option Addr} {L c : Nat} {f : Nat → Nat} {m : Nat} {w : World} (hP : PA w N T A L c Wd f) (hL : L ≤ 100) (hm : m + 1 ≤ L) (hT2 : 2 ≤ T) :
    Calls Tryz.prog 128 #[.agg #[.int .i64 N, .int .u64 (T : Int), .slice A L c, .int .i64 Wd], .int .i64 (m : Int)] w fun e w' => ∃ A2 n2 c2, ∃ r : Nat, Hid (r = prodF f (m + 1) % T) ∧ e = .returned (.tuple #[.slice A2 n2 c2, .int .u64 (r : Int)]) ∧ n2 ≤ 1000 ∧ NX w' A2 n2 c2 (nw (prodF f (m + 1) / T)) ∧ Ext w w' := by
 have kV : Ext w (w.alloc (.cells #[.int .i64 N, .int .u64 (T : Int), .slice A L c, .int .i64 Wd] 25)) := (Ext.refl w).alloc _
 obtain ⟨x0, x1, x2, x3⟩ := four_at w (.int .i64 N) (.int .u64 (T : Int)) (.slice A L c) (.int .i64 Wd) 25
 have hTl := hP.t1
 have HP := Lib.hid (hP.ext kV)
 clear hP
 go_enter Tryz.func128, Tryz.ntmps128
 go_wp2_with fail
 generalize w.alloc (.cells #[.int .i64 N, .int .u64 (T : Int), .slice A L c, .int .i64 Wd] 25) = V at *
 refine (rmodulusA HP.out hL hm).mono ?_
 rintro ee w1 ⟨A1, n1, c1, rfl, hn1, hx1, k1⟩
 have H1 := Lib.hid hx1
 clear hx1
 replace x0 := cell_ext k1 x0
 replace x1 := cell_ext k1 x1
 replace x2 := cell_ext k1 x2
 replace x3 := cell_ext k1 x3
 go_wp2_with fail
 have kz : Ext w1 (w1.alloc (.cells #[.int .u64 (T : Int)] 22)) := (Ext.refl _).alloc _
 refine (rdivX (NX.ext H1.out kz) (nx_one w1 w1.heap.size rfl T (by omega) hTl) (by omega) (by omega)).mono ?_
 rw [nv_nw, nv_nw]
 rintro ee w3 (⟨h0, _⟩ | ⟨_, A3, n3, c3, A4, n4, c4, rfl, hn3, hn4, hx3, hx4, k3'⟩)
 ·omega
 have k3 : Ext w1 w3 := kz.trans k3'
 have H3 := Lib.hid (show NX w3 A3 n3 c3 _ from hx3)
 clear hx3 hx4 k3' kz
 replace x0 := cell_ext k3 x0
 replace x1 := cell_ext k3 x1
 replace x2 := cell_ext k3 x2
 replace x3 := cell_ext k3 x3
 go_wp2_with fail
 refine (rmodM A1 n1 c1 T _ w3 (NX.ext H1.out k3) (by omega) (by omega) hTl).mono ?_
 rw [nv_nw]
 rintro ee w4 ⟨r, hr, hrl, rfl, k4⟩
 go_wp2
 go_ret2
 exact ⟨A3, n3, c3, r, hr, rfl, by omega, NX.ext H3.out k4, kV.trans (k1.trans (k3.trans k4))⟩
def TellsS (w : World) (P : Prop) (ee : Ending) (w' : World) : Prop := (P ∧ ee = .returned (.bool true) ∧ w = w') ∨ (¬ P ∧ ee = .returned (.bool false) ∧ w = w')
theorem TellsS.yes {w w' : World} {P : Prop} {ee : Ending} (h : TellsS w P ee w') (hp : P) : ee = .returned (.bool true) ∧ w = w' := by
 rcases h with ⟨_, h⟩ | ⟨h0, _⟩
 ·exact h
 ·exact absurd hp h0
theorem TellsS.no {w w' : World} {P : Prop} {ee : Ending} (h : TellsS w P ee w') (hp : ¬ P) : ee = .returned (.bool false) ∧ w = w' := by
 rcases h with ⟨h0, _⟩ | ⟨_, h⟩
 ·exact absurd h0 hp
 ·exact h
end Go.Proofs.YtjikdbcjabopnaaGreatDoor
