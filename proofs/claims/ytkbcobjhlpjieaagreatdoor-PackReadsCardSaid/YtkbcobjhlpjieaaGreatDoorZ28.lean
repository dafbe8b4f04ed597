import Derived.Test.YtkbcobjhlpjieaaGreatDoorZ26
import Derived.Test.YtkbcobjhlpjieaaGreatDoorZ27
import Derived.Test.YtkbcobjhlpjieaaGreatDoorZ11
import Derived.Test.YtkbcobjhlpjieaaGreatDoorZPLaid
namespace Go.Proofs.YtkbcobjhlpjieaaGreatDoor
open Go.RowKit
set_option linter.unusedVariables false
set_option maxRecDepth 100000
theorem prodF_lt {f : Nat → Nat} : ∀ k, (∀ j, j < k → f j < 18446744073709551616) → prodF f k < W64 ^ (k + 1)
 | 0, _ => by rw [prodF, Nat.zero_add, Nat.pow_one, W64_eq]; omega
 | k + 1, h => by
  have ih := prodF_lt k (fun j hj => h j (by omega))
  rw [prodF, Nat.pow_succ W64 (k + 1), Nat.mul_comm (W64 ^ (k + 1))]
  exact Nat.mul_lt_mul'' (by rw [W64_eq]; exact h k (by omega)) ih
theorem prodF_pos {f : Nat → Nat} : ∀ k, (∀ j, j < k → 0 < f j) → 0 < prodF f k
 | 0, _ => by rw [prodF]; omega
 | k + 1, h => by
  rw [prodF]
  exact Nat.mul_pos (h k (by omega)) (prodF_pos k (fun j hj => h j (by omega)))
theorem NX.len_le {w : World} {A : Option Addr} {n c X k : Nat} (h : NX w A n c (nw X)) (hX : X < W64 ^ k) : n ≤ k := by
 have h1 := h.len
 have h2 := dg_len_le W64_two hX
 rw [← h1]; exact h2
theorem row_size {N : Int} (h : rowS N ≠ 0) : SizeP N := by
 have key : N = 8 ∨ N = 16 ∨ N = 32 ∨ N = 64 ∨ N = 128 ∨ N = 256 ∨ N = 1024 ∨ N = 2048 ∨ N = 4096 := by
  unfold rowS at h
  by_cases h0 : N = 8 ∨ N = 16 ∨ N = 32 ∨ N = 64 ∨ N = 128 ∨ N = 256
  ·omega
  ·rw [if_neg h0] at h
   by_cases h1 : N = 1024
   ·omega
   ·rw [if_neg h1] at h
    by_cases h2 : N = 2048
    ·omega
    ·rw [if_neg h2] at h
     by_cases h3 : N = 4096
     ·omega
     ·rw [if_neg h3] at h; exact absurd rfl h
 rcases key with rfl | rfl | rfl | rfl | rfl | rfl | rfl | rfl | rfl <;> exact ⟨by decide, by decide, by decide +kernel⟩
theorem bl_pos {v : Nat} (h : 0 < v) : 0 < Go.bitLen v := by rw [bits_half h]; omega
theorem no_row {N : Int} {T L : Nat} {f : Nat → Nat} {W : Int} (h : rowS N = 0) : ¬ ParP N T L f W := fun hp => by
 have h5 : Go.bitLen (prodF f L) ≤ rowS N := hp 5 (by omega)
 have h4 : PrsP N.toNat T L f := hp 4 (by omega)
 have := bl_pos (prodF_pos (f := f) L fun j hj => by have := isS_ge (h4 j hj).2.2.2.2; omega)
 omega
set_option maxHeartbeats 2000000 in
theorem refProduct_any (B : Option Addr) (L d : Nat) (f : Nat → Nat) (w : World) (hL : L ≤ 800) (hB : FX w B L d f) (hf : Hid (∀ j, j < L → f j < 18446744073709551616)) :
    Calls Tryz.prog 87 #[.slice B L d] w fun ee w' => ∃ A2 n2 c2, ee = .returned (.slice A2 n2 c2) ∧ n2 ≤ 1 + L ∧ NX w' A2 n2 c2 (nw (prodF f L)) ∧ Ext w w' := by
 have HB := Lib.hid hB
 clear hB
 have H0 := Lib.hid (show NX (w.alloc (.cells #[.int .u64 1] 22)) (some ⟨w.heap.size, 0, none⟩) 1 1 [1] from NXN.one w w.heap.size rfl 1 1 rfl (by omega))
 have hn1 : nw 1 = [1] := nw_one (by omega) (by omega)
 rw [← hn1] at H0
 have k0 : Ext w (w.alloc (.cells #[.int .u64 1] 22)) := (Ext.refl w).alloc _
 clear hn1
 go_enter Tryz.func87, Tryz.ntmps87
 go_wp2_with fail
 go_loopw [3, 9] (fun s i wr => ∃ (k : Nat) (A1 : Option Addr) (n1 c1 : Nat), k ≤ L ∧ s = .slice A1 n1 c1 ∧ i = .int .i64 (k : Int) ∧ n1 ≤ 1 + k ∧ Hid (NX wr A1 n1 c1 (nw (prodF f k))) ∧ Ext w wr) (fun _ i _ => L - (intOf i).toNat)
 case atStart => exact ⟨0, _, 1, 1, by omega, rfl, rfl, by omega, H0, k0⟩
 case round =>
  obtain ⟨k, A1, n1, c1, hk, rfl, rfl, hn1, hx, kr⟩ := hrel
  by_cases hlt : k < L
  ·obtain ⟨ad, rfl, hc⟩ := (HB.out.ext kr).cells (by omega)
   have hcell := hc k hlt
   have hql := hf.out k hlt
   clear hc
   have HF := Lib.hid (show prodF f (k + 1) = prodF f k * f k from Nat.mul_comm _ _)
   have HL := Lib.hid (prodF_lt (f := f) (k + 1) (fun j hj => hf.out j (by omega)))
   have HS := Lib.hid (show f k = 0 → True from fun _ => trivial)
   go_wp2_with fail
   have kz : Ext wr (wr.alloc (.cells #[.int .u64 (f k : Int)] 22)) := (Ext.refl wr).alloc _
   refine (rmulX (NX.ext hx.out kz) (NXN.one wr wr.heap.size rfl (f k : Int) (f k) rfl hql) (by omega) (by omega)).mono ?_
   rw [nv_nw, nv_one, ← HF.out]
   rintro ee w2 ⟨A2, n2, c2, rfl, hn2, hx2, k2⟩
   have hn3 := NX.len_le hx2 HL.out
   have H2 := Lib.hid (show NX w2 A2 n2 c2 (nw (prodF f (k + 1))) from hx2)
   clear hx2
   have k2' : Ext wr w2 := kz.trans k2
   go_wp2
   exact ⟨⟨k + 1, A2, n2, c2, by omega, rfl, by go_num, by omega, H2, kr.trans k2'⟩, by simp [intOf]; omega⟩
  ·obtain rfl : k = L := by omega
   go_wp2
   go_ret
   exact ⟨A1, n1, c1, rfl, hn1, hx.out, kr⟩
theorem rrowX (N : Int) (R : Nat) (w : World) (hR : Hid (R = rowS N)) : Calls Tryz.prog 84 #[.int .i64 N] w fun e w' => e = .returned (.int .i64 (R : Int)) ∧ Ext w w' :=
 (rrow_any N w).mono fun e w' ⟨he, hw⟩ => ⟨by rw [hR.out]; exact he, by rw [hw]; exact Ext.refl _⟩
theorem rbitsB {A : Option Addr} {n c X B : Nat} {w : World} (h : NX w A n c (nw X)) (hn : n ≤ 1000) (hB : Hid (B = Go.bitLen X)) :
    Calls Tryz.prog 86 #[.slice A n c] w fun e w' => e = .returned (.int .i64 (B : Int)) ∧ Ext w w' :=
 (rbitsX h (by omega)).mono fun e w' ⟨he, hw⟩ => ⟨by rw [hB.out, he, nv_nw], hw⟩
set_option maxHeartbeats 8000000 in
theorem refCheck_any (N : Int) (T : Nat) (W : Int) (A : Option Addr) (L c : Nat) (f : Nat → Nat) (w : World) (n0 : -9223372036854775808 ≤ N) (n1 : N < 9223372036854775808) (hTl : T < 18446744073709551616) (hL : L ≤ 1000000000000000) (hX : FX w A L c f) (hf : Hid (∀ j, j < L → f j < 18446744073709551616)) :
    Calls Tryz.prog 45 #[.agg #[.int .i64 N, .int .u64 (T : Int), .slice A L c, .int .i64 W]] w (Chk8 w (ParP N T L f W)) := by
 have HX := Lib.hid hX
 have hroom := hX.room
 clear hX
 have kV : Ext w (w.alloc (.cells #[.int .i64 N, .int .u64 (T : Int), .slice A L c, .int .i64 W] 25)) := (Ext.refl w).alloc _
 obtain ⟨x0, x1, x2, x3⟩ := four_at w (.int .i64 N) (.int .u64 (T : Int)) (.slice A L c) (.int .i64 W) 25
 obtain ⟨R, hR0⟩ : ∃ R, R = rowS N := ⟨_, rfl⟩
 have HR := Lib.hid hR0
 clear hR0
 go_enter Tryz.func45, Tryz.ntmps45
 go_wp2_with fail
 generalize w.alloc (.cells #[.int .i64 N, .int .u64 (T : Int), .slice A L c, .int .i64 W] 25) = V0 at *
 refine (rrowX N R V0 HR).mono ?_
 rintro ee V ⟨rfl, k1⟩
 replace x0 := cell_ext k1 x0
 replace x1 := cell_ext k1 x1
 replace x2 := cell_ext k1 x2
 replace x3 := cell_ext k1 x3
 replace kV := kV.trans k1
 clear k1
 by_cases hR : R = 0
 ·subst hR
  have HN := Lib.hid (no_row (T := T) (L := L) (f := f) (W := W) HR.out.symm)
  go_wp2
  go_ret
  exact Chk8.no HN.out kV
 have eR : ((R : Int) == 0) = false := by simp; omega
 have HS := Lib.hid (row_size (show rowS N ≠ 0 by rw [← HR.out]; exact hR))
 clear hR
 by_cases h1 : W < 1
 ·have HN := Lib.hid (show ¬ ParP N T L f W from fun h => by have := (h 1 (by omega)).1; omega)
  go_wp2
  go_ret
  exact Chk8.no HN.out kV
 by_cases h2 : 16 < W
 ·have HN := Lib.hid (show ¬ ParP N T L f W from fun h => by have := (h 1 (by omega)).2; omega)
  go_wp2
  go_ret
  exact Chk8.no HN.out kV
 have e1 : decide (W < 1) = false := by simp; omega
 have e2 : decide (16 < W) = false := by simp; omega
 have HW := Lib.hid (show 1 ≤ W ∧ W ≤ 16 by omega)
 clear h1 h2
 by_cases h3 : L = 0
 ·subst h3
  have HN := Lib.hid (show ¬ ParP N T 0 f W from fun h => by have := (h 3 (by omega)).1; omega)
  go_wp2
  go_ret
  exact Chk8.no HN.out kV
 have e3 : decide ((L : Int) < 1) = false := by simp; omega
 by_cases h4 : 8 < L
 ·have HN := Lib.hid (show ¬ ParP N T L f W from fun h => by have := (h 3 (by omega)).2; omega)
  have e4 : decide (8 < (L : Int)) = true := by simp; omega
  go_wp2
  go_ret
  exact Chk8.no HN.out kV
 have e4 : decide (8 < (L : Int)) = false := by simp; omega
 obtain ⟨n, rfl, hn0, hn1⟩ := size_nat HS.out
 have HC := Lib.hid (show CountP L from ⟨by omega, by omega⟩)
 have hz : ((2 * (n : Int)) == 0) = false := by simp; omega
 have hz2 : ¬ (2 * (n : Int)) = 0 := by omega
 by_cases h5 : 1073741824 ≤ T
 ·have e5 : decide (1073741824 ≤ (T : Int)) = true := by simp; omega
  have HN := Lib.hid (show ¬ ParP (n : Int) T L f W from fun h => by have := (h 2 (by omega)).1; omega)
  clear h5
  go_wp2
  go_ret
  exact Chk8.no HN.out kV
 have e5 : decide (1073741824 ≤ (T : Int)) = false := by simp; omega
 have e5b : (1073741824 ≤ (T : Int)) = False := by simp; omega
 have H5 := Lib.hid h5
 clear h5
 by_cases h6 : T % (2 * n) = 1
 case neg =>
  have e6 : ((T : Int) % (2 * (n : Int)) != 1) = true := by
   have : ¬ (T : Int) % (2 * (n : Int)) = 1 := by rw [show 2 * (n : Int) = ((2 * n : Nat) : Int) by omega, ← Int.natCast_emod]; omega
   simpa using this
  have HN := Lib.hid (show ¬ ParP (n : Int) T L f W from fun h => h6 (h 2 (by omega)).2.1)
  clear h6
  go_wp2
  go_ret
  exact Chk8.no HN.out kV
 have e6 : ((T : Int) % (2 * (n : Int)) != 1) = false := by
  have : (T : Int) % (2 * (n : Int)) = 1 := by rw [show 2 * (n : Int) = ((2 * n : Nat) : Int) by omega, ← Int.natCast_emod, h6]; rfl
  rw [this]; rfl
 have H6 := Lib.hid h6
 clear h6
 go_wp2_with fail
 refine (ris_any T V hTl).mono ?_
 cases hi : isR T
 ·rintro ee w2 ⟨rfl, k2⟩
  have HN := Lib.hid (show ¬ ParP (n : Int) T L f W from fun h => by have := (h 2 (by omega)).2.2; rw [is_same, hi] at this; cases this)
  clear hi
  go_wp2
  go_ret
  exact Chk8.no HN.out (kV.trans k2)
 rintro ee V2 ⟨rfl, k2⟩
 have HPl := Lib.hid (show PlainP n T from ⟨by have := H5.out; omega, H6.out, by rw [is_same]; exact hi⟩)
 clear hi e5 e5b e6 H5 H6
 replace x0 := cell_ext k2 x0
 replace x1 := cell_ext k2 x1
 replace x2 := cell_ext k2 x2
 replace x3 := cell_ext k2 x3
 replace kV := kV.trans k2
 clear k2
 go_wp2
 go_loopw [57] (fun i wr => ∃ k : Nat, k ≤ L ∧ i = .int .i64 (k : Int) ∧ Hid (∀ j, j < k → f j < 1125899906842624 ∧ f j ≠ T ∧ (∀ i, i < j → f i ≠ f j) ∧ FrP n (f j)) ∧ Ext V2 wr) (fun i _ => L - (intOf i).toNat)
 case atStart => exact ⟨0, by omega, rfl, Lib.hid fun j hj => by omega, Ext.refl _⟩
 case round =>
  obtain ⟨k, hk, rfl, hall, kr⟩ := hrel
  have y0 := cell_ext kr x0
  have y1 := cell_ext kr x1
  have y2 := cell_ext kr x2
  have y3 := cell_ext kr x3
  by_cases hlt : k < L
  ·have hx := HX.out.ext (kV.trans kr)
   obtain ⟨ad, rfl, hc⟩ := hx.cells (by omega)
   have hcell := hc k hlt
   have hql := hf.out k hlt
   clear hc hx
   have i0 : (0 : Int) ≤ (k : Int) := by omega
   have i1 : (k : Int) ≤ (L : Int) := by omega
   have i2 : (k : Int) ≤ (c : Int) := by omega
   have i3 : (k : Int) < (L : Int) := by omega
   by_cases h7 : 1125899906842624 ≤ f k
   ·have HN := Lib.hid (show ¬ ParP (n : Int) T L f W from fun h => by have := (h 4 (by omega) k hlt).1; omega)
    have e7 : (1125899906842624 ≤ (f k : Int)) = True := by simp; omega
    have e8 : decide (1125899906842624 ≤ (f k : Int)) = true := by simp; omega
    clear h7
    go_wp2
    go_ret
    exact Chk8.no HN.out (kV.trans kr)
   have e7 : (1125899906842624 ≤ (f k : Int)) = False := by simp; omega
   have e8 : decide (1125899906842624 ≤ (f k : Int)) = false := by simp; omega
   have H7 := Lib.hid h7
   clear h7
   by_cases h6 : f k % (2 * n) = 1
   case neg =>
    have e6 : ((f k : Int) % (2 * (n : Int)) != 1) = true := by
     have : ¬ (f k : Int) % (2 * (n : Int)) = 1 := by rw [show 2 * (n : Int) = ((2 * n : Nat) : Int) by omega, ← Int.natCast_emod]; omega
     simpa using this
    have HN := Lib.hid (show ¬ ParP (n : Int) T L f W from fun h => h6 (h 4 (by omega) k hlt).2.2.2.1)
    clear h6
    go_wp2
    go_ret
    exact Chk8.no HN.out (kV.trans kr)
   have e6 : ((f k : Int) % (2 * (n : Int)) != 1) = false := by
    have : (f k : Int) % (2 * (n : Int)) = 1 := by rw [show 2 * (n : Int) = ((2 * n : Nat) : Int) by omega, ← Int.natCast_emod, h6]; rfl
    rw [this]; rfl
   have H6 := Lib.hid h6
   clear h6
   by_cases h8 : f k = T
   ·have HN := Lib.hid (show ¬ ParP (n : Int) T L f W from fun h => (h 4 (by omega) k hlt).2.1 h8)
    have h9 : ((f k : Int) == (T : Int)) = true := by rw [h8]; simp
    clear h8
    go_wp2
    go_ret
    exact Chk8.no HN.out (kV.trans kr)
   have h9 : ((f k : Int) == (T : Int)) = false := by simp; omega
   have H8 := Lib.hid h8
   clear h8
   go_wp2_with fail
   refine (ris_any (f k) wr hql).mono ?_
   cases hi : isR (f k)
   ·rintro ee w2 ⟨rfl, k2⟩
    have HN := Lib.hid (show ¬ ParP (n : Int) T L f W from fun h => by have := (h 4 (by omega) k hlt).2.2.2.2; rw [is_same, hi] at this; cases this)
    clear hi
    go_wp2
    go_ret
    exact Chk8.no HN.out (kV.trans (kr.trans k2))
   rintro ee w2 ⟨rfl, k2⟩
   have HF := Lib.hid (show FrP n (f k) from ⟨H6.out, by rw [is_same]; exact hi⟩)
   clear hi e7 e8 e6 h9
   have z2 := cell_ext k2 y2
   go_wp2
   go_loopw [86] (fun i wz => ∃ j : Nat, j ≤ k ∧ i = .int .i64 (j : Int) ∧ Hid (∀ i, i < j → f i ≠ f k) ∧ wz = w2) (fun i _ => k - (intOf i).toNat)
   case atStart => exact ⟨0, by omega, rfl, Lib.hid fun i hi => by omega, rfl⟩
   case round =>
    obtain ⟨j, hj, rfl, hno2, rfl⟩ := hrel
    by_cases hlt2 : j < k
    ·obtain ⟨ad2, e2, hc2⟩ := (HX.out.ext (kV.trans (kr.trans k2))).cells (by omega)
     have hcell2 := hc2 j (by omega)
     injection e2 with e2
     subst e2
     clear hc2
     by_cases g3 : f j = f k
     ·have HN := Lib.hid (show ¬ ParP (n : Int) T L f W from fun h => (h 4 (by omega) k hlt).2.2.1 j hlt2 g3)
      rw [g3] at hcell2
      clear g3
      generalize f k = qk at *
      go_wp2
      go_ret
      exact Chk8.no HN.out (kV.trans (kr.trans k2))
     ·have HE := Lib.hid (show ∀ i, i < j + 1 → f i ≠ f k from fun i hi => by
         by_cases h : i = j
         ·subst h; exact g3
         ·exact hno2.out i (by omega))
      have hne : ((f j : Int) == (f k : Int)) = false := by simp; omega
      clear g3
      go_wp2
      exact ⟨⟨j + 1, by omega, by go_num, HE, by trivial⟩, by simp [intOf]; omega⟩
    ·have HE := Lib.hid (show ∀ j, j < k + 1 → f j < 1125899906842624 ∧ f j ≠ T ∧ (∀ i, i < j → f i ≠ f j) ∧ FrP n (f j) from fun i hi => by
        by_cases h : i = k
        ·subst h; exact ⟨by have := H7.out; omega, H8.out, fun l hl => hno2.out l (by omega), HF.out⟩
        ·exact hall.out i (by omega))
     go_wp2
     exact ⟨⟨k + 1, by omega, by go_num, HE, kr.trans k2⟩, by simp [intOf]; omega⟩
  ·have HPr := Lib.hid (show PrsP n T L f from fun j hj => hall.out j (by omega))
   obtain ⟨B, hB0⟩ : ∃ B, B = Go.bitLen (prodF f L) := ⟨_, rfl⟩
   have HP := Lib.hid (show BitsP (n : Int) (prodF f L) ↔ B ≤ R by rw [HR.out, hB0]; exact Iff.rfl)
   have HB := Lib.hid hB0
   clear hB0 hall
   have kk : Ext wr wr := Ext.refl wr
   go_wp2_with fail
   go_region_held3 (fun w' => w'.cell? ⟨w.heap.size, 0, none⟩ = some (.int .i64 (n : Int)) ∧ w'.cell? ⟨w.heap.size, 2, none⟩ = some (.slice A L c)) (go_keep)
    (first
     | (go_at_call 86; refine (rbitsB (NX.ext HN.out (by first | exact kx | exact Ext.drew kx)) (by omega) HB).mono ?_; rintro e5 w5 ⟨rfl, k5⟩; (try replace kx := Ext.trans (by first | exact kx | exact Ext.drew kx) k5); replace kk : Ext wr w5 := (by first | exact Ext.trans kk k5 | exact Ext.trans (Ext.drew kk) k5); have d0 := cell_ext kk y0; have d2 := cell_ext kk y2)
     | (go_at_call 87; refine (refProduct_any A L c f _ (by omega) (HX.out.ext (kV.trans (kr.trans (by first | exact kk | exact Ext.drew kk)))) hf).mono ?_; rintro e4 w4 ⟨A2, n2, c2, rfl, hn2, hx2, k4⟩; have HN := Lib.hid hx2; clear hx2; have kx : Ext w4 w4 := Ext.refl w4; replace kk : Ext wr w4 := (by first | exact Ext.trans kk k4 | exact Ext.trans (Ext.drew kk) k4); have d0 := cell_ext kk y0; have d2 := cell_ext kk y2)
     | (go_at_call 84; refine (rrowX (n : Int) R _ HR).mono ?_; rintro e6 w6 ⟨rfl, k6⟩; (try replace kx := Ext.trans (by first | exact kx | exact Ext.drew kx) k6); replace kk : Ext wr w6 := (by first | exact Ext.trans kk k6 | exact Ext.trans (Ext.drew kk) k6); have d0 := cell_ext kk y0; have d2 := cell_ext kk y2)
     | fail)
   all_goals
    have kz := kV.trans (kr.trans kk)
    clear hTl hL n0 n1 hz hz2
    by_cases h : R < B
    ·have H := Lib.hid (show ¬ ParP (n : Int) T L f W from fun h' => by have := HP.out.1 (h' 5 (by omega)); omega)
     have e3 : (R : Int) < (B : Int) := by omega
     go_wp2
     go_ret
     exact Chk8.no H.out kz
    ·have H := Lib.hid (show ParP (n : Int) T L f W from fun k hk => by
        rcases (show k = 0 ∨ k = 1 ∨ k = 2 ∨ k = 3 ∨ k = 4 ∨ k = 5 by omega) with rfl | rfl | rfl | rfl | rfl | rfl
        ·exact HS.out
        ·exact HW.out
        ·exact HPl.out
        ·exact HC.out
        ·exact HPr.out
        ·exact HP.out.2 (by omega))
     have e3 : ¬ (R : Int) < (B : Int) := by omega
     go_wp2
     go_ret
     exact Chk8.yes H.out kz
open Go.ChangeShapes Go.WideShapes Go.ChangeAt Go.RowKit Go.Joins
structure PA (W : World) (N : Int) (T : Nat) (A : Option Addr) (L c : Nat) (Wd : Int) (f : Nat → Nat) : Prop where
 n0 : -9223372036854775808 ≤ N
 n1 : N < 9223372036854775808
 t1 : T < 18446744073709551616
 w0 : -9223372036854775808 ≤ Wd
 w1 : Wd < 9223372036854775808
 fx : FX W A L c f
 len : L ≤ 9223372036854775807
 words : ∀ j, j < L → f j < 18446744073709551616
theorem PA.ext {w w' : World} {N : Int} {T : Nat} {A : Option Addr} {L c : Nat} {Wd : Int} {f : Nat → Nat} (h : PA w N T A L c Wd f) (k : Ext w w') : PA w' N T A L c Wd f := ⟨h.n0, h.n1, h.t1, h.w0, h.w1, h.fx.ext k, h.len, h.words⟩
section
variable {H : Type} {enc : TypeId × Value → H}
end
def ErrZ (P : Prop) (z : Nat) : Prop := (P ∧ z = 0) ∨ (¬ P ∧ z = 8)
theorem Chk8.z {w w' : World} {P : Prop} {z : Nat} {e : Ending} (h : Chk8 w P e w') (hz : ErrZ P z) : e = .returned (.int .i64 (z : Int)) ∧ Ext w w' := by
 rcases h with ⟨h, he, hw⟩ | ⟨h, he, hw⟩
 ·rcases hz with ⟨_, rfl⟩ | ⟨h', _⟩
  ·exact ⟨he, hw⟩
  ·exact absurd h h'
 ·rcases hz with ⟨h', _⟩ | ⟨_, rfl⟩
  ·exact absurd h' h
  ·exact ⟨he, hw⟩
def be (l : List Nat) : Nat := l.foldl (fun v b => v * 256 + b) 0
theorem be_snoc (l : List Nat) (b : Nat) : be (l ++ [b]) = be l * 256 + b := by simp [be]
theorem be_take {l : List Nat} {k x : Nat} (h : l[k]? = some x) : be (l.take (k + 1)) = be (l.take k) * 256 + x := by
 rw [List.take_add_one, h]
 exact be_snoc _ _
theorem foldl_be : ∀ (l : List Nat) (v k : Nat), (∀ x ∈ l, x < 256) → v < 256 ^ k → l.foldl (fun v b => v * 256 + b) v < 256 ^ (k + l.length)
 | [], v, k, _, h => by simpa using h
 | x :: l, v, k, hl, h => by
  have h1 := hl x (by simp)
  have h2 := foldl_be l (v * 256 + x) (k + 1) (fun y hy => hl y (List.mem_cons_of_mem _ hy)) (by rw [Nat.pow_succ]; omega)
  rw [show k + (x :: l).length = k + 1 + l.length by simp; omega]
  exact h2
theorem be_lt {l : List Nat} (h : ∀ x ∈ l, x < 256) : be l < 256 ^ l.length := by
 have := foldl_be l 0 0 h (by decide)
 rw [Nat.zero_add] at this
 exact this
theorem pow256 : ∀ k, k ≤ 8 → 256 ^ k ≤ 18446744073709551616 := by decide
theorem be_word {l : List Nat} (h : ∀ x ∈ l, x < 256) (hl : l.length ≤ 8) : be l < 18446744073709551616 := Nat.lt_of_lt_of_le (be_lt h) (pow256 _ hl)
theorem be_small {l : List Nat} {k : Nat} (h : ∀ x ∈ l, x < 256) (hl : l.length = k) : be l < 256 ^ k := by rw [← hl]; exact be_lt h
abbrev Pr (α : Type) := List Nat → Except Nat (α × List Nat)
def bindP {α β : Type} (f : Pr α) (g : α → Pr β) : Pr β := fun l => match f l with
 | .error e => .error e
 | .ok (x, r) => g x r
theorem bindP_ok {α β : Type} {f : Pr α} {g : α → Pr β} {l r : List Nat} {x : α} (h : f l = .ok (x, r)) : bindP f g l = g x r := by unfold bindP; rw [h]
theorem bindP_err {α β : Type} {f : Pr α} {g : α → Pr β} {l : List Nat} {e : Nat} (h : f l = .error e) : bindP f g l = .error e := by unfold bindP; rw [h]
def numP (n : Nat) : Pr Nat := fun l => if l.length < n then .error 2 else .ok (be (l.take n), l.drop n)
def betP (n a b : Nat) : Pr Nat := bindP (numP n) fun v r => if v < a ∨ b < v then .error 3 else .ok (v, r)
def aft {α : Type} (xs : List α) : Except Nat (List α × List Nat) → Except Nat (List α × List Nat)
 | .error e => .error e
 | .ok (ys, r) => .ok (xs ++ ys, r)
theorem aft_nil {α : Type} (r : Except Nat (List α × List Nat)) : aft [] r = r := by rcases r with e | ⟨ys, r⟩ <;> rfl
theorem aft_aft {α : Type} (xs ys : List α) (r : Except Nat (List α × List Nat)) : aft xs (aft ys r) = aft (xs ++ ys) r := by rcases r with e | ⟨zs, r⟩ <;> simp [aft]
def manyP {α : Type} (f : Pr α) : Nat → Pr (List α)
 | 0, l => .ok ([], l)
 | k + 1, l => match f l with
  | .error e => .error e
  | .ok (x, r) => aft [x] (manyP f k r)
theorem manyP_err {α : Type} {f : Pr α} {k e : Nat} {l : List Nat} (h : f l = .error e) : manyP f (k + 1) l = .error e := by rw [manyP, h]
theorem manyP_ok {α : Type} {f : Pr α} {k : Nat} {l r : List Nat} {x : α} (h : f l = .ok (x, r)) : manyP f (k + 1) l = aft [x] (manyP f k r) := by rw [manyP, h]
def eachP {β α : Type} (f : β → Pr α) : List β → Pr (List α)
 | [], l => .ok ([], l)
 | b :: bs, l => match f b l with
  | .error e => .error e
  | .ok (x, r) => aft [x] (eachP f bs r)
theorem eachP_err {β α : Type} {f : β → Pr α} {b : β} {bs : List β} {e : Nat} {l : List Nat} (h : f b l = .error e) : eachP f (b :: bs) l = .error e := by rw [eachP, h]
theorem eachP_ok {β α : Type} {f : β → Pr α} {b : β} {bs : List β} {l r : List Nat} {x : α} (h : f b l = .ok (x, r)) : eachP f (b :: bs) l = aft [x] (eachP f bs r) := by rw [eachP, h]
theorem numP_ok {n v : Nat} {l r : List Nat} (h : numP n l = .ok (v, r)) : n ≤ l.length ∧ v = be (l.take n) ∧ r = l.drop n := by
 unfold numP at h
 split at h
 ·cases h
 ·injection h with h
  injection h with h1 h2
  exact ⟨by omega, h1.symm, h2.symm⟩
theorem manyP_len {α : Type} {f : Pr α} : ∀ {k : Nat} {l r : List Nat} {xs : List α}, manyP f k l = .ok (xs, r) → xs.length = k
 | 0, l, r, xs, h => by
  injection h with h
  injection h with h1 h2
  subst h1
  rfl
 | k + 1, l, r, xs, h => by
  rw [manyP] at h
  rcases hf : f l with e | ⟨x, r1⟩
  ·rw [hf] at h; cases h
  ·rw [hf] at h
   rcases hm : manyP f k r1 with e | ⟨ys, r2⟩
   ·simp only [hm, aft] at h; cases h
   ·simp only [hm, aft] at h
    injection h with h
    injection h with h1 h2
    have := manyP_len hm
    subst h1
    simp [this]
theorem eachP_len {β α : Type} {f : β → Pr α} : ∀ {bs : List β} {l r : List Nat} {xs : List α}, eachP f bs l = .ok (xs, r) → xs.length = bs.length
 | [], l, r, xs, h => by
  injection h with h
  injection h with h1 h2
  subst h1
  rfl
 | b :: bs, l, r, xs, h => by
  rw [eachP] at h
  rcases hf : f b l with e | ⟨x, r1⟩
  ·rw [hf] at h; cases h
  ·rw [hf] at h
   rcases hm : eachP f bs r1 with e | ⟨ys, r2⟩
   ·simp only [hm, aft] at h; cases h
   ·simp only [hm, aft] at h
    injection h with h
    injection h with h1 h2
    have := eachP_len hm
    subst h1
    simp [this]
structure PV where
 n : Nat
 t : Nat
 w : Nat
 q : List Nat
open Classical in
noncomputable def paramP : Pr PV := bindP (numP 2) fun n => bindP (numP 4) fun t => bindP (numP 1) fun w => bindP (numP 1) fun k => bindP (manyP (numP 8) k) fun q r =>
 if ParP (n : Int) t q.length (fun j => q.getD j 0) (w : Int) then .ok (⟨n, t, w, q⟩, r) else .error 8
def elemP (n : Nat) (q : List Nat) : Pr (List (List Nat)) := eachP (fun p => manyP (betP 8 0 (p - 1)) n) q
def cipherP (p : PV) : Pr (List (List (List Nat))) := bindP (betP 1 2 3) fun k => bindP (betP 1 0 (p.q.length - 1)) fun v => manyP (elemP p.n (p.q.take (v + 1))) k
def publicP (p : PV) : Pr (List (List (List Nat))) := manyP (elemP p.n p.q) 2
def signZ (v : Nat) : Int := if v = 2 then -1 else (v : Int)
def signP : Pr Int := bindP (betP 1 0 2) fun v r => .ok (signZ v, r)
def secretP (p : PV) : Pr (List Int) := manyP signP p.n
def endP {α : Type} : Except Nat (α × List Nat) → Except Nat α
 | .error e => .error e
 | .ok (x, r) => if 0 < r.length then .error 14 else .ok x
noncomputable def headP {α : Type} (kind : Nat) (f : PV → Pr α) : Pr (PV × α) := bindP (betP 1 kind kind) fun _ => bindP paramP fun p => bindP (f p) fun x r => .ok ((p, x), r)
end Go.Proofs.YtkbcobjhlpjieaaGreatDoor
