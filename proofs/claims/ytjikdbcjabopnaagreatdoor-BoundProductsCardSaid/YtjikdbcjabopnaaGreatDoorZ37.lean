import Derived.Test.YtjikdbcjabopnaaGreatDoorZARef
namespace Go.Proofs.YtjikdbcjabopnaaGreatDoor
open Go.RowKit
set_option linter.unusedVariables false
set_option linter.unusedSimpArgs false
set_option maxRecDepth 100000
def RP (w : World) (X : Nat) (ee : Ending) (w' : World) : Prop := ∃ A n c, ee = .returned (.slice A n c) ∧ n ≤ 600 ∧ Hid (NX w' A n c (nw X)) ∧ Ext w w'
theorem even_half {n : Nat} (T : Nat) (h : n % 2 = 0) : n / 2 * T = n * T / 2 := by
 obtain ⟨h2, rfl⟩ : ∃ h2, n = 2 * h2 := ⟨n / 2, by omega⟩
 rw [Nat.mul_assoc, Nat.mul_div_cancel_left _ (by omega), Nat.mul_div_cancel_left _ (by omega)]
theorem geo_two (n : Nat) : (geo n 2 + 1) / 2 = (n + 2) / 2 := by
 have : geo n 2 = 0 + n ^ 0 + n ^ 1 := rfl
 rw [this, Nat.pow_zero, Nat.pow_one]
 omega
theorem geo_three (n : Nat) : (geo n 3 + 1) / 2 = (n * n + n + 2) / 2 := by
 have : geo n 3 = 0 + n ^ 0 + n ^ 1 + n ^ 2 := rfl
 rw [this, Nat.pow_zero, Nat.pow_one, Nat.pow_two]
 generalize n * n = m
 omega
theorem swS_le {n Wd L : Nat} {f : Nat → Nat} (hn : n ≤ 4096) (hW : Wd ≤ 16) (hf : ∀ j, j < L → f j < 1125899906842624) : ∀ k, k ≤ L → swS n Wd f k ≤ k * 36893488147419103232
 | 0, _ => by simp [swS]
 | k + 1, hk => by
  have h1 := swS_le hn hW hf k (by omega)
  have h2 := hf k (by omega)
  have h3 : n * Wd ≤ 4096 * 16 := Nat.mul_le_mul hn hW
  have h4 : n * Wd * ((f k - 1) / 2) ≤ 4096 * 16 * 562949953421312 := Nat.mul_le_mul h3 (by omega)
  rw [swS]
  omega
theorem sum41 {X Y : Nat} (hX : X < W64 ^ 40) (hY : Y ≤ 18446744073709551616 * 18446744073709551615) : X + Y < W64 ^ 41 := by
 have h : W64 ^ 2 ≤ W64 ^ 40 := Nat.pow_le_pow_right W64_pos (by omega)
 rw [show (41 : Nat) = 40 + 1 from rfl, Nat.pow_succ]
 rw [show W64 ^ 2 = 18446744073709551616 * 18446744073709551616 by rw [Nat.pow_two, W64_eq]] at h
 generalize W64 ^ 40 = P at *
 rw [W64_eq]
 omega
theorem swS_41 {n Wd L m X : Nat} {f : Nat → Nat} (hn : n ≤ 4096) (hW : Wd ≤ 16) (hf : ∀ j, j < L → f j < 1125899906842624) (hm : m < L) (hL : L ≤ 8) (hX : X < W64 ^ 40) : ∀ k, k ≤ m + 1 → X + swS n Wd f k < W64 ^ 41 := fun k hk => by
 have h1 := swS_le (L := L) hn hW hf k (by omega)
 have h2 : k * 36893488147419103232 ≤ 8 * 36893488147419103232 := Nat.mul_le_mul_right _ (by omega)
 exact sum41 hX (Nat.le_trans h1 (Nat.le_trans h2 (by decide)))
set_option maxHeartbeats 4000000 in
theorem rFresh_any {n T W0 L c : Nat} {A : Option Addr} {f : Nat → Nat} {w : World} (hP : Hid (PA w (n : Int) T A L c (W0 : Int) f)) (HK : Hid (ParK n T W0 L f))  :
    Calls Tryz.prog 31 #[.agg #[.int .i64 (n : Int), .int .u64 (T : Int), .slice A L c, .int .i64 (W0 : Int)]] w (RP w (freshZ n W0)) := by
 have hk := HK.out
 have hn4 := hk.n4
 have hn8 := hk.n8
 have ht30 := hk.t30
 have ht2 := hk.t2
 have hw16 := hk.w16
 have hl8 := hk.l8
 have hL : L ≤ 100 := by omega
 clear hk
 have kw : Ext w (w.alloc (.cells #[.int .i64 (n : Int), .int .u64 (T : Int), .slice A L c, .int .i64 (W0 : Int)] 25)) := (Ext.refl w).alloc _
 obtain ⟨x0, x1, x2, x3⟩ := four_at w (.int .i64 (n : Int)) (.int .u64 (T : Int)) (.slice A L c) (.int .i64 (W0 : Int)) 25
 obtain ⟨z0, hz0⟩ : ∃ z, z = 2 * n := ⟨_, rfl⟩
 obtain ⟨z1, hz1⟩ : ∃ z, z = z0 + 1 := ⟨_, rfl⟩
 obtain ⟨z2, hz2⟩ : ∃ z, z = W0 * z1 := ⟨_, rfl⟩
 have hz2b : z2 ≤ 16 * 8193 := by rw [hz2]; exact Nat.mul_le_mul hw16 (by omega)
 have u0 : IntKind.i64.wrap (2 * (n : Int)) = (z0 : Int) := by rw [IntKind.wrap_i64]; omega
 have u1 : IntKind.i64.wrap ((z0 : Int) + 1) = (z1 : Int) := by rw [IntKind.wrap_i64]; omega
 have u2 : IntKind.i64.wrap ((W0 : Int) * (z1 : Int)) = (z2 : Int) := by rw [IntKind.wrap_i64, ← Int.natCast_mul, ← hz2]; omega
 have HE := Lib.hid (show freshZ n W0 = z2 by unfold freshZ; rw [hz2, hz1, hz0])
 clear hz0 hz1 hz2
 go_enter Tryz.func31, Tryz.ntmps31
 go_wp2_with fail
 refine (of_any14 z2 (by omega) _).mono ?_
 rintro e w1 ⟨A1, n1, c1, rfl, hn1, hx, k1⟩
 have H1 := Lib.hid hx
 clear hx
 go_wp2
 go_ret
 exact ⟨A1, n1, c1, rfl, by omega, by rw [HE.out]; exact Lib.hid H1.out, kw.trans k1⟩
set_option maxHeartbeats 4000000 in
theorem r14Add_any {n T W0 L c m na ca Xa nb cb Xb : Nat} {A Aa Ab : Option Addr} {f : Nat → Nat} {w : World} (hP : Hid (PA w (n : Int) T A L c (W0 : Int) f)) (HK : Hid (ParK n T W0 L f)) (hm : m < L) (hxa : Hid (NV w (.slice Aa na ca) Xa 40)) (hxb : Hid (NV w (.slice Ab nb cb) Xb 40)) :
    Calls Tryz.prog 32 #[.agg #[.int .i64 (n : Int), .int .u64 (T : Int), .slice A L c, .int .i64 (W0 : Int)], .int .i64 (m : Int), .slice Aa na ca, .slice Ab nb cb] w (RP w (addZ T (prodF f (m + 1)) Xa Xb)) := by
 have hk := HK.out
 have hn4 := hk.n4
 have hn8 := hk.n8
 have ht30 := hk.t30
 have ht2 := hk.t2
 have hw16 := hk.w16
 have hl8 := hk.l8
 have hL : L ≤ 100 := by omega
 clear hk
 have kw : Ext w (w.alloc (.cells #[.int .i64 (n : Int), .int .u64 (T : Int), .slice A L c, .int .i64 (W0 : Int)] 25)) := (Ext.refl w).alloc _
 obtain ⟨x0, x1, x2, x3⟩ := four_at w (.int .i64 (n : Int)) (.int .u64 (T : Int)) (.slice A L c) (.int .i64 (W0 : Int)) 25
 go_enter Tryz.func32, Tryz.ntmps32
 go_wp2_with fail
 generalize w.alloc (.cells #[.int .i64 (n : Int), .int .u64 (T : Int), .slice A L c, .int .i64 (W0 : Int)] 25) = V at *
 refine (rrest_any (Lib.hid (hP.out.ext kw)) hL (by omega) ht2).mono ?_
 rintro e w1 ⟨A_r, n_r, c_r, rfl, hn_r, hx, k1⟩
 have H_r : Hid (NX w1 A_r n_r c_r (nw (prodF f (m + 1) % T))) := Lib.hid hx
 clear hx
 replace x0 := cell_ext k1 x0
 replace x1 := cell_ext k1 x1
 replace x2 := cell_ext k1 x2
 replace x3 := cell_ext k1 x3
 replace kw := kw.trans k1
 go_wp2_with fail
 refine (rsum3 (M := 40) (NV.ext hxa.out kw) (NV.ext hxb.out kw) (NX.val (M := 40) H_r.out (by omega)) (by omega)).mono ?_
 rintro e w2 ⟨A_s, n_s, c_s, rfl, hn_s, hx, k2⟩
 have H_s : Hid (NX w2 A_s n_s c_s (nw (Xa + Xb + prodF f (m + 1) % T))) := Lib.hid hx
 clear hx
 replace x0 := cell_ext k2 x0
 replace x1 := cell_ext k2 x1
 replace x2 := cell_ext k2 x2
 replace x3 := cell_ext k2 x3
 replace kw := kw.trans k2
 replace H_r := Lib.hid (NX.ext H_r.out k2)
 go_wp2
 go_ret
 exact ⟨A_s, n_s, c_s, rfl, by omega, by rw [show addZ T (prodF f (m + 1)) Xa Xb = Xa + Xb + prodF f (m + 1) % T from rfl]; exact H_s, kw⟩
set_option maxHeartbeats 4000000 in
theorem r14AddText_any {n T W0 L c m na ca Xa : Nat} {A Aa : Option Addr} {f : Nat → Nat} {w : World} (hP : Hid (PA w (n : Int) T A L c (W0 : Int) f)) (HK : Hid (ParK n T W0 L f)) (hm : m < L) (hxa : Hid (NV w (.slice Aa na ca) Xa 40)) :
    Calls Tryz.prog 33 #[.agg #[.int .i64 (n : Int), .int .u64 (T : Int), .slice A L c, .int .i64 (W0 : Int)], .int .i64 (m : Int), .slice Aa na ca] w (RP w (addZ T (prodF f (m + 1)) Xa 0)) := by
 have hk := HK.out
 have hn4 := hk.n4
 have hn8 := hk.n8
 have ht30 := hk.t30
 have ht2 := hk.t2
 have hw16 := hk.w16
 have hl8 := hk.l8
 have hL : L ≤ 100 := by omega
 clear hk
 have kw : Ext w (w.alloc (.cells #[.int .i64 (n : Int), .int .u64 (T : Int), .slice A L c, .int .i64 (W0 : Int)] 25)) := (Ext.refl w).alloc _
 obtain ⟨x0, x1, x2, x3⟩ := four_at w (.int .i64 (n : Int)) (.int .u64 (T : Int)) (.slice A L c) (.int .i64 (W0 : Int)) 25
 go_enter Tryz.func33, Tryz.ntmps33
 go_wp2_with fail
 generalize w.alloc (.cells #[.int .i64 (n : Int), .int .u64 (T : Int), .slice A L c, .int .i64 (W0 : Int)] 25) = V at *
 refine (rrest_any (Lib.hid (hP.out.ext kw)) hL (by omega) ht2).mono ?_
 rintro e w1 ⟨A_r, n_r, c_r, rfl, hn_r, hx, k1⟩
 have H_r : Hid (NX w1 A_r n_r c_r (nw (prodF f (m + 1) % T))) := Lib.hid hx
 clear hx
 replace x0 := cell_ext k1 x0
 replace x1 := cell_ext k1 x1
 replace x2 := cell_ext k1 x2
 replace x3 := cell_ext k1 x3
 replace kw := kw.trans k1
 go_wp2_with fail
 refine (rsum2 (M := 40) (NV.ext hxa.out kw) (NX.val (M := 40) H_r.out (by omega)) (by omega)).mono ?_
 rintro e w2 ⟨A_s, n_s, c_s, rfl, hn_s, hx, k2⟩
 have H_s : Hid (NX w2 A_s n_s c_s (nw (Xa + prodF f (m + 1) % T))) := Lib.hid hx
 clear hx
 replace x0 := cell_ext k2 x0
 replace x1 := cell_ext k2 x1
 replace x2 := cell_ext k2 x2
 replace x3 := cell_ext k2 x3
 replace kw := kw.trans k2
 replace H_r := Lib.hid (NX.ext H_r.out k2)
 go_wp2
 go_ret
 exact ⟨A_s, n_s, c_s, rfl, by omega, by rw [show addZ T (prodF f (m + 1)) Xa 0 = Xa + prodF f (m + 1) % T by unfold addZ; omega]; exact H_s, kw⟩
set_option maxHeartbeats 4000000 in
theorem r14Mul_any {n T W0 L c m na ca Xa nb cb Xb : Nat} {A Aa Ab : Option Addr} {f : Nat → Nat} {w : World} (hP : Hid (PA w (n : Int) T A L c (W0 : Int) f)) (HK : Hid (ParK n T W0 L f)) (hm : m < L) (hxa : Hid (NV w (.slice Aa na ca) Xa 40)) (hxb : Hid (NV w (.slice Ab nb cb) Xb 40)) :
    Calls Tryz.prog 37 #[.agg #[.int .i64 (n : Int), .int .u64 (T : Int), .slice A L c, .int .i64 (W0 : Int)], .int .i64 (m : Int), .slice Aa na ca, .slice Ab nb cb] w (RP w (mulZ n T (prodF f (m + 1)) Xa Xb)) := by
 have hk := HK.out
 have hn4 := hk.n4
 have hn8 := hk.n8
 have ht30 := hk.t30
 have ht2 := hk.t2
 have hw16 := hk.w16
 have hl8 := hk.l8
 have hL : L ≤ 100 := by omega
 clear hk
 have kw : Ext w (w.alloc (.cells #[.int .i64 (n : Int), .int .u64 (T : Int), .slice A L c, .int .i64 (W0 : Int)] 25)) := (Ext.refl w).alloc _
 obtain ⟨x0, x1, x2, x3⟩ := four_at w (.int .i64 (n : Int)) (.int .u64 (T : Int)) (.slice A L c) (.int .i64 (W0 : Int)) 25
 obtain ⟨h, hh⟩ : ∃ h, h = n / 2 := ⟨_, rfl⟩
 obtain ⟨h1, hh1⟩ : ∃ h1, h1 = h + 1 := ⟨_, rfl⟩
 obtain ⟨s, hs⟩ : ∃ s, s = n * n := ⟨_, rfl⟩
 obtain ⟨s1, hs1⟩ : ∃ s1, s1 = s + n := ⟨_, rfl⟩
 obtain ⟨s2, hs2⟩ : ∃ s2, s2 = s1 + 2 := ⟨_, rfl⟩
 obtain ⟨s3, hs3⟩ : ∃ s3, s3 = s2 / 2 := ⟨_, rfl⟩
 have hsb : s ≤ 4096 * 4096 := by rw [hs]; exact Nat.mul_le_mul hn4 hn4
 have u0 : (n : Int).tdiv 2 = (h : Int) := by rw [hh]; rfl
 have u1 : IntKind.i64.wrap ((h : Int) + 1) = (h1 : Int) := by rw [IntKind.wrap_i64]; omega
 have u2 : IntKind.i64.wrap ((n : Int) * (n : Int)) = (s : Int) := by rw [IntKind.wrap_i64, ← Int.natCast_mul, ← hs]; omega
 have u3 : IntKind.i64.wrap ((s : Int) + (n : Int)) = (s1 : Int) := by rw [IntKind.wrap_i64]; omega
 have u4 : IntKind.i64.wrap ((s1 : Int) + 2) = (s2 : Int) := by rw [IntKind.wrap_i64]; omega
 have u5 : (s2 : Int).tdiv 2 = (s3 : Int) := by rw [hs3]; rfl
 have u6 : IntKind.i64.wrap (h : Int) = (h : Int) := by rw [IntKind.wrap_i64]; omega
 have u7 : IntKind.i64.wrap (s3 : Int) = (s3 : Int) := by rw [IntKind.wrap_i64]; omega
 have u8 : (n : Int) / 2 = (h : Int) := by omega
 have u9 : (s2 : Int) / 2 = (s3 : Int) := by omega
 have hbh : h < 9223372036854775808 := by omega
 have hbh1 : h1 < 9223372036854775808 := by omega
 have hbs3 : s3 < 9223372036854775808 := by omega
 obtain ⟨P, hPr⟩ : ∃ P, P = prodF f (m + 1) := ⟨_, rfl⟩
 have hP0 : 0 < P := by rw [hPr]; exact prodF_pos2 HK.out hm
 have HS3 := Lib.hid (show (geo n 3 + 1) / 2 = s3 by rw [geo_three, hs3, hs2, hs1, hs])
 have HH := Lib.hid (show h * T = n * T / 2 by rw [hh]; exact even_half T HK.out.two)
 have HH1 := Lib.hid (show n * h1 * T = n * T * (n / 2 + 1) by rw [hh1, hh, Nat.mul_right_comm])
 have HPr := Lib.hid hPr
 clear hh hh1 hs hs1 hs2 hs3 hsb hPr
 go_enter Tryz.func37, Tryz.ntmps37
 go_wp2_with fail
 generalize w.alloc (.cells #[.int .i64 (n : Int), .int .u64 (T : Int), .slice A L c, .int .i64 (W0 : Int)] 25) = V at *
 refine (of1 T (by omega) _).mono ?_
 rintro e w1 ⟨A_t, n_t, c_t, rfl, hn_t, hx, k1⟩
 have H_t : Hid (NX w1 A_t n_t c_t (nw (T))) := Lib.hid hx
 clear hx
 replace x0 := cell_ext k1 x0
 replace x1 := cell_ext k1 x1
 replace x2 := cell_ext k1 x2
 replace x3 := cell_ext k1 x3
 replace kw := kw.trans k1
 go_wp2_with fail
 refine (of_any14 n (by omega) _).mono ?_
 rintro e w2 ⟨A_n, n_n, c_n, rfl, hn_n, hx, k2⟩
 have H_n : Hid (NX w2 A_n n_n c_n (nw (n))) := Lib.hid hx
 clear hx
 replace x0 := cell_ext k2 x0
 replace x1 := cell_ext k2 x1
 replace x2 := cell_ext k2 x2
 replace x3 := cell_ext k2 x3
 replace kw := kw.trans k2
 replace H_t := Lib.hid (NX.ext H_t.out k2)
 go_wp2_with fail
 refine (of_any14 h1 hbh1 _).mono ?_
 rintro e w3 ⟨A_k, n_k, c_k, rfl, hn_k, hx, k3⟩
 have H_k : Hid (NX w3 A_k n_k c_k (nw (h1))) := Lib.hid hx
 clear hx
 replace x0 := cell_ext k3 x0
 replace x1 := cell_ext k3 x1
 replace x2 := cell_ext k3 x2
 replace x3 := cell_ext k3 x3
 replace kw := kw.trans k3
 replace H_t := Lib.hid (NX.ext H_t.out k3)
 replace H_n := Lib.hid (NX.ext H_n.out k3)
 go_wp2_with fail
 refine (of_any14 h hbh _).mono ?_
 rintro e w4 ⟨A_hh, n_hh, c_hh, rfl, hn_hh, hx, k4⟩
 have H_hh : Hid (NX w4 A_hh n_hh c_hh (nw (h))) := Lib.hid hx
 clear hx
 replace x0 := cell_ext k4 x0
 replace x1 := cell_ext k4 x1
 replace x2 := cell_ext k4 x2
 replace x3 := cell_ext k4 x3
 replace kw := kw.trans k4
 replace H_t := Lib.hid (NX.ext H_t.out k4)
 replace H_n := Lib.hid (NX.ext H_n.out k4)
 replace H_k := Lib.hid (NX.ext H_k.out k4)
 go_wp2_with fail
 refine (rtimes2 (M := 1) (NX.val (M := 1) H_hh.out (by omega)) (NX.val (M := 1) H_t.out (by omega)) (by omega)).mono ?_
 rintro e w5 ⟨A_half, n_half, c_half, rfl, hn_half, hx, k5⟩
 have H_half : Hid (NX w5 A_half n_half c_half (nw (h * T))) := Lib.hid hx
 clear hx
 replace x0 := cell_ext k5 x0
 replace x1 := cell_ext k5 x1
 replace x2 := cell_ext k5 x2
 replace x3 := cell_ext k5 x3
 replace kw := kw.trans k5
 replace H_t := Lib.hid (NX.ext H_t.out k5)
 replace H_n := Lib.hid (NX.ext H_n.out k5)
 replace H_k := Lib.hid (NX.ext H_k.out k5)
 replace H_hh := Lib.hid (NX.ext H_hh.out k5)
 go_wp2_with fail
 refine (rtimes3 (M := 1) (NX.val (M := 1) H_n.out (by omega)) (NX.val (M := 1) H_k.out (by omega)) (NX.val (M := 1) H_t.out (by omega)) (by omega)).mono ?_
 rintro e w6 ⟨A_nkt, n_nkt, c_nkt, rfl, hn_nkt, hx, k6⟩
 have H_nkt : Hid (NX w6 A_nkt n_nkt c_nkt (nw (n * h1 * T))) := Lib.hid hx
 clear hx
 replace x0 := cell_ext k6 x0
 replace x1 := cell_ext k6 x1
 replace x2 := cell_ext k6 x2
 replace x3 := cell_ext k6 x3
 replace kw := kw.trans k6
 replace H_t := Lib.hid (NX.ext H_t.out k6)
 replace H_n := Lib.hid (NX.ext H_n.out k6)
 replace H_k := Lib.hid (NX.ext H_k.out k6)
 replace H_hh := Lib.hid (NX.ext H_hh.out k6)
 replace H_half := Lib.hid (NX.ext H_half.out k6)
 go_wp2_with fail
 refine (rrest_any (Lib.hid (hP.out.ext kw)) hL (by omega) ht2).mono ?_
 rintro e w7 ⟨A_r, n_r, c_r, rfl, hn_r, hx, k7⟩
 have H_r : Hid (NX w7 A_r n_r c_r (nw (prodF f (m + 1) % T))) := Lib.hid hx
 clear hx
 replace x0 := cell_ext k7 x0
 replace x1 := cell_ext k7 x1
 replace x2 := cell_ext k7 x2
 replace x3 := cell_ext k7 x3
 replace kw := kw.trans k7
 replace H_t := Lib.hid (NX.ext H_t.out k7)
 replace H_n := Lib.hid (NX.ext H_n.out k7)
 replace H_k := Lib.hid (NX.ext H_k.out k7)
 replace H_hh := Lib.hid (NX.ext H_hh.out k7)
 replace H_half := Lib.hid (NX.ext H_half.out k7)
 replace H_nkt := Lib.hid (NX.ext H_nkt.out k7)
 go_wp2_with fail
 refine (of_any14 1 (by omega) _).mono ?_
 rintro e w8 ⟨A_one, n_one, c_one, rfl, hn_one, hx, k8⟩
 have H_one : Hid (NX w8 A_one n_one c_one (nw (1))) := Lib.hid hx
 clear hx
 replace x0 := cell_ext k8 x0
 replace x1 := cell_ext k8 x1
 replace x2 := cell_ext k8 x2
 replace x3 := cell_ext k8 x3
 replace kw := kw.trans k8
 replace H_t := Lib.hid (NX.ext H_t.out k8)
 replace H_n := Lib.hid (NX.ext H_n.out k8)
 replace H_k := Lib.hid (NX.ext H_k.out k8)
 replace H_hh := Lib.hid (NX.ext H_hh.out k8)
 replace H_half := Lib.hid (NX.ext H_half.out k8)
 replace H_nkt := Lib.hid (NX.ext H_nkt.out k8)
 replace H_r := Lib.hid (NX.ext H_r.out k8)
 go_wp2_with fail
 refine (rsum3 (M := 5) (NX.val (M := 5) H_half.out (by omega)) (NX.val (M := 5) H_one.out (by omega)) (NX.val (M := 5) H_nkt.out (by omega)) (by omega)).mono ?_
 rintro e w9 ⟨A_f1, n_f1, c_f1, rfl, hn_f1, hx, k9⟩
 have H_f1 : Hid (NX w9 A_f1 n_f1 c_f1 (nw (h * T + 1 + n * h1 * T))) := Lib.hid hx
 clear hx
 replace x0 := cell_ext k9 x0
 replace x1 := cell_ext k9 x1
 replace x2 := cell_ext k9 x2
 replace x3 := cell_ext k9 x3
 replace kw := kw.trans k9
 replace H_t := Lib.hid (NX.ext H_t.out k9)
 replace H_n := Lib.hid (NX.ext H_n.out k9)
 replace H_k := Lib.hid (NX.ext H_k.out k9)
 replace H_hh := Lib.hid (NX.ext H_hh.out k9)
 replace H_half := Lib.hid (NX.ext H_half.out k9)
 replace H_nkt := Lib.hid (NX.ext H_nkt.out k9)
 replace H_r := Lib.hid (NX.ext H_r.out k9)
 replace H_one := Lib.hid (NX.ext H_one.out k9)
 go_wp2_with fail
 refine (rtimes2 (M := 10) (NX.val (M := 10) H_r.out (by omega)) (NX.val (M := 10) H_f1.out (by omega)) (by omega)).mono ?_
 rintro e w10 ⟨A_first, n_first, c_first, rfl, hn_first, hx, k10⟩
 have H_first : Hid (NX w10 A_first n_first c_first (nw (prodF f (m + 1) % T * (h * T + 1 + n * h1 * T)))) := Lib.hid hx
 clear hx
 replace x0 := cell_ext k10 x0
 replace x1 := cell_ext k10 x1
 replace x2 := cell_ext k10 x2
 replace x3 := cell_ext k10 x3
 replace kw := kw.trans k10
 replace H_t := Lib.hid (NX.ext H_t.out k10)
 replace H_n := Lib.hid (NX.ext H_n.out k10)
 replace H_k := Lib.hid (NX.ext H_k.out k10)
 replace H_hh := Lib.hid (NX.ext H_hh.out k10)
 replace H_half := Lib.hid (NX.ext H_half.out k10)
 replace H_nkt := Lib.hid (NX.ext H_nkt.out k10)
 replace H_r := Lib.hid (NX.ext H_r.out k10)
 replace H_one := Lib.hid (NX.ext H_one.out k10)
 replace H_f1 := Lib.hid (NX.ext H_f1.out k10)
 go_wp2_with fail
 refine (rsum2 (M := 5) (NX.val (M := 5) H_half.out (by omega)) (NX.val (M := 5) H_nkt.out (by omega)) (by omega)).mono ?_
 rintro e w11 ⟨A_g1, n_g1, c_g1, rfl, hn_g1, hx, k11⟩
 have H_g1 : Hid (NX w11 A_g1 n_g1 c_g1 (nw (h * T + n * h1 * T))) := Lib.hid hx
 clear hx
 replace x0 := cell_ext k11 x0
 replace x1 := cell_ext k11 x1
 replace x2 := cell_ext k11 x2
 replace x3 := cell_ext k11 x3
 replace kw := kw.trans k11
 replace H_t := Lib.hid (NX.ext H_t.out k11)
 replace H_n := Lib.hid (NX.ext H_n.out k11)
 replace H_k := Lib.hid (NX.ext H_k.out k11)
 replace H_hh := Lib.hid (NX.ext H_hh.out k11)
 replace H_half := Lib.hid (NX.ext H_half.out k11)
 replace H_nkt := Lib.hid (NX.ext H_nkt.out k11)
 replace H_r := Lib.hid (NX.ext H_r.out k11)
 replace H_one := Lib.hid (NX.ext H_one.out k11)
 replace H_f1 := Lib.hid (NX.ext H_f1.out k11)
 replace H_first := Lib.hid (NX.ext H_first.out k11)
 go_wp2_with fail
 refine (rsum2 (M := 40) (NV.ext hxa.out kw) (NV.ext hxb.out kw) (by omega)).mono ?_
 rintro e w12 ⟨A_ab, n_ab, c_ab, rfl, hn_ab, hx, k12⟩
 have H_ab : Hid (NX w12 A_ab n_ab c_ab (nw (Xa + Xb))) := Lib.hid hx
 clear hx
 replace x0 := cell_ext k12 x0
 replace x1 := cell_ext k12 x1
 replace x2 := cell_ext k12 x2
 replace x3 := cell_ext k12 x3
 replace kw := kw.trans k12
 replace H_t := Lib.hid (NX.ext H_t.out k12)
 replace H_n := Lib.hid (NX.ext H_n.out k12)
 replace H_k := Lib.hid (NX.ext H_k.out k12)
 replace H_hh := Lib.hid (NX.ext H_hh.out k12)
 replace H_half := Lib.hid (NX.ext H_half.out k12)
 replace H_nkt := Lib.hid (NX.ext H_nkt.out k12)
 replace H_r := Lib.hid (NX.ext H_r.out k12)
 replace H_one := Lib.hid (NX.ext H_one.out k12)
 replace H_f1 := Lib.hid (NX.ext H_f1.out k12)
 replace H_first := Lib.hid (NX.ext H_first.out k12)
 replace H_g1 := Lib.hid (NX.ext H_g1.out k12)
 go_wp2_with fail
 refine (rtimes2 (M := 50) (NX.val (M := 50) H_g1.out (by omega)) (NX.val (M := 50) H_ab.out (by omega)) (by omega)).mono ?_
 rintro e w13 ⟨A_second, n_second, c_second, rfl, hn_second, hx, k13⟩
 have H_second : Hid (NX w13 A_second n_second c_second (nw ((h * T + n * h1 * T) * (Xa + Xb)))) := Lib.hid hx
 clear hx
 replace x0 := cell_ext k13 x0
 replace x1 := cell_ext k13 x1
 replace x2 := cell_ext k13 x2
 replace x3 := cell_ext k13 x3
 replace kw := kw.trans k13
 replace H_t := Lib.hid (NX.ext H_t.out k13)
 replace H_n := Lib.hid (NX.ext H_n.out k13)
 replace H_k := Lib.hid (NX.ext H_k.out k13)
 replace H_hh := Lib.hid (NX.ext H_hh.out k13)
 replace H_half := Lib.hid (NX.ext H_half.out k13)
 replace H_nkt := Lib.hid (NX.ext H_nkt.out k13)
 replace H_r := Lib.hid (NX.ext H_r.out k13)
 replace H_one := Lib.hid (NX.ext H_one.out k13)
 replace H_f1 := Lib.hid (NX.ext H_f1.out k13)
 replace H_first := Lib.hid (NX.ext H_first.out k13)
 replace H_g1 := Lib.hid (NX.ext H_g1.out k13)
 replace H_ab := Lib.hid (NX.ext H_ab.out k13)
 have kk : Ext w13 w13 := Ext.refl _
 go_wp2_with fail
 go_region_held3 (fun w' => w'.cell? ⟨w.heap.size, 0, none⟩ = some (.int .i64 (n : Int)) ∧ w'.cell? ⟨w.heap.size, 1, none⟩ = some (.int .u64 (T : Int)) ∧ w'.cell? ⟨w.heap.size, 2, none⟩ = some (.slice A L c) ∧ w'.cell? ⟨w.heap.size, 3, none⟩ = some (.int .i64 (W0 : Int))) (go_keep)
  (first
   | (go_at_call 98; have q_q := H_q; clear q_q; refine (rup_any (NX.ext H_p.out (by with_reducible repeat first | exact Ext.refl _ | apply Ext.alloc | apply Ext.drew)) (NX.ext H_q.out (by with_reducible repeat first | exact Ext.refl _ | apply Ext.alloc | apply Ext.drew)) (by omega) (by omega) (nv_nw _) (nv_nw _) (by rw [← HPr.out]; exact hP0)).mono ?_; rintro e5 w5 ⟨A_third, n_third, c_third, rfl, hn_third, hx5, k5⟩; have H_third : Hid (NX w5 A_third n_third c_third (nw (upZ (n * T * Xa * Xb) (prodF f (m + 1))))) := Lib.hid hx5; clear hx5; replace kk := Ext.trans (Ext.trans kk (by with_reducible repeat first | exact Ext.refl _ | apply Ext.alloc | apply Ext.drew)) k5; have d0 := cell_ext kk x0; have d1 := cell_ext kk x1; have d2 := cell_ext kk x2; have d3 := cell_ext kk x3)
   | (go_at_call 99; refine (rmodulusA (hP.out.ext (Ext.trans (Ext.trans kw kk) (by with_reducible repeat first | exact Ext.refl _ | apply Ext.alloc | apply Ext.drew))) hL (by omega)).mono ?_; rintro e5 w5 ⟨A_q, n_q, c_q, rfl, hn_q, hx5, k5⟩; have H_q : Hid (NX w5 A_q n_q c_q (nw (prodF f (m + 1)))) := Lib.hid hx5; clear hx5; replace H_p := Lib.hid (NX.ext H_p.out (Ext.trans (by with_reducible repeat first | exact Ext.refl _ | apply Ext.alloc | apply Ext.drew) k5)); replace kk := Ext.trans (Ext.trans kk (by with_reducible repeat first | exact Ext.refl _ | apply Ext.alloc | apply Ext.drew)) k5; have d0 := cell_ext kk x0; have d1 := cell_ext kk x1; have d2 := cell_ext kk x2; have d3 := cell_ext kk x3)
   | (go_at_call 97; refine (rtimes4d (M := 40) (NX.val (M := 40) (NX.ext H_n.out (Ext.trans kk (by with_reducible repeat first | exact Ext.refl _ | apply Ext.alloc | apply Ext.drew))) (by omega)) (NX.val (M := 40) (NX.ext H_t.out (Ext.trans kk (by with_reducible repeat first | exact Ext.refl _ | apply Ext.alloc | apply Ext.drew))) (by omega)) (NV.ext hxa.out (Ext.trans (Ext.trans kw kk) (by with_reducible repeat first | exact Ext.refl _ | apply Ext.alloc | apply Ext.drew))) (NV.ext hxb.out (Ext.trans (Ext.trans kw kk) (by with_reducible repeat first | exact Ext.refl _ | apply Ext.alloc | apply Ext.drew))) (by omega)).mono ?_; rintro e5 w5 ⟨A_p, n_p, c_p, rfl, hn_p, hx5, k5⟩; have H_p : Hid (NX w5 A_p n_p c_p (nw (n * T * Xa * Xb))) := Lib.hid hx5; clear hx5; replace kk := Ext.trans (Ext.trans kk (by with_reducible repeat first | exact Ext.refl _ | apply Ext.alloc | apply Ext.drew)) k5; have d0 := cell_ext kk x0; have d1 := cell_ext kk x1; have d2 := cell_ext kk x2; have d3 := cell_ext kk x3)
   | fail)
 replace H_t := Lib.hid (NX.ext H_t.out kk)
 replace H_n := Lib.hid (NX.ext H_n.out kk)
 replace H_k := Lib.hid (NX.ext H_k.out kk)
 replace H_hh := Lib.hid (NX.ext H_hh.out kk)
 replace H_half := Lib.hid (NX.ext H_half.out kk)
 replace H_nkt := Lib.hid (NX.ext H_nkt.out kk)
 replace H_r := Lib.hid (NX.ext H_r.out kk)
 replace H_one := Lib.hid (NX.ext H_one.out kk)
 replace H_f1 := Lib.hid (NX.ext H_f1.out kk)
 replace H_first := Lib.hid (NX.ext H_first.out kk)
 replace H_g1 := Lib.hid (NX.ext H_g1.out kk)
 replace H_ab := Lib.hid (NX.ext H_ab.out kk)
 replace H_second := Lib.hid (NX.ext H_second.out kk)
 replace x0 := cell_ext kk x0
 replace x1 := cell_ext kk x1
 replace x2 := cell_ext kk x2
 replace x3 := cell_ext kk x3
 replace kw := kw.trans kk
 go_wp2_with fail
 refine (of_any14 s3 hbs3 _).mono ?_
 rintro e w14 ⟨A_s3, n_s3, c_s3, rfl, hn_s3, hx, k14⟩
 have H_s3 : Hid (NX w14 A_s3 n_s3 c_s3 (nw (s3))) := Lib.hid hx
 clear hx
 replace x0 := cell_ext k14 x0
 replace x1 := cell_ext k14 x1
 replace x2 := cell_ext k14 x2
 replace x3 := cell_ext k14 x3
 replace kw := kw.trans k14
 replace H_t := Lib.hid (NX.ext H_t.out k14)
 replace H_n := Lib.hid (NX.ext H_n.out k14)
 replace H_k := Lib.hid (NX.ext H_k.out k14)
 replace H_hh := Lib.hid (NX.ext H_hh.out k14)
 replace H_half := Lib.hid (NX.ext H_half.out k14)
 replace H_nkt := Lib.hid (NX.ext H_nkt.out k14)
 replace H_r := Lib.hid (NX.ext H_r.out k14)
 replace H_one := Lib.hid (NX.ext H_one.out k14)
 replace H_f1 := Lib.hid (NX.ext H_f1.out k14)
 replace H_first := Lib.hid (NX.ext H_first.out k14)
 replace H_g1 := Lib.hid (NX.ext H_g1.out k14)
 replace H_ab := Lib.hid (NX.ext H_ab.out k14)
 replace H_second := Lib.hid (NX.ext H_second.out k14)
 replace H_third := Lib.hid (NX.ext H_third.out k14)
 go_wp2_with fail
 refine (rsum4 (M := 200) (NX.val (M := 200) H_first.out (by omega)) (NX.val (M := 200) H_second.out (by omega)) (NX.val (M := 200) H_third.out (by omega)) (NX.val (M := 200) H_s3.out (by omega)) (by omega)).mono ?_
 rintro e w15 ⟨A_z, n_z, c_z, rfl, hn_z, hx, k15⟩
 have H_z : Hid (NX w15 A_z n_z c_z (nw (prodF f (m + 1) % T * (h * T + 1 + n * h1 * T) + (h * T + n * h1 * T) * (Xa + Xb) + upZ (n * T * Xa * Xb) (prodF f (m + 1)) + s3))) := Lib.hid hx
 clear hx
 replace x0 := cell_ext k15 x0
 replace x1 := cell_ext k15 x1
 replace x2 := cell_ext k15 x2
 replace x3 := cell_ext k15 x3
 replace kw := kw.trans k15
 replace H_t := Lib.hid (NX.ext H_t.out k15)
 replace H_n := Lib.hid (NX.ext H_n.out k15)
 replace H_k := Lib.hid (NX.ext H_k.out k15)
 replace H_hh := Lib.hid (NX.ext H_hh.out k15)
 replace H_half := Lib.hid (NX.ext H_half.out k15)
 replace H_nkt := Lib.hid (NX.ext H_nkt.out k15)
 replace H_r := Lib.hid (NX.ext H_r.out k15)
 replace H_one := Lib.hid (NX.ext H_one.out k15)
 replace H_f1 := Lib.hid (NX.ext H_f1.out k15)
 replace H_first := Lib.hid (NX.ext H_first.out k15)
 replace H_g1 := Lib.hid (NX.ext H_g1.out k15)
 replace H_ab := Lib.hid (NX.ext H_ab.out k15)
 replace H_second := Lib.hid (NX.ext H_second.out k15)
 replace H_third := Lib.hid (NX.ext H_third.out k15)
 replace H_s3 := Lib.hid (NX.ext H_s3.out k15)
 have HZ := Lib.hid (show mulZ n T (prodF f (m + 1)) Xa Xb = prodF f (m + 1) % T * (h * T + 1 + n * h1 * T) + (h * T + n * h1 * T) * (Xa + Xb) + upZ (n * T * Xa * Xb) (prodF f (m + 1)) + s3 by
  unfold mulZ growZ
  rw [HS3.out, ← HH.out, ← HH1.out, show h * T + n * h1 * T + 1 = h * T + 1 + n * h1 * T by omega])
 go_wp2
 go_ret
 exact ⟨A_z, n_z, c_z, rfl, by omega, by rw [HZ.out]; exact H_z, kw⟩
set_option maxHeartbeats 4000000 in
theorem rLower_any {n T W0 L c m K na ca Xa : Nat} {A Aa : Option Addr} {f : Nat → Nat} {w : World} (hP : Hid (PA w (n : Int) T A L c (W0 : Int) f)) (HK : Hid (ParK n T W0 L f)) (hm : m < L) (hxa : Hid (NV w (.slice Aa na ca) Xa 40)) (hK : K = 2 ∨ K = 3) :
    Calls Tryz.prog 42 #[.agg #[.int .i64 (n : Int), .int .u64 (T : Int), .slice A L c, .int .i64 (W0 : Int)], .int .i64 (m : Int), .int .i64 (K : Int), .slice Aa na ca] w (RP w (lowerZ n T (f m) K Xa)) := by
 have hk := HK.out
 have hn4 := hk.n4
 have hn8 := hk.n8
 have ht30 := hk.t30
 have ht2 := hk.t2
 have hw16 := hk.w16
 have hl8 := hk.l8
 have hL : L ≤ 100 := by omega
 clear hk
 have kw : Ext w (w.alloc (.cells #[.int .i64 (n : Int), .int .u64 (T : Int), .slice A L c, .int .i64 (W0 : Int)] 25)) := (Ext.refl w).alloc _
 obtain ⟨x0, x1, x2, x3⟩ := four_at w (.int .i64 (n : Int)) (.int .u64 (T : Int)) (.slice A L c) (.int .i64 (W0 : Int)) 25
 obtain ⟨s, hs⟩ : ∃ s, s = n * n := ⟨_, rfl⟩
 obtain ⟨s0, hs0⟩ : ∃ s0, s0 = n + 2 := ⟨_, rfl⟩
 obtain ⟨s00, hs00⟩ : ∃ s00, s00 = s0 / 2 := ⟨_, rfl⟩
 obtain ⟨s1, hs1⟩ : ∃ s1, s1 = s + n := ⟨_, rfl⟩
 obtain ⟨s2, hs2⟩ : ∃ s2, s2 = s1 + 2 := ⟨_, rfl⟩
 obtain ⟨s3, hs3⟩ : ∃ s3, s3 = s2 / 2 := ⟨_, rfl⟩
 obtain ⟨z0, hz0⟩ : ∃ z, z = T - 1 := ⟨_, rfl⟩
 obtain ⟨z1, hz1⟩ : ∃ z, z = z0 / 2 := ⟨_, rfl⟩
 obtain ⟨q, hq⟩ : ∃ q, q = f m := ⟨_, rfl⟩
 have hsb : s ≤ 4096 * 4096 := by rw [hs]; exact Nat.mul_le_mul hn4 hn4
 have v0 : IntKind.i64.wrap ((n : Int) + 2) = (s0 : Int) := by rw [IntKind.wrap_i64]; omega
 have v1 : (s0 : Int).tdiv 2 = (s00 : Int) := by rw [hs00]; rfl
 have v2 : IntKind.i64.wrap (s00 : Int) = (s00 : Int) := by rw [IntKind.wrap_i64]; omega
 have v3 : (s0 : Int) / 2 = (s00 : Int) := by omega
 have u2 : IntKind.i64.wrap ((n : Int) * (n : Int)) = (s : Int) := by rw [IntKind.wrap_i64, ← Int.natCast_mul, ← hs]; omega
 have u3 : IntKind.i64.wrap ((s : Int) + (n : Int)) = (s1 : Int) := by rw [IntKind.wrap_i64]; omega
 have u4 : IntKind.i64.wrap ((s1 : Int) + 2) = (s2 : Int) := by rw [IntKind.wrap_i64]; omega
 have u5 : (s2 : Int).tdiv 2 = (s3 : Int) := by rw [hs3]; rfl
 have u7 : IntKind.i64.wrap (s3 : Int) = (s3 : Int) := by rw [IntKind.wrap_i64]; omega
 have u9 : (s2 : Int) / 2 = (s3 : Int) := by omega
 have y0 : IntKind.u64.wrap ((T : Int) - 1) = (z0 : Int) := by rw [IntKind.wrap_u64]; omega
 have y1 : (z0 : Int).tdiv 2 = (z1 : Int) := by rw [hz1]; rfl
 have y2 : (z0 : Int) / 2 = (z1 : Int) := by omega
 have y3 : IntKind.u64.wrap (z1 : Int) = (z1 : Int) := by rw [IntKind.wrap_u64]; omega
 have hz1b : z1 < 18446744073709551616 := by omega
 have hs00b : s00 < 9223372036854775808 := by omega
 have hs3b : s3 < 9223372036854775808 := by omega
 have hq50 : q < 1125899906842624 := by rw [hq]; exact HK.out.q50 m hm
 have hq2 : 2 ≤ q := by rw [hq]; exact HK.out.q2 m hm
 have i0 : (0 : Int) ≤ (m : Int) := by omega
 have i1 : (m : Int) < (L : Int) := by omega
 have hfx := hP.out.fx
 obtain ⟨ad, rfl, hcc⟩ := hfx.cells (by omega)
 have hcell := hcc m hm
 rw [← hq] at hcell
 have hcell2 := cell_ext kw hcell
 clear hsb hfx hcc hcell
 rcases hK with rfl | rfl
 ·have HO := Lib.hid (show lowerZ n T (f m) 2 Xa = upZ Xa q + z1 + s00 by
     unfold lowerZ
     rw [geo_two, ← hs0, ← hs00, ← hz0, ← hz1, ← hq])
  clear hs hs0 hs00 hs1 hs2 hs3 hz0 hz1 hq
  go_enter Tryz.func42, Tryz.ntmps42
  go_wp2_with fail
  generalize w.alloc (.cells #[.int .i64 (n : Int), .int .u64 (T : Int), .slice (some ad) L c, .int .i64 (W0 : Int)] 25) = V at *
  have kk : Ext V V := Ext.refl V
  go_region_held3 (fun w' => w'.cell? ⟨w.heap.size, 0, none⟩ = some (.int .i64 (n : Int)) ∧ w'.cell? ⟨w.heap.size, 1, none⟩ = some (.int .u64 (T : Int)) ∧ w'.cell? ⟨w.heap.size, 2, none⟩ = some (.slice (some ad) L c) ∧ w'.cell? ⟨w.heap.size, 3, none⟩ = some (.int .i64 (W0 : Int)) ∧ w'.cell? (ad.add m) = some (.int .u64 (q : Int))) (go_keep)
   (first
    | (go_at_call 86; refine (rsum3 (M := 50) (NX.val (M := 50) (NX.ext H_u.out (by with_reducible repeat first | exact Ext.refl _ | apply Ext.alloc | apply Ext.drew)) (by omega)) (NX.val (M := 50) (NX.ext H_z.out (by with_reducible repeat first | exact Ext.refl _ | apply Ext.alloc | apply Ext.drew)) (by omega)) (NX.val (M := 50) (NX.ext H_o.out (by with_reducible repeat first | exact Ext.refl _ | apply Ext.alloc | apply Ext.drew)) (by omega)) (by omega)).mono ?_; rintro e5 w5 ⟨A_s, n_s, c_s, rfl, hn_s, hx5, k5⟩; have H_s : Hid (NX w5 A_s n_s c_s (nw (upZ Xa q + z1 + s00))) := Lib.hid hx5; clear hx5; replace kk := Ext.trans (Ext.trans kk (by with_reducible repeat first | exact Ext.refl _ | apply Ext.alloc | apply Ext.drew)) k5; have d0 := cell_ext kk x0; have d1 := cell_ext kk x1; have d2 := cell_ext kk x2; have d3 := cell_ext kk x3; have d4 := cell_ext kk hcell2)
    | (go_at_call 85; refine (of_any14 s00 hs00b _).mono ?_; rintro e5 w5 ⟨A_o, n_o, c_o, rfl, hn_o, hx5, k5⟩; have H_o : Hid (NX w5 A_o n_o c_o (nw (s00))) := Lib.hid hx5; clear hx5; replace H_u := Lib.hid (NX.ext H_u.out (Ext.trans (by with_reducible repeat first | exact Ext.refl _ | apply Ext.alloc | apply Ext.drew) k5)); replace H_z := Lib.hid (NX.ext H_z.out (Ext.trans (by with_reducible repeat first | exact Ext.refl _ | apply Ext.alloc | apply Ext.drew) k5)); replace kk := Ext.trans (Ext.trans kk (by with_reducible repeat first | exact Ext.refl _ | apply Ext.alloc | apply Ext.drew)) k5; have d0 := cell_ext kk x0; have d1 := cell_ext kk x1; have d2 := cell_ext kk x2; have d3 := cell_ext kk x3; have d4 := cell_ext kk hcell2)
    | (go_at_call 96; refine (of1 z1 hz1b _).mono ?_; rintro e5 w5 ⟨A_z, n_z, c_z, rfl, hn_z, hx5, k5⟩; have H_z : Hid (NX w5 A_z n_z c_z (nw (z1))) := Lib.hid hx5; clear hx5; replace H_u := Lib.hid (NX.ext H_u.out (Ext.trans (by with_reducible repeat first | exact Ext.refl _ | apply Ext.alloc | apply Ext.drew) k5)); replace kk := Ext.trans (Ext.trans kk (by with_reducible repeat first | exact Ext.refl _ | apply Ext.alloc | apply Ext.drew)) k5; have d0 := cell_ext kk x0; have d1 := cell_ext kk x1; have d2 := cell_ext kk x2; have d3 := cell_ext kk x3; have d4 := cell_ext kk hcell2)
    | (go_at_call 98; refine (rup1d (M := 40) (NV.ext hxa.out (Ext.trans (Ext.trans kw kk) (by with_reducible repeat first | exact Ext.refl _ | apply Ext.alloc | apply Ext.drew))) (by omega) (by omega) (by omega)).mono ?_; rintro e5 w5 ⟨A_u, n_u, c_u, rfl, hn_u, hx5, k5⟩; have H_u : Hid (NX w5 A_u n_u c_u (nw (upZ Xa q))) := Lib.hid hx5; clear hx5; replace kk := Ext.trans (Ext.trans kk (by with_reducible repeat first | exact Ext.refl _ | apply Ext.alloc | apply Ext.drew)) k5; have d0 := cell_ext kk x0; have d1 := cell_ext kk x1; have d2 := cell_ext kk x2; have d3 := cell_ext kk x3; have d4 := cell_ext kk hcell2)
    | fail)
  go_wp2
  go_ret
  exact ⟨A_s, n_s, c_s, rfl, by omega, by rw [HO.out]; exact Lib.hid H_s.out, kw.trans kk⟩
 ·have HO := Lib.hid (show lowerZ n T (f m) 3 Xa = upZ Xa q + z1 + s3 by
     unfold lowerZ
     rw [geo_three, ← hs, ← hs1, ← hs2, ← hs3, ← hz0, ← hz1, ← hq])
  clear hs hs0 hs00 hs1 hs2 hs3 hz0 hz1 hq
  go_enter Tryz.func42, Tryz.ntmps42
  go_wp2_with fail
  generalize w.alloc (.cells #[.int .i64 (n : Int), .int .u64 (T : Int), .slice (some ad) L c, .int .i64 (W0 : Int)] 25) = V at *
  have kk : Ext V V := Ext.refl V
  go_region_held3 (fun w' => w'.cell? ⟨w.heap.size, 0, none⟩ = some (.int .i64 (n : Int)) ∧ w'.cell? ⟨w.heap.size, 1, none⟩ = some (.int .u64 (T : Int)) ∧ w'.cell? ⟨w.heap.size, 2, none⟩ = some (.slice (some ad) L c) ∧ w'.cell? ⟨w.heap.size, 3, none⟩ = some (.int .i64 (W0 : Int)) ∧ w'.cell? (ad.add m) = some (.int .u64 (q : Int))) (go_keep)
   (first
    | (go_at_call 86; refine (rsum3 (M := 50) (NX.val (M := 50) (NX.ext H_u.out (by with_reducible repeat first | exact Ext.refl _ | apply Ext.alloc | apply Ext.drew)) (by omega)) (NX.val (M := 50) (NX.ext H_z.out (by with_reducible repeat first | exact Ext.refl _ | apply Ext.alloc | apply Ext.drew)) (by omega)) (NX.val (M := 50) (NX.ext H_o.out (by with_reducible repeat first | exact Ext.refl _ | apply Ext.alloc | apply Ext.drew)) (by omega)) (by omega)).mono ?_; rintro e5 w5 ⟨A_s, n_s, c_s, rfl, hn_s, hx5, k5⟩; have H_s : Hid (NX w5 A_s n_s c_s (nw (upZ Xa q + z1 + s3))) := Lib.hid hx5; clear hx5; replace kk := Ext.trans (Ext.trans kk (by with_reducible repeat first | exact Ext.refl _ | apply Ext.alloc | apply Ext.drew)) k5; have d0 := cell_ext kk x0; have d1 := cell_ext kk x1; have d2 := cell_ext kk x2; have d3 := cell_ext kk x3; have d4 := cell_ext kk hcell2)
    | (go_at_call 85; refine (of_any14 s3 hs3b _).mono ?_; rintro e5 w5 ⟨A_o, n_o, c_o, rfl, hn_o, hx5, k5⟩; have H_o : Hid (NX w5 A_o n_o c_o (nw (s3))) := Lib.hid hx5; clear hx5; replace H_u := Lib.hid (NX.ext H_u.out (Ext.trans (by with_reducible repeat first | exact Ext.refl _ | apply Ext.alloc | apply Ext.drew) k5)); replace H_z := Lib.hid (NX.ext H_z.out (Ext.trans (by with_reducible repeat first | exact Ext.refl _ | apply Ext.alloc | apply Ext.drew) k5)); replace kk := Ext.trans (Ext.trans kk (by with_reducible repeat first | exact Ext.refl _ | apply Ext.alloc | apply Ext.drew)) k5; have d0 := cell_ext kk x0; have d1 := cell_ext kk x1; have d2 := cell_ext kk x2; have d3 := cell_ext kk x3; have d4 := cell_ext kk hcell2)
    | (go_at_call 96; refine (of1 z1 hz1b _).mono ?_; rintro e5 w5 ⟨A_z, n_z, c_z, rfl, hn_z, hx5, k5⟩; have H_z : Hid (NX w5 A_z n_z c_z (nw (z1))) := Lib.hid hx5; clear hx5; replace H_u := Lib.hid (NX.ext H_u.out (Ext.trans (by with_reducible repeat first | exact Ext.refl _ | apply Ext.alloc | apply Ext.drew) k5)); replace kk := Ext.trans (Ext.trans kk (by with_reducible repeat first | exact Ext.refl _ | apply Ext.alloc | apply Ext.drew)) k5; have d0 := cell_ext kk x0; have d1 := cell_ext kk x1; have d2 := cell_ext kk x2; have d3 := cell_ext kk x3; have d4 := cell_ext kk hcell2)
    | (go_at_call 98; refine (rup1d (M := 40) (NV.ext hxa.out (Ext.trans (Ext.trans kw kk) (by with_reducible repeat first | exact Ext.refl _ | apply Ext.alloc | apply Ext.drew))) (by omega) (by omega) (by omega)).mono ?_; rintro e5 w5 ⟨A_u, n_u, c_u, rfl, hn_u, hx5, k5⟩; have H_u : Hid (NX w5 A_u n_u c_u (nw (upZ Xa q))) := Lib.hid hx5; clear hx5; replace kk := Ext.trans (Ext.trans kk (by with_reducible repeat first | exact Ext.refl _ | apply Ext.alloc | apply Ext.drew)) k5; have d0 := cell_ext kk x0; have d1 := cell_ext kk x1; have d2 := cell_ext kk x2; have d3 := cell_ext kk x3; have d4 := cell_ext kk hcell2)
    | fail)
  go_wp2
  go_ret
  exact ⟨A_s, n_s, c_s, rfl, by omega, by rw [HO.out]; exact Lib.hid H_s.out, kw.trans kk⟩
set_option maxHeartbeats 4000000 in
theorem rSwitch_any {n T W0 L c m na ca Xa : Nat} {A Aa : Option Addr} {f : Nat → Nat} {w : World} (hP : Hid (PA w (n : Int) T A L c (W0 : Int) f)) (HK : Hid (ParK n T W0 L f)) (hm : m < L) (hxa : Hid (NV w (.slice Aa na ca) Xa 40)) :
    Calls Tryz.prog 41 #[.agg #[.int .i64 (n : Int), .int .u64 (T : Int), .slice A L c, .int .i64 (W0 : Int)], .int .i64 (m : Int), .slice Aa na ca] w (RP w (switchZ n W0 f (m + 1) Xa)) := by
 have hk := HK.out
 have hn4 := hk.n4
 have hn8 := hk.n8
 have ht30 := hk.t30
 have ht2 := hk.t2
 have hw16 := hk.w16
 have hl8 := hk.l8
 have hL : L ≤ 100 := by omega
 clear hk
 have kw : Ext w (w.alloc (.cells #[.int .i64 (n : Int), .int .u64 (T : Int), .slice A L c, .int .i64 (W0 : Int)] 25)) := (Ext.refl w).alloc _
 obtain ⟨x0, x1, x2, x3⟩ := four_at w (.int .i64 (n : Int)) (.int .u64 (T : Int)) (.slice A L c) (.int .i64 (W0 : Int)) 25
 obtain ⟨nw0, hnw⟩ : ∃ z, z = n * W0 := ⟨_, rfl⟩
 have hnwb : nw0 ≤ 4096 * 16 := by rw [hnw]; exact Nat.mul_le_mul hn4 hw16
 have u0 : IntKind.i64.wrap ((n : Int) * (W0 : Int)) = (nw0 : Int) := by rw [IntKind.wrap_i64, ← Int.natCast_mul, ← hnw]; omega
 have hsw := swS_41 hn4 hw16 HK.out.q50 hm hl8 hxa.out.lt
 have hroom := hP.out.fx.room
 obtain ⟨M1, hM1⟩ : ∃ M1, M1 = m + 1 := ⟨_, rfl⟩
 rw [← hM1] at hsw ⊢
 have HSW := Lib.hid hsw
 have hML : M1 ≤ L := by omega
 have hwm : IntKind.i64.wrap ((m : Int) + 1) = (M1 : Int) := by rw [IntKind.wrap_i64]; omega
 have i0 : (0 : Int) ≤ (M1 : Int) := by omega
 have i1 : (M1 : Int) ≤ (c : Int) := by omega
 have i2 : (M1 : Int) ≤ (L : Int) := by omega
 have hfx := hP.out.fx
 obtain ⟨ad, rfl, hcc⟩ := hfx.cells (by omega)
 have HCC := Lib.hid hcc
 have HXA := Lib.hid (NV.ext hxa.out kw)
 obtain ⟨Aq, nq, cq, xs, hqe, hqn, hqv, hqx⟩ := hxa.out
 injection hqe with hq1 hq2 hq3
 subst hq1 hq2 hq3
 have HW := Lib.hid hnw
 have H0 : Hid (∃ xs0, NX w Aa na ca xs0 ∧ nv xs0 = Xa + swS n W0 f 0) := Lib.hid ⟨xs, hqx, by rw [hqv]; rfl⟩
 clear hnw hsw hM1 hfx hcc hqx hqv HXA
 go_enter Tryz.func41, Tryz.ntmps41
 go_wp2
 generalize w.alloc (.cells #[.int .i64 (n : Int), .int .u64 (T : Int), .slice (some ad) L c, .int .i64 (W0 : Int)] 25) = V at *
 go_loopw [2, 15] (fun t i wr => ∃ (k : Nat) (A : Option Addr) (n' c' : Nat), k ≤ M1 ∧ i = .int .i64 (k : Int) ∧ t = .slice A n' c' ∧ n' ≤ 41 ∧ Hid (∃ xs0, NX wr A n' c' xs0 ∧ nv xs0 = Xa + swS n W0 f k) ∧ Ext w wr ∧ Ext V wr) (fun _ i _ => M1 - (intOf i).toNat)
 case atStart => exact ⟨0, Aa, na, ca, by omega, rfl, rfl, by omega, Lib.hid (by obtain ⟨xs0, h1, h2⟩ := H0.out; exact ⟨xs0, h1.ext kw, h2⟩), kw, Ext.refl V⟩
 case round =>
  obtain ⟨k, A', n', c', hk, rfl, rfl, hn', hx', kr, kv⟩ := hrel
  replace x0 := cell_ext kv x0
  replace x1 := cell_ext kv x1
  replace x2 := cell_ext kv x2
  replace x3 := cell_ext kv x3
  by_cases hlt : k < M1
  ·have hcell := cell_ext kr (HCC.out k (by omega))
   have hq50 := HK.out.q50 k (by omega)
   have hq2 := HK.out.q2 k (by omega)
   obtain ⟨q, hqe⟩ : ∃ q, q = f k := ⟨_, rfl⟩
   rw [← hqe] at hcell hq50 hq2
   obtain ⟨z0, hz0⟩ : ∃ z, z = q - 1 := ⟨_, rfl⟩
   obtain ⟨z1, hz1⟩ : ∃ z, z = z0 / 2 := ⟨_, rfl⟩
   have y0 : IntKind.u64.wrap ((q : Int) - 1) = (z0 : Int) := by rw [IntKind.wrap_u64]; omega
   have y1 : (z0 : Int).tdiv 2 = (z1 : Int) := by rw [hz1]; rfl
   have y2 : (z0 : Int) / 2 = (z1 : Int) := by omega
   have y3 : IntKind.u64.wrap (z1 : Int) = (z1 : Int) := by rw [IntKind.wrap_u64]; omega
   have hz1b : z1 < 18446744073709551616 := by omega
   have HZ := Lib.hid (show Xa + swS n W0 f (k + 1) = Xa + swS n W0 f k + nw0 * z1 by rw [swS, ← hqe, HW.out, show (q - 1) / 2 = z1 by omega]; omega)
   have j0 : (0 : Int) ≤ (k : Int) := by omega
   have j1 : (k : Int) < (M1 : Int) := by omega
   clear hqe hz0 hz1
   go_wp2_with fail
   refine (of_any14 nw0 (by omega) _).mono ?_
   rintro e w2 ⟨A2, n2, c2, rfl, hn2, hx, k2⟩
   have H2 := Lib.hid hx
   clear hx
   replace x0 := cell_ext k2 x0
   replace x1 := cell_ext k2 x1
   replace x2 := cell_ext k2 x2
   replace x3 := cell_ext k2 x3
   go_wp2_with fail
   refine (of1 z1 hz1b _).mono ?_
   rintro e w3 ⟨A3, n3, c3, rfl, hn3, hx, k3⟩
   have H3 := Lib.hid hx
   clear hx
   go_wp2_with fail
   refine (rtimes2 (M := 1) (NX.val (NX.ext H2.out k3) (by omega)) (NX.val H3.out (by omega)) (by omega)).mono ?_
   rintro e w4 ⟨A4, n4, c4, rfl, hn4, hx, k4⟩
   have H4 := Lib.hid hx
   clear hx
   go_wp2_with fail
   refine (rsum2 (M := 41) (X0 := Xa + swS n W0 f k) (by obtain ⟨xs0, h1, h2⟩ := hx'.out; exact ⟨A', n', c', xs0, rfl, by omega, h2, h1.ext (k2.trans (k3.trans k4))⟩) (NX.val H4.out (by omega)) (by omega)).mono ?_
   rintro e w5 ⟨A5, n5, c5, rfl, hn5, hx, k5⟩
   have H5 := Lib.hid (show NX w5 A5 n5 c5 (nw (Xa + swS n W0 f (k + 1))) by rw [HZ.out]; exact hx)
   clear hx hn5
   have hn5 : n5 ≤ 41 := NX.len_le H5.out (HSW.out (k + 1) (by omega))
   have k25 := k2.trans (k3.trans (k4.trans k5))
   go_wp2
   exact ⟨⟨k + 1, A5, n5, c5, by omega, by go_num, rfl, hn5, Lib.hid ⟨_, H5.out, nv_nw _⟩, kr.trans k25, kv.trans k25⟩, by simp [intOf]; omega⟩
  ·obtain rfl : k = M1 := by omega
   go_wp2_with fail
   refine (rsum1 (M := 41) (X0 := Xa + swS n W0 f k) (by obtain ⟨xs0, h1, h2⟩ := hx'.out; exact ⟨A', n', c', xs0, rfl, by omega, h2, h1⟩) (by omega)).mono ?_
   rintro e w5 ⟨A5, n5, c5, rfl, hn5, hx, k5⟩
   have H5 := Lib.hid hx
   clear hx
   go_wp2
   go_ret
   exact ⟨A5, n5, c5, rfl, by omega, Lib.hid H5.out, kr.trans k5⟩
set_option maxHeartbeats 4000000 in
theorem rFits_no {N : Int} {T : Nat} {Wd : Int} {A : Option Addr} {L c : Nat} {f : Nat → Nat} {l : Int} {E : Nat} {w : World} (v : Value) (hP : Hid (PA w N T A L c Wd f)) (hL : L ≤ 100) (hE : Hid (ErrL (ParP N T L f Wd) 0 l L E)) (h0 : E ≠ 0) :
    Calls Tryz.prog 44 #[.agg #[.int .i64 N, .int .u64 (T : Int), .slice A L c, .int .i64 Wd], .int .i64 l, v] w fun e w' => e = .returned (.bool false) ∧ Ext w w' := by
 have kV : Ext w (w.alloc (.cells #[.int .i64 N, .int .u64 (T : Int), .slice A L c, .int .i64 Wd] 25)) := (Ext.refl w).alloc _
 obtain ⟨x0, x1, x2, x3⟩ := four_at w (.int .i64 N) (.int .u64 (T : Int)) (.slice A L c) (.int .i64 Wd) 25
 have e1 : ((E : Int) == 0) = false := by simp; omega
 have e2 : ((E : Int) != 0) = true := by simp; omega
 clear h0
 go_enter Tryz.func44, Tryz.ntmps44
 go_wp2_with fail
 refine (rcheck14_any (Lib.hid (hP.out.ext kV)) hL hE).mono ?_
 rintro e w1 ⟨rfl, k1⟩
 clear hE
 go_wp2
 go_ret
 exact ⟨rfl, kV.trans k1⟩
set_option maxHeartbeats 4000000 in
theorem rFits_yes {n T W0 L c m na ca Xa : Nat} {A Aa : Option Addr} {f : Nat → Nat} {w : World} (hP : Hid (PA w (n : Int) T A L c (W0 : Int) f)) (HK : Hid (ParK n T W0 L f)) (hm : m < L) (hxa : Hid (NV w (.slice Aa na ca) Xa 40)) (hE : Hid (ErrL (ParP (n : Int) T L f (W0 : Int)) 0 (m : Int) L 0)) :
    Calls Tryz.prog 44 #[.agg #[.int .i64 (n : Int), .int .u64 (T : Int), .slice A L c, .int .i64 (W0 : Int)], .int .i64 (m : Int), .slice Aa na ca] w (fun e w2 => e = .returned (.bool (decide (fitsZ T (prodF f (m + 1)) Xa < prodF f (m + 1)))) ∧ Ext w w2) := by
 have hk := HK.out
 have hn4 := hk.n4
 have hn8 := hk.n8
 have ht30 := hk.t30
 have ht2 := hk.t2
 have hw16 := hk.w16
 have hl8 := hk.l8
 have hL : L ≤ 100 := by omega
 clear hk
 have kw : Ext w (w.alloc (.cells #[.int .i64 (n : Int), .int .u64 (T : Int), .slice A L c, .int .i64 (W0 : Int)] 25)) := (Ext.refl w).alloc _
 obtain ⟨x0, x1, x2, x3⟩ := four_at w (.int .i64 (n : Int)) (.int .u64 (T : Int)) (.slice A L c) (.int .i64 (W0 : Int)) 25
 obtain ⟨z0, hz0⟩ : ∃ z, z = T - 1 := ⟨_, rfl⟩
 have y0 : IntKind.u64.wrap ((T : Int) - 1) = (z0 : Int) := by rw [IntKind.wrap_u64]; omega
 have hz0b : z0 < 18446744073709551616 := by omega
 have hTb : T < 18446744073709551616 := by omega
 have HO := Lib.hid (show fitsZ T (prodF f (m + 1)) Xa = 2 * T * Xa + prodF f (m + 1) % T * z0 by unfold fitsZ; rw [hz0])
 clear hz0
 go_enter Tryz.func44, Tryz.ntmps44
 go_wp2_with fail
 generalize w.alloc (.cells #[.int .i64 (n : Int), .int .u64 (T : Int), .slice A L c, .int .i64 (W0 : Int)] 25) = V at *
 refine (rcheck14_any (Lib.hid (hP.out.ext kw)) hL hE).mono ?_
 rintro e w1 ⟨rfl, k1⟩
 replace x0 := cell_ext k1 x0
 replace x1 := cell_ext k1 x1
 replace x2 := cell_ext k1 x2
 replace x3 := cell_ext k1 x3
 replace kw := kw.trans k1
 have kk : Ext w1 w1 := Ext.refl w1
 clear hE
 go_wp2_with fail
 go_region_held3 (fun w' => w'.cell? ⟨w.heap.size, 0, none⟩ = some (.int .i64 (n : Int)) ∧ w'.cell? ⟨w.heap.size, 1, none⟩ = some (.int .u64 (T : Int)) ∧ w'.cell? ⟨w.heap.size, 2, none⟩ = some (.slice A L c) ∧ w'.cell? ⟨w.heap.size, 3, none⟩ = some (.int .i64 (W0 : Int))) (go_keep)
  (first
   | (go_at_call 86; have q_q := H_q; clear q_q; refine (rsum2 (M := 130) (NX.val (M := 130) (NX.ext H_p.out (by with_reducible repeat first | exact Ext.refl _ | apply Ext.alloc | apply Ext.drew)) (by omega)) (NX.val (M := 130) (NX.ext H_q.out (by with_reducible repeat first | exact Ext.refl _ | apply Ext.alloc | apply Ext.drew)) (by omega)) (by omega)).mono ?_; rintro e5 w5 ⟨A_s, n_s, c_s, rfl, hn_s, hx5, k5⟩; have H_s : Hid (NX w5 A_s n_s c_s (nw (2 * T * Xa + prodF f (m + 1) % T * z0))) := Lib.hid hx5; clear hx5; replace kk := Ext.trans (Ext.trans kk (by with_reducible repeat first | exact Ext.refl _ | apply Ext.alloc | apply Ext.drew)) k5; have d0 := cell_ext kk x0; have d1 := cell_ext kk x1; have d2 := cell_ext kk x2; have d3 := cell_ext kk x3)
   | (go_at_call 97; have q_z := H_z; clear q_z; refine (rtimes2 (M := 2) (NX.val (M := 2) (NX.ext H_r.out (by with_reducible repeat first | exact Ext.refl _ | apply Ext.alloc | apply Ext.drew)) (by omega)) (NX.val (M := 2) (NX.ext H_z.out (by with_reducible repeat first | exact Ext.refl _ | apply Ext.alloc | apply Ext.drew)) (by omega)) (by omega)).mono ?_; rintro e5 w5 ⟨A_q, n_q, c_q, rfl, hn_q, hx5, k5⟩; have H_q : Hid (NX w5 A_q n_q c_q (nw (prodF f (m + 1) % T * z0))) := Lib.hid hx5; clear hx5; replace H_p := Lib.hid (NX.ext H_p.out (Ext.trans (by with_reducible repeat first | exact Ext.refl _ | apply Ext.alloc | apply Ext.drew) k5)); replace kk := Ext.trans (Ext.trans kk (by with_reducible repeat first | exact Ext.refl _ | apply Ext.alloc | apply Ext.drew)) k5; have d0 := cell_ext kk x0; have d1 := cell_ext kk x1; have d2 := cell_ext kk x2; have d3 := cell_ext kk x3)
   | (go_at_call 96; have q_r := H_r; clear q_r; refine (of1 z0 hz0b _).mono ?_; rintro e5 w5 ⟨A_z, n_z, c_z, rfl, hn_z, hx5, k5⟩; have H_z : Hid (NX w5 A_z n_z c_z (nw (z0))) := Lib.hid hx5; clear hx5; replace H_p := Lib.hid (NX.ext H_p.out (Ext.trans (by with_reducible repeat first | exact Ext.refl _ | apply Ext.alloc | apply Ext.drew) k5)); replace H_r := Lib.hid (NX.ext H_r.out (Ext.trans (by with_reducible repeat first | exact Ext.refl _ | apply Ext.alloc | apply Ext.drew) k5)); replace kk := Ext.trans (Ext.trans kk (by with_reducible repeat first | exact Ext.refl _ | apply Ext.alloc | apply Ext.drew)) k5; have d0 := cell_ext kk x0; have d1 := cell_ext kk x1; have d2 := cell_ext kk x2; have d3 := cell_ext kk x3)
   | (go_at_call 87; refine (rrest_any (Lib.hid (hP.out.ext (Ext.trans (Ext.trans kw kk) (by with_reducible repeat first | exact Ext.refl _ | apply Ext.alloc | apply Ext.drew)))) hL (by omega) ht2).mono ?_; rintro e5 w5 ⟨A_r, n_r, c_r, rfl, hn_r, hx5, k5⟩; have H_r : Hid (NX w5 A_r n_r c_r (nw (prodF f (m + 1) % T))) := Lib.hid hx5; clear hx5; replace H_p := Lib.hid (NX.ext H_p.out (Ext.trans (by with_reducible repeat first | exact Ext.refl _ | apply Ext.alloc | apply Ext.drew) k5)); replace kk := Ext.trans (Ext.trans kk (by with_reducible repeat first | exact Ext.refl _ | apply Ext.alloc | apply Ext.drew)) k5; have d0 := cell_ext kk x0; have d1 := cell_ext kk x1; have d2 := cell_ext kk x2; have d3 := cell_ext kk x3)
   | (go_at_call 97; refine (rtimes3 (M := 40) (NX.val (M := 40) (NX.ext H_two.out (by with_reducible repeat first | exact Ext.refl _ | apply Ext.alloc | apply Ext.drew)) (by omega)) (NX.val (M := 40) (NX.ext H_t.out (by with_reducible repeat first | exact Ext.refl _ | apply Ext.alloc | apply Ext.drew)) (by omega)) (NV.ext hxa.out (Ext.trans (Ext.trans kw kk) (by with_reducible repeat first | exact Ext.refl _ | apply Ext.alloc | apply Ext.drew))) (by omega)).mono ?_; rintro e5 w5 ⟨A_p, n_p, c_p, rfl, hn_p, hx5, k5⟩; have H_p : Hid (NX w5 A_p n_p c_p (nw (2 * T * Xa))) := Lib.hid hx5; clear hx5; replace kk := Ext.trans (Ext.trans kk (by with_reducible repeat first | exact Ext.refl _ | apply Ext.alloc | apply Ext.drew)) k5; have d0 := cell_ext kk x0; have d1 := cell_ext kk x1; have d2 := cell_ext kk x2; have d3 := cell_ext kk x3)
   | (go_at_call 96; refine (of1 T hTb _).mono ?_; rintro e5 w5 ⟨A_t, n_t, c_t, rfl, hn_t, hx5, k5⟩; have H_t : Hid (NX w5 A_t n_t c_t (nw (T))) := Lib.hid hx5; clear hx5; replace H_two := Lib.hid (NX.ext H_two.out (Ext.trans (by with_reducible repeat first | exact Ext.refl _ | apply Ext.alloc | apply Ext.drew) k5)); replace kk := Ext.trans (Ext.trans kk (by with_reducible repeat first | exact Ext.refl _ | apply Ext.alloc | apply Ext.drew)) k5; have d0 := cell_ext kk x0; have d1 := cell_ext kk x1; have d2 := cell_ext kk x2; have d3 := cell_ext kk x3)
   | (go_at_call 85; refine (of_any14 2 (by omega) _).mono ?_; rintro e5 w5 ⟨A_two, n_two, c_two, rfl, hn_two, hx5, k5⟩; have H_two : Hid (NX w5 A_two n_two c_two (nw (2))) := Lib.hid hx5; clear hx5; replace kk := Ext.trans (Ext.trans kk (by with_reducible repeat first | exact Ext.refl _ | apply Ext.alloc | apply Ext.drew)) k5; have d0 := cell_ext kk x0; have d1 := cell_ext kk x1; have d2 := cell_ext kk x2; have d3 := cell_ext kk x3)
   | fail)
 replace x0 := cell_ext kk x0
 replace x1 := cell_ext kk x1
 replace x2 := cell_ext kk x2
 replace x3 := cell_ext kk x3
 replace kw := kw.trans kk
 go_wp2_with fail
 refine (rmodulusA (hP.out.ext kw) hL (by omega)).mono ?_
 rintro e w8 ⟨A8, n8, c8, rfl, hn8b, hx, k8⟩
 have H8 := Lib.hid hx
 clear hx
 go_wp2_with fail
 refine (rcmpX (NX.ext H_s.out k8) H8.out (by omega) (by omega)).mono ?_
 rintro e w9 ⟨he, k9'⟩
 have k9 : Ext w8 w9 := k9'
 rw [nv_nw, nv_nw] at he
 have hc := cmpS_neg (2 * T * Xa + prodF f (m + 1) % T * z0) (prodF f (m + 1))
 obtain ⟨z, hz⟩ : ∃ z, z = cmpS (2 * T * Xa + prodF f (m + 1) % T * z0) (prodF f (m + 1)) := ⟨_, rfl⟩
 rw [← hz] at he hc
 subst he
 have HCC := Lib.hid hc
 clear hc hz
 go_wp2
 go_ret
 exact ⟨by rw [HO.out, ← HCC.out]; rfl, kw.trans (k8.trans k9)⟩
theorem two_vals (w : World) (u0 u1 : Value) (t : TypeId) : (w.alloc (.cells #[u0, u1] t)).cell? ⟨w.heap.size, 0, none⟩ = some u0 ∧ (w.alloc (.cells #[u0, u1] t)).cell? ⟨w.heap.size, 1, none⟩ = some u1 := by simp
theorem nx_zero {w : World} {A : Option Addr} {n c : Nat} (h : NX w A n c (nw 0)) : n = 0 := by
 have h1 := h.len
 rw [show nw 0 = [] from dg_zero _] at h1
 exact h1.symm
theorem told_yes {A : Option Addr} {n c E : Nat} {w : World} (h : E = 0 ∨ n = 0) :
    Calls Tryz.prog 29 #[.slice A n c, .int .i64 (E : Int), .int .i64 (E : Int)] w fun e w' => e = .returned (.bool true) ∧ Ext w w' := by
 have eE : ((E : Int) == (E : Int)) = true := by simp
 rcases h with rfl | rfl
 ·go_enter Tryz.func29, Tryz.ntmps29
  go_wp2
  go_ret
  exact ⟨by first | rfl | simp, Ext.refl w⟩
 ·by_cases h0 : E = 0
  ·subst h0
   go_enter Tryz.func29, Tryz.ntmps29
   go_wp2
   go_ret
   exact ⟨by first | rfl | simp, Ext.refl w⟩
  ·have e1 : ((E : Int) == 0) = false := by simp; omega
   clear h0
   go_enter Tryz.func29, Tryz.ntmps29
   go_wp2
   go_ret
   exact ⟨by first | rfl | simp, Ext.refl w⟩
set_option maxHeartbeats 2000000 in
theorem bAddText_any {N : Int} {T : Nat} {Wd : Int} {A : Option Addr} {L c : Nat} {f : Nat → Nat} {l : Int} {E na ca Xa : Nat} {Aa : Option Addr} {w : World} (hP : Hid (PA w N T A L c Wd f)) (hL : L ≤ 100) (l0 : -9223372036854775808 ≤ l) (l1 : l < 9223372036854775808) (hT : Hid (Tabs w)) (hE : Hid (ErrL (ParP N T L f Wd) 0 l L E)) (hxa : Hid (NV w (.slice Aa na ca) Xa 40)) :
    Calls Tryz.prog 27 #[.agg #[.int .i64 N, .int .u64 (T : Int), .slice A L c, .int .i64 Wd], .int .i64 l, .slice Aa na ca] w (BdPost w E (addZ T (prodF f (l.toNat + 1)) Xa 0)) := by
 have kw : Ext w (w.alloc (.cells #[.int .i64 N, .int .u64 (T : Int), .slice A L c, .int .i64 Wd] 25)) := (Ext.refl w).alloc _
 obtain ⟨x0, x1, x2, x3⟩ := four_at w (.int .i64 N) (.int .u64 (T : Int)) (.slice A L c) (.int .i64 Wd) 25
 go_enter Tryz.func27, Tryz.ntmps27
 go_wp2_with fail
 refine (bAdd_any (Lib.hid (hP.out.ext kw)) hL l0 l1 (Lib.hid (hT.out.ext kw)) hE (Lib.hid (NV.ext hxa.out kw)) (Lib.hid ⟨none, 0, 0, [], rfl, by omega, rfl, by have := nil_nx (w.alloc (.cells #[.int .i64 N, .int .u64 (T : Int), .slice A L c, .int .i64 Wd] 25)); rwa [show nw 0 = [] from dg_zero _] at this⟩)).mono ?_
 rintro ee w1 (⟨h0, rfl, k1⟩ | ⟨rfl, A5, n5, c5, rfl, hn5, H5, k1⟩)
 ·have H0 := Lib.hid h0
  clear h0
  go_wp2
  go_ret2
  exact .inl ⟨H0.out, by first | rfl | simp, kw.trans k1⟩
 ·go_wp2
  go_ret2
  exact .inr ⟨rfl, A5, n5, c5, rfl, hn5, H5, kw.trans k1⟩
set_option maxHeartbeats 8000000 in
theorem boundSums_walk {N : Int} {T : Nat} {Wd : Int} {A : Option Addr} {L c : Nat} {f : Nat → Nat} {l : Int} {Aa Ab : Option Addr} {na nb ca cb : Nat} {xas xbs : List Nat} (w : World) (hP : Hid (PA w N T A L c Wd f)) (l0 : -9223372036854775808 ≤ l) (l1 : l < 9223372036854775808) (hxa : Hid (NX w Aa na ca xas)) (hxb : Hid (NX w Ab nb cb xbs)) (hT : Tabs w) :
    Calls Tryz.prog 5 #[.agg #[.int .i64 N, .int .u64 (T : Int), .slice A L c, .int .i64 Wd], .int .i64 l, .slice Aa na ca, .slice Ab nb cb] w fun e w' => e = .returned (.bool true) ∧ Ext w w' := by
 have HT := Lib.hid hT
 clear hT
 have kw : Ext w (w.alloc (.cells #[.int .i64 N, .int .u64 (T : Int), .slice A L c, .int .i64 Wd] 25)) := (Ext.refl w).alloc _
 obtain ⟨x0, x1, x2, x3⟩ := four_at w (.int .i64 N) (.int .u64 (T : Int)) (.slice A L c) (.int .i64 Wd) 25
 have hLL := hP.out.len
 go_enter Tryz.func5, Tryz.ntmps5
 go_wp2_with fail
 generalize w.alloc (.cells #[.int .i64 N, .int .u64 (T : Int), .slice A L c, .int .i64 Wd] 25) = V0 at *
 refine (fixed14_any V0 (Lib.hid (HT.out.ext kw))).mono ?_
 rintro e V ⟨rfl, k1⟩
 replace x0 := cell_ext k1 x0
 replace x1 := cell_ext k1 x1
 replace x2 := cell_ext k1 x2
 replace x3 := cell_ext k1 x3
 replace kw := kw.trans k1
 clear k1
 go_wp2_with fail
 have k3 : Ext V (V.alloc (.cells #[.slice Aa na ca, .slice Ab nb cb] 50)) := (Ext.refl V).alloc _
 obtain ⟨q0, q1⟩ := two_vals V (.slice Aa na ca) (.slice Ab nb cb) 50
 refine (few14_any V.heap.size 2 (fun j => if j = 0 then Aa else Ab) (fun j => if j = 0 then na else nb) (fun j => if j = 0 then ca else cb) _ (by omega) hLL (fun j hj => by
  rcases (show j = 0 ∨ j = 1 by omega) with rfl | rfl
  ·exact q0
  ·exact q1)).mono ?_
 rintro e w1 ⟨b, hb, rfl, k4⟩
 have kF := k3.trans k4
 clear q0 q1
 replace x0 := cell_ext kF x0
 replace x1 := cell_ext kF x1
 replace x2 := cell_ext kF x2
 replace x3 := cell_ext kF x3
 replace kw := kw.trans kF
 clear k3 k4 kF
 cases b
 ·go_wp2
  go_ret
  exact ⟨rfl, kw⟩
 obtain ⟨hb1, hL12⟩ := hb.out.1 rfl
 have hna : na ≤ 30 := hb1 0 (by omega)
 have hnb : nb ≤ 30 := hb1 1 (by omega)
 have HXa : Hid (NV w (.slice Aa na ca) (nv xas) 40) := Lib.hid ⟨_, _, _, xas, rfl, by omega, rfl, hxa.out⟩
 have HXb : Hid (NV w (.slice Ab nb cb) (nv xbs) 40) := Lib.hid ⟨_, _, _, xbs, rfl, by omega, rfl, hxb.out⟩
 clear hb hb1 hLL
 obtain ⟨E, hE⟩ := errL (ParP N T L f Wd) 0 l L
 have HE := Lib.hid hE
 obtain ⟨EF, hEF⟩ := errL (ParP N T L f Wd) 0 ((L : Int) - 1) L
 have HEF := Lib.hid hEF
 clear hEF
 go_wp2_with fail
 refine (bFresh_any (Lib.hid (hP.out.ext kw)) (by omega) (Lib.hid (HT.out.ext kw)) HEF).mono ?_
 intro e v11 g11
 obtain ⟨A_x, n_x, c_x, rfl, hn_x, H_x, k11⟩ := g11.uni
 clear g11
 replace x0 := cell_ext k11 x0
 replace x1 := cell_ext k11 x1
 replace x2 := cell_ext k11 x2
 replace x3 := cell_ext k11 x3
 replace kw := kw.trans k11
 go_wp2_with fail
 refine (bAdd_any (Lib.hid (hP.out.ext kw)) (by omega) l0 l1 (Lib.hid (HT.out.ext kw)) HE (Lib.hid (HXa.out.ext kw)) (Lib.hid (HXb.out.ext kw))).mono ?_
 intro e v12 g12
 obtain ⟨A_y, n_y, c_y, rfl, hn_y, H_y, k12⟩ := g12.uni
 clear g12
 replace x0 := cell_ext k12 x0
 replace x1 := cell_ext k12 x1
 replace x2 := cell_ext k12 x2
 replace x3 := cell_ext k12 x3
 replace kw := kw.trans k12
 replace H_x := Lib.hid (NX.ext H_x.out k12)
 go_wp2_with fail
 refine (bAddText_any (Lib.hid (hP.out.ext kw)) (by omega) l0 l1 (Lib.hid (HT.out.ext kw)) HE (Lib.hid (HXa.out.ext kw))).mono ?_
 intro e v13 g13
 obtain ⟨A_z, n_z, c_z, rfl, hn_z, H_z, k13⟩ := g13.uni
 clear g13
 replace x0 := cell_ext k13 x0
 replace x1 := cell_ext k13 x1
 replace x2 := cell_ext k13 x2
 replace x3 := cell_ext k13 x3
 replace kw := kw.trans k13
 replace H_x := Lib.hid (NX.ext H_x.out k13)
 replace H_y := Lib.hid (NX.ext H_y.out k13)
 go_wp2_with fail
 refine (rcheck14_any (Lib.hid (hP.out.ext kw)) (by omega) HE).mono ?_
 rintro e v14 ⟨rfl, k14⟩
 replace x0 := cell_ext k14 x0
 replace x1 := cell_ext k14 x1
 replace x2 := cell_ext k14 x2
 replace x3 := cell_ext k14 x3
 replace kw := kw.trans k14
 replace H_x := Lib.hid (NX.ext H_x.out k14)
 replace H_y := Lib.hid (NX.ext H_y.out k14)
 replace H_z := Lib.hid (NX.ext H_z.out k14)
 rcases hE with ⟨hp, rfl⟩ | ⟨hp, hl, rfl⟩ | ⟨hp, hl, rfl⟩
 ·obtain rfl : EF = 8 := by
     rcases HEF.out with ⟨h, e⟩ | ⟨h, h2, e⟩ | ⟨h, h2, e⟩
     ·exact e
     ·exact absurd h hp
     ·exact absurd h hp
  clear hp HE HEF
  go_wp2_with fail
  refine (told_yes (A := A_x) (n := n_x) (c := c_x) (E := 8) (.inr (nx_zero H_x.out))).mono ?_
  rintro e v15 ⟨rfl, k15⟩
  replace x0 := cell_ext k15 x0
  replace x1 := cell_ext k15 x1
  replace x2 := cell_ext k15 x2
  replace x3 := cell_ext k15 x3
  replace kw := kw.trans k15
  replace H_x := Lib.hid (NX.ext H_x.out k15)
  replace H_y := Lib.hid (NX.ext H_y.out k15)
  replace H_z := Lib.hid (NX.ext H_z.out k15)
  go_wp2_with fail
  refine (told_yes (A := A_y) (n := n_y) (c := c_y) (E := 8) (.inr (nx_zero H_y.out))).mono ?_
  rintro e v16 ⟨rfl, k16⟩
  replace x0 := cell_ext k16 x0
  replace x1 := cell_ext k16 x1
  replace x2 := cell_ext k16 x2
  replace x3 := cell_ext k16 x3
  replace kw := kw.trans k16
  replace H_x := Lib.hid (NX.ext H_x.out k16)
  replace H_y := Lib.hid (NX.ext H_y.out k16)
  replace H_z := Lib.hid (NX.ext H_z.out k16)
  go_wp2_with fail
  refine (told_yes (A := A_z) (n := n_z) (c := c_z) (E := 8) (.inr (nx_zero H_z.out))).mono ?_
  rintro e v17 ⟨rfl, k17⟩
  replace x0 := cell_ext k17 x0
  replace x1 := cell_ext k17 x1
  replace x2 := cell_ext k17 x2
  replace x3 := cell_ext k17 x3
  replace kw := kw.trans k17
  replace H_x := Lib.hid (NX.ext H_x.out k17)
  replace H_y := Lib.hid (NX.ext H_y.out k17)
  replace H_z := Lib.hid (NX.ext H_z.out k17)
  go_wp2
  go_ret
  exact ⟨by first | rfl | simp, kw⟩
 ·obtain ⟨n, W0, rfl, rfl, hk⟩ := par_k hp
  have HK := Lib.hid hk
  have hL1 := hk.l1
  obtain rfl : EF = 0 := by
   rcases HEF.out with ⟨h, e⟩ | ⟨h, h2, e⟩ | ⟨h, h2, e⟩
   ·exact absurd hp h
   ·omega
   ·exact e
  rw [Int.toNat_natCast, Int.toNat_natCast] at *
  clear hk
  clear hp hl HE HEF
  go_wp2_with fail
  refine (told_yes (A := A_x) (n := n_x) (c := c_x) (E := 0) (.inl rfl)).mono ?_
  rintro e v15 ⟨rfl, k15⟩
  replace x0 := cell_ext k15 x0
  replace x1 := cell_ext k15 x1
  replace x2 := cell_ext k15 x2
  replace x3 := cell_ext k15 x3
  replace kw := kw.trans k15
  replace H_x := Lib.hid (NX.ext H_x.out k15)
  replace H_y := Lib.hid (NX.ext H_y.out k15)
  replace H_z := Lib.hid (NX.ext H_z.out k15)
  go_wp2_with fail
  refine (told_yes (A := A_y) (n := n_y) (c := c_y) (E := 10) (.inr (nx_zero H_y.out))).mono ?_
  rintro e v16 ⟨rfl, k16⟩
  replace x0 := cell_ext k16 x0
  replace x1 := cell_ext k16 x1
  replace x2 := cell_ext k16 x2
  replace x3 := cell_ext k16 x3
  replace kw := kw.trans k16
  replace H_x := Lib.hid (NX.ext H_x.out k16)
  replace H_y := Lib.hid (NX.ext H_y.out k16)
  replace H_z := Lib.hid (NX.ext H_z.out k16)
  go_wp2_with fail
  refine (told_yes (A := A_z) (n := n_z) (c := c_z) (E := 10) (.inr (nx_zero H_z.out))).mono ?_
  rintro e v17 ⟨rfl, k17⟩
  replace x0 := cell_ext k17 x0
  replace x1 := cell_ext k17 x1
  replace x2 := cell_ext k17 x2
  replace x3 := cell_ext k17 x3
  replace kw := kw.trans k17
  replace H_x := Lib.hid (NX.ext H_x.out k17)
  replace H_y := Lib.hid (NX.ext H_y.out k17)
  replace H_z := Lib.hid (NX.ext H_z.out k17)
  go_wp2_with fail
  refine (rFresh_any (Lib.hid (hP.out.ext kw)) HK).mono ?_
  rintro e v18 ⟨A_fx, n_fx, c_fx, rfl, hn_fx, H_fx, k18⟩
  replace x0 := cell_ext k18 x0
  replace x1 := cell_ext k18 x1
  replace x2 := cell_ext k18 x2
  replace x3 := cell_ext k18 x3
  replace kw := kw.trans k18
  replace H_x := Lib.hid (NX.ext H_x.out k18)
  replace H_y := Lib.hid (NX.ext H_y.out k18)
  replace H_z := Lib.hid (NX.ext H_z.out k18)
  go_wp2_with fail
  refine (sameY H_x.out H_fx.out (by omega) (by omega)).mono ?_
  rintro e v19 ⟨rfl, k19⟩
  replace x0 := cell_ext k19 x0
  replace x1 := cell_ext k19 x1
  replace x2 := cell_ext k19 x2
  replace x3 := cell_ext k19 x3
  replace kw := kw.trans k19
  replace H_x := Lib.hid (NX.ext H_x.out k19)
  replace H_y := Lib.hid (NX.ext H_y.out k19)
  replace H_z := Lib.hid (NX.ext H_z.out k19)
  replace H_fx := Lib.hid (NX.ext H_fx.out k19)
  go_wp2
  go_ret
  exact ⟨by first | rfl | simp, kw⟩
 ·obtain ⟨n, W0, rfl, rfl, hk⟩ := par_k hp
  have HK := Lib.hid hk
  have hL1 := hk.l1
  obtain rfl : EF = 0 := by
   rcases HEF.out with ⟨h, e⟩ | ⟨h, h2, e⟩ | ⟨h, h2, e⟩
   ·exact absurd hp h
   ·omega
   ·exact e
  rw [Int.toNat_natCast, Int.toNat_natCast] at *
  clear hk
  obtain ⟨m, rfl⟩ := Int.eq_ofNat_of_zero_le hl.1
  have hm : m < L := by have := hl.2; omega
  rw [Int.toNat_natCast] at *
  clear hp hl HE HEF l0 l1
  go_wp2_with fail
  refine (told_yes (A := A_x) (n := n_x) (c := c_x) (E := 0) (.inl rfl)).mono ?_
  rintro e v15 ⟨rfl, k15⟩
  replace x0 := cell_ext k15 x0
  replace x1 := cell_ext k15 x1
  replace x2 := cell_ext k15 x2
  replace x3 := cell_ext k15 x3
  replace kw := kw.trans k15
  replace H_x := Lib.hid (NX.ext H_x.out k15)
  replace H_y := Lib.hid (NX.ext H_y.out k15)
  replace H_z := Lib.hid (NX.ext H_z.out k15)
  go_wp2_with fail
  refine (told_yes (A := A_y) (n := n_y) (c := c_y) (E := 0) (.inl rfl)).mono ?_
  rintro e v16 ⟨rfl, k16⟩
  replace x0 := cell_ext k16 x0
  replace x1 := cell_ext k16 x1
  replace x2 := cell_ext k16 x2
  replace x3 := cell_ext k16 x3
  replace kw := kw.trans k16
  replace H_x := Lib.hid (NX.ext H_x.out k16)
  replace H_y := Lib.hid (NX.ext H_y.out k16)
  replace H_z := Lib.hid (NX.ext H_z.out k16)
  go_wp2_with fail
  refine (told_yes (A := A_z) (n := n_z) (c := c_z) (E := 0) (.inl rfl)).mono ?_
  rintro e v17 ⟨rfl, k17⟩
  replace x0 := cell_ext k17 x0
  replace x1 := cell_ext k17 x1
  replace x2 := cell_ext k17 x2
  replace x3 := cell_ext k17 x3
  replace kw := kw.trans k17
  replace H_x := Lib.hid (NX.ext H_x.out k17)
  replace H_y := Lib.hid (NX.ext H_y.out k17)
  replace H_z := Lib.hid (NX.ext H_z.out k17)
  go_wp2_with fail
  refine (rFresh_any (Lib.hid (hP.out.ext kw)) HK).mono ?_
  rintro e v18 ⟨A_fx, n_fx, c_fx, rfl, hn_fx, H_fx, k18⟩
  replace x0 := cell_ext k18 x0
  replace x1 := cell_ext k18 x1
  replace x2 := cell_ext k18 x2
  replace x3 := cell_ext k18 x3
  replace kw := kw.trans k18
  replace H_x := Lib.hid (NX.ext H_x.out k18)
  replace H_y := Lib.hid (NX.ext H_y.out k18)
  replace H_z := Lib.hid (NX.ext H_z.out k18)
  go_wp2_with fail
  refine (sameY H_x.out H_fx.out (by omega) (by omega)).mono ?_
  rintro e v19 ⟨rfl, k19⟩
  replace x0 := cell_ext k19 x0
  replace x1 := cell_ext k19 x1
  replace x2 := cell_ext k19 x2
  replace x3 := cell_ext k19 x3
  replace kw := kw.trans k19
  replace H_x := Lib.hid (NX.ext H_x.out k19)
  replace H_y := Lib.hid (NX.ext H_y.out k19)
  replace H_z := Lib.hid (NX.ext H_z.out k19)
  replace H_fx := Lib.hid (NX.ext H_fx.out k19)
  go_wp2_with fail
  refine (r14Add_any (Lib.hid (hP.out.ext kw)) HK hm (Lib.hid (HXa.out.ext kw)) (Lib.hid (HXb.out.ext kw))).mono ?_
  rintro e v20 ⟨A_fy, n_fy, c_fy, rfl, hn_fy, H_fy, k20⟩
  replace x0 := cell_ext k20 x0
  replace x1 := cell_ext k20 x1
  replace x2 := cell_ext k20 x2
  replace x3 := cell_ext k20 x3
  replace kw := kw.trans k20
  replace H_x := Lib.hid (NX.ext H_x.out k20)
  replace H_y := Lib.hid (NX.ext H_y.out k20)
  replace H_z := Lib.hid (NX.ext H_z.out k20)
  replace H_fx := Lib.hid (NX.ext H_fx.out k20)
  go_wp2_with fail
  refine (sameY H_y.out H_fy.out (by omega) (by omega)).mono ?_
  rintro e v21 ⟨rfl, k21⟩
  replace x0 := cell_ext k21 x0
  replace x1 := cell_ext k21 x1
  replace x2 := cell_ext k21 x2
  replace x3 := cell_ext k21 x3
  replace kw := kw.trans k21
  replace H_x := Lib.hid (NX.ext H_x.out k21)
  replace H_y := Lib.hid (NX.ext H_y.out k21)
  replace H_z := Lib.hid (NX.ext H_z.out k21)
  replace H_fx := Lib.hid (NX.ext H_fx.out k21)
  replace H_fy := Lib.hid (NX.ext H_fy.out k21)
  go_wp2_with fail
  refine (r14AddText_any (Lib.hid (hP.out.ext kw)) HK hm (Lib.hid (HXa.out.ext kw))).mono ?_
  rintro e v22 ⟨A_fz, n_fz, c_fz, rfl, hn_fz, H_fz, k22⟩
  replace x0 := cell_ext k22 x0
  replace x1 := cell_ext k22 x1
  replace x2 := cell_ext k22 x2
  replace x3 := cell_ext k22 x3
  replace kw := kw.trans k22
  replace H_x := Lib.hid (NX.ext H_x.out k22)
  replace H_y := Lib.hid (NX.ext H_y.out k22)
  replace H_z := Lib.hid (NX.ext H_z.out k22)
  replace H_fx := Lib.hid (NX.ext H_fx.out k22)
  replace H_fy := Lib.hid (NX.ext H_fy.out k22)
  go_wp2_with fail
  refine (sameY H_z.out H_fz.out (by omega) (by omega)).mono ?_
  rintro e v23 ⟨rfl, k23⟩
  replace x0 := cell_ext k23 x0
  replace x1 := cell_ext k23 x1
  replace x2 := cell_ext k23 x2
  replace x3 := cell_ext k23 x3
  replace kw := kw.trans k23
  replace H_x := Lib.hid (NX.ext H_x.out k23)
  replace H_y := Lib.hid (NX.ext H_y.out k23)
  replace H_z := Lib.hid (NX.ext H_z.out k23)
  replace H_fx := Lib.hid (NX.ext H_fx.out k23)
  replace H_fy := Lib.hid (NX.ext H_fy.out k23)
  replace H_fz := Lib.hid (NX.ext H_fz.out k23)
  go_wp2
  go_ret
  exact ⟨by first | rfl | simp, kw⟩
end Go.Proofs.YtjikdbcjabopnaaGreatDoor
