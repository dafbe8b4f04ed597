import Derived.Test.YtjikdbcjabopnaaGreatDoorZ34
import Derived.Test.YtjikdbcjabopnaaGreatDoorZ30
namespace Go.Proofs.YtjikdbcjabopnaaGreatDoor
open Go.RowKit
set_option linter.unusedVariables false
set_option linter.unusedSimpArgs false
set_option maxRecDepth 100000
def BdPost (w : World) (E X : Nat) (ee : Ending) (w' : World) : Prop :=
 (E ≠ 0 ∧ ee = .returned (.tuple #[.slice none 0 0, .int .i64 (E : Int)]) ∧ Ext w w') ∨
 (E = 0 ∧ ∃ A n c, ee = .returned (.tuple #[.slice A n c, .int .i64 0]) ∧ n ≤ 600 ∧ Hid (NX w' A n c (nw X)) ∧ Ext w w')
def growZ (n T : Nat) : Nat := n * T / 2 + n * T * (n / 2 + 1)
def addZ (T Q X Y : Nat) : Nat := X + Y + Q % T
def mulZ (n T Q X Y : Nat) : Nat := Q % T * (growZ n T + 1) + growZ n T * (X + Y) + upZ (n * T * X * Y) Q + (geo n 3 + 1) / 2
def switchZ (n Wd : Nat) (f : Nat → Nat) (L X : Nat) : Nat := X + swS n Wd f L
def lowerZ (n T q K X : Nat) : Nat := upZ X q + (T - 1) / 2 + (geo n K + 1) / 2
def fitsZ (T Q X : Nat) : Nat := 2 * T * X + Q % T * (T - 1)
theorem NV.le {w : World} {v : Value} {X M M2 : Nat} (h : NV w v X M) (hm : M ≤ M2) : NV w v X M2 := by
 obtain ⟨A, n, c, xs, h1, h2, h3, h4⟩ := h
 exact ⟨A, n, c, xs, h1, by omega, h3, h4⟩
theorem ErrL.no {P : Prop} {lo l : Int} {L E : Nat} (h : ErrL P lo l L E) (h0 : E ≠ 0) : (E = 8 ∨ E = 10) := by
 rcases h with ⟨_, e⟩ | ⟨_, _, e⟩ | ⟨_, _, e⟩
 ·exact .inl e
 ·exact .inr e
 ·exact absurd e h0
theorem prodF_pos2 {n T W0 L m : Nat} {f : Nat → Nat} (h : ParK n T W0 L f) (hm : m < L) : 0 < prodF f (m + 1) := prodF_pos (m + 1) (fun j hj => by have := h.q2 j (by omega); omega)
theorem grow_lt {n T W0 L : Nat} {f : Nat → Nat} (h : ParK n T W0 L f) : n * T ≤ 4398046511104 ∧ n * T * (n / 2 + 1) ≤ 9011597301252096 ∧ growZ n T < 18446744073709551615 := by
 have h1 : n * T ≤ 4096 * 1073741824 := Nat.mul_le_mul h.n4 (by have := h.t30; omega)
 have h2 : n * T * (n / 2 + 1) ≤ 4096 * 1073741824 * 2049 := Nat.mul_le_mul h1 (by have := h.n4; omega)
 unfold growZ
 omega
def lowE (E : Nat) (l K : Int) : Nat := if E ≠ 0 then E else if l = 0 then 10 else if K ≠ 2 ∧ K ≠ 3 then 4 else 0
theorem cmpS_neg (X Y : Nat) : decide (cmpS X Y < 0) = decide (X < Y) := by
 unfold cmpS
 by_cases h : X < Y
 ·simp [h]
 ·by_cases h2 : Y < X
  ·simp [h, h2]
  ·simp [h, h2]
set_option maxHeartbeats 4000000 in
theorem bAdd_any {N : Int} {T : Nat} {Wd : Int} {A : Option Addr} {L c : Nat} {f : Nat → Nat} {l : Int} {E na ca Xa nb cb Xb : Nat} {Aa Ab : Option Addr} {w : World} (hP : Hid (PA w N T A L c Wd f)) (hL : L ≤ 100) (l0 : -9223372036854775808 ≤ l) (l1 : l < 9223372036854775808) (hT : Hid (Tabs w)) (hE : Hid (ErrL (ParP N T L f Wd) 0 l L E)) (hxa : Hid (NV w (.slice Aa na ca) Xa 40)) (hxb : Hid (NV w (.slice Ab nb cb) Xb 40))  :
    Calls Tryz.prog 26 #[.agg #[.int .i64 N, .int .u64 (T : Int), .slice A L c, .int .i64 Wd], .int .i64 l, .slice Aa na ca, .slice Ab nb cb] w (BdPost w E (addZ T (prodF f (l.toNat + 1)) Xa Xb)) := by
 have kV : Ext w (((w.alloc (.cells #[.int .i64 N, .int .u64 (T : Int), .slice A L c, .int .i64 Wd] 25)).alloc (.cells #[.slice Aa na ca] 50)).alloc (.cells #[.slice Ab nb cb] 50)) := ((((Ext.refl w).alloc _).alloc _).alloc _)
 obtain ⟨a0, a1, a2, a3⟩ := four_at w (.int .i64 N) (.int .u64 (T : Int)) (.slice A L c) (.int .i64 Wd) 25
 have x0 := cell_ext (show Ext (w.alloc (.cells #[.int .i64 N, .int .u64 (T : Int), .slice A L c, .int .i64 Wd] 25)) (((w.alloc (.cells #[.int .i64 N, .int .u64 (T : Int), .slice A L c, .int .i64 Wd] 25)).alloc (.cells #[.slice Aa na ca] 50)).alloc (.cells #[.slice Ab nb cb] 50)) from (((Ext.refl _).alloc _).alloc _)) a0
 have x1 := cell_ext (show Ext (w.alloc (.cells #[.int .i64 N, .int .u64 (T : Int), .slice A L c, .int .i64 Wd] 25)) (((w.alloc (.cells #[.int .i64 N, .int .u64 (T : Int), .slice A L c, .int .i64 Wd] 25)).alloc (.cells #[.slice Aa na ca] 50)).alloc (.cells #[.slice Ab nb cb] 50)) from (((Ext.refl _).alloc _).alloc _)) a1
 have x2 := cell_ext (show Ext (w.alloc (.cells #[.int .i64 N, .int .u64 (T : Int), .slice A L c, .int .i64 Wd] 25)) (((w.alloc (.cells #[.int .i64 N, .int .u64 (T : Int), .slice A L c, .int .i64 Wd] 25)).alloc (.cells #[.slice Aa na ca] 50)).alloc (.cells #[.slice Ab nb cb] 50)) from (((Ext.refl _).alloc _).alloc _)) a2
 have x3 := cell_ext (show Ext (w.alloc (.cells #[.int .i64 N, .int .u64 (T : Int), .slice A L c, .int .i64 Wd] 25)) (((w.alloc (.cells #[.int .i64 N, .int .u64 (T : Int), .slice A L c, .int .i64 Wd] 25)).alloc (.cells #[.slice Aa na ca] 50)).alloc (.cells #[.slice Ab nb cb] 50)) from (((Ext.refl _).alloc _).alloc _)) a3
 have b0 := one_at (w.alloc (.cells #[.int .i64 N, .int .u64 (T : Int), .slice A L c, .int .i64 Wd] 25)) (.slice Aa na ca) 50
 rw [show (w.alloc (.cells #[.int .i64 N, .int .u64 (T : Int), .slice A L c, .int .i64 Wd] 25)).heap.size = w.heap.size + 1 by simp] at b0
 have y0 := cell_ext (show Ext ((w.alloc (.cells #[.int .i64 N, .int .u64 (T : Int), .slice A L c, .int .i64 Wd] 25)).alloc (.cells #[.slice Aa na ca] 50)) (((w.alloc (.cells #[.int .i64 N, .int .u64 (T : Int), .slice A L c, .int .i64 Wd] 25)).alloc (.cells #[.slice Aa na ca] 50)).alloc (.cells #[.slice Ab nb cb] 50)) from ((Ext.refl _).alloc _)) b0
 have b1 := one_at ((w.alloc (.cells #[.int .i64 N, .int .u64 (T : Int), .slice A L c, .int .i64 Wd] 25)).alloc (.cells #[.slice Aa na ca] 50)) (.slice Ab nb cb) 50
 rw [show ((w.alloc (.cells #[.int .i64 N, .int .u64 (T : Int), .slice A L c, .int .i64 Wd] 25)).alloc (.cells #[.slice Aa na ca] 50)).heap.size = w.heap.size + 1 + 1 by simp] at b1
 have y1 := cell_ext (show Ext (((w.alloc (.cells #[.int .i64 N, .int .u64 (T : Int), .slice A L c, .int .i64 Wd] 25)).alloc (.cells #[.slice Aa na ca] 50)).alloc (.cells #[.slice Ab nb cb] 50)) (((w.alloc (.cells #[.int .i64 N, .int .u64 (T : Int), .slice A L c, .int .i64 Wd] 25)).alloc (.cells #[.slice Aa na ca] 50)).alloc (.cells #[.slice Ab nb cb] 50)) from (Ext.refl _)) b1
 clear a0 a1 a2 a3 b0 b1
 go_enter Tryz.func26, Tryz.ntmps26
 go_wp2_with fail
 generalize (((w.alloc (.cells #[.int .i64 N, .int .u64 (T : Int), .slice A L c, .int .i64 Wd] 25)).alloc (.cells #[.slice Aa na ca] 50)).alloc (.cells #[.slice Ab nb cb] 50)) = V at *
 refine (blevelOf_any (hP.out.ext kV) hL l0 l1 (hT.out.ext kV) hE).mono ?_
 rintro ee w1 h1
 have H1 := Lib.hid h1
 clear h1
 obtain ⟨h0, rfl, k1⟩ | ⟨rfl, n, W0, m, A2, n2, c2, rfl, rfl, rfl, hm, HK, rfl, hn2, HR, k1⟩ := H1.out
 ·have e1 : ((E : Int) == 0) = false := by simp; omega
  have e2 : ((E : Int) != 0) = true := by simp; omega
  have H0 := Lib.hid h0
  clear h0 H1
  replace y0 := cell_ext k1 y0
  replace y1 := cell_ext k1 y1
  go_wp2
  go_ret2
  exact .inl ⟨H0.out, by first | rfl | simp, (kV.trans k1).alloc _⟩
 ·clear H1
  replace y0 := cell_ext k1 y0
  replace y1 := cell_ext k1 y1
  have kw := kV.trans k1
  have hk := HK.out
  have hn4 := hk.n4
  have ht30 := hk.t30
  have ht2 := hk.t2
  have hw16 := hk.w16
  have hl8 := hk.l8
  have HQ := Lib.hid (prodF_pos2 hk hm)
  have kS : Ext w1 (w1.alloc (.cells #[.int .u64 (n : Int), .int .u64 (T : Int), .int .u64 (W0 : Int), .slice A (m + 1) c, .slice A2 n2 c2] 120)) := (Ext.refl _).alloc _
  have HS : Hid (StC (w1.alloc (.cells #[.int .u64 (n : Int), .int .u64 (T : Int), .int .u64 (W0 : Int), .slice A (m + 1) c, .slice A2 n2 c2] 120)) w1.heap.size n T W0 (.slice A (m + 1) c) (.slice A2 n2 c2)) := Lib.hid (five_at w1 _ _ _ _ _ _)
  have s0 := HS.out.1
  have s1 := HS.out.2.1
  have s2 := HS.out.2.2.1
  have s3 := HS.out.2.2.2.1
  have s4 := HS.out.2.2.2.2
  have HXR : Hid (NV w1 (.slice A2 n2 c2) (prodF f (m + 1) % T) 3) := Lib.hid (HR.out.val (by omega))
  have hf50 : Hid (∀ j, j < m + 1 → f j < 18446744073709551616) := Lib.hid (fun j hj => by have := hk.q50 j (by omega); omega)
  have HFX := Lib.hid ((hP.out.fx.ext kw).cut (m := m + 1) (by omega))
  have HK2 := Lib.hid hk
  clear hk
  go_wp2_with fail
  refine (summed_any 84 #[.pointer (some ⟨w.heap.size + 1, 0, none⟩), .pointer (some ⟨w.heap.size + 1 + 1, 0, none⟩), .pointer (some ⟨w1.heap.size, 0, none⟩)] _ 200 _ (Lib.hid Tryz.call84) (Lib.hid (addC_any (xs := []) (ys := []) HS.out (cell_ext kS y0) (cell_ext kS y1) (hxa.out.ext (kw.trans kS)) (hxb.out.ext (kw.trans kS)) (NV.le (HXR.out.ext kS) (by omega))))).mono ?_
  rintro ee w5 ⟨A5, n5, c5, rfl, hn5, hx5, k5⟩
  have H5 := Lib.hid hx5
  clear hx5
  go_wp2
  go_ret2
  exact .inr ⟨rfl, A5, n5, c5, rfl, by omega, Lib.hid H5.out, (kw.trans kS).trans k5⟩
set_option maxHeartbeats 4000000 in
theorem bMul_any {N : Int} {T : Nat} {Wd : Int} {A : Option Addr} {L c : Nat} {f : Nat → Nat} {l : Int} {E na ca Xa nb cb Xb : Nat} {Aa Ab : Option Addr} {w : World} (hP : Hid (PA w N T A L c Wd f)) (hL : L ≤ 100) (l0 : -9223372036854775808 ≤ l) (l1 : l < 9223372036854775808) (hT : Hid (Tabs w)) (hE : Hid (ErrL (ParP N T L f Wd) 0 l L E)) (hxa : Hid (NV w (.slice Aa na ca) Xa 40)) (hxb : Hid (NV w (.slice Ab nb cb) Xb 40))  :
    Calls Tryz.prog 34 #[.agg #[.int .i64 N, .int .u64 (T : Int), .slice A L c, .int .i64 Wd], .int .i64 l, .slice Aa na ca, .slice Ab nb cb] w (BdPost w E (mulZ N.toNat T (prodF f (l.toNat + 1)) Xa Xb)) := by
 have kV : Ext w (((w.alloc (.cells #[.int .i64 N, .int .u64 (T : Int), .slice A L c, .int .i64 Wd] 25)).alloc (.cells #[.slice Aa na ca] 50)).alloc (.cells #[.slice Ab nb cb] 50)) := ((((Ext.refl w).alloc _).alloc _).alloc _)
 obtain ⟨a0, a1, a2, a3⟩ := four_at w (.int .i64 N) (.int .u64 (T : Int)) (.slice A L c) (.int .i64 Wd) 25
 have x0 := cell_ext (show Ext (w.alloc (.cells #[.int .i64 N, .int .u64 (T : Int), .slice A L c, .int .i64 Wd] 25)) (((w.alloc (.cells #[.int .i64 N, .int .u64 (T : Int), .slice A L c, .int .i64 Wd] 25)).alloc (.cells #[.slice Aa na ca] 50)).alloc (.cells #[.slice Ab nb cb] 50)) from (((Ext.refl _).alloc _).alloc _)) a0
 have x1 := cell_ext (show Ext (w.alloc (.cells #[.int .i64 N, .int .u64 (T : Int), .slice A L c, .int .i64 Wd] 25)) (((w.alloc (.cells #[.int .i64 N, .int .u64 (T : Int), .slice A L c, .int .i64 Wd] 25)).alloc (.cells #[.slice Aa na ca] 50)).alloc (.cells #[.slice Ab nb cb] 50)) from (((Ext.refl _).alloc _).alloc _)) a1
 have x2 := cell_ext (show Ext (w.alloc (.cells #[.int .i64 N, .int .u64 (T : Int), .slice A L c, .int .i64 Wd] 25)) (((w.alloc (.cells #[.int .i64 N, .int .u64 (T : Int), .slice A L c, .int .i64 Wd] 25)).alloc (.cells #[.slice Aa na ca] 50)).alloc (.cells #[.slice Ab nb cb] 50)) from (((Ext.refl _).alloc _).alloc _)) a2
 have x3 := cell_ext (show Ext (w.alloc (.cells #[.int .i64 N, .int .u64 (T : Int), .slice A L c, .int .i64 Wd] 25)) (((w.alloc (.cells #[.int .i64 N, .int .u64 (T : Int), .slice A L c, .int .i64 Wd] 25)).alloc (.cells #[.slice Aa na ca] 50)).alloc (.cells #[.slice Ab nb cb] 50)) from (((Ext.refl _).alloc _).alloc _)) a3
 have b0 := one_at (w.alloc (.cells #[.int .i64 N, .int .u64 (T : Int), .slice A L c, .int .i64 Wd] 25)) (.slice Aa na ca) 50
 rw [show (w.alloc (.cells #[.int .i64 N, .int .u64 (T : Int), .slice A L c, .int .i64 Wd] 25)).heap.size = w.heap.size + 1 by simp] at b0
 have y0 := cell_ext (show Ext ((w.alloc (.cells #[.int .i64 N, .int .u64 (T : Int), .slice A L c, .int .i64 Wd] 25)).alloc (.cells #[.slice Aa na ca] 50)) (((w.alloc (.cells #[.int .i64 N, .int .u64 (T : Int), .slice A L c, .int .i64 Wd] 25)).alloc (.cells #[.slice Aa na ca] 50)).alloc (.cells #[.slice Ab nb cb] 50)) from ((Ext.refl _).alloc _)) b0
 have b1 := one_at ((w.alloc (.cells #[.int .i64 N, .int .u64 (T : Int), .slice A L c, .int .i64 Wd] 25)).alloc (.cells #[.slice Aa na ca] 50)) (.slice Ab nb cb) 50
 rw [show ((w.alloc (.cells #[.int .i64 N, .int .u64 (T : Int), .slice A L c, .int .i64 Wd] 25)).alloc (.cells #[.slice Aa na ca] 50)).heap.size = w.heap.size + 1 + 1 by simp] at b1
 have y1 := cell_ext (show Ext (((w.alloc (.cells #[.int .i64 N, .int .u64 (T : Int), .slice A L c, .int .i64 Wd] 25)).alloc (.cells #[.slice Aa na ca] 50)).alloc (.cells #[.slice Ab nb cb] 50)) (((w.alloc (.cells #[.int .i64 N, .int .u64 (T : Int), .slice A L c, .int .i64 Wd] 25)).alloc (.cells #[.slice Aa na ca] 50)).alloc (.cells #[.slice Ab nb cb] 50)) from (Ext.refl _)) b1
 clear a0 a1 a2 a3 b0 b1
 go_enter Tryz.func34, Tryz.ntmps34
 go_wp2_with fail
 generalize (((w.alloc (.cells #[.int .i64 N, .int .u64 (T : Int), .slice A L c, .int .i64 Wd] 25)).alloc (.cells #[.slice Aa na ca] 50)).alloc (.cells #[.slice Ab nb cb] 50)) = V at *
 refine (blevelOf_any (hP.out.ext kV) hL l0 l1 (hT.out.ext kV) hE).mono ?_
 rintro ee w1 h1
 have H1 := Lib.hid h1
 clear h1
 obtain ⟨h0, rfl, k1⟩ | ⟨rfl, n, W0, m, A2, n2, c2, rfl, rfl, rfl, hm, HK, rfl, hn2, HR, k1⟩ := H1.out
 ·have e1 : ((E : Int) == 0) = false := by simp; omega
  have e2 : ((E : Int) != 0) = true := by simp; omega
  have H0 := Lib.hid h0
  clear h0 H1
  replace y0 := cell_ext k1 y0
  replace y1 := cell_ext k1 y1
  go_wp2
  go_ret2
  exact .inl ⟨H0.out, by first | rfl | simp, (kV.trans k1).alloc _⟩
 ·clear H1
  replace y0 := cell_ext k1 y0
  replace y1 := cell_ext k1 y1
  have kw := kV.trans k1
  have hk := HK.out
  have hn4 := hk.n4
  have ht30 := hk.t30
  have ht2 := hk.t2
  have hw16 := hk.w16
  have hl8 := hk.l8
  have HQ := Lib.hid (prodF_pos2 hk hm)
  have kS : Ext w1 (w1.alloc (.cells #[.int .u64 (n : Int), .int .u64 (T : Int), .int .u64 (W0 : Int), .slice A (m + 1) c, .slice A2 n2 c2] 120)) := (Ext.refl _).alloc _
  have HS : Hid (StC (w1.alloc (.cells #[.int .u64 (n : Int), .int .u64 (T : Int), .int .u64 (W0 : Int), .slice A (m + 1) c, .slice A2 n2 c2] 120)) w1.heap.size n T W0 (.slice A (m + 1) c) (.slice A2 n2 c2)) := Lib.hid (five_at w1 _ _ _ _ _ _)
  have s0 := HS.out.1
  have s1 := HS.out.2.1
  have s2 := HS.out.2.2.1
  have s3 := HS.out.2.2.2.1
  have s4 := HS.out.2.2.2.2
  have HXR : Hid (NV w1 (.slice A2 n2 c2) (prodF f (m + 1) % T) 3) := Lib.hid (HR.out.val (by omega))
  have hf50 : Hid (∀ j, j < m + 1 → f j < 18446744073709551616) := Lib.hid (fun j hj => by have := hk.q50 j (by omega); omega)
  have HFX := Lib.hid ((hP.out.fx.ext kw).cut (m := m + 1) (by omega))
  have HK2 := Lib.hid hk
  clear hk
  obtain ⟨hg1, hg2, hg3⟩ := grow_lt HK2.out
  obtain ⟨z1, hz1⟩ : ∃ z, z = n * T := ⟨_, rfl⟩
  obtain ⟨z2, hz2⟩ : ∃ z, z = z1 / 2 := ⟨_, rfl⟩
  obtain ⟨z3, hz3⟩ : ∃ z, z = n / 2 := ⟨_, rfl⟩
  obtain ⟨z4, hz4⟩ : ∃ z, z = z3 + 1 := ⟨_, rfl⟩
  obtain ⟨z5, hz5⟩ : ∃ z, z = z1 * z4 := ⟨_, rfl⟩
  obtain ⟨G, hz6⟩ : ∃ z, z = z2 + z5 := ⟨_, rfl⟩
  have hz5b : z5 ≤ 9011597301252096 := by rw [hz5, hz4, hz3, hz1]; exact hg2
  rw [← hz1] at hg1
  have u1 : IntKind.u64.wrap ((n : Int) * (T : Int)) = (z1 : Int) := by rw [IntKind.wrap_u64, ← Int.natCast_mul, ← hz1]; omega
  have u2 : (z1 : Int).tdiv 2 = (z2 : Int) := by rw [hz2]; rfl
  have u2b : (z1 : Int) / 2 = (z2 : Int) := by omega
  have u2c : IntKind.u64.wrap (z2 : Int) = (z2 : Int) := by rw [IntKind.wrap_u64]; omega
  have u3 : (n : Int).tdiv 2 = (z3 : Int) := by rw [hz3]; rfl
  have u3b : (n : Int) / 2 = (z3 : Int) := by omega
  have u3c : IntKind.u64.wrap (z3 : Int) = (z3 : Int) := by rw [IntKind.wrap_u64]; omega
  have u4 : IntKind.u64.wrap ((z3 : Int) + 1) = (z4 : Int) := by rw [IntKind.wrap_u64]; omega
  have u5 : IntKind.u64.wrap ((z1 : Int) * (z4 : Int)) = (z5 : Int) := by rw [IntKind.wrap_u64, ← Int.natCast_mul, ← hz5]; omega
  have u6 : IntKind.u64.wrap ((z2 : Int) + (z5 : Int)) = (G : Int) := by rw [IntKind.wrap_u64]; omega
  have HG := Lib.hid (show G = growZ n T by rw [hz6, hz5, hz4, hz3, hz2, hz1]; rfl)
  have hgb : G < 18446744073709551615 := by rw [HG.out]; exact hg3
  clear hg1 hg2 hg3 hz1 hz2 hz3 hz4 hz5 hz6 hz5b
  have kG : Ext (w1.alloc (.cells #[.int .u64 (n : Int), .int .u64 (T : Int), .int .u64 (W0 : Int), .slice A (m + 1) c, .slice A2 n2 c2] 120)) ((w1.alloc (.cells #[.int .u64 (n : Int), .int .u64 (T : Int), .int .u64 (W0 : Int), .slice A (m + 1) c, .slice A2 n2 c2] 120)).alloc (.cells #[.int .u64 (G : Int)] 22)) := (Ext.refl _).alloc _
  have g0 : ((w1.alloc (.cells #[.int .u64 (n : Int), .int .u64 (T : Int), .int .u64 (W0 : Int), .slice A (m + 1) c, .slice A2 n2 c2] 120)).alloc (.cells #[.int .u64 (G : Int)] 22)).cell? ⟨w1.heap.size + 1, 0, none⟩ = some (.int .u64 (G : Int)) := by simp
  go_wp2_with fail
  refine (summed_any 88 #[.pointer (some ⟨w1.heap.size, 0, none⟩), .pointer (some ⟨w1.heap.size + 1, 0, none⟩), .pointer (some ⟨w.heap.size + 1, 0, none⟩), .pointer (some ⟨w.heap.size + 1 + 1, 0, none⟩)] _ 600 _ (Lib.hid Tryz.call88) (Lib.hid (mulC_any hn4 ht30 hgb (by omega) HQ.out (HFX.out.ext (kS.trans kG)) hf50 (HS.out.ext kG) g0 (cell_ext (kS.trans kG) y0) (cell_ext (kS.trans kG) y1) (hxa.out.ext (kw.trans (kS.trans kG))) (hxb.out.ext (kw.trans (kS.trans kG))) (HXR.out.ext (kS.trans kG))))).mono ?_
  rintro ee w5 ⟨A5, n5, c5, rfl, hn5, hx5, k5⟩
  have H5 := Lib.hid hx5
  clear hx5
  go_wp2
  go_ret2
  refine .inr ⟨rfl, A5, n5, c5, rfl, by omega, ?_, (kw.trans (kS.trans kG)).trans k5⟩
  unfold mulZ
  rw [Int.toNat_natCast, Int.toNat_natCast, ← HG.out]
  exact Lib.hid H5.out
set_option maxHeartbeats 4000000 in
theorem bSwitch_any {N : Int} {T : Nat} {Wd : Int} {A : Option Addr} {L c : Nat} {f : Nat → Nat} {l : Int} {E na ca Xa : Nat} {Aa : Option Addr} {w : World} (hP : Hid (PA w N T A L c Wd f)) (hL : L ≤ 100) (l0 : -9223372036854775808 ≤ l) (l1 : l < 9223372036854775808) (hT : Hid (Tabs w)) (hE : Hid (ErrL (ParP N T L f Wd) 0 l L E)) (hxa : Hid (NV w (.slice Aa na ca) Xa 40))  :
    Calls Tryz.prog 39 #[.agg #[.int .i64 N, .int .u64 (T : Int), .slice A L c, .int .i64 Wd], .int .i64 l, .slice Aa na ca] w (BdPost w E (switchZ N.toNat Wd.toNat f (l.toNat + 1) Xa)) := by
 have kV : Ext w ((w.alloc (.cells #[.int .i64 N, .int .u64 (T : Int), .slice A L c, .int .i64 Wd] 25)).alloc (.cells #[.slice Aa na ca] 50)) := (((Ext.refl w).alloc _).alloc _)
 obtain ⟨a0, a1, a2, a3⟩ := four_at w (.int .i64 N) (.int .u64 (T : Int)) (.slice A L c) (.int .i64 Wd) 25
 have x0 := cell_ext (show Ext (w.alloc (.cells #[.int .i64 N, .int .u64 (T : Int), .slice A L c, .int .i64 Wd] 25)) ((w.alloc (.cells #[.int .i64 N, .int .u64 (T : Int), .slice A L c, .int .i64 Wd] 25)).alloc (.cells #[.slice Aa na ca] 50)) from ((Ext.refl _).alloc _)) a0
 have x1 := cell_ext (show Ext (w.alloc (.cells #[.int .i64 N, .int .u64 (T : Int), .slice A L c, .int .i64 Wd] 25)) ((w.alloc (.cells #[.int .i64 N, .int .u64 (T : Int), .slice A L c, .int .i64 Wd] 25)).alloc (.cells #[.slice Aa na ca] 50)) from ((Ext.refl _).alloc _)) a1
 have x2 := cell_ext (show Ext (w.alloc (.cells #[.int .i64 N, .int .u64 (T : Int), .slice A L c, .int .i64 Wd] 25)) ((w.alloc (.cells #[.int .i64 N, .int .u64 (T : Int), .slice A L c, .int .i64 Wd] 25)).alloc (.cells #[.slice Aa na ca] 50)) from ((Ext.refl _).alloc _)) a2
 have x3 := cell_ext (show Ext (w.alloc (.cells #[.int .i64 N, .int .u64 (T : Int), .slice A L c, .int .i64 Wd] 25)) ((w.alloc (.cells #[.int .i64 N, .int .u64 (T : Int), .slice A L c, .int .i64 Wd] 25)).alloc (.cells #[.slice Aa na ca] 50)) from ((Ext.refl _).alloc _)) a3
 have b0 := one_at (w.alloc (.cells #[.int .i64 N, .int .u64 (T : Int), .slice A L c, .int .i64 Wd] 25)) (.slice Aa na ca) 50
 rw [show (w.alloc (.cells #[.int .i64 N, .int .u64 (T : Int), .slice A L c, .int .i64 Wd] 25)).heap.size = w.heap.size + 1 by simp] at b0
 have y0 := cell_ext (show Ext ((w.alloc (.cells #[.int .i64 N, .int .u64 (T : Int), .slice A L c, .int .i64 Wd] 25)).alloc (.cells #[.slice Aa na ca] 50)) ((w.alloc (.cells #[.int .i64 N, .int .u64 (T : Int), .slice A L c, .int .i64 Wd] 25)).alloc (.cells #[.slice Aa na ca] 50)) from (Ext.refl _)) b0
 clear a0 a1 a2 a3 b0
 go_enter Tryz.func39, Tryz.ntmps39
 go_wp2_with fail
 generalize ((w.alloc (.cells #[.int .i64 N, .int .u64 (T : Int), .slice A L c, .int .i64 Wd] 25)).alloc (.cells #[.slice Aa na ca] 50)) = V at *
 refine (blevelOf_any (hP.out.ext kV) hL l0 l1 (hT.out.ext kV) hE).mono ?_
 rintro ee w1 h1
 have H1 := Lib.hid h1
 clear h1
 obtain ⟨h0, rfl, k1⟩ | ⟨rfl, n, W0, m, A2, n2, c2, rfl, rfl, rfl, hm, HK, rfl, hn2, HR, k1⟩ := H1.out
 ·have e1 : ((E : Int) == 0) = false := by simp; omega
  have e2 : ((E : Int) != 0) = true := by simp; omega
  have H0 := Lib.hid h0
  clear h0 H1
  replace y0 := cell_ext k1 y0
  go_wp2
  go_ret2
  exact .inl ⟨H0.out, by first | rfl | simp, (kV.trans k1).alloc _⟩
 ·clear H1
  replace y0 := cell_ext k1 y0
  have kw := kV.trans k1
  have hk := HK.out
  have hn4 := hk.n4
  have ht30 := hk.t30
  have ht2 := hk.t2
  have hw16 := hk.w16
  have hl8 := hk.l8
  have HQ := Lib.hid (prodF_pos2 hk hm)
  have kS : Ext w1 (w1.alloc (.cells #[.int .u64 (n : Int), .int .u64 (T : Int), .int .u64 (W0 : Int), .slice A (m + 1) c, .slice A2 n2 c2] 120)) := (Ext.refl _).alloc _
  have HS : Hid (StC (w1.alloc (.cells #[.int .u64 (n : Int), .int .u64 (T : Int), .int .u64 (W0 : Int), .slice A (m + 1) c, .slice A2 n2 c2] 120)) w1.heap.size n T W0 (.slice A (m + 1) c) (.slice A2 n2 c2)) := Lib.hid (five_at w1 _ _ _ _ _ _)
  have s0 := HS.out.1
  have s1 := HS.out.2.1
  have s2 := HS.out.2.2.1
  have s3 := HS.out.2.2.2.1
  have s4 := HS.out.2.2.2.2
  have HXR : Hid (NV w1 (.slice A2 n2 c2) (prodF f (m + 1) % T) 3) := Lib.hid (HR.out.val (by omega))
  have hf50 : Hid (∀ j, j < m + 1 → f j < 18446744073709551616) := Lib.hid (fun j hj => by have := hk.q50 j (by omega); omega)
  have HFX := Lib.hid ((hP.out.fx.ext kw).cut (m := m + 1) (by omega))
  have HK2 := Lib.hid hk
  clear hk
  go_wp2_with fail
  refine (summed_any 101 #[.pointer (some ⟨w.heap.size + 1, 0, none⟩), .pointer (some ⟨w1.heap.size, 0, none⟩)] _ 300 _ (Lib.hid Tryz.call101) (Lib.hid (switchC_any hn4 hw16 (by omega) (HFX.out.ext kS) (Lib.hid (fun j hj => ⟨by have := HK2.out.q2 j (by omega); omega, hf50.out j hj⟩)) HS.out (cell_ext kS y0) (hxa.out.ext (kw.trans kS))))).mono ?_
  rintro ee w5 ⟨A5, n5, c5, rfl, hn5, hx5, k5⟩
  have H5 := Lib.hid hx5
  clear hx5
  go_wp2
  go_ret2
  exact .inr ⟨rfl, A5, n5, c5, rfl, by omega, Lib.hid H5.out, (kw.trans kS).trans k5⟩
set_option maxHeartbeats 4000000 in
theorem bLower_any {N : Int} {T : Nat} {Wd : Int} {A : Option Addr} {L c : Nat} {f : Nat → Nat} {l : Int} {K : Int} {E na ca Xa : Nat} {Aa : Option Addr} {w : World} (hP : Hid (PA w N T A L c Wd f)) (hL : L ≤ 100) (l0 : -9223372036854775808 ≤ l) (l1 : l < 9223372036854775808) (hT : Hid (Tabs w)) (hE : Hid (ErrL (ParP N T L f Wd) 0 l L E)) (hxa : Hid (NV w (.slice Aa na ca) Xa 40))  :
    Calls Tryz.prog 40 #[.agg #[.int .i64 N, .int .u64 (T : Int), .slice A L c, .int .i64 Wd], .int .i64 l, .int .i64 K, .slice Aa na ca] w (BdPost w (lowE E l K) (lowerZ N.toNat T (f l.toNat) K.toNat Xa)) := by
 have kV : Ext w ((((w.alloc (.cells #[.int .i64 N, .int .u64 (T : Int), .slice A L c, .int .i64 Wd] 25)).alloc (.cells #[.int .i64 l] 3)).alloc (.cells #[.int .i64 K] 3)).alloc (.cells #[.slice Aa na ca] 50)) := (((((Ext.refl w).alloc _).alloc _).alloc _).alloc _)
 obtain ⟨a0, a1, a2, a3⟩ := four_at w (.int .i64 N) (.int .u64 (T : Int)) (.slice A L c) (.int .i64 Wd) 25
 have x0 := cell_ext (show Ext (w.alloc (.cells #[.int .i64 N, .int .u64 (T : Int), .slice A L c, .int .i64 Wd] 25)) ((((w.alloc (.cells #[.int .i64 N, .int .u64 (T : Int), .slice A L c, .int .i64 Wd] 25)).alloc (.cells #[.int .i64 l] 3)).alloc (.cells #[.int .i64 K] 3)).alloc (.cells #[.slice Aa na ca] 50)) from ((((Ext.refl _).alloc _).alloc _).alloc _)) a0
 have x1 := cell_ext (show Ext (w.alloc (.cells #[.int .i64 N, .int .u64 (T : Int), .slice A L c, .int .i64 Wd] 25)) ((((w.alloc (.cells #[.int .i64 N, .int .u64 (T : Int), .slice A L c, .int .i64 Wd] 25)).alloc (.cells #[.int .i64 l] 3)).alloc (.cells #[.int .i64 K] 3)).alloc (.cells #[.slice Aa na ca] 50)) from ((((Ext.refl _).alloc _).alloc _).alloc _)) a1
 have x2 := cell_ext (show Ext (w.alloc (.cells #[.int .i64 N, .int .u64 (T : Int), .slice A L c, .int .i64 Wd] 25)) ((((w.alloc (.cells #[.int .i64 N, .int .u64 (T : Int), .slice A L c, .int .i64 Wd] 25)).alloc (.cells #[.int .i64 l] 3)).alloc (.cells #[.int .i64 K] 3)).alloc (.cells #[.slice Aa na ca] 50)) from ((((Ext.refl _).alloc _).alloc _).alloc _)) a2
 have x3 := cell_ext (show Ext (w.alloc (.cells #[.int .i64 N, .int .u64 (T : Int), .slice A L c, .int .i64 Wd] 25)) ((((w.alloc (.cells #[.int .i64 N, .int .u64 (T : Int), .slice A L c, .int .i64 Wd] 25)).alloc (.cells #[.int .i64 l] 3)).alloc (.cells #[.int .i64 K] 3)).alloc (.cells #[.slice Aa na ca] 50)) from ((((Ext.refl _).alloc _).alloc _).alloc _)) a3
 have b0 := one_at (w.alloc (.cells #[.int .i64 N, .int .u64 (T : Int), .slice A L c, .int .i64 Wd] 25)) (.int .i64 l) 3
 rw [show (w.alloc (.cells #[.int .i64 N, .int .u64 (T : Int), .slice A L c, .int .i64 Wd] 25)).heap.size = w.heap.size + 1 by simp] at b0
 have y0 := cell_ext (show Ext ((w.alloc (.cells #[.int .i64 N, .int .u64 (T : Int), .slice A L c, .int .i64 Wd] 25)).alloc (.cells #[.int .i64 l] 3)) ((((w.alloc (.cells #[.int .i64 N, .int .u64 (T : Int), .slice A L c, .int .i64 Wd] 25)).alloc (.cells #[.int .i64 l] 3)).alloc (.cells #[.int .i64 K] 3)).alloc (.cells #[.slice Aa na ca] 50)) from (((Ext.refl _).alloc _).alloc _)) b0
 have b1 := one_at ((w.alloc (.cells #[.int .i64 N, .int .u64 (T : Int), .slice A L c, .int .i64 Wd] 25)).alloc (.cells #[.int .i64 l] 3)) (.int .i64 K) 3
 rw [show ((w.alloc (.cells #[.int .i64 N, .int .u64 (T : Int), .slice A L c, .int .i64 Wd] 25)).alloc (.cells #[.int .i64 l] 3)).heap.size = w.heap.size + 1 + 1 by simp] at b1
 have y1 := cell_ext (show Ext (((w.alloc (.cells #[.int .i64 N, .int .u64 (T : Int), .slice A L c, .int .i64 Wd] 25)).alloc (.cells #[.int .i64 l] 3)).alloc (.cells #[.int .i64 K] 3)) ((((w.alloc (.cells #[.int .i64 N, .int .u64 (T : Int), .slice A L c, .int .i64 Wd] 25)).alloc (.cells #[.int .i64 l] 3)).alloc (.cells #[.int .i64 K] 3)).alloc (.cells #[.slice Aa na ca] 50)) from ((Ext.refl _).alloc _)) b1
 have b2 := one_at (((w.alloc (.cells #[.int .i64 N, .int .u64 (T : Int), .slice A L c, .int .i64 Wd] 25)).alloc (.cells #[.int .i64 l] 3)).alloc (.cells #[.int .i64 K] 3)) (.slice Aa na ca) 50
 rw [show (((w.alloc (.cells #[.int .i64 N, .int .u64 (T : Int), .slice A L c, .int .i64 Wd] 25)).alloc (.cells #[.int .i64 l] 3)).alloc (.cells #[.int .i64 K] 3)).heap.size = w.heap.size + 1 + 1 + 1 by simp] at b2
 have y2 := cell_ext (show Ext ((((w.alloc (.cells #[.int .i64 N, .int .u64 (T : Int), .slice A L c, .int .i64 Wd] 25)).alloc (.cells #[.int .i64 l] 3)).alloc (.cells #[.int .i64 K] 3)).alloc (.cells #[.slice Aa na ca] 50)) ((((w.alloc (.cells #[.int .i64 N, .int .u64 (T : Int), .slice A L c, .int .i64 Wd] 25)).alloc (.cells #[.int .i64 l] 3)).alloc (.cells #[.int .i64 K] 3)).alloc (.cells #[.slice Aa na ca] 50)) from (Ext.refl _)) b2
 clear a0 a1 a2 a3 b0 b1 b2
 go_enter Tryz.func40, Tryz.ntmps40
 go_wp2_with fail
 generalize ((((w.alloc (.cells #[.int .i64 N, .int .u64 (T : Int), .slice A L c, .int .i64 Wd] 25)).alloc (.cells #[.int .i64 l] 3)).alloc (.cells #[.int .i64 K] 3)).alloc (.cells #[.slice Aa na ca] 50)) = V at *
 refine (blevelOf_any (hP.out.ext kV) hL l0 l1 (hT.out.ext kV) hE).mono ?_
 rintro ee w1 h1
 have H1 := Lib.hid h1
 clear h1
 obtain ⟨h0, rfl, k1⟩ | ⟨rfl, n, W0, m, A2, n2, c2, rfl, rfl, rfl, hm, HK, rfl, hn2, HR, k1⟩ := H1.out
 ·have e1 : ((E : Int) == 0) = false := by simp; omega
  have e2 : ((E : Int) != 0) = true := by simp; omega
  have H0 := Lib.hid h0
  clear h0 H1
  replace y0 := cell_ext k1 y0
  replace y1 := cell_ext k1 y1
  replace y2 := cell_ext k1 y2
  go_wp2
  go_ret2
  have he : lowE E l K = E := by unfold lowE; rw [if_pos H0.out]
  exact .inl ⟨by rw [he]; exact H0.out, by rw [he]; rfl, (kV.trans k1).alloc _⟩
 ·clear H1
  replace y0 := cell_ext k1 y0
  replace y1 := cell_ext k1 y1
  replace y2 := cell_ext k1 y2
  have kw := kV.trans k1
  have hk := HK.out
  have hn4 := hk.n4
  have ht30 := hk.t30
  have ht2 := hk.t2
  have hw16 := hk.w16
  have hl8 := hk.l8
  have HQ := Lib.hid (prodF_pos2 hk hm)
  have kS : Ext w1 (w1.alloc (.cells #[.int .u64 (n : Int), .int .u64 (T : Int), .int .u64 (W0 : Int), .slice A (m + 1) c, .slice A2 n2 c2] 120)) := (Ext.refl _).alloc _
  have HS : Hid (StC (w1.alloc (.cells #[.int .u64 (n : Int), .int .u64 (T : Int), .int .u64 (W0 : Int), .slice A (m + 1) c, .slice A2 n2 c2] 120)) w1.heap.size n T W0 (.slice A (m + 1) c) (.slice A2 n2 c2)) := Lib.hid (five_at w1 _ _ _ _ _ _)
  have s0 := HS.out.1
  have s1 := HS.out.2.1
  have s2 := HS.out.2.2.1
  have s3 := HS.out.2.2.2.1
  have s4 := HS.out.2.2.2.2
  have HXR : Hid (NV w1 (.slice A2 n2 c2) (prodF f (m + 1) % T) 3) := Lib.hid (HR.out.val (by omega))
  have hf50 : Hid (∀ j, j < m + 1 → f j < 18446744073709551616) := Lib.hid (fun j hj => by have := hk.q50 j (by omega); omega)
  have HFX := Lib.hid ((hP.out.fx.ext kw).cut (m := m + 1) (by omega))
  have HK2 := Lib.hid hk
  clear hk
  have y0s := cell_ext kS y0
  have y1s := cell_ext kS y1
  have y2s := cell_ext kS y2
  have hqm0 := HK2.out.q2 m hm
  have hqm1 := HK2.out.q50 m hm
  obtain ⟨ad, rfl, hc⟩ := HFX.out.cells (by omega)
  have hqm := hc m (by omega)
  obtain ⟨q, hqe⟩ : ∃ q, q = f m := ⟨_, rfl⟩
  rw [← hqe] at hqm hqm0 hqm1
  have hqb : q < 18446744073709551616 := by omega
  have EQ := Lib.hid hqe
  clear hc hqe
  by_cases hm0 : m = 0
  ·subst hm0
   go_wp2
   go_ret2
   have he : lowE 0 ((0 : Nat) : Int) K = 10 := by unfold lowE; simp
   exact .inl ⟨by rw [he]; decide, by rw [he]; rfl, kw.trans kS⟩
  have em : ((m : Int) == 0) = false := by simp; omega
  have HM := Lib.hid hm0
  have HL0 := Lib.hid (And.intro l0 l1)
  clear l0 l1
  by_cases hK : K = 2 ∨ K = 3
  ·have hm0' : ¬ ((m : Int) = 0) := by omega
   rw [Int.toNat_natCast m, ← EQ.out]
   rcases hK with rfl | rfl
   ·go_wp2_with fail
    refine (summed_any 102 #[.pointer (some ⟨w.heap.size + 1 + 1 + 1, 0, none⟩), .pointer (some ⟨w1.heap.size, 0, none⟩), .pointer (some ⟨w.heap.size + 1, 0, none⟩), .pointer (some ⟨w.heap.size + 1 + 1, 0, none⟩)] _ 300 _ (Lib.hid Tryz.call102) (Lib.hid (lowerC_any (K := 2) hn4 (by omega) ht30 (Nat.lt_succ_self m) (by omega) (by omega) hqb HS.out (cell_ext kS y2) (cell_ext kS y0) (cell_ext kS y1) (cell_ext kS hqm) (hxa.out.ext (kw.trans kS))))).mono ?_
    rintro ee w5 ⟨A5, n5, c5, rfl, hn5, hx5, k5⟩
    have H5 := Lib.hid hx5
    clear hx5
    go_wp2
    go_ret2
    refine .inr ⟨by unfold lowE; simp; omega, A5, n5, c5, rfl, by omega, ?_, (kw.trans kS).trans k5⟩
    unfold lowerZ
    first | exact Lib.hid H5.out | (rw [Int.toNat_natCast]; exact Lib.hid H5.out) | (rw [Int.toNat_natCast, Int.toNat_natCast]; exact Lib.hid H5.out) | (rw [← EQ.out]; exact Lib.hid H5.out) | (rw [Int.toNat_natCast, ← EQ.out]; exact Lib.hid H5.out) | (rw [Int.toNat_natCast, Int.toNat_natCast, ← EQ.out]; exact Lib.hid H5.out)
   ·go_wp2_with fail
    refine (summed_any 102 #[.pointer (some ⟨w.heap.size + 1 + 1 + 1, 0, none⟩), .pointer (some ⟨w1.heap.size, 0, none⟩), .pointer (some ⟨w.heap.size + 1, 0, none⟩), .pointer (some ⟨w.heap.size + 1 + 1, 0, none⟩)] _ 300 _ (Lib.hid Tryz.call102) (Lib.hid (lowerC_any (K := 3) hn4 (by omega) ht30 (Nat.lt_succ_self m) (by omega) (by omega) hqb HS.out (cell_ext kS y2) (cell_ext kS y0) (cell_ext kS y1) (cell_ext kS hqm) (hxa.out.ext (kw.trans kS))))).mono ?_
    rintro ee w5 ⟨A5, n5, c5, rfl, hn5, hx5, k5⟩
    have H5 := Lib.hid hx5
    clear hx5
    go_wp2
    go_ret2
    refine .inr ⟨by unfold lowE; simp; omega, A5, n5, c5, rfl, by omega, ?_, (kw.trans kS).trans k5⟩
    unfold lowerZ
    first | exact Lib.hid H5.out | (rw [Int.toNat_natCast]; exact Lib.hid H5.out) | (rw [Int.toNat_natCast, Int.toNat_natCast]; exact Lib.hid H5.out) | (rw [← EQ.out]; exact Lib.hid H5.out) | (rw [Int.toNat_natCast, ← EQ.out]; exact Lib.hid H5.out) | (rw [Int.toNat_natCast, Int.toNat_natCast, ← EQ.out]; exact Lib.hid H5.out)
  ·have e2 : (K != 2) = true := by simp; omega
   have e3 : (K != 3) = true := by simp; omega
   have e4 : (K == 2) = false := by simp; omega
   have e5 : (K == 3) = false := by simp; omega
   have HKK := Lib.hid (show K ≠ 2 ∧ K ≠ 3 by omega)
   clear hK
   go_wp2
   go_ret2
   have hm0' : ¬ ((m : Int) = 0) := by have := HM.out; omega
   have he : lowE 0 (m : Int) K = 4 := by unfold lowE; rw [if_neg (by omega), if_neg hm0', if_pos HKK.out]
   exact .inl ⟨by rw [he]; decide, by rw [he]; rfl, kw.trans kS⟩
set_option maxHeartbeats 4000000 in
theorem bFits_any {N : Int} {T : Nat} {Wd : Int} {A : Option Addr} {L c : Nat} {f : Nat → Nat} {l : Int} {E na ca Xa : Nat} {Aa : Option Addr} {w : World} (hP : Hid (PA w N T A L c Wd f)) (hL : L ≤ 100) (l0 : -9223372036854775808 ≤ l) (l1 : l < 9223372036854775808) (hT : Hid (Tabs w)) (hE : Hid (ErrL (ParP N T L f Wd) 0 l L E)) (hxa : Hid (NV w (.slice Aa na ca) Xa 40))  :
    Calls Tryz.prog 43 #[.agg #[.int .i64 N, .int .u64 (T : Int), .slice A L c, .int .i64 Wd], .int .i64 l, .slice Aa na ca] w (fun ee w' => ee = .returned (.bool (decide (E = 0 ∧ fitsZ T (prodF f (l.toNat + 1)) Xa < prodF f (l.toNat + 1)))) ∧ Ext w w') := by
 have kV : Ext w ((w.alloc (.cells #[.int .i64 N, .int .u64 (T : Int), .slice A L c, .int .i64 Wd] 25)).alloc (.cells #[.slice Aa na ca] 50)) := (((Ext.refl w).alloc _).alloc _)
 obtain ⟨a0, a1, a2, a3⟩ := four_at w (.int .i64 N) (.int .u64 (T : Int)) (.slice A L c) (.int .i64 Wd) 25
 have x0 := cell_ext (show Ext (w.alloc (.cells #[.int .i64 N, .int .u64 (T : Int), .slice A L c, .int .i64 Wd] 25)) ((w.alloc (.cells #[.int .i64 N, .int .u64 (T : Int), .slice A L c, .int .i64 Wd] 25)).alloc (.cells #[.slice Aa na ca] 50)) from ((Ext.refl _).alloc _)) a0
 have x1 := cell_ext (show Ext (w.alloc (.cells #[.int .i64 N, .int .u64 (T : Int), .slice A L c, .int .i64 Wd] 25)) ((w.alloc (.cells #[.int .i64 N, .int .u64 (T : Int), .slice A L c, .int .i64 Wd] 25)).alloc (.cells #[.slice Aa na ca] 50)) from ((Ext.refl _).alloc _)) a1
 have x2 := cell_ext (show Ext (w.alloc (.cells #[.int .i64 N, .int .u64 (T : Int), .slice A L c, .int .i64 Wd] 25)) ((w.alloc (.cells #[.int .i64 N, .int .u64 (T : Int), .slice A L c, .int .i64 Wd] 25)).alloc (.cells #[.slice Aa na ca] 50)) from ((Ext.refl _).alloc _)) a2
 have x3 := cell_ext (show Ext (w.alloc (.cells #[.int .i64 N, .int .u64 (T : Int), .slice A L c, .int .i64 Wd] 25)) ((w.alloc (.cells #[.int .i64 N, .int .u64 (T : Int), .slice A L c, .int .i64 Wd] 25)).alloc (.cells #[.slice Aa na ca] 50)) from ((Ext.refl _).alloc _)) a3
 have b0 := one_at (w.alloc (.cells #[.int .i64 N, .int .u64 (T : Int), .slice A L c, .int .i64 Wd] 25)) (.slice Aa na ca) 50
 rw [show (w.alloc (.cells #[.int .i64 N, .int .u64 (T : Int), .slice A L c, .int .i64 Wd] 25)).heap.size = w.heap.size + 1 by simp] at b0
 have y0 := cell_ext (show Ext ((w.alloc (.cells #[.int .i64 N, .int .u64 (T : Int), .slice A L c, .int .i64 Wd] 25)).alloc (.cells #[.slice Aa na ca] 50)) ((w.alloc (.cells #[.int .i64 N, .int .u64 (T : Int), .slice A L c, .int .i64 Wd] 25)).alloc (.cells #[.slice Aa na ca] 50)) from (Ext.refl _)) b0
 clear a0 a1 a2 a3 b0
 go_enter Tryz.func43, Tryz.ntmps43
 go_wp2_with fail
 generalize ((w.alloc (.cells #[.int .i64 N, .int .u64 (T : Int), .slice A L c, .int .i64 Wd] 25)).alloc (.cells #[.slice Aa na ca] 50)) = V at *
 refine (blevelOf_any (hP.out.ext kV) hL l0 l1 (hT.out.ext kV) hE).mono ?_
 rintro ee w1 h1
 have H1 := Lib.hid h1
 clear h1
 obtain ⟨h0, rfl, k1⟩ | ⟨rfl, n, W0, m, A2, n2, c2, rfl, rfl, rfl, hm, HK, rfl, hn2, HR, k1⟩ := H1.out
 ·have e1 : ((E : Int) == 0) = false := by simp; omega
  have e2 : ((E : Int) != 0) = true := by simp; omega
  have H0 := Lib.hid h0
  clear h0 H1
  replace y0 := cell_ext k1 y0
  go_wp2
  go_ret
  exact ⟨by rw [decide_eq_false (fun h => H0.out h.1)]; rfl, (kV.trans k1).alloc _⟩
 ·clear H1
  replace y0 := cell_ext k1 y0
  have kw := kV.trans k1
  have hk := HK.out
  have hn4 := hk.n4
  have ht30 := hk.t30
  have ht2 := hk.t2
  have hw16 := hk.w16
  have hl8 := hk.l8
  have HQ := Lib.hid (prodF_pos2 hk hm)
  have kS : Ext w1 (w1.alloc (.cells #[.int .u64 (n : Int), .int .u64 (T : Int), .int .u64 (W0 : Int), .slice A (m + 1) c, .slice A2 n2 c2] 120)) := (Ext.refl _).alloc _
  have HS : Hid (StC (w1.alloc (.cells #[.int .u64 (n : Int), .int .u64 (T : Int), .int .u64 (W0 : Int), .slice A (m + 1) c, .slice A2 n2 c2] 120)) w1.heap.size n T W0 (.slice A (m + 1) c) (.slice A2 n2 c2)) := Lib.hid (five_at w1 _ _ _ _ _ _)
  have s0 := HS.out.1
  have s1 := HS.out.2.1
  have s2 := HS.out.2.2.1
  have s3 := HS.out.2.2.2.1
  have s4 := HS.out.2.2.2.2
  have HXR : Hid (NV w1 (.slice A2 n2 c2) (prodF f (m + 1) % T) 3) := Lib.hid (HR.out.val (by omega))
  have hf50 : Hid (∀ j, j < m + 1 → f j < 18446744073709551616) := Lib.hid (fun j hj => by have := hk.q50 j (by omega); omega)
  have HFX := Lib.hid ((hP.out.fx.ext kw).cut (m := m + 1) (by omega))
  have HK2 := Lib.hid hk
  clear hk
  go_wp2_with fail
  refine (summed_any 103 #[.pointer (some ⟨w1.heap.size, 0, none⟩), .pointer (some ⟨w.heap.size + 1, 0, none⟩)] _ 300 _ (Lib.hid Tryz.call103) (Lib.hid (fitsC_any (by omega) ht30 HS.out (cell_ext kS y0) (hxa.out.ext (kw.trans kS)) (NV.le (HXR.out.ext kS) (by omega))))).mono ?_
  rintro ee w5 ⟨A5, n5, c5, rfl, hn5, hx5, k5⟩
  have H5 := Lib.hid hx5
  clear hx5
  have kz := kS.trans k5
  replace s0 := cell_ext k5 s0
  replace s1 := cell_ext k5 s1
  replace s2 := cell_ext k5 s2
  replace s3 := cell_ext k5 s3
  replace s4 := cell_ext k5 s4
  go_wp2_with fail
  refine (stModulus_any n T W0 A (m + 1) c (.slice A2 n2 c2) f _ (by omega) (HFX.out.ext kz) hf50).mono ?_
  rintro ee w6 ⟨A6, n6, c6, rfl, hn6, hx6, k6⟩
  have H6 := Lib.hid hx6
  clear hx6
  go_wp2_with fail
  refine (cmpX (NX.ext H5.out k6) H6.out (by omega) (by omega)).mono ?_
  rw [nv_nw, nv_nw]
  rintro ee w7 ⟨rfl, k7⟩
  have HC0 := Lib.hid (cmpS_neg (2 * T * Xa + prodF f (m + 1) % T * (T - 1)) (prodF f (m + 1)))
  obtain ⟨z, hz⟩ : ∃ z, z = cmpS (2 * T * Xa + prodF f (m + 1) % T * (T - 1)) (prodF f (m + 1)) := ⟨_, rfl⟩
  rw [← hz]
  have hfin : decide (z < 0) = decide (2 * T * Xa + prodF f (m + 1) % T * (T - 1) < prodF f (m + 1)) := by rw [hz]; exact HC0.out
  obtain ⟨bb, hbb⟩ : ∃ bb, bb = decide (2 * T * Xa + prodF f (m + 1) % T * (T - 1) < prodF f (m + 1)) := ⟨_, rfl⟩
  rw [← hbb] at hfin
  have HBB := Lib.hid hbb
  clear hz hbb
  go_wp2
  go_ret
  refine ⟨?_, (kw.trans kz).trans (k6.trans k7)⟩
  show Ending.returned (.bool bb) = _
  rw [HBB.out]
  unfold fitsZ
  first | rfl | (simp; done) | (rw [Int.toNat_natCast]; simp)
def LvOne (w : World) (E : Nat) (N : Int) (T : Nat) (A : Option Addr) (L c : Nat) (f : Nat → Nat) (W l : Int) (ee : Ending) (w' : World) : Prop :=
 ∃ (u0 u1 u2 : Nat) (A3 : Option Addr) (n3 c3 : Nat) (A4 : Option Addr) (n4 c4 : Nat), ee = .returned (.tuple #[.agg #[.int .u64 (u0 : Int), .int .u64 (u1 : Int), .int .u64 (u2 : Int), .slice A3 n3 c3, .slice A4 n4 c4], .int .i64 (E : Int)]) ∧ Hid (E = 0 → ParK u0 T u2 L f ∧ N = (u0 : Int) ∧ W = (u2 : Int)) ∧ Ext w w'
theorem LvPost.one {w : World} {E : Nat} {N : Int} {T : Nat} {A : Option Addr} {L c : Nat} {f : Nat → Nat} {W l : Int} {ee : Ending} {w' : World} (h : LvPost w E N T A L c f W l ee w') : LvOne w E N T A L c f W l ee w' := by
 obtain ⟨h0, rfl, k1⟩ | ⟨rfl, n, W0, m, A2, n2, c2, rfl, rfl, rfl, hm, HK, rfl, hn2, HR, k1⟩ := h
 ·exact ⟨0, 0, 0, none, 0, 0, none, 0, 0, rfl, Lib.hid (fun h => absurd h h0), k1⟩
 ·exact ⟨n, T, W0, _, _, _, _, _, _, rfl, Lib.hid (fun _ => ⟨HK.out, rfl, rfl⟩), k1⟩
theorem row_new {w w' : World} {o : Obj} (k : Ext (w.alloc o) w') : w'.heap[w.heap.size]? = some o := (k.block _ (by simp)).trans (heap_alloc_new w o)
theorem row_ext {w w' : World} {i : Nat} {o : Obj} (h : w.heap[i]? = some o) (k : Ext w w') : w'.heap[i]? = some o := (k.block _ (Array.getElem?_eq_some_iff.1 h).1).trans h
theorem row_z {w : World} {i : Nat} {xs : Array Value} {t : TypeId} (h : w.heap[i]? = some (.cells xs t (0, 0))) (j : Nat) : w.frozen? ⟨i, j, none⟩ = false := by simp [World.frozen?, h]
theorem row5 {w : World} {i : Nat} {a b c d e : Value} {t : TypeId} (h : w.heap[i]? = some (.cells #[a, b, c, d, e] t (0, 0))) : w.cell? ⟨i, 0, none⟩ = some a ∧ w.cell? ⟨i, 1, none⟩ = some b ∧ w.cell? ⟨i, 2, none⟩ = some c ∧ w.cell? ⟨i, 3, none⟩ = some d ∧ w.cell? ⟨i, 4, none⟩ = some e := by
 refine ⟨?_, ?_, ?_, ?_, ?_⟩
 all_goals (rw [cell_of_row w i _ _ _ (0, 0) h]; rfl)
def freshZ (n Wd : Nat) : Nat := Wd * (2 * n + 1)
set_option maxHeartbeats 4000000 in
theorem bFresh_any {N : Int} {T : Nat} {Wd : Int} {A : Option Addr} {L c : Nat} {f : Nat → Nat} {E : Nat} {w : World} (hP : Hid (PA w N T A L c Wd f)) (hL : L ≤ 100) (hT : Hid (Tabs w)) (hE : Hid (ErrL (ParP N T L f Wd) 0 ((L : Int) - 1) L E)) :
    Calls Tryz.prog 25 #[.agg #[.int .i64 N, .int .u64 (T : Int), .slice A L c, .int .i64 Wd]] w (BdPost w E (freshZ N.toNat Wd.toNat)) := by
 have kV : Ext w (w.alloc (.cells #[.int .i64 N, .int .u64 (T : Int), .slice A L c, .int .i64 Wd] 25)) := (Ext.refl w).alloc _
 obtain ⟨x0, x1, x2, x3⟩ := four_at w (.int .i64 N) (.int .u64 (T : Int)) (.slice A L c) (.int .i64 Wd) 25
 have hVs : (w.alloc (.cells #[.int .i64 N, .int .u64 (T : Int), .slice A L c, .int .i64 Wd] 25)).heap.size = w.heap.size + 1 := by simp
 go_enter Tryz.func25, Tryz.ntmps25
 go_wp2_with fail
 generalize w.alloc (.cells #[.int .i64 N, .int .u64 (T : Int), .slice A L c, .int .i64 Wd] 25) = V at *
 obtain ⟨b, hb⟩ : ∃ b, b = w.heap.size := ⟨_, rfl⟩
 rw [← hb] at x0 x1 x2 x3 hVs ⊢
 have HB := Lib.hid hb
 clear hb
 have hw1 : IntKind.i64.wrap ((L : Int) - 1) = (L : Int) - 1 := by rw [IntKind.wrap_i64]; omega
 have n4 : (b = V.heap.size) = False := eq_false (by omega)
 have m4 : (V.heap.size = b) = False := eq_false (by omega)
 have kk : Ext V V := Ext.refl V
 go_region_held3 (fun w' => w'.cell? ⟨b, 0, none⟩ = some (.int .i64 N) ∧ w'.cell? ⟨b, 1, none⟩ = some (.int .u64 (T : Int)) ∧ w'.cell? ⟨b, 2, none⟩ = some (.slice A L c) ∧ w'.cell? ⟨b, 3, none⟩ = some (.int .i64 Wd)) (go_keep)
  (first
   | (go_at_call 80; refine (top_any N (T : Int) Wd A L c _ (by omega)).mono ?_; rintro e5 w5 ⟨rfl, k5⟩; (try have hz := row_new k5); (try have hz := row_new (Ext.trans (Ext.drew (Ext.refl _)) k5)); (try rw [hVs] at hz); replace kk := Ext.trans (Ext.trans kk (by with_reducible repeat first | exact Ext.refl _ | apply Ext.alloc | apply Ext.drew)) k5; have d0 := cell_ext kk x0; have d1 := cell_ext kk x1; have d2 := cell_ext kk x2; have d3 := cell_ext kk x3; have n5 : (b = w5.heap.size) = False := eq_false (by have := kk.size; omega); have hk5 : V.heap.size ≤ w5.heap.size := kk.size; have m5 : (w5.heap.size = b) = False := eq_false (by have := kk.size; omega))
   | (go_at_call 79; refine (blevelOf_any (hP.out.ext (Ext.trans (Ext.trans kV kk) (by with_reducible repeat first | exact Ext.refl _ | apply Ext.alloc | apply Ext.drew))) hL (by omega) (by omega) (hT.out.ext (Ext.trans (Ext.trans kV kk) (by with_reducible repeat first | exact Ext.refl _ | apply Ext.alloc | apply Ext.drew))) hE).mono ?_; rintro e6 w6 h6; obtain ⟨u0, u1, u2, A3, n3, c3, A4, n4, c4, rfl, H6, k6⟩ := LvPost.one h6; clear h6; (try replace hz := row_ext hz (Ext.trans (by with_reducible repeat first | exact Ext.refl _ | apply Ext.alloc | apply Ext.drew) k6)); (try have hz := row_new k6); replace kk := Ext.trans (Ext.trans kk (by with_reducible repeat first | exact Ext.refl _ | apply Ext.alloc | apply Ext.drew)) k6; have d0 := cell_ext kk x0; have d1 := cell_ext kk x1; have d2 := cell_ext kk x2; have d3 := cell_ext kk x3; have n6 : (b = w6.heap.size) = False := eq_false (by have := kk.size; omega); have m6 : (w6.heap.size = b) = False := eq_false (by have := kk.size; omega); (try have f0 := row_z hz 0); (try have f1 := row_z hz 1); (try have f2 := row_z hz 2); (try have f3 := row_z hz 3); (try have f4 := row_z hz 4); (try have f5 := row5 hz); (try have q0 := f5.1); (try have q1 := f5.2.1); (try have q2 := f5.2.2.1); (try have q3 := f5.2.2.2.1); (try have q4 := f5.2.2.2.2); (try clear f5))
   | fail)
 ·have kz : Ext V (w6.alloc (.cells #[.int .u64 (u0 : Int), .int .u64 (u1 : Int), .int .u64 (u2 : Int), .slice A3 n3 c3, .slice A4 n4 c4] 120)) := kk.alloc _
  have hst : StC (w6.alloc (.cells #[.int .u64 (u0 : Int), .int .u64 (u1 : Int), .int .u64 (u2 : Int), .slice A3 n3 c3, .slice A4 n4 c4] 120)) (w6.heap.size) u0 u1 u2 (.slice A3 n3 c3) (.slice A4 n4 c4) := five_at w6 _ _ _ _ _ _
  have HS := Lib.hid hst
  clear hst
  by_cases h0 : E = 0
  ·subst h0
   obtain ⟨hk, rfl, rfl⟩ := H6.out rfl
   go_wp2_with fail
   refine (summed_any 82 #[.pointer (some ⟨w6.heap.size, 0, none⟩)] _ 10 _ (Lib.hid Tryz.call82) (Lib.hid (freshC_any hk.n4 hk.w16 HS.out))).mono ?_
   rintro ee w7 ⟨A7, n7, c7, rfl, hn7, hx7, k7⟩
   have H7 := Lib.hid hx7
   clear hx7
   go_wp2
   go_ret2
   exact .inr ⟨rfl, A7, n7, c7, rfl, by omega, (by unfold freshZ; rw [Int.toNat_natCast, Int.toNat_natCast]; exact Lib.hid H7.out), kV.trans (kz.trans k7)⟩
  ·have e1 : ((E : Int) == 0) = false := by simp; omega
   have e2 : ((E : Int) != 0) = true := by simp; omega
   have H0 := Lib.hid h0
   clear h0
   go_wp2
   go_ret2
   exact .inl ⟨H0.out, rfl, kV.trans kz⟩
 ·have hV5 : V.heap.size ≤ w5.heap.size := by exact hk5
  have kz : Ext V (((((w6.setCell ⟨w5.heap.size, 0, none⟩ (.int .u64 (u0 : Int))).setCell ⟨w5.heap.size, 1, none⟩ (.int .u64 (u1 : Int))).setCell ⟨w5.heap.size, 2, none⟩ (.int .u64 (u2 : Int))).setCell ⟨w5.heap.size, 3, none⟩ (.slice A3 n3 c3)).setCell ⟨w5.heap.size, 4, none⟩ (.slice A4 n4 c4)) := (Ext.set (p := ⟨w5.heap.size, 4, none⟩) (Ext.set (p := ⟨w5.heap.size, 3, none⟩) (Ext.set (p := ⟨w5.heap.size, 2, none⟩) (Ext.set (p := ⟨w5.heap.size, 1, none⟩) (Ext.set (p := ⟨w5.heap.size, 0, none⟩) kk hV5 _) hV5 _) hV5 _) hV5 _) hV5 _)
  have hst : StC (((((w6.setCell ⟨w5.heap.size, 0, none⟩ (.int .u64 (u0 : Int))).setCell ⟨w5.heap.size, 1, none⟩ (.int .u64 (u1 : Int))).setCell ⟨w5.heap.size, 2, none⟩ (.int .u64 (u2 : Int))).setCell ⟨w5.heap.size, 3, none⟩ (.slice A3 n3 c3)).setCell ⟨w5.heap.size, 4, none⟩ (.slice A4 n4 c4)) (w5.heap.size) u0 u1 u2 (.slice A3 n3 c3) (.slice A4 n4 c4) := ⟨by simp [go_sem, q0, q1, q2, q3, q4], by simp [go_sem, q0, q1, q2, q3, q4], by simp [go_sem, q0, q1, q2, q3, q4], by simp [go_sem, q0, q1, q2, q3, q4], by simp [go_sem, q0, q1, q2, q3, q4]⟩
  have HS := Lib.hid hst
  clear hst
  by_cases h0 : E = 0
  ·subst h0
   obtain ⟨hk, rfl, rfl⟩ := H6.out rfl
   go_wp2_with fail
   refine (summed_any 82 #[.pointer (some ⟨w5.heap.size, 0, none⟩)] _ 10 _ (Lib.hid Tryz.call82) (Lib.hid (freshC_any hk.n4 hk.w16 HS.out))).mono ?_
   rintro ee w7 ⟨A7, n7, c7, rfl, hn7, hx7, k7⟩
   have H7 := Lib.hid hx7
   clear hx7
   go_wp2
   go_ret2
   exact .inr ⟨rfl, A7, n7, c7, rfl, by omega, (by unfold freshZ; rw [Int.toNat_natCast, Int.toNat_natCast]; exact Lib.hid H7.out), kV.trans (kz.trans k7)⟩
  ·have e1 : ((E : Int) == 0) = false := by simp; omega
   have e2 : ((E : Int) != 0) = true := by simp; omega
   have H0 := Lib.hid h0
   clear h0
   go_wp2
   go_ret2
   exact .inl ⟨H0.out, rfl, kV.trans kz⟩
 ·have kz : Ext V (((((w6.setCell ⟨b + 1, 0, none⟩ (.int .u64 (u0 : Int))).setCell ⟨b + 1, 1, none⟩ (.int .u64 (u1 : Int))).setCell ⟨b + 1, 2, none⟩ (.int .u64 (u2 : Int))).setCell ⟨b + 1, 3, none⟩ (.slice A3 n3 c3)).setCell ⟨b + 1, 4, none⟩ (.slice A4 n4 c4)) := (Ext.set (p := ⟨b + 1, 4, none⟩) (Ext.set (p := ⟨b + 1, 3, none⟩) (Ext.set (p := ⟨b + 1, 2, none⟩) (Ext.set (p := ⟨b + 1, 1, none⟩) (Ext.set (p := ⟨b + 1, 0, none⟩) kk (show V.heap.size ≤ b + 1 by omega) _) (show V.heap.size ≤ b + 1 by omega) _) (show V.heap.size ≤ b + 1 by omega) _) (show V.heap.size ≤ b + 1 by omega) _) (show V.heap.size ≤ b + 1 by omega) _)
  have hst : StC (((((w6.setCell ⟨b + 1, 0, none⟩ (.int .u64 (u0 : Int))).setCell ⟨b + 1, 1, none⟩ (.int .u64 (u1 : Int))).setCell ⟨b + 1, 2, none⟩ (.int .u64 (u2 : Int))).setCell ⟨b + 1, 3, none⟩ (.slice A3 n3 c3)).setCell ⟨b + 1, 4, none⟩ (.slice A4 n4 c4)) (b + 1) u0 u1 u2 (.slice A3 n3 c3) (.slice A4 n4 c4) := ⟨by simp [go_sem, q0, q1, q2, q3, q4], by simp [go_sem, q0, q1, q2, q3, q4], by simp [go_sem, q0, q1, q2, q3, q4], by simp [go_sem, q0, q1, q2, q3, q4], by simp [go_sem, q0, q1, q2, q3, q4]⟩
  have HS := Lib.hid hst
  clear hst
  by_cases h0 : E = 0
  ·subst h0
   obtain ⟨hk, rfl, rfl⟩ := H6.out rfl
   go_wp2_with fail
   refine (summed_any 82 #[.pointer (some ⟨b + 1, 0, none⟩)] _ 10 _ (Lib.hid Tryz.call82) (Lib.hid (freshC_any hk.n4 hk.w16 HS.out))).mono ?_
   rintro ee w7 ⟨A7, n7, c7, rfl, hn7, hx7, k7⟩
   have H7 := Lib.hid hx7
   clear hx7
   go_wp2
   go_ret2
   exact .inr ⟨rfl, A7, n7, c7, rfl, by omega, (by unfold freshZ; rw [Int.toNat_natCast, Int.toNat_natCast]; exact Lib.hid H7.out), kV.trans (kz.trans k7)⟩
  ·have e1 : ((E : Int) == 0) = false := by simp; omega
   have e2 : ((E : Int) != 0) = true := by simp; omega
   have H0 := Lib.hid h0
   clear h0
   go_wp2
   go_ret2
   exact .inl ⟨H0.out, rfl, kV.trans kz⟩
theorem BdPost.yes {w : World} {X : Nat} {ee : Ending} {w' : World} (h : BdPost w 0 X ee w') : ∃ A n c, ee = .returned (.tuple #[.slice A n c, .int .i64 0]) ∧ n ≤ 600 ∧ Hid (NX w' A n c (nw X)) ∧ Ext w w' := by
 rcases h with ⟨h, _⟩ | ⟨_, h⟩
 ·exact absurd rfl h
 ·exact h
theorem BdPost.uni {w : World} {E X : Nat} {ee : Ending} {w' : World} (h : BdPost w E X ee w') : ∃ A n c, ee = .returned (.tuple #[.slice A n c, .int .i64 (E : Int)]) ∧ n ≤ 600 ∧ Hid (NX w' A n c (nw (if E = 0 then X else 0))) ∧ Ext w w' := by
 rcases h with ⟨h, rfl, k⟩ | ⟨rfl, A, n, c, rfl, hn, hx, k⟩
 ·exact ⟨none, 0, 0, rfl, by omega, by rw [if_neg h]; exact Lib.hid (nil_nx _), k⟩
 ·exact ⟨A, n, c, rfl, hn, by rw [if_pos rfl]; exact hx, k⟩
set_option maxHeartbeats 4000000 in
theorem fixed14_any (w : World) (hT : Hid (Tabs w)) : Calls Tryz.prog 23 #[] w fun e w' => e = .returned (.bool true) ∧ Ext w w' := by
 have hQ : FX ((w.alloc (.cells #[.int .u64 97, .int .u64 193] 22)).alloc (.cells #[.int .i64 8, .int .u64 17, .slice (some ⟨w.heap.size, 0, none⟩) 2 2, .int .i64 2] 25)) (some ⟨w.heap.size, 0, none⟩) 2 2 fixQ := (fx_two w 97 193 97 193 rfl rfl).ext ((Ext.refl _).alloc _)
 have kV : Ext w ((w.alloc (.cells #[.int .u64 97, .int .u64 193] 22)).alloc (.cells #[.int .i64 8, .int .u64 17, .slice (some ⟨w.heap.size, 0, none⟩) 2 2, .int .i64 2] 25)) := ((Ext.refl w).alloc _).alloc _
 obtain ⟨x0, x1, x2, x3⟩ := four_at (w.alloc (.cells #[.int .u64 97, .int .u64 193] 22)) (.int .i64 8) (.int .u64 17) (.slice (some ⟨w.heap.size, 0, none⟩) 2 2) (.int .i64 2) 25
 rw [show (w.alloc (.cells #[.int .u64 97, .int .u64 193] 22)).heap.size = w.heap.size + 1 by simp] at x0 x1 x2 x3
 have HF : ∀ j, j < 2 → fixQ j < 18446744073709551616 := fun j hj => by unfold fixQ; split <;> omega
 have HP : ∀ w', Ext ((w.alloc (.cells #[.int .u64 97, .int .u64 193] 22)).alloc (.cells #[.int .i64 8, .int .u64 17, .slice (some ⟨w.heap.size, 0, none⟩) 2 2, .int .i64 2] 25)) w' → Hid (PA w' 8 17 (some ⟨w.heap.size, 0, none⟩) 2 2 2 fixQ) := fun w' k => Lib.hid ⟨by omega, by omega, by omega, by omega, by omega, hQ.ext k, by omega, HF⟩
 have HPP := Lib.hid HP
 have HE1 : Hid (ErrL (ParP 8 17 2 fixQ 2) 0 (((2 : Nat) : Int) - 1) 2 0) := Lib.hid (.inr (.inr ⟨par_fix, by omega, rfl⟩))
 have HE : Hid (ErrL (ParP 8 17 2 fixQ 2) 0 1 2 0) := Lib.hid (.inr (.inr ⟨par_fix, by omega, rfl⟩))
 have X1 : freshZ (Int.toNat 8) (Int.toNat 2) = 34 := by decide
 have X2 : addZ 17 (prodF fixQ (Int.toNat 1 + 1)) 3 4 = 11 := by decide +kernel
 have X3 : fitsZ 17 (prodF fixQ (Int.toNat 1 + 1)) 34 < prodF fixQ (Int.toNat 1 + 1) := by decide +kernel
 have X4 : ¬ fitsZ 17 (prodF fixQ (Int.toNat 1 + 1)) 1000 < prodF fixQ (Int.toNat 1 + 1) := by decide +kernel
 have XX := Lib.hid (And.intro X1 (And.intro X2 (And.intro X3 X4)))
 clear hQ HP X1 X2 X3 X4 HF
 go_enter Tryz.func23, Tryz.ntmps23
 go_wp2_with fail
 generalize ((w.alloc (.cells #[.int .u64 97, .int .u64 193] 22)).alloc (.cells #[.int .i64 8, .int .u64 17, .slice (some ⟨w.heap.size, 0, none⟩) 2 2, .int .i64 2] 25)) = V at *
 refine (bFresh_any (HPP.out V (Ext.refl _)) (by omega) (Lib.hid (hT.out.ext kV)) HE1).mono ?_
 intro e w1 h1
 obtain ⟨A1, n1, c1, rfl, hn1, H1, k1⟩ := h1.yes
 rw [XX.out.1] at H1
 clear h1
 replace x0 := cell_ext k1 x0
 replace x1 := cell_ext k1 x1
 replace x2 := cell_ext k1 x2
 replace x3 := cell_ext k1 x3
 go_wp2_with fail
 have ka : Ext w1 ((w1.alloc (.cells #[.int .u64 3] 22)).alloc (.cells #[.int .u64 4] 22)) := ((Ext.refl w1).alloc _).alloc _
 have ha : NX (w1.alloc (.cells #[.int .u64 3] 22)) (some ⟨w1.heap.size, 0, none⟩) 1 1 (nw 3) := nx_one w1 w1.heap.size rfl 3 (by omega) (by omega)
 have hb : NX ((w1.alloc (.cells #[.int .u64 3] 22)).alloc (.cells #[.int .u64 4] 22)) (some ⟨w1.heap.size + 1, 0, none⟩) 1 1 (nw 4) := nx_one (w1.alloc (.cells #[.int .u64 3] 22)) (w1.heap.size + 1) (by simp) 4 (by omega) (by omega)
 refine (bAdd_any (HPP.out _ (k1.trans ka)) (by omega) (by omega) (by omega) (Lib.hid (hT.out.ext (kV.trans (k1.trans ka)))) HE (Lib.hid (NX.val (ha.ext ((Ext.refl _).alloc _)) (by omega))) (Lib.hid (NX.val hb (by omega)))).mono ?_
 intro e w2 h2
 obtain ⟨A2, n2, c2, rfl, hn2, H2, k2'⟩ := h2.yes
 rw [XX.out.2.1] at H2
 have k2 := ka.trans k2'
 clear h2 ka k2' ha hb
 replace x0 := cell_ext k2 x0
 replace x1 := cell_ext k2 x1
 replace x2 := cell_ext k2 x2
 replace x3 := cell_ext k2 x3
 go_wp2_with fail
 have kb : Ext w2 (w2.alloc (.cells #[.int .u64 34] 22)) := (Ext.refl w2).alloc _
 refine (sameY (NX.ext H1.out (k2.trans kb)) (nx_one w2 w2.heap.size rfl 34 (by omega) (by omega)) (by omega) (by omega)).mono ?_
 rintro e w3 ⟨rfl, k3'⟩
 have k3 := kb.trans k3'
 clear kb k3'
 replace x0 := cell_ext k3 x0
 replace x1 := cell_ext k3 x1
 replace x2 := cell_ext k3 x2
 replace x3 := cell_ext k3 x3
 go_wp2_with fail
 have kb : Ext w3 (w3.alloc (.cells #[.int .u64 11] 22)) := (Ext.refl w3).alloc _
 refine (sameY (NX.ext H2.out (k3.trans kb)) (nx_one w3 w3.heap.size rfl 11 (by omega) (by omega)) (by omega) (by omega)).mono ?_
 rintro e w4 ⟨rfl, k4'⟩
 have k4 := kb.trans k4'
 clear kb k4'
 replace x0 := cell_ext k4 x0
 replace x1 := cell_ext k4 x1
 replace x2 := cell_ext k4 x2
 replace x3 := cell_ext k4 x3
 have k14 := (k1.trans k2).trans (k3.trans k4)
 go_wp2_with fail
 have kb : Ext w4 (w4.alloc (.cells #[.int .u64 34] 22)) := (Ext.refl w4).alloc _
 refine (bFits_any (HPP.out _ (k14.trans kb)) (by omega) (by omega) (by omega) (Lib.hid (hT.out.ext (kV.trans (k14.trans kb)))) HE (Lib.hid (NX.val (nx_one w4 w4.heap.size rfl 34 (by omega) (by omega)) (by omega)))).mono ?_
 rintro e w5 ⟨he, k5'⟩
 obtain rfl : e = .returned (.bool true) := by rw [he]; exact congrArg (fun b => Ending.returned (.bool b)) (decide_eq_true ⟨rfl, XX.out.2.2.1⟩)
 clear he
 have k5 := kb.trans k5'
 clear kb k5'
 replace x0 := cell_ext k5 x0
 replace x1 := cell_ext k5 x1
 replace x2 := cell_ext k5 x2
 replace x3 := cell_ext k5 x3
 have k15 := k14.trans k5
 go_wp2_with fail
 have kb : Ext w5 (w5.alloc (.cells #[.int .u64 1000] 22)) := (Ext.refl w5).alloc _
 refine (bFits_any (HPP.out _ (k15.trans kb)) (by omega) (by omega) (by omega) (Lib.hid (hT.out.ext (kV.trans (k15.trans kb)))) HE (Lib.hid (NX.val (nx_one w5 w5.heap.size rfl 1000 (by omega) (by omega)) (by omega)))).mono ?_
 rintro e w6 ⟨he, k6'⟩
 obtain rfl : e = .returned (.bool false) := by rw [he]; exact congrArg (fun b => Ending.returned (.bool b)) (decide_eq_false (fun h => XX.out.2.2.2 h.2))
 clear he
 have k6 := kb.trans k6'
 go_wp2
 go_ret
 exact ⟨by first | rfl | simp, kV.trans (k15.trans k6)⟩
def FewPost (P : Prop) (w : World) (e : Ending) (w' : World) : Prop := ∃ b, Hid (b = true ↔ P) ∧ e = .returned (.bool b) ∧ Ext w w'
set_option maxHeartbeats 2000000 in
theorem few14_any {N : Int} {T : Nat} {Wd : Int} {A : Option Addr} {L c : Nat} (g K : Nat) (As : Nat → Option Addr) (Ns Cs : Nat → Nat) (w : World) (hK : K ≤ 10) (hL : L ≤ 9223372036854775807) (hc : ∀ j, j < K → w.cell? ⟨g, j, none⟩ = some (.slice (As j) (Ns j) (Cs j))) :
    Calls Tryz.prog 24 #[.agg #[.int .i64 N, .int .u64 (T : Int), .slice A L c, .int .i64 Wd], .slice (some ⟨g, 0, none⟩) K K] w (FewPost ((∀ j, j < K → Ns j ≤ 30) ∧ L ≤ 12) w) := by
 have kV : Ext w (w.alloc (.cells #[.int .i64 N, .int .u64 (T : Int), .slice A L c, .int .i64 Wd] 25)) := (Ext.refl w).alloc _
 obtain ⟨x0, x1, x2, x3⟩ := four_at w (.int .i64 N) (.int .u64 (T : Int)) (.slice A L c) (.int .i64 Wd) 25
 have HC := Lib.hid (fun j (hj : j < K) => cell_ext kV (hc j hj))
 clear hc
 go_enter Tryz.func24, Tryz.ntmps24
 go_wp2
 generalize w.alloc (.cells #[.int .i64 N, .int .u64 (T : Int), .slice A L c, .int .i64 Wd] 25) = V at *
 go_loop [9] (fun i => ∃ k : Nat, k ≤ K ∧ i = .int .i64 k ∧ Hid (∀ j, j < k → Ns j ≤ 30)) (fun i => K - (intOf i).toNat)
 case atStart => exact ⟨0, by omega, rfl, Lib.hid fun j hj => absurd hj (by omega)⟩
 case round =>
  obtain ⟨k, hk, rfl, hall⟩ := hrel
  by_cases hlt : k < K
  ·have hck := HC.out k hlt
   obtain ⟨Ak, eA⟩ : ∃ a, As k = a := ⟨_, rfl⟩
   obtain ⟨Nk, eN⟩ : ∃ a, Ns k = a := ⟨_, rfl⟩
   obtain ⟨Ck, eC⟩ : ∃ a, Cs k = a := ⟨_, rfl⟩
   rw [eA, eN, eC] at hck
   have EN := Lib.hid eN
   clear eA eN eC
   by_cases h30 : Nk ≤ 30
   ·have hd : decide ((30 : Int) < Nk) = false := by simp; omega
    go_wp2
    refine ⟨⟨k + 1, by omega, by go_num, Lib.hid fun j hj => ?_⟩, by simp [intOf]; omega⟩
    by_cases hjk : j = k
    ·subst hjk; rw [EN.out]; exact h30
    ·exact hall.out j (by omega)
   ·have hd : decide ((30 : Int) < Nk) = true := by simp; omega
    have hno : ¬ ((∀ j, j < K → Ns j ≤ 30) ∧ L ≤ 12) := fun hh => by
     have := hh.1 k hlt
     rw [EN.out] at this
     exact absurd this h30
    have HE := Lib.hid hno
    clear hno
    go_wp2
    go_ret
    exact ⟨false, Lib.hid ⟨fun h => absurd h Bool.false_ne_true, fun h => absurd h HE.out⟩, rfl, kV⟩
  ·by_cases h12 : L ≤ 12
   ·have hd : decide ((L : Int) ≤ 12) = true := by simp; omega
    have HE := Lib.hid (show ((∀ j, j < K → Ns j ≤ 30) ∧ L ≤ 12) from ⟨fun j hj => hall.out j (by omega), h12⟩)
    clear h12
    go_wp2
    go_ret
    exact ⟨true, Lib.hid ⟨fun _ => HE.out, fun _ => rfl⟩, by first | rfl | simp, kV⟩
   ·have hd : decide ((L : Int) ≤ 12) = false := by simp; omega
    have HE := Lib.hid (show ¬ ((∀ j, j < K → Ns j ≤ 30) ∧ L ≤ 12) from fun h => absurd h.2 h12)
    clear h12
    go_wp2
    go_ret
    exact ⟨false, Lib.hid ⟨fun h => absurd h Bool.false_ne_true, fun h => absurd h HE.out⟩, by first | rfl | simp, kV⟩
end Go.Proofs.YtjikdbcjabopnaaGreatDoor
