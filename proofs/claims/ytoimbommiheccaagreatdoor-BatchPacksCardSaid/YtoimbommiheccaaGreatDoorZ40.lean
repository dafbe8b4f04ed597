/-
  What New of package batch answers.
-/
import Derived.Test.YtoimbommiheccaaGreatDoorZ36
import Derived.Test.YtoimbommiheccaaGreatDoorZ38
import Derived.Test.YtoimbommiheccaaGreatDoorZ39
import Derived.Test.YtoimbommiheccaaGreatDoorZ27
import Derived.Deep.Upon
import Derived.Test.YtoimbommiheccaaGreatDoorZ32
namespace Go.Proofs.YtoimbommiheccaaGreatDoor
open Go.RowKit
set_option linter.unusedVariables false
set_option maxRecDepth 100000

theorem sml_all : ∀ n, n < 65 → 8 ≤ n → stepS n = true → (n = 8 ∨ n = 16 ∨ n = 32 ∨ n = 64) := by decide +kernel
theorem sml_step {n : Nat} (h : Sml n) : stepS (2 * n) = true := by rcases h with rfl | rfl | rfl | rfl <;> decide +kernel
theorem sml_log {n : Nat} (h : Sml n) : ∃ k, n = 2 ^ k ∧ 3 ≤ k ∧ k ≤ 6 := by
  rcases h with rfl | rfl | rfl | rfl
  · exact ⟨3, by decide, by omega, by omega⟩
  · exact ⟨4, by decide, by omega, by omega⟩
  · exact ⟨5, by decide, by omega, by omega⟩
  · exact ⟨6, by decide, by omega, by omega⟩
theorem sml_le {n : Nat} (h : Sml n) : 8 ≤ n ∧ n ≤ 64 ∧ n % 2 = 0 := by rcases h with rfl | rfl | rfl | rfl <;> omega
/-- A number that is no square, below T and below 1000. -/
theorem sq_both {n T : Nat} (hn : Sml n) (hT : PlainP n T) : ∃ x, x < T ∧ x < 1000 ∧ noSq T x = true := by
  have h16 : T % 16 = 1 := by
    have h1 := hT.2.1
    have h2 := Nat.mod_mul_right_mod T 16 (n / 8)
    have h3 : 16 * (n / 8) = 2 * n := by rcases hn with rfl | rfl | rfl | rfl <;> omega
    rw [h3, h1] at h2
    rw [← h2]
  obtain ⟨x, hx, he⟩ := sq_below h16 hT.1 hT.2.2
  have hT2 := isS_ge hT.2.2
  refine ⟨x % T, Nat.mod_lt _ (by omega), Nat.lt_of_le_of_lt (Nat.mod_le _ _) hx, ?_⟩
  unfold noSq
  rw [← Nat.pow_mod]
  exact decide_eq_true he
theorem fit_plain {n T : Nat} (hn : Sml n) (hT : PlainP n T) : ∃ k, 3 ≤ k ∧ k ≤ 6 ∧ Fit n T k := by
  obtain ⟨k, hk, h1, h2⟩ := sml_log hn
  obtain ⟨x, hx, _, hs⟩ := sq_both hn hT
  exact ⟨k, h1, h2, hk, by omega, by omega, by have := hT.1; omega, sml_step hn, hT.2.1, hT.2.2, x, hx, hs⟩
/-- What New answers. -/
def BNew (w : World) (P : Prop) (n T : Nat) (ee : Ending) (w' : World) : Prop :=
  (¬ P ∧ ee = .returned (.tuple #[.pointer none, .int .i64 8]) ∧ Ext w w') ∨
  (P ∧ ∃ p k r v x : Nat, First T x ∧ Hid (r = rootS T (2 * n) x) ∧ ee = .returned (.tuple #[.pointer (some ⟨p, 0, none⟩), .int .i64 0]) ∧ Bt w' p n T k r v ∧ Ext w w')
set_option maxHeartbeats 4000000 in
theorem bnew_any {N : Int} {T : Nat} {Wd : Int} {A : Option Addr} {L c : Nat} {f : Nat → Nat} {w : World} (hP : PA w N T A L c Wd f) (hL : L ≤ 100) (hN : N ≤ 64) (hT : Tabs w) :
    Calls Tryz.prog 12 #[.agg #[.int .i64 N, .int .u64 (T : Int), .slice A L c, .int .i64 Wd]] w (BNew w (ParP N T L f Wd) N.toNat T) := by
  have HP := Lib.hid hP
  have HT := Lib.hid hT
  clear hP hT
  have kV : Ext w (w.alloc (.cells #[.int .i64 N, .int .u64 (T : Int), .slice A L c, .int .i64 Wd] 25)) := (Ext.refl w).alloc _
  obtain ⟨x0, x1, x2, x3⟩ := four_at w (.int .i64 N) (.int .u64 (T : Int)) (.slice A L c) (.int .i64 Wd) 25
  go_enter Tryz.func12, Tryz.ntmps12
  go_wp2_with fail
  generalize w.alloc (.cells #[.int .i64 N, .int .u64 (T : Int), .slice A L c, .int .i64 Wd] 25) = V at *
  refine (check_any N T Wd A L c f V HP.out.n0 HP.out.n1 HP.out.t1 (by omega) (HP.out.ext kV).fx (Lib.hid HP.out.words) (HT.out.ext kV)).mono ?_
  rintro ee w1 (⟨hy, rfl, k1⟩ | ⟨hy, rfl, k1⟩)
  case inr =>
    have H := Lib.hid hy
    clear hy
    go_wp2
    go_ret2
    exact .inl ⟨H.out, rfl, kV.trans k1⟩
  obtain ⟨n, rfl, hn0, hn1⟩ := size_nat (hy 0 (by omega))
  have hs : Sml n := sml_all n (by omega) hn0 (hy 0 (by omega)).2.2
  obtain ⟨k, hk3, hk6, hF⟩ := fit_plain hs (show PlainP n T from hy 2 (by omega))
  have HY := Lib.hid hy
  have HF := Lib.hid hF
  have HS := Lib.hid hs
  have hev := (sml_le hs).2.2
  clear hy hs hF
  replace x0 := cell_ext k1 x0
  replace x1 := cell_ext k1 x1
  replace x2 := cell_ext k1 x2
  replace x3 := cell_ext k1 x3
  replace kV := kV.trans k1
  clear k1
  go_wp2_with fail
  refine (new_any n T k w1 HF (HT.out.ext kV)).mono ?_
  rintro ee w2 ⟨t, r, v, x, hx, hr, rfl, ht, k2⟩
  have HX := Lib.hid hx
  have HTB := Lib.hid ht
  clear hx ht
  replace x0 := cell_ext k2 x0
  replace x1 := cell_ext k2 x1
  replace x2 := cell_ext k2 x2
  replace x3 := cell_ext k2 x3
  replace kV := kV.trans k2
  clear k2
  have kk : Ext w2 w2 := Ext.refl w2
  go_wp2_with fail
  go_region_held3 (fun w' => w'.cell? ⟨w.heap.size, 0, none⟩ = some (.int .i64 (n : Int)) ∧ w'.cell? ⟨w.heap.size, 1, none⟩ = some (.int .u64 (T : Int))) (go_keep)
    (first
      | (go_at_call 43; refine (placesOf_any n _ (by omega) (by omega) hev).mono ?_; rintro e4 w4 ⟨g, rfl, hg, hrw, k4⟩; have HRW := Lib.hid hrw; clear hrw; replace kk : Ext w2 w4 := (by first | exact Ext.trans kk k4 | exact Ext.trans (Ext.drew kk) k4); have d0 := cell_ext kk x0; have d1 := cell_ext kk x1)
      | fail)
  all_goals
    have ka : Ext w4 (w4.alloc (.cells #[.int .u64 (T : Int), .slice (some ⟨g, 0, none⟩) (n / 2) (n / 2), .func (.func 44) #[.pointer (some ⟨t, 0, none⟩)] #[], .func (.func 45) #[.pointer (some ⟨t, 0, none⟩)] #[]] 87)) := (Ext.refl _).alloc _
    obtain ⟨q0, q1, q2, q3⟩ := four_at w4 (.int .u64 (T : Int)) (.slice (some ⟨g, 0, none⟩) (n / 2) (n / 2)) (.func (.func 44) #[.pointer (some ⟨t, 0, none⟩)] #[]) (.func (.func 45) #[.pointer (some ⟨t, 0, none⟩)] #[]) 87
    have HB := Lib.hid (show Bt (w4.alloc (.cells #[.int .u64 (T : Int), .slice (some ⟨g, 0, none⟩) (n / 2) (n / 2), .func (.func 44) #[.pointer (some ⟨t, 0, none⟩)] #[], .func (.func 45) #[.pointer (some ⟨t, 0, none⟩)] #[]] 87)) w4.heap.size n T k r v from ⟨g, t, q0, q1, q2, q3, HRW.out.ext ka, (HTB.out.ext kk).ext ka⟩)
    have kz := (kV.trans kk).trans ka
    clear q0 q1 q2 q3
    go_wp2
    go_ret2
    exact .inr ⟨HY.out, w4.heap.size, k, r, v, x, HX.out, hr, rfl, HB.out, kz⟩
end Go.Proofs.YtoimbommiheccaaGreatDoor

/-
  What the document's Root answers where there is a number below 1000 that is no square: the program's root.
-/
namespace Go.Proofs.YtoimbommiheccaaGreatDoor
open Go.RowKit
set_option linter.unusedVariables false
set_option maxRecDepth 100000

theorem noSq_small {q : Nat} (hq : 3 ≤ q) : noSq q 0 = false ∧ noSq q 1 = false := by
  refine ⟨decide_eq_false ?_, decide_eq_false ?_⟩
  · have : (0 : Nat) ^ ((q - 1) / 2) = 0 := Nat.zero_pow (by omega)
    rw [this, Nat.zero_mod]; omega
  · rw [Nat.one_pow, Nat.mod_eq_of_lt (by omega)]; omega
theorem first_below {q x : Nat} (hq : 3 ≤ q) (hx : First q x) (hs : ∃ y, y < q ∧ y < 1000 ∧ noSq q y = true) : 2 ≤ x ∧ x < 1000 ∧ x < q ∧ noSq q x = true ∧ ∀ y, y < x → noSq q y = false := by
  obtain ⟨y, hy1, hy2, hy3⟩ := hs
  obtain ⟨s0, s1⟩ := noSq_small hq
  rcases hx with ⟨h1, h2, h3⟩ | ⟨_, h3⟩
  · refine ⟨?_, ?_, h1, h2, h3⟩
    · rcases (show x = 0 ∨ x = 1 ∨ 2 ≤ x by omega) with rfl | rfl | h
      · rw [s0] at h2; cases h2
      · rw [s1] at h2; cases h2
      · exact h
    · rcases Nat.lt_or_ge x 1000 with g | g
      · exact g
      · rw [h3 y (by omega)] at hy3; cases hy3
  · rw [h3 y hy1] at hy3; cases hy3
/-- Whether a power is a root tells whether the number is no square. -/
theorem prim_sq {q n x : Nat} (hq : 3 ≤ q) (hn : stepS n = true) (h1 : q % n = 1) : decide ((x ^ ((q - 1) / n) % q) ^ (n / 2) % q = q - 1) = noSq q x := by
  have hev := stepS_even hn
  obtain ⟨hn0, _⟩ := stepS_range hn
  have hq1 : (q - 1) / n * n = q - 1 := by
    have h2 := Nat.div_add_mod q n
    have h3 : q - 1 = n * (q / n) := by omega
    rw [h3, Nat.mul_div_cancel_left _ (by omega), Nat.mul_comm]
  have hdh : (q - 1) / n * (n / 2) = (q - 1) / 2 := by
    have e2 : n = 2 * (n / 2) := by omega
    generalize (q - 1) / n = d at *
    generalize n / 2 = h at *
    subst e2
    have : d * (2 * h) = 2 * (d * h) := by rw [← Nat.mul_assoc, Nat.mul_comm d, Nat.mul_assoc]
    omega
  unfold noSq
  rw [← Nat.pow_mod, ← Nat.pow_mul, hdh]
theorem primitive_any (a q n : Nat) (b : Bool) (w : World) (hb : Hid (decide (a ^ (n / 2) % q = q - 1) = b)) (hq : 3 ≤ q) (hq1 : q < 18446744073709551616) (ha : a < 18446744073709551616) (hn : n < 18446744073709551616) :
    Calls Tryz.prog 97 #[.int .u64 (a : Int), .int .u64 (q : Int), .int .u64 (n : Int)] w fun e w' => e = .returned (.bool b) ∧ Ext w w' := by
  have hd : ((n / 2 : Nat) : Int) = (n : Int) / 2 := by omega
  have hP := rpowN a (n / 2) q w (by omega) ha (by omega) hq1
  rw [hd] at hP
  have hl : a ^ (n / 2) % q < q := Nat.mod_lt _ (by omega)
  obtain ⟨y, hy⟩ : ∃ y, y = a ^ (n / 2) % q := ⟨_, rfl⟩
  rw [← hy] at hP hb hl
  have HP := Lib.hid hP
  have hb2 : ((y : Int) == (q : Int) - 1) = b := by
    rw [← hb.out]
    by_cases h : y = q - 1
    · rw [decide_eq_true h]; simp; omega
    · rw [decide_eq_false h]; simp; omega
  clear hP hd hy
  go_enter Tryz.func97, Tryz.ntmps97
  go_wp2_with fail
  refine HP.out.mono ?_
  rintro e w2 ⟨rfl, k2⟩
  go_wp2
  go_ret
  exact ⟨by first | rfl | (simp only [hb2]) | simp_all, k2⟩
theorem checkRoot_any (q n : Nat) (w : World) (hs : Hid (stepS n = true)) (hi : Hid (isS q = true)) (h1 : Hid (q % n = 1)) (hq : 3 ≤ q) (hq1 : q < 18446744073709551616) (hn0 : 2 ≤ n) (hn : n ≤ 8192) :
    Calls Tryz.prog 96 #[.int .u64 (q : Int), .int .u64 (n : Int)] w fun e w' => e = .returned (.int .i64 0) ∧ Ext w w' := by
  have hr : (((q : Int) - 1) % (n : Int) != 0) = false := by
    have h2 : (q - 1) % n = 0 := by
      have h3 := Nat.div_add_mod q n
      have h4 : q - 1 = n * (q / n) := by have := h1.out; omega
      rw [h4]; exact Nat.mul_mod_right _ _
    have h5 : ((q : Int) - 1) % (n : Int) = 0 := by rw [show (q : Int) - 1 = ((q - 1 : Nat) : Int) by omega, ← Int.natCast_emod, h2]; rfl
    rw [h5]; rfl
  have hz : ((n : Int) == 0) = false := by simp; omega
  have hz2 : ¬ (n : Int) = 0 := by omega
  go_enter Tryz.func96, Tryz.ntmps96
  go_wp2_with fail
  refine (rstep_any n w (by omega)).mono ?_
  rw [hs.out]
  rintro e w1 ⟨rfl, rfl⟩
  go_wp2_with fail
  refine (ris_any q w hq1).mono ?_
  rw [← is_same, hi.out]
  rintro e w2 ⟨rfl, k2⟩
  go_wp2
  go_ret
  exact ⟨rfl, k2⟩
set_option maxHeartbeats 4000000 in
theorem refRoot_any (q n x : Nat) (w : World) (hF : Hid (2 ≤ x ∧ x < 1000 ∧ x < q ∧ noSq q x = true ∧ ∀ y, y < x → noSq q y = false)) (hs : Hid (stepS n = true)) (hi : Hid (isS q = true)) (h1 : Hid (q % n = 1)) (hq : 3 ≤ q) (hq1 : q < 1073741824) (hn0 : 2 ≤ n) (hn : n ≤ 8192) :
    Calls Tryz.prog 52 #[.int .u64 (q : Int), .int .u64 (n : Int)] w fun e w' => e = .returned (.tuple #[.int .u64 (rootS q n x : Int), .int .i64 0]) ∧ Ext w w' := by
  have hx2 := hF.out.1
  have hx3 := hF.out.2.1
  have hd : ((q : Int) - 1) / (n : Int) = (((q - 1) / n : Nat) : Int) := by rw [show (q : Int) - 1 = ((q - 1 : Nat) : Int) by omega, ← Int.natCast_ediv]
  have hdl : (q - 1) / n ≤ q - 1 := Nat.div_le_self _ _
  obtain ⟨d, hdd⟩ : ∃ d, d = (q - 1) / n := ⟨_, rfl⟩
  have HR := Lib.hid (show rootS q n x = lr q (x ^ d % q * (x ^ d % q) % q) (n / 2 - 1) (x ^ d % q) (x ^ d % q) by rw [hdd]; rfl)
  have HPS := Lib.hid (show ∀ y, decide ((y ^ d % q) ^ (n / 2) % q = q - 1) = noSq q y from fun y => by rw [hdd]; exact prim_sq hq hs.out h1.out)
  rw [← hdd] at hd hdl
  have hz : ((n : Int) == 0) = false := by simp; omega
  have hz2 : ¬ (n : Int) = 0 := by omega
  clear hdd
  go_enter Tryz.func52, Tryz.ntmps52
  go_wp2_with fail
  refine (checkRoot_any q n w hs hi h1 hq (by omega) hn0 hn).mono ?_
  rintro e w1 ⟨rfl, k1⟩
  go_wp2
  go_loopw [7, 8] (fun u xv wr => ∃ X U : Nat, 2 ≤ X ∧ X ≤ x ∧ xv = .int .u64 (X : Int) ∧ u = .int .u64 (U : Int) ∧ Ext w wr) (fun _ xv _ => 1000 - (intOf xv).toNat)
  case atStart => exact ⟨2, 0, by omega, by omega, rfl, rfl, k1⟩
  case round =>
    obtain ⟨X, U, hX0, hX1, rfl, rfl, kr⟩ := hrel
    have hX3 : X < 1000 := by omega
    have e1 : decide ((X : Int) < 1000) = true := decide_eq_true (by omega)
    have hl : X ^ d % q < q := Nat.mod_lt _ (by omega)
    have HP := Lib.hid (HPS.out X)
    have HXe := Lib.hid (show X = x → X ^ d % q = x ^ d % q from fun h => by rw [h])
    have hPw := rpowN X d q wr (by omega) (by omega) (by omega) (by omega)
    generalize hy : X ^ d % q = y at *
    have HPW := Lib.hid hPw
    clear hPw hy
    go_wp2_with fail
    refine HPW.out.mono ?_
    rintro e w2 ⟨rfl, k2⟩
    by_cases hXx : X = x
    · have HT := Lib.hid (show decide (y ^ (n / 2) % q = q - 1) = true by rw [HP.out, hXx]; exact hF.out.2.2.2.1)
      have HYe := Lib.hid (HXe.out hXx)
      clear hXx
      go_wp2_with fail
      refine (primitive_any y q n true w2 HT hq (by omega) (by omega) (by omega)).mono ?_
      rintro e w3 ⟨rfl, k3⟩
      go_wp2_with fail
      refine (rmulN y y q w3 (by omega) (by omega) (by omega) (by omega)).mono ?_
      have hl2 : y * y % q < q := Nat.mod_lt _ (by omega)
      have HSQ := Lib.hid (show rootS q n x = lr q (y * y % q) (n / 2 - 1) y y by rw [HR.out, ← HYe.out])
      generalize y * y % q = sq at *
      rintro e w4 ⟨rfl, k4⟩
      have k14 := kr.trans (k2.trans (k3.trans k4))
      have hn2 : ((n / 2 : Nat) : Int) = (n : Int) / 2 := by omega
      go_wp2
      go_loopw [9, 11, 12] (fun bst v i wr => ∃ j R B : Nat, 1 ≤ j ∧ j ≤ n / 2 ∧ i = .int .u64 (j : Int) ∧ v = .int .u64 (R : Int) ∧ bst = .int .u64 (B : Int) ∧ R < q ∧ B < q ∧ Hid (rootS q n x = lr q sq (n / 2 - j) R B) ∧ Ext w wr) (fun _ _ i _ => n / 2 - (intOf i).toNat)
      case atStart => exact ⟨1, y, y, by omega, by omega, rfl, rfl, rfl, hl, hl, HSQ, k14⟩
      case round =>
        obtain ⟨j, R, B, hj0, hj1, rfl, rfl, rfl, hRq, hBq, hlr, kz⟩ := hrel
        by_cases hjn : j < n / 2
        · have e2 : decide ((j : Int) < (n : Int) / 2) = true := decide_eq_true (by omega)
          have HL := Lib.hid (show rootS q n x = lr q sq (n / 2 - (j + 1)) (R * sq % q) (min B (R * sq % q)) by
            rw [hlr.out, show n / 2 - j = (n / 2 - (j + 1)) + 1 by omega, lr])
          have hRs : R * sq % q < q := Nat.mod_lt _ (by omega)
          have hM := rmulN R sq q wr (by omega) (by omega) (by omega) (by omega)
          generalize R * sq % q = R2 at *
          have HM := Lib.hid hM
          clear hM
          go_wp2_with fail
          refine HM.out.mono ?_
          rintro e w5 ⟨rfl, k5⟩
          have hmin : min (B : Int) (R2 : Int) = ((min B R2 : Nat) : Int) := by omega
          have hml : min B R2 < q := by omega
          go_wp2
          exact ⟨⟨j + 1, R2, min B R2, by omega, by omega, by go_num, rfl, by first | rfl | (rw [← hmin]; rfl) | simp [hmin], hRs, hml, HL, kz.trans k5⟩, by simp [intOf]; omega⟩
        · have e2 : decide ((j : Int) < (n : Int) / 2) = false := decide_eq_false (by omega)
          have HE := Lib.hid (show rootS q n x = B by rw [hlr.out, show n / 2 - j = 0 by omega, lr])
          go_wp2
          go_ret2
          exact ⟨by rw [HE.out]; rfl, kz⟩
    · have HT := Lib.hid (show decide (y ^ (n / 2) % q = q - 1) = false by rw [HP.out]; exact hF.out.2.2.2.2 X (by omega))
      go_wp2_with fail
      refine (primitive_any y q n false w2 HT hq (by omega) (by omega) (by omega)).mono ?_
      rintro e w3 ⟨rfl, k3⟩
      go_wp2
      exact ⟨⟨X + 1, y, by omega, by omega, by go_num, rfl, kr.trans (k2.trans k3)⟩, by simp [intOf]; omega⟩
end Go.Proofs.YtoimbommiheccaaGreatDoor

/-
  What Pack of package batch answers: slots laid one by one.
-/
namespace Go.Proofs.YtoimbommiheccaaGreatDoor
open Go.RowKit
set_option linter.unusedVariables false
set_option maxRecDepth 100000

/-- From a to b, of what was there, only block p has changed. -/
def OnB (p : Nat) (a b : World) : Prop := a.grownBy b (some p)
theorem OnB.refl (p : Nat) (a : World) : OnB p a a := ⟨rfl, rfl, rfl, Nat.le_refl _, fun _ _ _ => rfl⟩
theorem OnB.trans {p : Nat} {a b c : World} (h : OnB p a b) (k : OnB p b c) : OnB p a c := only_trans h k
theorem OnB.of {p : Nat} {a b : World} (k : Ext a b) : OnB p a b := ⟨k.os, k.tape, k.output, k.size, fun i hi _ => k.block i hi⟩
theorem OnB.set {p : Nat} {a b : World} (h : OnB p a b) (i : Nat) (v : Value) : OnB p a (b.setCell ⟨p, i, none⟩ v) := only_trans h (only_set v)
theorem Ext.onB {p : Nat} {w a b : World} (h : Ext w a) (k : OnB p a b) (hp : w.heap.size ≤ p) : Ext w b := below_only h k h.size hp
theorem OnB.ext {p : Nat} {a b c : World} (h : OnB p a b) (k : Ext b c) : OnB p a c := h.trans (OnB.of k)
theorem OnB.rw_ {p x m : Nat} {t : TypeId} {F : Nat → Value} {a b : World} (h : OnB p a b) (hr : RW a x t m F) (hne : x ≠ p) : RW b x t m F := RW.keep hr (h.block x hr.lt (fun e => hne (by injection e)))
theorem liftY (v : Int) (q y : Nat) (w : World) (hy : Hid (y = lif v q)) (hq0 : 0 < q) (v0 : -9223372036854775808 ≤ v) (v1 : v < 9223372036854775808) (hq : q < 18446744073709551616) :
    Calls Tryz.prog 95 #[.int .i64 v, .int .u64 (q : Int)] w fun e w' => e = .returned (.int .u64 (y : Int)) ∧ Ext w w' :=
  (liftM v q w hq0 v0 v1 hq).mono fun e w' ⟨m, hm, _, he, hk⟩ => ⟨by rw [hy.out, ← hm.out]; exact he, hk⟩
theorem far_block {w : World} {g i : Nat} {p : Addr} {u v : Value} (hp : p.block ≠ g) (hc : w.cell? p = some v) : (w.setCell ⟨g, i, none⟩ u).cell? p = some v :=
  (set_far (fun e => hp (by rw [← e]))).trans hc
/-- What lies where after k of the two stores. -/
def layF (y a0 a1 : Nat) (F : Nat → Nat) : Nat → Nat → Nat
  | 0, j => F j
  | 1, j => if j = a0 then y else F j
  | _, j => if j = a1 then y else if j = a0 then y else F j
def sheetF (T : Nat) (x y : Value) (j : Nat) : Value := if j = 0 then .int .u64 (T : Int) else if j = 1 then x else y
set_option maxHeartbeats 4000000 in
theorem lay_any (T m cv n g a0 a1 s : Nat) (Av : Option Addr) (z : Nat → Int) (F : Nat → Nat) (w0 w : World) (k0 : Ext w0 w) (hg0 : w0.heap.size ≤ g) (hV : VX w0 Av m cv z) (hz : Hid (∀ i, i < m → -9223372036854775808 ≤ z i ∧ z i < 9223372036854775808)) (hU : UW w g n F) (hs : s < m) (hm : m ≤ 1000) (h0 : a0 < n) (h1 : a1 < n) (hn : n ≤ 1000) (hT0 : 0 < T) (hT : T < 18446744073709551616) :
    Calls Tryz.prog 51 #[.agg #[.int .u64 (T : Int), .slice Av m cv, .slice (some ⟨g, 0, none⟩) n n], .int .i64 (s : Int), .agg #[.int .i64 (a0 : Int), .int .i64 (a1 : Int)]] w fun ee w' => ee = .returned (.tuple #[]) ∧ UW w' g n (layF (lif (z s) T) a0 a1 F 2) ∧ OnB g w w' := by
  have hgl := RW.lt hU
  obtain ⟨hz0, hz1⟩ := hz.out s hs
  have hsh : RW ((w.alloc (.cells #[.int .u64 (T : Int), .slice Av m cv, .slice (some ⟨g, 0, none⟩) n n] 91)).alloc (.cells #[.int .i64 (a0 : Int), .int .i64 (a1 : Int)] 137)) w.heap.size 91 3 (sheetF T (.slice Av m cv) (.slice (some ⟨g, 0, none⟩) n n)) :=
    RW.ext (show RW (w.alloc (.cells #[.int .u64 (T : Int), .slice Av m cv, .slice (some ⟨g, 0, none⟩) n n] 91)) w.heap.size 91 3 (sheetF T (.slice Av m cv) (.slice (some ⟨g, 0, none⟩) n n)) from heap_alloc_new _ _) ((Ext.refl _).alloc _)
  have kV : Ext w ((w.alloc (.cells #[.int .u64 (T : Int), .slice Av m cv, .slice (some ⟨g, 0, none⟩) n n] 91)).alloc (.cells #[.int .i64 (a0 : Int), .int .i64 (a1 : Int)] 137)) := ((Ext.refl w).alloc _).alloc _
  have ix0 : ∀ w : World, (Instr.index 137 (.agg #[.int .i64 (a0 : Int), .int .i64 (a1 : Int)]) (.int .i64 0)).run Tryz.prog w = .ok (.int .i64 (a0 : Int)) w := fun w => by kernel_rfl
  have ix1 : ∀ w : World, (Instr.index 137 (.agg #[.int .i64 (a0 : Int), .int .i64 (a1 : Int)]) (.int .i64 1)).run Tryz.prog w = .ok (.int .i64 (a1 : Int)) w := fun w => by kernel_rfl
  obtain ⟨y, hy⟩ : ∃ y, y = lif (z s) T := ⟨_, rfl⟩
  rw [← hy]
  have HY := Lib.hid hy
  have HSH := Lib.hid hsh
  have HV := Lib.hid hV
  have HU := Lib.hid (RW.ext hU kV)
  have HK := Lib.hid k0
  clear hy hsh hV hU k0
  go_enter Tryz.func51, Tryz.ntmps51
  go_wp2
  generalize ((w.alloc (.cells #[.int .u64 (T : Int), .slice Av m cv, .slice (some ⟨g, 0, none⟩) n n] 91)).alloc (.cells #[.int .i64 (a0 : Int), .int .i64 (a1 : Int)] 137)) = V at *
  go_loopw [9] (fun i wr => ∃ k : Nat, k ≤ 2 ∧ i = .int .i64 (k : Int) ∧ UW wr g n (layF y a0 a1 F k) ∧ OnB g V wr) (fun i _ => 2 - (intOf i).toNat)
  case atStart => exact ⟨0, by omega, rfl, HU.out, OnB.refl _ _⟩
  case round =>
    obtain ⟨k, hk, rfl, hu, kr⟩ := hrel
    by_cases hlt : k < 2
    · have kx : Ext w0 wr := ((HK.out.trans kV).onB kr hg0)
      obtain ⟨ad, rfl, hc⟩ := (HV.out.ext kx).cells (by omega)
      have hcell := hc s hs
      clear hc
      have hshr := kr.rw_ HSH.out (by omega)
      have s0 : wr.cell? ⟨w.heap.size, 0, none⟩ = some (.int .u64 (T : Int)) := hshr.cell (i := 0) (by omega)
      have s1 : wr.cell? ⟨w.heap.size, 1, none⟩ = some (.slice (some ad) m cv) := hshr.cell (i := 1) (by omega)
      have s2 : wr.cell? ⟨w.heap.size, 2, none⟩ = some (.slice (some ⟨g, 0, none⟩) n n) := hshr.cell (i := 2) (by omega)
      have i0 : (0 : Int) ≤ (s : Int) := by omega
      have i1 : (s : Int) < (m : Int) := by omega
      have j0 : (0 : Int) ≤ (a0 : Int) := by omega
      have j1 : (a0 : Int) < (n : Int) := by omega
      have l0 : (0 : Int) ≤ (a1 : Int) := by omega
      have l1 : (a1 : Int) < (n : Int) := by omega
      have hne : w.heap.size ≠ g := by omega
      have hab : (ad.add s).block ≠ g := fun e => by
        obtain ⟨ad2, e2, hc2⟩ := HV.out.cells (by omega)
        injection e2 with e2
        subst e2
        have := World.block_lt_of_cell? _ _ (hc2 s hs)
        omega
      have kk : Ext wr wr := Ext.refl wr
      generalize z s = zs at *
      rcases (show k = 0 ∨ k = 1 by omega) with rfl | rfl
      · go_wp2_with fail
        go_region_held3 (fun w' => w'.cell? ⟨w.heap.size, 0, none⟩ = some (.int .u64 (T : Int)) ∧ w'.cell? ⟨w.heap.size, 1, none⟩ = some (.slice (some ad) m cv) ∧ w'.cell? ⟨w.heap.size, 2, none⟩ = some (.slice (some ⟨g, 0, none⟩) n n) ∧ w'.cell? (ad.add s) = some (.int .i64 zs)) (go_keep)
          (first
            | (go_at_call 95; refine (liftY zs T y _ HY hT0 hz0 hz1 hT).mono ?_; rintro e5 w5 ⟨rfl, k5⟩; replace kk : Ext wr w5 := (by first | exact Ext.trans kk k5 | exact Ext.trans (Ext.drew kk) k5); have d0 := cell_ext kk s0; have d1 := cell_ext kk s1; have d2 := cell_ext kk s2; have d3 := cell_ext kk hcell; have hu5 := RW.ext hu kk; have d4 := RW.cell hu5 h0; have d5 := RW.frozen hu5 a0; have f0 := far_block (g := g) (i := a0) (u := .int .u64 (y : Int)) hne d0; have f1 := far_block (g := g) (i := a0) (u := .int .u64 (y : Int)) hne d1; have f2 := far_block (g := g) (i := a0) (u := .int .u64 (y : Int)) hne d2; have f3 := far_block (g := g) (i := a0) (u := .int .u64 (y : Int)) hab d3)
            | fail)
        all_goals
          have hu6 := (UW.set hu5 h0 y).congr (f' := layF y a0 a1 F 1) fun j _ => rfl
          have kr6 := (kr.ext kk).set a0 (.int .u64 (y : Int))
          clear hu5
          go_wp2
          exact ⟨⟨1, by omega, by go_num, hu6, kr6⟩, by simp [intOf]⟩
      · go_wp2_with fail
        go_region_held3 (fun w' => w'.cell? ⟨w.heap.size, 0, none⟩ = some (.int .u64 (T : Int)) ∧ w'.cell? ⟨w.heap.size, 1, none⟩ = some (.slice (some ad) m cv) ∧ w'.cell? ⟨w.heap.size, 2, none⟩ = some (.slice (some ⟨g, 0, none⟩) n n) ∧ w'.cell? (ad.add s) = some (.int .i64 zs)) (go_keep)
          (first
            | (go_at_call 95; refine (liftY zs T y _ HY hT0 hz0 hz1 hT).mono ?_; rintro e5 w5 ⟨rfl, k5⟩; replace kk : Ext wr w5 := (by first | exact Ext.trans kk k5 | exact Ext.trans (Ext.drew kk) k5); have d0 := cell_ext kk s0; have d1 := cell_ext kk s1; have d2 := cell_ext kk s2; have d3 := cell_ext kk hcell; have hu5 := RW.ext hu kk; have d4 := RW.cell hu5 h1; have d5 := RW.frozen hu5 a1; have f0 := far_block (g := g) (i := a1) (u := .int .u64 (y : Int)) hne d0; have f1 := far_block (g := g) (i := a1) (u := .int .u64 (y : Int)) hne d1; have f2 := far_block (g := g) (i := a1) (u := .int .u64 (y : Int)) hne d2; have f3 := far_block (g := g) (i := a1) (u := .int .u64 (y : Int)) hab d3)
            | fail)
        all_goals
          have hu6 := (UW.set hu5 h1 y).congr (f' := layF y a0 a1 F 2) fun j _ => rfl
          have kr6 := (kr.ext kk).set a1 (.int .u64 (y : Int))
          clear hu5
          go_wp2
          exact ⟨⟨2, by omega, by go_num, hu6, kr6⟩, by simp [intOf]⟩
    · obtain rfl : k = 2 := by omega
      go_wp2
      go_end0
      exact ⟨rfl, hu, (OnB.of kV).trans kr⟩
/-- What values are laid: the first k slots'. -/
def laidF (n T : Nat) (z : Nat → Int) (k j : Nat) : Nat := if slB n j < k then lif (z (slB n j)) T else 0
theorem laid_step {n T k : Nat} {z : Nat → Int} (hn : Sml n) (hk : k < n / 2) : ∀ j, j < n → layF (lif (z k) T) (atB n k) (n - 1 - atB n k) (laidF n T z k) 2 j = laidF n T z (k + 1) j := fun j hj => by
  have hs := sl_iff hn hk hj
  show (if j = n - 1 - atB n k then lif (z k) T else if j = atB n k then lif (z k) T else laidF n T z k j) = laidF n T z (k + 1) j
  unfold laidF
  by_cases h : slB n j = k
  · rw [if_pos (show slB n j < k + 1 by omega), h]
    rcases hs.1 h with h1 | h1
    · by_cases h2 : j = n - 1 - atB n k
      · rw [if_pos h2]
      · rw [if_neg h2, if_pos h1]
    · rw [if_pos h1]
  · have h1 : ¬ j = n - 1 - atB n k := fun e => h (hs.2 (.inr e))
    have h2 : ¬ j = atB n k := fun e => h (hs.2 (.inl e))
    rw [if_neg h1, if_neg h2]
    by_cases h3 : slB n j < k
    · rw [if_pos h3, if_pos (by omega)]
    · rw [if_neg h3, if_neg (by omega)]
set_option maxHeartbeats 4000000 in
theorem overLay_any (T m cv n g pg cp : Nat) (Av : Option Addr) (z : Nat → Int) (w0 w : World) (k0 : Ext w0 w) (hg0 : w0.heap.size ≤ g) (hn : Sml n) (hP : RW w0 pg 137 (n / 2 * 2) (plF n)) (hV : VX w0 Av m cv z) (hz : Hid (∀ i, i < m → -9223372036854775808 ≤ z i ∧ z i < 9223372036854775808)) (hU : UW w g n (fun _ => 0)) (hm : m ≤ n / 2) (hT0 : 0 < T) (hT : T < 18446744073709551616) :
    Calls Tryz.prog 50 #[.slice (some ⟨pg, 0, none⟩) m cp, .func (.func 51) #[.agg #[.int .u64 (T : Int), .slice Av m cv, .slice (some ⟨g, 0, none⟩) n n]] #[]] w fun ee w' => ee = .returned (.tuple #[]) ∧ UW w' g n (laidF n T z m) ∧ OnB g w w' := by
  have hle := sml_le hn
  have HN := Lib.hid hn
  have HP := Lib.hid hP
  have HV := Lib.hid hV
  have HK := Lib.hid k0
  clear hn hP hV k0
  go_enter Tryz.func50, Tryz.ntmps50
  go_wp2
  go_loopw [8] (fun i wr => ∃ k : Nat, k ≤ m ∧ i = .int .i64 (k : Int) ∧ UW wr g n (laidF n T z k) ∧ OnB g w wr) (fun i _ => m - (intOf i).toNat)
  case atStart => exact ⟨0, by omega, rfl, hU.congr fun j _ => by unfold laidF; rw [if_neg (by omega)], OnB.refl _ _⟩
  case round =>
    obtain ⟨k, hk, rfl, hu, kr⟩ := hrel
    clear hU
    by_cases hlt : k < m
    · have kx : Ext w0 wr := HK.out.onB kr hg0
      have hpr := HP.out.ext kx
      have c0 := hpr.cell (i := k * 2) (by omega)
      have c1 := hpr.cell (i := k * 2 + 1) (by omega)
      rw [plF, plN, if_pos (by omega), show k * 2 / 2 = k by omega] at c0
      rw [plF, plN, if_neg (by omega), show (k * 2 + 1) / 2 = k by omega] at c1
      have hal := at_lt (n := n) (by omega) k
      have HS := Lib.hid (laid_step (T := T) (z := z) HN.out (show k < n / 2 by omega))
      clear hpr
      obtain ⟨a0, ha0⟩ : ∃ a0, a0 = atB n k := ⟨_, rfl⟩
      obtain ⟨a1, ha1⟩ : ∃ a1, a1 = n - 1 - atB n k := ⟨_, rfl⟩
      have hb1 : a1 < n := by omega
      rw [← ha1] at c1 HS
      rw [← ha0] at c0 hal HS
      clear ha0 ha1
      have i0 : (0 : Int) ≤ (k : Int) := by omega
      have i1 : (k : Int) < (m : Int) := by omega
      go_wp2_with fail
      have kz : Ext wr (wr.alloc (.cells #[.int .i64 (a0 : Int), .int .i64 (a1 : Int)] 137)) := (Ext.refl _).alloc _
      refine (lay_any T m cv n g a0 a1 k Av z _ w0 _ (kx.trans kz) hg0 HV.out hz (RW.ext hu kz) hlt (by omega) hal hb1 (by omega) hT0 hT).mono ?_
      rintro ee w2 ⟨rfl, hu2, k2⟩
      have hu3 := hu2.congr HS.out
      have k3 := kr.trans ((OnB.of kz).trans k2)
      clear hu2 hu
      go_wp2
      exact ⟨⟨k + 1, by omega, by go_num, hu3, k3⟩, by simp [intOf]; omega⟩
    · obtain rfl : k = m := by omega
      go_wp2
      go_end0
      exact ⟨rfl, hu, kr⟩
end Go.Proofs.YtoimbommiheccaaGreatDoor

/-
  What Pack of package batch answers.
-/
namespace Go.Proofs.YtoimbommiheccaaGreatDoor
open Go.RowKit
set_option linter.unusedVariables false
set_option maxRecDepth 100000

theorem packLong_any (p n T k r v m cv : Nat) (Av : Option Addr) (w : World) (hB : Bt w p n T k r v) (hn : Sml n) (hm : n / 2 < m) (hml : m ≤ 9223372036854775807) :
    Calls Tryz.prog 14 #[.pointer (some ⟨p, 0, none⟩), .slice Av m cv] w fun ee w' => ee = .returned (.tuple #[.slice none 0 0, .int .i64 3]) ∧ Ext w w' := by
  have hle := sml_le hn
  have HB := Lib.hid hB
  obtain ⟨g, t, h0, h1, _⟩ := hB.ex
  clear hB
  have e1 : decide (((n / 2 : Nat) : Int) < (m : Int)) = true := decide_eq_true (by omega)
  generalize hh : n / 2 = h at *
  clear hh
  go_enter Tryz.func14, Tryz.ntmps14
  go_wp2_with fail
  refine (isNone_no p n T k r v w HB.out (by omega) (by omega)).mono ?_
  rintro e w' ⟨rfl, rfl⟩
  go_wp2
  go_ret2
  exact ⟨rfl, Ext.refl _⟩
theorem laid_lt {n T : Nat} {z : Nat → Int} {m j : Nat} (hT : 0 < T) : laidF n T z m j < T := by
  unfold laidF
  split
  · exact lif_lt hT
  · exact hT
set_option maxHeartbeats 4000000 in
theorem pack_any (p n T k r v m cv : Nat) (Av : Option Addr) (z : Nat → Int) (w : World) (hB : Bt w p n T k r v) (hn : Sml n) (hV : VX w Av m cv z) (hz : Hid (∀ i, i < m → -9223372036854775808 ≤ z i ∧ z i < 9223372036854775808)) (hm : m ≤ n / 2) (hT0 : 2 ≤ T) (hT : T < 1073741824) :
    Calls Tryz.prog 14 #[.pointer (some ⟨p, 0, none⟩), .slice Av m cv] w fun ee w' => ∃ (g : Nat) (F : Nat → Nat), ee = .returned (.tuple #[.slice (some ⟨g, 0, none⟩) n n, .int .i64 0]) ∧ UW w' g n F ∧ Hid (∀ i, i < n → F i < T ∧ M (T : Int) ((n : Int) * (F i : Int)) (back (v : Int) n (fun j => (laidF n T z m j : Int)) i)) ∧ Ext w w' := by
  have hle := sml_le hn
  have HB := Lib.hid hB
  have HV := Lib.hid hV
  have HN := Lib.hid hn
  obtain ⟨pg, t, h0, h1, h2, h3, h4, h5⟩ := hB.ex
  have H4 := Lib.hid h4
  have H5 := Lib.hid h5
  clear hB hV hn h4 h5
  have hmk := make_u64 n (by omega)
  rw [show (n : Int) = 2 * ((n / 2 : Nat) : Int) by omega] at hmk
  have e1 : decide (((n / 2 : Nat) : Int) < (m : Int)) = false := decide_eq_false (by omega)
  have e2 : IntKind.i64.wrap (2 * ((n / 2 : Nat) : Int)) = 2 * ((n / 2 : Nat) : Int) := by rw [IntKind.wrap_i64]; omega
  have i0 : (0 : Int) ≤ (m : Int) := by omega
  have i1 : (m : Int) ≤ ((n / 2 : Nat) : Int) := by omega
  have hl1 : 2 * (n / 2) ≤ n := by omega
  have hl2 : n ≤ 2 * (n / 2) := by omega
  have HM := Lib.hid hm
  generalize hh : n / 2 = h at h1 hmk e1 e2 i1 hl1 hl2 hm
  clear hh
  go_enter Tryz.func14, Tryz.ntmps14
  go_wp2_with fail
  refine (isNone_no p n T k r v w HB.out (by omega) (by omega)).mono ?_
  rintro e w' ⟨rfl, rfl⟩
  have kk : Ext w w := Ext.refl w
  go_wp2_with fail
  go_region_held3 (fun w' => w'.cell? ⟨p, 0, none⟩ = some (.int .u64 (T : Int)) ∧ w'.cell? ⟨p, 1, none⟩ = some (.slice (some ⟨pg, 0, none⟩) h h)) (go_keep)
    (first
      | fail)
  -- TAIL
  · have hU : UW ((w.alloc (.cells (newU n) 22)).alloc (.cells #[.int .u64 (T : Int), .slice Av m cv, .slice (some ⟨w.heap.size, 0, none⟩) n n] 91)).drew w.heap.size n (fun _ => 0) := RW.ext (newU_uw w n) (((Ext.refl _).alloc _).drew)
    have hS : RW ((w.alloc (.cells (newU n) 22)).alloc (.cells #[.int .u64 (T : Int), .slice Av m cv, .slice (some ⟨w.heap.size, 0, none⟩) n n] 91)).drew (w.heap.size + 1) 91 3 (sheetF T (.slice Av m cv) (.slice (some ⟨w.heap.size, 0, none⟩) n n)) := by
      have hq : RW ((w.alloc (.cells (newU n) 22)).alloc (.cells #[.int .u64 (T : Int), .slice Av m cv, .slice (some ⟨w.heap.size, 0, none⟩) n n] 91)) (w.alloc (.cells (newU n) 22)).heap.size 91 3 (sheetF T (.slice Av m cv) (.slice (some ⟨w.heap.size, 0, none⟩) n n)) := heap_alloc_new _ _
      rw [show (w.alloc (.cells (newU n) 22)).heap.size = w.heap.size + 1 by simp] at hq
      exact RW.ext hq ((Ext.refl _).drew)
    have kV : Ext w ((w.alloc (.cells (newU n) 22)).alloc (.cells #[.int .u64 (T : Int), .slice Av m cv, .slice (some ⟨w.heap.size, 0, none⟩) n n] 91)).drew := (((Ext.refl w).alloc _).alloc _).drew
    generalize ((w.alloc (.cells (newU n) 22)).alloc (.cells #[.int .u64 (T : Int), .slice Av m cv, .slice (some ⟨w.heap.size, 0, none⟩) n n] 91)).drew = V at *
    have hne : w.heap.size + 1 ≠ w.heap.size := by omega
    have hgw : w.heap.size ≤ w.heap.size := by omega
    have s0 : V.cell? ⟨w.heap.size + 1, 0, none⟩ = some (.int .u64 (T : Int)) := hS.cell (i := 0) (by omega)
    have s1 : V.cell? ⟨w.heap.size + 1, 1, none⟩ = some (.slice Av m cv) := hS.cell (i := 1) (by omega)
    have s2 : V.cell? ⟨w.heap.size + 1, 2, none⟩ = some (.slice (some ⟨w.heap.size, 0, none⟩) n n) := hS.cell (i := 2) (by omega)
    have v1 := cell_ext kV h1
    have v3 := cell_ext kV h3
    clear hmk
    have HU := Lib.hid hU
    have HS := Lib.hid hS
    clear hU hS
    have kk : Ext V V := Ext.refl V
    go_wp2_with fail
    go_region_held3 (fun w' => w'.cell? ⟨p, 1, none⟩ = some (.slice (some ⟨pg, 0, none⟩) h h) ∧ w'.cell? ⟨w.heap.size + 1, 0, none⟩ = some (.int .u64 (T : Int)) ∧ w'.cell? ⟨w.heap.size + 1, 1, none⟩ = some (.slice Av m cv) ∧ w'.cell? ⟨w.heap.size + 1, 2, none⟩ = some (.slice (some ⟨w.heap.size, 0, none⟩) n n)) (go_keep)
      (first
        | (go_at_call 50; refine (overLay_any T m cv n (w.heap.size) pg h Av z w _ (kV.trans (by first | exact kk | exact Ext.drew kk)) hgw HN.out H4.out HV.out hz (RW.ext HU.out (by first | exact kk | exact Ext.drew kk)) HM.out (by omega) (by omega)).mono ?_; rintro e5 w5 ⟨rfl, hu5, k5⟩; have kz : Ext w w5 := (Ext.onB (kV.trans (by first | exact kk | exact Ext.drew kk)) k5 hgw); have ko : OnB (w.heap.size) V w5 := (OnB.of (by first | exact kk | exact Ext.drew kk)).trans k5; have hS5 := ko.rw_ HS.out hne; have d1 := cell_ext kz h1; have d3 : w5.cell? ⟨w.heap.size + 1, 0, none⟩ = some (.int .u64 (T : Int)) := hS5.cell (i := 0) (by omega); have d4 : w5.cell? ⟨w.heap.size + 1, 1, none⟩ = some (.slice Av m cv) := hS5.cell (i := 1) (by omega); have d5 : w5.cell? ⟨w.heap.size + 1, 2, none⟩ = some (.slice (some ⟨w.heap.size, 0, none⟩) n n) := hS5.cell (i := 2) (by omega))
        | fail)
    have f3 := cell_ext kz h3
    have HU5 := Lib.hid hu5
    have HL := Lib.hid (show ∀ j, j < n → laidF n T z m j < T from fun j _ => laid_lt (by omega))
    clear hu5 kk
    have kk : Ext w5 w5 := Ext.refl w5
    go_wp2_with fail
    go_region_held3 (fun w' => w'.cell? ⟨p, 3, none⟩ = some (.func (.func 45) #[.pointer (some ⟨t, 0, none⟩)] #[]) ∧ w'.cell? ⟨w.heap.size + 1, 2, none⟩ = some (.slice (some ⟨w.heap.size, 0, none⟩) n n)) (go_keep)
      (first
        | (go_at_call 45; refine (back_any t n T k r v (some ⟨w.heap.size, 0, none⟩) n (laidF n T z m) _ (H5.out.ext (kz.trans (by first | exact kk | exact Ext.drew kk))) ((UW.fx HU5.out).ext (by first | exact kk | exact Ext.drew kk)) HL).mono ?_; rintro e6 w6 ⟨g6, F6, rfl, hu6, hF6, k6⟩; replace kk : Ext w5 w6 := (by first | exact Ext.trans kk k6 | exact Ext.trans (Ext.drew kk) k6); have q3 := cell_ext kk f3; have q5 := cell_ext kk d5)
        | fail)
    all_goals
      have kf := kz.trans kk
      go_wp2
      go_ret2
      exact ⟨g6, F6, rfl, hu6, hF6, kf⟩
  · have hU : UW ((w.alloc (.cells #[.int .u64 (T : Int), .slice Av m cv, .slice (some ⟨w.heap.size + 1, 0, none⟩) n n] 91)).alloc (.cells (newU n) 22)).drew (w.heap.size + 1) n (fun _ => 0) := by
      have hq := newU_uw (w.alloc (.cells #[.int .u64 (T : Int), .slice Av m cv, .slice (some ⟨w.heap.size + 1, 0, none⟩) n n] 91)) n
      rw [show (w.alloc (.cells #[.int .u64 (T : Int), .slice Av m cv, .slice (some ⟨w.heap.size + 1, 0, none⟩) n n] 91)).heap.size = w.heap.size + 1 by simp] at hq
      exact RW.ext hq ((Ext.refl _).drew)
    have hS : RW ((w.alloc (.cells #[.int .u64 (T : Int), .slice Av m cv, .slice (some ⟨w.heap.size + 1, 0, none⟩) n n] 91)).alloc (.cells (newU n) 22)).drew w.heap.size 91 3 (sheetF T (.slice Av m cv) (.slice (some ⟨w.heap.size + 1, 0, none⟩) n n)) :=
      RW.ext (show RW (w.alloc (.cells #[.int .u64 (T : Int), .slice Av m cv, .slice (some ⟨w.heap.size + 1, 0, none⟩) n n] 91)) w.heap.size 91 3 (sheetF T (.slice Av m cv) (.slice (some ⟨w.heap.size + 1, 0, none⟩) n n)) from heap_alloc_new _ _) (((Ext.refl _).alloc _).drew)
    have kV : Ext w ((w.alloc (.cells #[.int .u64 (T : Int), .slice Av m cv, .slice (some ⟨w.heap.size + 1, 0, none⟩) n n] 91)).alloc (.cells (newU n) 22)).drew := (((Ext.refl w).alloc _).alloc _).drew
    generalize ((w.alloc (.cells #[.int .u64 (T : Int), .slice Av m cv, .slice (some ⟨w.heap.size + 1, 0, none⟩) n n] 91)).alloc (.cells (newU n) 22)).drew = V at *
    have hne : w.heap.size ≠ w.heap.size + 1 := by omega
    have hgw : w.heap.size ≤ w.heap.size + 1 := by omega
    have s0 : V.cell? ⟨w.heap.size, 0, none⟩ = some (.int .u64 (T : Int)) := hS.cell (i := 0) (by omega)
    have s1 : V.cell? ⟨w.heap.size, 1, none⟩ = some (.slice Av m cv) := hS.cell (i := 1) (by omega)
    have s2 : V.cell? ⟨w.heap.size, 2, none⟩ = some (.slice (some ⟨w.heap.size + 1, 0, none⟩) n n) := hS.cell (i := 2) (by omega)
    have v1 := cell_ext kV h1
    have v3 := cell_ext kV h3
    clear hmk
    have HU := Lib.hid hU
    have HS := Lib.hid hS
    clear hU hS
    have kk : Ext V V := Ext.refl V
    go_wp2_with fail
    go_region_held3 (fun w' => w'.cell? ⟨p, 1, none⟩ = some (.slice (some ⟨pg, 0, none⟩) h h) ∧ w'.cell? ⟨w.heap.size, 0, none⟩ = some (.int .u64 (T : Int)) ∧ w'.cell? ⟨w.heap.size, 1, none⟩ = some (.slice Av m cv) ∧ w'.cell? ⟨w.heap.size, 2, none⟩ = some (.slice (some ⟨w.heap.size + 1, 0, none⟩) n n)) (go_keep)
      (first
        | (go_at_call 50; refine (overLay_any T m cv n (w.heap.size + 1) pg h Av z w _ (kV.trans (by first | exact kk | exact Ext.drew kk)) hgw HN.out H4.out HV.out hz (RW.ext HU.out (by first | exact kk | exact Ext.drew kk)) HM.out (by omega) (by omega)).mono ?_; rintro e5 w5 ⟨rfl, hu5, k5⟩; have kz : Ext w w5 := (Ext.onB (kV.trans (by first | exact kk | exact Ext.drew kk)) k5 hgw); have ko : OnB (w.heap.size + 1) V w5 := (OnB.of (by first | exact kk | exact Ext.drew kk)).trans k5; have hS5 := ko.rw_ HS.out hne; have d1 := cell_ext kz h1; have d3 : w5.cell? ⟨w.heap.size, 0, none⟩ = some (.int .u64 (T : Int)) := hS5.cell (i := 0) (by omega); have d4 : w5.cell? ⟨w.heap.size, 1, none⟩ = some (.slice Av m cv) := hS5.cell (i := 1) (by omega); have d5 : w5.cell? ⟨w.heap.size, 2, none⟩ = some (.slice (some ⟨w.heap.size + 1, 0, none⟩) n n) := hS5.cell (i := 2) (by omega))
        | fail)
    have f3 := cell_ext kz h3
    have HU5 := Lib.hid hu5
    have HL := Lib.hid (show ∀ j, j < n → laidF n T z m j < T from fun j _ => laid_lt (by omega))
    clear hu5 kk
    have kk : Ext w5 w5 := Ext.refl w5
    go_wp2_with fail
    go_region_held3 (fun w' => w'.cell? ⟨p, 3, none⟩ = some (.func (.func 45) #[.pointer (some ⟨t, 0, none⟩)] #[]) ∧ w'.cell? ⟨w.heap.size, 2, none⟩ = some (.slice (some ⟨w.heap.size + 1, 0, none⟩) n n)) (go_keep)
      (first
        | (go_at_call 45; refine (back_any t n T k r v (some ⟨w.heap.size + 1, 0, none⟩) n (laidF n T z m) _ (H5.out.ext (kz.trans (by first | exact kk | exact Ext.drew kk))) ((UW.fx HU5.out).ext (by first | exact kk | exact Ext.drew kk)) HL).mono ?_; rintro e6 w6 ⟨g6, F6, rfl, hu6, hF6, k6⟩; replace kk : Ext w5 w6 := (by first | exact Ext.trans kk k6 | exact Ext.trans (Ext.drew kk) k6); have q3 := cell_ext kk f3; have q5 := cell_ext kk d5)
        | fail)
    all_goals
      have kf := kz.trans kk
      go_wp2
      go_ret2
      exact ⟨g6, F6, rfl, hu6, hF6, kf⟩
end Go.Proofs.YtoimbommiheccaaGreatDoor

/-
  What Unpack of package batch answers: slots taken one by one.
-/
namespace Go.Proofs.YtoimbommiheccaaGreatDoor
open Go.RowKit
set_option linter.unusedVariables false
set_option maxRecDepth 100000

theorem info_intB : (Tryz.prog.info? 3).map (fun i => (i.zero, i.size, i.bytes)) = some (some (.int .i64 0), 1, 8) := by kernel_rfl
def newI (c : Nat) : Array Value := ((List.range c).map fun _ => Value.int .i64 0).toArray
/-- A row of numbers. -/
def IWB (w : World) (g n : Nat) (z : Nat → Int) : Prop := RW w g 3 n (fun i => .int .i64 (z i))
theorem newI_rw (w : World) (c : Nat) : IWB (w.alloc (.cells (newI c) 3)) w.heap.size c (fun _ => 0) := heap_alloc_new w _
theorem IWB.vx {w : World} {g n : Nat} {z : Nat → Int} (h : IWB w g n z) : VX w (some ⟨g, 0, none⟩) n n z :=
  ⟨Nat.le_refl _, fun _ => ⟨_, rfl, fun j hj => by rw [Addr.add_lit, Nat.zero_add]; exact RW.cell h hj⟩⟩
theorem make_int (c : Nat) (hc : c ≤ 1000000) (w : World) :
    (Instr.makeSlice 26 (.int .i64 (c : Int)) (.int .i64 (c : Int))).run Tryz.prog w = .ok (.slice (some ⟨w.heap.size, 0, none⟩) c c) (w.alloc (.cells (newI c) 3)) := by
  obtain ⟨i0, hi, hz0, hz1, hz2⟩ := info_parts info_intB
  have hr := run_make (P := Tryz.prog) w 26 3 i0 (.int .i64 0) Tryz.underlying26 hi hz0 .i64 .i64 (c : Int) (c : Int) (by omega) (by omega) (by rw [hz2]; omega) (by omega)
  rw [hz1] at hr
  simp only [Int.toNat_natCast] at hr
  rw [hr]
  have e : madeCells (Value.int .i64 0).cells (c * 1) = newI c := by
    apply Array.toList_inj.1
    unfold newI madeCells
    apply List.ext_getElem?
    intro j
    by_cases hj : j < c
    · simp [hj, Value.cells, Nat.mod_one]
    · simp [hj]
  rw [e]
/-- Centered, as the document says. -/
def cenT (x T : Nat) : Int := cenS (x : Int) (T : Int)
theorem centerB (x q : Nat) (y : Int) (w : World) (hy : Hid (y = cenT x q)) (hx : x < 18446744073709551616) (hq : q < 18446744073709551616) :
    Calls Tryz.prog 99 #[.int .u64 (x : Int), .int .u64 (q : Int)] w fun e w' => e = .returned (.int .i64 y) ∧ Ext w w' :=
  (center_any (x : Int) (q : Int) w (by omega) (by omega) (by omega) (by omega)).mono fun e w' ⟨he, hw⟩ => ⟨by rw [hy.out]; exact he, by rw [hw]; exact Ext.refl _⟩
set_option maxHeartbeats 4000000 in
theorem take_any (T h cv n g a0 a1 s : Nat) (Av : Option Addr) (F : Nat → Nat) (Z : Nat → Int) (w0 w : World) (k0 : Ext w0 w) (hg0 : w0.heap.size ≤ g) (hF : FX w0 Av n cv F) (hl : F a0 < 18446744073709551616) (hR : IWB w g h Z) (hs : s < h) (hh : h ≤ 1000) (h0 : a0 < n) (hn : n ≤ 1000) (hT : T < 18446744073709551616) :
    Calls Tryz.prog 58 #[.agg #[.int .u64 (T : Int), .slice (some ⟨g, 0, none⟩) h h, .slice Av n cv], .int .i64 (s : Int), .agg #[.int .i64 (a0 : Int), .int .i64 (a1 : Int)]] w fun ee w' => ee = .returned (.tuple #[]) ∧ IWB w' g h (fun i => if i = s then cenT (F a0) T else Z i) ∧ OnB g w w' := by
  have hgl := RW.lt hR
  obtain ⟨ad, rfl, hc⟩ := hF.cells (by omega)
  have hcw := hc a0 h0
  have hab : (ad.add a0).block ≠ g := by
    have := World.block_lt_of_cell? _ _ hcw
    omega
  have hsh : RW ((w.alloc (.cells #[.int .u64 (T : Int), .slice (some ⟨g, 0, none⟩) h h, .slice (some ad) n cv] 91)).alloc (.cells #[.int .i64 (a0 : Int), .int .i64 (a1 : Int)] 137)) w.heap.size 91 3 (sheetF T (.slice (some ⟨g, 0, none⟩) h h) (.slice (some ad) n cv)) :=
    RW.ext (show RW (w.alloc (.cells #[.int .u64 (T : Int), .slice (some ⟨g, 0, none⟩) h h, .slice (some ad) n cv] 91)) w.heap.size 91 3 (sheetF T (.slice (some ⟨g, 0, none⟩) h h) (.slice (some ad) n cv)) from heap_alloc_new _ _) ((Ext.refl _).alloc _)
  have hpl : ((w.alloc (.cells #[.int .u64 (T : Int), .slice (some ⟨g, 0, none⟩) h h, .slice (some ad) n cv] 91)).alloc (.cells #[.int .i64 (a0 : Int), .int .i64 (a1 : Int)] 137)).cell? ⟨w.heap.size + 1, 0, none⟩ = some (.int .i64 (a0 : Int)) := by
    have := two_at0 (w.alloc (.cells #[.int .u64 (T : Int), .slice (some ⟨g, 0, none⟩) h h, .slice (some ad) n cv] 91)) (.int .i64 (a0 : Int)) (.int .i64 (a1 : Int)) 137
    rwa [show (w.alloc (.cells #[.int .u64 (T : Int), .slice (some ⟨g, 0, none⟩) h h, .slice (some ad) n cv] 91)).heap.size = w.heap.size + 1 by simp] at this
  have kV : Ext w ((w.alloc (.cells #[.int .u64 (T : Int), .slice (some ⟨g, 0, none⟩) h h, .slice (some ad) n cv] 91)).alloc (.cells #[.int .i64 (a0 : Int), .int .i64 (a1 : Int)] 137)) := ((Ext.refl w).alloc _).alloc _
  have hcell := cell_ext (k0.trans kV) hcw
  obtain ⟨y, hy⟩ : ∃ y, y = cenT (F a0) T := ⟨_, rfl⟩
  rw [← hy]
  have HY := Lib.hid hy
  have HU := Lib.hid (RW.ext hR kV)
  generalize F a0 = x at *
  clear hy hR k0 hc hcw hF
  have s0 := hsh.cell (i := 0) (by omega)
  have s1 := hsh.cell (i := 1) (by omega)
  have s2 := hsh.cell (i := 2) (by omega)
  simp only [sheetF] at s0 s1 s2
  clear hsh
  have i0 : (0 : Int) ≤ (s : Int) := by omega
  have i1 : (s : Int) < (h : Int) := by omega
  have j0 : (0 : Int) ≤ (a0 : Int) := by omega
  have j1 : (a0 : Int) < (n : Int) := by omega
  have hne : w.heap.size ≠ g := by omega
  have hne1 : w.heap.size + 1 ≠ g := by omega
  go_enter Tryz.func58, Tryz.ntmps58
  go_wp2_with fail
  generalize ((w.alloc (.cells #[.int .u64 (T : Int), .slice (some ⟨g, 0, none⟩) h h, .slice (some ad) n cv] 91)).alloc (.cells #[.int .i64 (a0 : Int), .int .i64 (a1 : Int)] 137)) = V at *
  have kk : Ext V V := Ext.refl V
  go_region_held3 (fun w' => w'.cell? ⟨w.heap.size, 0, none⟩ = some (.int .u64 (T : Int)) ∧ w'.cell? ⟨w.heap.size, 1, none⟩ = some (.slice (some ⟨g, 0, none⟩) h h) ∧ w'.cell? ⟨w.heap.size, 2, none⟩ = some (.slice (some ad) n cv) ∧ w'.cell? ⟨w.heap.size + 1, 0, none⟩ = some (.int .i64 (a0 : Int)) ∧ w'.cell? (ad.add a0) = some (.int .u64 (x : Int))) (go_keep)
    (first
      | (go_at_call 99; refine (centerB x T y _ HY hl hT).mono ?_; rintro e5 w5 ⟨rfl, k5⟩; replace kk : Ext V w5 := (by first | exact Ext.trans kk k5 | exact Ext.trans (Ext.drew kk) k5); have d0 := cell_ext kk s0; have d1 := cell_ext kk s1; have d2 := cell_ext kk s2; have d3 := cell_ext kk hpl; have d4 := cell_ext kk hcell; have hu5 := RW.ext HU.out kk; have d5 := RW.cell hu5 hs; have d6 := RW.frozen hu5 s; have f0 := far_block (g := g) (i := s) (u := .int .i64 y) hne d0; have f1 := far_block (g := g) (i := s) (u := .int .i64 y) hne d1; have f2 := far_block (g := g) (i := s) (u := .int .i64 y) hne d2; have f3 := far_block (g := g) (i := s) (u := .int .i64 y) hne1 d3; have f4 := far_block (g := g) (i := s) (u := .int .i64 y) hab d4)
      | fail)
  all_goals
    have hu6 : IWB (w5.setCell ⟨g, s, none⟩ (.int .i64 y)) g h (fun i => if i = s then y else Z i) := (RW.set hu5 hs (.int .i64 y)).congr fun j _ => by by_cases e : j = s <;> simp [e]
    have kr6 := ((OnB.of (p := g) kV).ext kk).set s (.int .i64 y)
    clear hu5
    go_wp2
    go_end0
    exact ⟨rfl, hu6, kr6⟩
/-- What is taken. -/
def takenF (n T : Nat) (F : Nat → Nat) (k i : Nat) : Int := if i < k then cenT (F (atB n i)) T else 0
set_option maxHeartbeats 4000000 in
theorem overTake_any (T cv n g pg : Nat) (Av : Option Addr) (F : Nat → Nat) (w0 w : World) (k0 : Ext w0 w) (hg0 : w0.heap.size ≤ g) (hn : Sml n) (hP : RW w0 pg 137 (n / 2 * 2) (plF n)) (hF : FX w0 Av n cv F) (hl : Hid (∀ i, i < n → F i < 18446744073709551616)) (hR : IWB w g (n / 2) (fun _ => 0)) (hT : T < 18446744073709551616) :
    Calls Tryz.prog 50 #[.slice (some ⟨pg, 0, none⟩) (n / 2) (n / 2), .func (.func 58) #[.agg #[.int .u64 (T : Int), .slice (some ⟨g, 0, none⟩) (n / 2) (n / 2), .slice Av n cv]] #[]] w fun ee w' => ee = .returned (.tuple #[]) ∧ IWB w' g (n / 2) (takenF n T F (n / 2)) ∧ OnB g w w' := by
  have hle := sml_le hn
  have HP := Lib.hid hP
  have HF := Lib.hid hF
  have HK := Lib.hid k0
  have hl1 : 2 * (n / 2) ≤ n := by omega
  have hl2 : n ≤ 2 * (n / 2) := by omega
  clear hn hP hF k0
  generalize hh : n / 2 = h at *
  clear hh
  go_enter Tryz.func50, Tryz.ntmps50
  go_wp2
  go_loopw [8] (fun i wr => ∃ k : Nat, k ≤ h ∧ i = .int .i64 (k : Int) ∧ IWB wr g h (takenF n T F k) ∧ OnB g w wr) (fun i _ => h - (intOf i).toNat)
  case atStart => exact ⟨0, by omega, rfl, RW.congr hR fun j _ => by unfold takenF; rw [if_neg (by omega)], OnB.refl _ _⟩
  case round =>
    obtain ⟨k, hk, rfl, hu, kr⟩ := hrel
    clear hR
    by_cases hlt : k < h
    · have kx : Ext w0 wr := HK.out.onB kr hg0
      have hpr := HP.out.ext kx
      have c0 := hpr.cell (i := k * 2) (by omega)
      have c1 := hpr.cell (i := k * 2 + 1) (by omega)
      rw [plF, plN, if_pos (by omega), show k * 2 / 2 = k by omega] at c0
      rw [plF, plN, if_neg (by omega), show (k * 2 + 1) / 2 = k by omega] at c1
      have hal := at_lt (n := n) (by omega) k
      have HS := Lib.hid (show ∀ i, i < h → (if i = k then cenT (F (atB n k)) T else takenF n T F k i) = takenF n T F (k + 1) i from fun i _ => by
        unfold takenF
        by_cases e : i = k
        · subst e; rw [if_pos rfl, if_pos (by omega)]
        · rw [if_neg e]
          by_cases e2 : i < k
          · rw [if_pos e2, if_pos (by omega)]
          · rw [if_neg e2, if_neg (by omega)])
      clear hpr
      obtain ⟨a0, ha0⟩ : ∃ a0, a0 = atB n k := ⟨_, rfl⟩
      obtain ⟨a1, ha1⟩ : ∃ a1, a1 = n - 1 - atB n k := ⟨_, rfl⟩
      rw [← ha1] at c1
      rw [← ha0] at c0 hal HS
      clear ha0 ha1
      have i0 : (0 : Int) ≤ (k : Int) := by omega
      have i1 : (k : Int) < (h : Int) := by omega
      go_wp2_with fail
      have kz : Ext wr (wr.alloc (.cells #[.int .i64 (a0 : Int), .int .i64 (a1 : Int)] 137)) := (Ext.refl _).alloc _
      refine (take_any T h cv n g a0 a1 k Av F _ w0 _ (kx.trans kz) hg0 HF.out (hl.out a0 hal) (RW.ext hu kz) hlt (by omega) hal (by omega) hT).mono ?_
      rintro ee w2 ⟨rfl, hu2, k2⟩
      have hu3 : IWB w2 g h (takenF n T F (k + 1)) := RW.congr hu2 fun i hi => congrArg (Value.int .i64) (HS.out i hi)
      have k3 := kr.trans ((OnB.of kz).trans k2)
      clear hu2 hu
      go_wp2
      exact ⟨⟨k + 1, by omega, by go_num, hu3, k3⟩, by simp [intOf]; omega⟩
    · obtain rfl : k = h := by omega
      go_wp2
      go_end0
      exact ⟨rfl, hu, kr⟩
set_option maxHeartbeats 4000000 in
theorem unpack_any (p n T k r v c : Nat) (A : Option Addr) (f : Nat → Nat) (w : World) (hB : Bt w p n T k r v) (hn : Sml n) (hX : FX w A n c f) (hf : Hid (∀ i, i < n → f i < T)) (hT0 : 2 ≤ T) (hT : T < 1073741824) :
    Calls Tryz.prog 18 #[.pointer (some ⟨p, 0, none⟩), .slice A n c] w fun ee w' => ∃ (g : Nat) (F : Nat → Nat), ee = .returned (.tuple #[.slice (some ⟨g, 0, none⟩) (n / 2) (n / 2), .int .i64 0]) ∧ IWB w' g (n / 2) (fun i => cenT (F (atB n i)) T) ∧ Hid (∀ i, i < n → F i < T ∧ M (T : Int) (F i : Int) (vals (r : Int) n (fun j => (f j : Int)) i)) ∧ Ext w w' := by
  have hle := sml_le hn
  have HB := Lib.hid hB
  have HN := Lib.hid hn
  have HX := Lib.hid hX
  obtain ⟨pg, t, h0, h1, h2, h3, h4, h5⟩ := hB.ex
  have H4 := Lib.hid h4
  have H5 := Lib.hid h5
  clear hB hn h4 h5 hX
  have hmk := make_int (n / 2) (by omega)
  rw [show ((n / 2 : Nat) : Int) = (n : Int) / 2 by omega] at hmk
  have hl1 : 2 * (n / 2) ≤ n := by omega
  have hl2 : n ≤ 2 * (n / 2) := by omega
  go_enter Tryz.func18, Tryz.ntmps18
  go_wp2_with fail
  refine (isNone_no p n T k r v w HB.out (by omega) (by omega)).mono ?_
  rintro e w' ⟨rfl, rfl⟩
  go_wp2_with fail
  refine (values_any t n T k r v A c f w H5.out HX.out hf).mono ?_
  rintro e w1 ⟨gv, F, rfl, huv, hF, k1⟩
  have HUV := Lib.hid huv
  have HFL := Lib.hid (show ∀ i, i < n → F i < 18446744073709551616 from fun i hi => by have := (hF.out i hi).1; omega)
  clear huv
  have g0 := cell_ext k1 h0
  have g1 := cell_ext k1 h1
  have kk : Ext w1 w1 := Ext.refl w1
  go_wp2_with fail
  go_region_held3 (fun w' => w'.cell? ⟨p, 0, none⟩ = some (.int .u64 (T : Int)) ∧ w'.cell? ⟨p, 1, none⟩ = some (.slice (some ⟨pg, 0, none⟩) (n / 2) (n / 2))) (go_keep)
    (first
      | fail)
  · have hU : IWB ((w1.alloc (.cells (newI (n / 2)) 3)).alloc (.cells #[.int .u64 (T : Int), .slice (some ⟨w1.heap.size, 0, none⟩) (n / 2) (n / 2), .slice (some ⟨gv, 0, none⟩) n n] 91)).drew w1.heap.size (n / 2) (fun _ => 0) := RW.ext (newI_rw w1 (n / 2)) (((Ext.refl _).alloc _).drew)
    have hS : RW ((w1.alloc (.cells (newI (n / 2)) 3)).alloc (.cells #[.int .u64 (T : Int), .slice (some ⟨w1.heap.size, 0, none⟩) (n / 2) (n / 2), .slice (some ⟨gv, 0, none⟩) n n] 91)).drew (w1.heap.size + 1) 91 3 (sheetF T (.slice (some ⟨w1.heap.size, 0, none⟩) (n / 2) (n / 2)) (.slice (some ⟨gv, 0, none⟩) n n)) := by
      have hq : RW ((w1.alloc (.cells (newI (n / 2)) 3)).alloc (.cells #[.int .u64 (T : Int), .slice (some ⟨w1.heap.size, 0, none⟩) (n / 2) (n / 2), .slice (some ⟨gv, 0, none⟩) n n] 91)) (w1.alloc (.cells (newI (n / 2)) 3)).heap.size 91 3 (sheetF T (.slice (some ⟨w1.heap.size, 0, none⟩) (n / 2) (n / 2)) (.slice (some ⟨gv, 0, none⟩) n n)) := heap_alloc_new _ _
      rw [show (w1.alloc (.cells (newI (n / 2)) 3)).heap.size = w1.heap.size + 1 by simp] at hq
      exact RW.ext hq ((Ext.refl _).drew)
    have kV : Ext w1 ((w1.alloc (.cells (newI (n / 2)) 3)).alloc (.cells #[.int .u64 (T : Int), .slice (some ⟨w1.heap.size, 0, none⟩) (n / 2) (n / 2), .slice (some ⟨gv, 0, none⟩) n n] 91)).drew := (((Ext.refl w1).alloc _).alloc _).drew
    generalize ((w1.alloc (.cells (newI (n / 2)) 3)).alloc (.cells #[.int .u64 (T : Int), .slice (some ⟨w1.heap.size, 0, none⟩) (n / 2) (n / 2), .slice (some ⟨gv, 0, none⟩) n n] 91)).drew = V at *
    have hne : w1.heap.size + 1 ≠ w1.heap.size := by omega
    have hgw : w1.heap.size ≤ w1.heap.size := by omega
    have s0 : V.cell? ⟨w1.heap.size + 1, 0, none⟩ = some (.int .u64 (T : Int)) := hS.cell (i := 0) (by omega)
    have s1 : V.cell? ⟨w1.heap.size + 1, 1, none⟩ = some (.slice (some ⟨w1.heap.size, 0, none⟩) (n / 2) (n / 2)) := hS.cell (i := 1) (by omega)
    have s2 : V.cell? ⟨w1.heap.size + 1, 2, none⟩ = some (.slice (some ⟨gv, 0, none⟩) n n) := hS.cell (i := 2) (by omega)
    have v1 := cell_ext kV g1
    have HU := Lib.hid hU
    have HS := Lib.hid hS
    clear hU hS
    have kk : Ext V V := Ext.refl V
    go_wp2_with fail
    go_region_held3 (fun w' => w'.cell? ⟨p, 1, none⟩ = some (.slice (some ⟨pg, 0, none⟩) (n / 2) (n / 2)) ∧ w'.cell? ⟨w1.heap.size + 1, 0, none⟩ = some (.int .u64 (T : Int)) ∧ w'.cell? ⟨w1.heap.size + 1, 1, none⟩ = some (.slice (some ⟨w1.heap.size, 0, none⟩) (n / 2) (n / 2)) ∧ w'.cell? ⟨w1.heap.size + 1, 2, none⟩ = some (.slice (some ⟨gv, 0, none⟩) n n)) (go_keep)
      (first
        | (go_at_call 50; refine (overTake_any T n n (w1.heap.size) pg (some ⟨gv, 0, none⟩) F w1 _ (kV.trans (by first | exact kk | exact Ext.drew kk)) hgw HN.out (H4.out.ext k1) (UW.fx HUV.out) HFL (RW.ext HU.out (by first | exact kk | exact Ext.drew kk)) (by omega)).mono ?_; rintro e5 w5 ⟨rfl, hu5, k5⟩; have kz : Ext w1 w5 := (Ext.onB (kV.trans (by first | exact kk | exact Ext.drew kk)) k5 hgw); have ko : OnB (w1.heap.size) V w5 := (OnB.of (by first | exact kk | exact Ext.drew kk)).trans k5; have hS5 := ko.rw_ HS.out hne; have d1 := cell_ext kz g1; have d3 : w5.cell? ⟨w1.heap.size + 1, 0, none⟩ = some (.int .u64 (T : Int)) := hS5.cell (i := 0) (by omega); have d4 : w5.cell? ⟨w1.heap.size + 1, 1, none⟩ = some (.slice (some ⟨w1.heap.size, 0, none⟩) (n / 2) (n / 2)) := hS5.cell (i := 1) (by omega); have d5 : w5.cell? ⟨w1.heap.size + 1, 2, none⟩ = some (.slice (some ⟨gv, 0, none⟩) n n) := hS5.cell (i := 2) (by omega))
        | fail)
    all_goals
      have HU5 := Lib.hid hu5
      clear hu5
      have kf := k1.trans kz
      go_wp2
      go_ret2
      exact ⟨_, F, rfl, RW.congr HU5.out fun i hi => by rw [takenF, if_pos hi], hF, kf⟩
  · have hU : IWB ((w1.alloc (.cells #[.int .u64 (T : Int), .slice (some ⟨w1.heap.size + 1, 0, none⟩) (n / 2) (n / 2), .slice (some ⟨gv, 0, none⟩) n n] 91)).alloc (.cells (newI (n / 2)) 3)).drew (w1.heap.size + 1) (n / 2) (fun _ => 0) := by
      have hq := newI_rw (w1.alloc (.cells #[.int .u64 (T : Int), .slice (some ⟨w1.heap.size + 1, 0, none⟩) (n / 2) (n / 2), .slice (some ⟨gv, 0, none⟩) n n] 91)) (n / 2)
      rw [show (w1.alloc (.cells #[.int .u64 (T : Int), .slice (some ⟨w1.heap.size + 1, 0, none⟩) (n / 2) (n / 2), .slice (some ⟨gv, 0, none⟩) n n] 91)).heap.size = w1.heap.size + 1 by simp] at hq
      exact RW.ext hq ((Ext.refl _).drew)
    have hS : RW ((w1.alloc (.cells #[.int .u64 (T : Int), .slice (some ⟨w1.heap.size + 1, 0, none⟩) (n / 2) (n / 2), .slice (some ⟨gv, 0, none⟩) n n] 91)).alloc (.cells (newI (n / 2)) 3)).drew w1.heap.size 91 3 (sheetF T (.slice (some ⟨w1.heap.size + 1, 0, none⟩) (n / 2) (n / 2)) (.slice (some ⟨gv, 0, none⟩) n n)) :=
      RW.ext (show RW (w1.alloc (.cells #[.int .u64 (T : Int), .slice (some ⟨w1.heap.size + 1, 0, none⟩) (n / 2) (n / 2), .slice (some ⟨gv, 0, none⟩) n n] 91)) w1.heap.size 91 3 (sheetF T (.slice (some ⟨w1.heap.size + 1, 0, none⟩) (n / 2) (n / 2)) (.slice (some ⟨gv, 0, none⟩) n n)) from heap_alloc_new _ _) (((Ext.refl _).alloc _).drew)
    have kV : Ext w1 ((w1.alloc (.cells #[.int .u64 (T : Int), .slice (some ⟨w1.heap.size + 1, 0, none⟩) (n / 2) (n / 2), .slice (some ⟨gv, 0, none⟩) n n] 91)).alloc (.cells (newI (n / 2)) 3)).drew := (((Ext.refl w1).alloc _).alloc _).drew
    generalize ((w1.alloc (.cells #[.int .u64 (T : Int), .slice (some ⟨w1.heap.size + 1, 0, none⟩) (n / 2) (n / 2), .slice (some ⟨gv, 0, none⟩) n n] 91)).alloc (.cells (newI (n / 2)) 3)).drew = V at *
    have hne : w1.heap.size ≠ w1.heap.size + 1 := by omega
    have hgw : w1.heap.size ≤ w1.heap.size + 1 := by omega
    have s0 : V.cell? ⟨w1.heap.size, 0, none⟩ = some (.int .u64 (T : Int)) := hS.cell (i := 0) (by omega)
    have s1 : V.cell? ⟨w1.heap.size, 1, none⟩ = some (.slice (some ⟨w1.heap.size + 1, 0, none⟩) (n / 2) (n / 2)) := hS.cell (i := 1) (by omega)
    have s2 : V.cell? ⟨w1.heap.size, 2, none⟩ = some (.slice (some ⟨gv, 0, none⟩) n n) := hS.cell (i := 2) (by omega)
    have v1 := cell_ext kV g1
    have HU := Lib.hid hU
    have HS := Lib.hid hS
    clear hU hS
    have kk : Ext V V := Ext.refl V
    go_wp2_with fail
    go_region_held3 (fun w' => w'.cell? ⟨p, 1, none⟩ = some (.slice (some ⟨pg, 0, none⟩) (n / 2) (n / 2)) ∧ w'.cell? ⟨w1.heap.size, 0, none⟩ = some (.int .u64 (T : Int)) ∧ w'.cell? ⟨w1.heap.size, 1, none⟩ = some (.slice (some ⟨w1.heap.size + 1, 0, none⟩) (n / 2) (n / 2)) ∧ w'.cell? ⟨w1.heap.size, 2, none⟩ = some (.slice (some ⟨gv, 0, none⟩) n n)) (go_keep)
      (first
        | (go_at_call 50; refine (overTake_any T n n (w1.heap.size + 1) pg (some ⟨gv, 0, none⟩) F w1 _ (kV.trans (by first | exact kk | exact Ext.drew kk)) hgw HN.out (H4.out.ext k1) (UW.fx HUV.out) HFL (RW.ext HU.out (by first | exact kk | exact Ext.drew kk)) (by omega)).mono ?_; rintro e5 w5 ⟨rfl, hu5, k5⟩; have kz : Ext w1 w5 := (Ext.onB (kV.trans (by first | exact kk | exact Ext.drew kk)) k5 hgw); have ko : OnB (w1.heap.size + 1) V w5 := (OnB.of (by first | exact kk | exact Ext.drew kk)).trans k5; have hS5 := ko.rw_ HS.out hne; have d1 := cell_ext kz g1; have d3 : w5.cell? ⟨w1.heap.size, 0, none⟩ = some (.int .u64 (T : Int)) := hS5.cell (i := 0) (by omega); have d4 : w5.cell? ⟨w1.heap.size, 1, none⟩ = some (.slice (some ⟨w1.heap.size + 1, 0, none⟩) (n / 2) (n / 2)) := hS5.cell (i := 1) (by omega); have d5 : w5.cell? ⟨w1.heap.size, 2, none⟩ = some (.slice (some ⟨gv, 0, none⟩) n n) := hS5.cell (i := 2) (by omega))
        | fail)
    all_goals
      have HU5 := Lib.hid hu5
      clear hu5
      have kf := k1.trans kz
      go_wp2
      go_ret2
      exact ⟨_, F, rfl, RW.congr HU5.out fun i hi => by rw [takenF, if_pos hi], hF, kf⟩
end Go.Proofs.YtoimbommiheccaaGreatDoor

/-
  What the document's product of two polynomials answers: the product modulo X^n + 1.
-/
namespace Go.Proofs.YtoimbommiheccaaGreatDoor
open Go.RowKit
set_option linter.unusedVariables false
set_option maxRecDepth 100000

/-- One product's share of a coefficient. -/
def shareN (n : Nat) (a b : Nat → Int) (i l m : Nat) : Int := if i + l = m then a i * b l else if i + l = m + n then -(a i * b l) else 0
/-- What has been summed up behind i rows and k products of the next. -/
def sumG (n : Nat) (a b : Nat → Int) (i k m : Nat) : Int := S i (fun i' => S n (fun l => shareN n a b i' l m)) + S k (fun l => shareN n a b i l m)
theorem sumG_zero (n : Nat) (a b : Nat → Int) (m : Nat) : sumG n a b 0 0 m = 0 := rfl
theorem sumG_row (n : Nat) (a b : Nat → Int) (i m : Nat) : sumG n a b i n m = sumG n a b (i + 1) 0 m := by
  unfold sumG; rw [S, S, Int.add_zero]
theorem sumG_next (n : Nat) (a b : Nat → Int) (i k m : Nat) : sumG n a b i (k + 1) m = sumG n a b i k m + shareN n a b i k m := by
  unfold sumG; rw [S, Int.add_assoc]
theorem sumG_all (n : Nat) (a b : Nat → Int) (m : Nat) : sumG n a b n 0 m = nega n a b m := by
  unfold sumG; rw [S, Int.add_zero]; rfl
theorem raddG {y : Nat} (a b q : Nat) (w : World) (hy : Hid (y = (a + b) % q)) (hq0 : 0 < q) (ha : a < 18446744073709551616) (hb : b < 18446744073709551616) (hq : q < 18446744073709551616) :
    Calls Tryz.prog 56 #[.int .u64 (a : Int), .int .u64 (b : Int), .int .u64 (q : Int)] w fun e w' => e = .returned (.int .u64 (y : Int)) ∧ Ext w w' := by
  have h := radd_any (a : Int) (b : Int) (q : Int) w (by omega) (by omega) (by omega) (by omega) (by omega) (by omega)
  rw [addS_pos (by omega), ← Int.natCast_add, ← Int.natCast_emod] at h
  exact h.mono fun e w' ⟨he, hw⟩ => ⟨by rw [hy.out]; exact he, by rw [hw]; exact Ext.refl _⟩
/-- A difference modulo q. -/
def difZ (a b q : Nat) : Nat := (((a : Int) - (b : Int)) % (q : Int)).toNat
theorem difZ_M {a b q : Nat} (hq : 0 < q) : difZ a b q < q ∧ M (q : Int) (difZ a b q : Int) ((a : Int) - (b : Int)) := by
  have h1 := Int.emod_nonneg ((a : Int) - (b : Int)) (show (q : Int) ≠ 0 by omega)
  have h2 := Int.emod_lt_of_pos ((a : Int) - (b : Int)) (show (0 : Int) < (q : Int) by omega)
  unfold difZ
  refine ⟨by omega, ?_⟩
  unfold M
  rw [Int.toNat_of_nonneg h1, Int.emod_emod]
theorem rsubG {y : Nat} (a b q : Nat) (w : World) (hy : Hid (y = difZ a b q)) (hq0 : 0 < q) (ha : a < 18446744073709551616) (hb : b < 18446744073709551616) (hq : q < 18446744073709551616) :
    Calls Tryz.prog 98 #[.int .u64 (a : Int), .int .u64 (b : Int), .int .u64 (q : Int)] w fun e w' => e = .returned (.int .u64 (y : Int)) ∧ Ext w w' := by
  have h := rsub_any (a : Int) (b : Int) (q : Int) w (by omega) (by omega) (by omega) (by omega) (by omega) (by omega)
  have hs : subS (a : Int) (b : Int) (q : Int) = (y : Int) := by
    unfold subS
    rw [if_neg (by omega), hy.out]
    unfold difZ
    rw [Int.toNat_of_nonneg (Int.emod_nonneg _ (by omega))]
  rw [hs] at h
  exact h.mono fun e w' ⟨he, hw⟩ => ⟨he, by rw [hw]; exact Ext.refl _⟩
theorem rmulG {y : Nat} (a b q : Nat) (w : World) (hy : Hid (y = a * b % q)) (hq0 : 0 < q) (ha : a < 18446744073709551616) (hb : b < 18446744073709551616) (hq : q < 18446744073709551616) :
    Calls Tryz.prog 57 #[.int .u64 (a : Int), .int .u64 (b : Int), .int .u64 (q : Int)] w fun e w' => e = .returned (.int .u64 (y : Int)) ∧ Ext w w' :=
  (rmulN a b q w hq0 ha hb hq).mono fun e w' ⟨he, hw⟩ => ⟨by rw [hy.out]; exact he, hw⟩
/-- The sum after one product more. -/
theorem put_next {n q i k p at_ y : Nat} {f f' : Nat → Nat} {F : Nat → Nat} (hi : i < n) (hk : k < n) (hq : 0 < q) (hp : p = f i * f' k % q)
    (hF : ∀ m, m < n → F m < q ∧ M (q : Int) (F m : Int) (sumG n (fun j => (f j : Int)) (fun j => (f' j : Int)) i k m))
    (hy : (i + k < n ∧ at_ = i + k ∧ y = (F at_ + p) % q) ∨ (n ≤ i + k ∧ at_ = i + k - n ∧ y = difZ (F at_) p q)) :
    ∀ m, m < n → (if m = at_ then y else F m) < q ∧ M (q : Int) ((if m = at_ then y else F m : Nat) : Int) (sumG n (fun j => (f j : Int)) (fun j => (f' j : Int)) i (k + 1) m) := fun m hm => by
  have hpM : M (q : Int) (p : Int) ((f i : Int) * (f' k : Int)) := by
    rw [hp, ← Int.natCast_mul]; exact M.nat _
  rw [sumG_next]
  obtain ⟨h1, h2⟩ := hF m hm
  rcases hy with ⟨ha, rfl, rfl⟩ | ⟨ha, rfl, rfl⟩
  · by_cases e : m = i + k
    · subst e
      rw [if_pos rfl]
      refine ⟨Nat.mod_lt _ hq, ?_⟩
      rw [shareN, if_pos rfl]
      refine (M.nat _).trans ?_
      rw [Int.natCast_add]
      exact h2.add hpM
    · rw [if_neg e]
      refine ⟨h1, ?_⟩
      rw [shareN, if_neg (fun h => e h.symm), if_neg (by omega), Int.add_zero]
      exact h2
  · by_cases e : m = i + k - n
    · subst e
      rw [if_pos rfl]
      obtain ⟨d1, d2⟩ := difZ_M (a := F (i + k - n)) (b := p) hq
      refine ⟨d1, ?_⟩
      rw [shareN, if_neg (by omega), if_pos (by omega)]
      refine d2.trans ?_
      rw [Int.sub_eq_add_neg]
      refine h2.add ?_
      have := (M.rfl (q := (q : Int)) (a := -1)).mul hpM
      rwa [Int.neg_one_mul, Int.neg_one_mul] at this
    · rw [if_neg e]
      refine ⟨h1, ?_⟩
      rw [shareN, if_neg (by omega), if_neg (by omega), Int.add_zero]
      exact h2
end Go.Proofs.YtoimbommiheccaaGreatDoor

/-
  What the document's Add answers.
-/
namespace Go.Proofs.YtoimbommiheccaaGreatDoor
open Go.RowKit
set_option linter.unusedVariables false
set_option maxRecDepth 100000

end Go.Proofs.YtoimbommiheccaaGreatDoor
