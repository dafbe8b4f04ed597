/-
  What passes of package prime, and strong of the reference, answer.
-/
import Derived.Test.YtpgcapobbmbchaaDoorPTz
namespace Go.Proofs.YtpgcapobbmbchaaDoor
open Go.RowKit
set_option linter.unusedVariables false

theorem powS_nat (a d n : Nat) (hn : 0 < n) : powS a d n = ((a ^ d % n : Nat) : Int) := by
  unfold powS
  rw [if_neg (by omega), Int.toNat_natCast, Int.natCast_emod, Int.natCast_pow]
theorem mulS_nat (a b n : Nat) (hn : 0 < n) : mulS a b n = ((a * b % n : Nat) : Int) := by
  unfold mulS
  rw [if_neg (by omega), Int.natCast_emod, Int.natCast_mul]
theorem powN (a d n : Nat) (w : World) (hn : 0 < n) (a1 : a < 18446744073709551616) (d1 : d < 18446744073709551616) (n1 : n < 18446744073709551616) :
    Calls Tryd.prog 134 #[.int .u64 (a : Int), .int .u64 (d : Int), .int .u64 (n : Int)] w fun e w' => e = .returned (.int .u64 ((a ^ d % n : Nat) : Int)) ∧ Ext w w' := by
  have := pow_any a d n w (by omega) (by omega) (by omega) (by omega) (by omega) (by omega)
  rw [powS_nat a d n hn] at this
  exact this.mono fun e w' ⟨he, q, hw⟩ => ⟨he, by rw [hw]; exact (Ext.refl w).drewN q⟩
theorem rpowN (a d n : Nat) (w : World) (hn : 0 < n) (a1 : a < 18446744073709551616) (d1 : d < 18446744073709551616) (n1 : n < 18446744073709551616) :
    Calls Tryd.prog 122 #[.int .u64 (a : Int), .int .u64 (d : Int), .int .u64 (n : Int)] w fun e w' => e = .returned (.int .u64 ((a ^ d % n : Nat) : Int)) ∧ Ext w w' := by
  have := rpow_any a d n w (by omega) (by omega) (by omega) (by omega) (by omega) (by omega)
  rw [powS_nat a d n hn] at this
  exact this.mono fun e w' ⟨he, q, hw⟩ => ⟨he, by rw [hw]; exact (Ext.refl w).drewN q⟩
theorem mulN (a b n : Nat) (w : World) (hn : 0 < n) (a1 : a < 18446744073709551616) (d1 : b < 18446744073709551616) (n1 : n < 18446744073709551616) :
    Calls Tryd.prog 139 #[.int .u64 (a : Int), .int .u64 (b : Int), .int .u64 (n : Int)] w fun e w' => e = .returned (.int .u64 ((a * b % n : Nat) : Int)) ∧ Ext w w' := by
  have := mul_any a b n w (by omega) (by omega) (by omega) (by omega) (by omega) (by omega)
  rw [mulS_nat a b n hn] at this
  exact this.mono fun e w' ⟨he, q, hw⟩ => ⟨he, by rw [hw]; exact (Ext.refl w).drewN q⟩
theorem rmulN (a b n : Nat) (w : World) (hn : 0 < n) (a1 : a < 18446744073709551616) (d1 : b < 18446744073709551616) (n1 : n < 18446744073709551616) :
    Calls Tryd.prog 60 #[.int .u64 (a : Int), .int .u64 (b : Int), .int .u64 (n : Int)] w fun e w' => e = .returned (.int .u64 ((a * b % n : Nat) : Int)) ∧ Ext w w' := by
  have := rmul_any a b n w (by omega) (by omega) (by omega) (by omega) (by omega) (by omega)
  rw [mulS_nat a b n hn] at this
  exact this.mono fun e w' ⟨he, q, hw⟩ => ⟨he, by rw [hw]; exact (Ext.refl w).drewN q⟩

/-- Whether n, of the odd part d and s twos, passes the test by a. -/
def passS (n d s a : Nat) : Bool := cond (Nat.beq (a ^ d % n) 1) true (hit n s (a ^ d % n))
theorem hit_yes {n s x : Nat} (h : x + 1 = n) : hit n (s + 1) x = true := by
  unfold hit; rw [beq_iff, decide_eq_true h, cond_true]
theorem hit_no {n s x : Nat} (h : x + 1 ≠ n) : hit n (s + 1) x = hit n s (x * x % n) := by
  rw [hit, beq_iff, decide_eq_false h, cond_false]

set_option maxHeartbeats 1000000 in
theorem passes_any (n d s a : Nat) (w : World) (hn0 : 2 ≤ n) (hn : n < 18446744073709551616) (hd : d < 18446744073709551616) (hs : s < 64) (ha : a < 18446744073709551616) :
    Calls Tryd.prog 146 #[.agg #[.int .u64 (n : Int), .int .u64 (d : Int), .int .i64 (s : Int)], .int .u64 (a : Int)] w fun e w' => e = .returned (.bool (passS n d s a)) ∧ Ext w w' := by
  have hx := Nat.mod_lt (a ^ d) (show 0 < n by omega)
  have HP := Lib.hid (show passS n d s a = cond (Nat.beq (a ^ d % n) 1) true (hit n s (a ^ d % n)) by rfl)
  go_enter Tryd.func146, Tryd.ntmps146
  go_wp2_with fail
  refine (powN a d n _ (by omega) ha hd hn).mono ?_
  rintro e w1 ⟨rfl, k1⟩
  have kw : Ext w w1 := ((Ext.refl w).alloc _).trans k1
  have c0 : w1.cell? ⟨w.heap.size, 0, none⟩ = some (.int .u64 (n : Int)) := kept_cell k1 (by simp) (by simp)
  have c1 : w1.cell? ⟨w.heap.size, 1, none⟩ = some (.int .u64 (d : Int)) := kept_cell k1 (by simp) (by simp)
  have c2 : w1.cell? ⟨w.heap.size, 2, none⟩ = some (.int .i64 (s : Int)) := kept_cell k1 (by simp) (by simp)
  have hsz : w.heap.size < w1.heap.size := World.block_lt_of_cell? _ _ c0
  have HK := Lib.hid kw
  clear k1 kw
  generalize a ^ d % n = x at *
  by_cases hx1 : x = 1
  · subst hx1
    have HP1 := Lib.hid (show passS n d s a = true by rw [HP.out]; rfl)
    go_wp2
    go_ret
    exact ⟨by rw [HP1.out]; rfl, HK.out⟩
  · have hxb : ((x : Int) == 1) = false := by simp; omega
    have HP1 := Lib.hid (show passS n d s a = hit n s x by rw [HP.out, beq_iff, decide_eq_false hx1, cond_false])
    clear HP
    go_wp2
    go_loopw [5, 16] (fun p i wr => ∃ k y : Nat, k ≤ s ∧ y < n ∧ i = .int .i64 (k : Int) ∧ p = .int .u64 (y : Int) ∧ Ext w1 wr ∧ Hid (passS n d s a = hit n (s - k) y)) (fun _ i _ => s - (intOf i).toNat)
    case atStart => exact ⟨0, x, by omega, hx, rfl, rfl, Ext.refl _, HP1⟩
    case round =>
      obtain ⟨k, y, hk, hy, rfl, rfl, kr, hp⟩ := hrel
      have c0' := kept_cell kr hsz c0
      by_cases hks : k < s
      · by_cases hyn : y + 1 = n
        · have HT := Lib.hid (show passS n d s a = true by rw [hp.out, show s - k = (s - k - 1) + 1 by omega, hit_yes hyn])
          have hyb : ((y : Int) == (n : Int) - 1) = true := by simp; omega
          go_wp2
          go_ret
          exact ⟨by rw [HT.out]; rfl, HK.out.trans kr⟩
        · have HT := Lib.hid (show passS n d s a = hit n (s - (k + 1)) (y * y % n) by rw [hp.out, show s - k = (s - (k + 1)) + 1 by omega, hit_no hyn])
          have hyb : ((y : Int) == (n : Int) - 1) = false := by simp; omega
          have hlt := Nat.mod_lt (y * y) (show 0 < n by omega)
          go_wp2_with fail
          refine (mulN y y n _ (by omega) (by omega) (by omega) hn).mono ?_
          rintro e w2 ⟨rfl, k2⟩
          generalize y * y % n = z at *
          go_wp2
          exact ⟨⟨k + 1, z, by omega, hlt, by go_num, rfl, kr.trans k2, HT⟩, by simp [intOf] <;> omega⟩
      · have HT := Lib.hid (show passS n d s a = false by rw [hp.out, show s - k = 0 by omega]; rfl)
        go_wp2
        go_ret
        exact ⟨by rw [HT.out]; rfl, HK.out.trans kr⟩

/-- The reference's. -/
theorem ctz_odd {f x : Nat} (h : x % 2 = 1) : ctzF (f + 1) x = 0 := by
  unfold ctzF; rw [beq_iff, decide_eq_true h, cond_true]
theorem ctz_even {f x : Nat} (h : x % 2 ≠ 1) : ctzF (f + 1) x = 1 + ctzF f (x / 2) := by
  rw [ctzF, beq_iff, decide_eq_false h, cond_false]
theorem strongS_def (n a : Nat) : strongS n a = passS n (oddS n) (tzS n) a := rfl
set_option maxHeartbeats 1000000 in
theorem strong_any (n a : Nat) (w : World) (hn0 : 3 ≤ n) (hodd : n % 2 = 1) (hn : n < 18446744073709551616) (ha : a < 18446744073709551616) :
    Calls Tryd.prog 126 #[.int .u64 (n : Int), .int .u64 (a : Int)] w fun e w' => e = .returned (.bool (strongS n a)) ∧ Ext w w' := by
  have htz := (ctzF_lt (n - 1) (by omega) (by omega)).1
  have HTZ := Lib.hid (show ctzF 64 (n - 1) = tzS n by unfold tzS; rfl)
  rw [HTZ.out] at htz
  have HO := Lib.hid (show oddS n = (n - 1) / 2 ^ tzS n by rw [oddS])
  go_enter Tryd.func126, Tryd.ntmps126
  go_wp2
  go_loop [5, 6] (fun dv sv => ∃ k D : Nat, k < 64 ∧ 0 < D ∧ D < 18446744073709551616 ∧ dv = .int .u64 (D : Int) ∧ sv = .int .i64 (k : Int) ∧ Hid (D = (n - 1) / 2 ^ k) ∧ Hid (k + ctzF (64 - k) D = tzS n)) (fun dv _ => (intOf dv).toNat)
  case atStart => exact ⟨0, n - 1, by omega, by omega, by omega, u64_eq (by omega), rfl, Lib.hid (by rw [Nat.pow_zero, Nat.div_one]), Lib.hid (by rw [Nat.zero_add]; exact HTZ.out)⟩
  case round =>
    obtain ⟨k, D, hk, hD0, hD1, rfl, rfl, hd, hz⟩ := hrel
    by_cases hDo : D % 2 = 1
    · have hzz := hz.out
      rw [show 64 - k = (63 - k) + 1 by omega, ctz_odd hDo, Nat.add_zero] at hzz
      have hdd := hd.out
      rw [hzz, ← HO.out] at hdd
      have HS := Lib.hid (strongS_def n a)
      have hb : ((D : Int) % 2 == 0) = false := by simp; omega
      have hs1 : 0 < k := by
        rcases Nat.eq_zero_or_pos k with h0 | h0
        · have := hd.out
          rw [h0, Nat.pow_zero, Nat.div_one] at this
          omega
        · exact h0
      rw [← hzz, ← hdd] at HS
      clear hzz hdd hz hd HO HTZ htz
      have hx := Nat.mod_lt (a ^ D) (show 0 < n by omega)
      go_wp2_with fail
      refine (rpowN a D n _ (by omega) ha hD1 hn).mono ?_
      rintro e w1 ⟨rfl, k1⟩
      have HP := Lib.hid (show strongS n a = cond (Nat.beq (a ^ D % n) 1) true (hit n k (a ^ D % n)) by rw [HS.out]; rfl)
      clear HS
      generalize a ^ D % n = x at *
      by_cases hx1 : x = 1
      · subst hx1
        have HP1 := Lib.hid (show strongS n a = true by rw [HP.out]; rfl)
        go_wp2
        go_ret
        exact ⟨by rw [HP1.out]; rfl, k1⟩
      · have hxb : ((x : Int) == 1) = false := by simp; omega
        by_cases hxn : x + 1 = n
        · have HP1 := Lib.hid (show strongS n a = true by rw [HP.out, beq_iff, decide_eq_false hx1, cond_false, show k = (k - 1) + 1 by omega, hit_yes hxn])
          have hyb : ((x : Int) == (n : Int) - 1) = true := by simp; omega
          go_wp2
          go_ret
          exact ⟨by rw [HP1.out]; rfl, k1⟩
        · have HP1 := Lib.hid (show strongS n a = hit n (k - 1) (x * x % n) by rw [HP.out, beq_iff, decide_eq_false hx1, cond_false, show k = (k - 1) + 1 by omega, hit_no hxn, Nat.add_sub_cancel])
          have hyb : ((x : Int) == (n : Int) - 1) = false := by simp; omega
          clear HP
          go_wp2
          go_loopw [7, 8] (fun p i wr => ∃ j y : Nat, 1 ≤ j ∧ j ≤ k ∧ y < n ∧ i = .int .i64 (j : Int) ∧ p = .int .u64 (y : Int) ∧ Ext w1 wr ∧ Hid (strongS n a = hit n (k - j) (y * y % n))) (fun _ i _ => k - (intOf i).toNat)
          case atStart => exact ⟨1, x, by omega, by omega, hx, rfl, rfl, Ext.refl _, HP1⟩
          case round =>
            obtain ⟨j, y, hj1, hjk, hy, rfl, rfl, kr, hp⟩ := hrel
            by_cases hlt : j < k
            · have hyl := Nat.mod_lt (y * y) (show 0 < n by omega)
              go_wp2_with fail
              refine (rmulN y y n _ (by omega) (by omega) (by omega) hn).mono ?_
              rintro e w2 ⟨rfl, k2⟩
              have HY := Lib.hid (show strongS n a = hit n (k - j) (y * y % n) from hp.out)
              clear hp
              generalize y * y % n = z at *
              by_cases hzn : z + 1 = n
              · have HT := Lib.hid (show strongS n a = true by rw [HY.out, show k - j = (k - j - 1) + 1 by omega, hit_yes hzn])
                have hzb : ((z : Int) == (n : Int) - 1) = true := by simp; omega
                go_wp2
                go_ret
                exact ⟨by rw [HT.out]; rfl, k1.trans (kr.trans k2)⟩
              · have HT := Lib.hid (show strongS n a = hit n (k - (j + 1)) (z * z % n) by rw [HY.out, show k - j = (k - (j + 1)) + 1 by omega, hit_no hzn])
                have hzb : ((z : Int) == (n : Int) - 1) = false := by simp; omega
                go_wp2
                exact ⟨⟨j + 1, z, by omega, by omega, hyl, by go_num, rfl, kr.trans k2, HT⟩, by simp [intOf] <;> omega⟩
            · have HT := Lib.hid (show strongS n a = false by rw [hp.out, show k - j = 0 by omega]; rfl)
              go_wp2
              go_ret
              exact ⟨by rw [HT.out]; rfl, k1.trans kr⟩
    · have hb : ((D : Int) % 2 == 0) = true := by simp; omega
      have HD := Lib.hid (show D / 2 = (n - 1) / 2 ^ (k + 1) by rw [hd.out, Nat.div_div_eq_div_mul, Nat.pow_succ])
      have HZ := Lib.hid (show k + 1 + ctzF (64 - (k + 1)) (D / 2) = tzS n by
        have := hz.out
        rw [show 64 - k = (64 - (k + 1)) + 1 by omega, ctz_even hDo] at this
        omega)
      have hk63 : k + 1 < 64 := by
        have := HZ.out
        omega
      go_wp2
      exact ⟨⟨k + 1, D / 2, hk63, by omega, by omega, by go_num, by go_num, HD, HZ⟩, by simp [intOf] <;> omega⟩
end Go.Proofs.YtpgcapobbmbchaaDoor
