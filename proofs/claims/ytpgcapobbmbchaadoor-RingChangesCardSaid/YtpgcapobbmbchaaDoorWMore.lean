/-
  What the calls of package word, and of the reference of layer 1, answer, for every word: products, powers, inverses, centered and lifted numbers, the greatest common divisor.
-/
import Derived.Test.YtpgcapobbmbchaaDoorWWalk
import Derived.Test.YtpgcapobbmbchaaDoorWMath2
namespace Go.Proofs.YtpgcapobbmbchaaDoor
open Go.RowKit
set_option linter.unusedVariables false

set_option maxHeartbeats 1000000 in
theorem rmul_any (a b m : Int) (w : World) (a0 : 0 ≤ a) (a1 : a < 18446744073709551616) (b0 : 0 ≤ b) (b1 : b < 18446744073709551616) (m0 : 0 ≤ m) (m1 : m < 18446744073709551616) :
    Calls Tryd.prog 60 #[.int .u64 a, .int .u64 b, .int .u64 m] w (Qt (.int .u64 (mulS a b m)) w) := by
  by_cases hm : m = 0
  · subst hm
    go_enter Tryd.func60, Tryd.ntmps60
    go_wp2
    go_ret
    exact Qt.mk0 _ _
  · have hm0 : 0 < m := by omega
    have hmb : (m == 0) = false := by simpa using hm
    have H := Lib.hid (mulS_pos (a := a) (b := b) hm)
    have r0 := Int.emod_nonneg a hm
    have r1 := Int.emod_lt_of_pos a hm0
    have s0 := Int.emod_nonneg b hm
    have s1 := Int.emod_lt_of_pos b hm0
    by_cases hs : a % m < 4294967296 ∧ b % m < 4294967296
    · obtain ⟨hs1, hs2⟩ := hs
      have p := prod_bound (a % m) (b % m) r0 (by omega) s0 (by omega)
      have q0 := Int.emod_nonneg (a % m * (b % m)) hm
      have q1 := Int.emod_lt_of_pos (a % m * (b % m)) hm0
      clear hm
      go_enter Tryd.func60, Tryd.ntmps60
      go_wp2
      go_quiet (fail)
      go_wp2
      go_ret
      exact Qt.eqN (u64_eq (by rw [H.out, ← Int.mul_emod]))
    · have hinit := Lib.hid (mulTo_zero a b m b0 b1)
      clear hm
      by_cases hs1 : a % m < 4294967296
      · have hs2 : decide (b % m < 4294967296) = false := by simp; omega
        clear hs
        go_enter Tryd.func60, Tryd.ntmps60
        go_wp2
        go_loop [7, 8] (fun x i => ∃ k : Nat, k ≤ 64 ∧ i = .int .i64 k ∧ x = .int .u64 (mulTo a b m k)) (fun _ i => 64 - (intOf i).toNat)
        case atStart => exact ⟨0, by omega, rfl, by rw [hinit.out]⟩
        case round =>
          obtain ⟨k, hk, rfl, rfl⟩ := hrel
          have hx := mulTo_lt a b m k hm0
          by_cases hlt : k < 64
          · have hz := bits_first_word b0 b1 hlt
            have ha := addS_lt (a := mulTo a b m k) (b := mulTo a b m k) hm0
            by_cases hb : b / 2 ^ (63 - k) % 2 = 1
            · have hbit : (bits BinOp.and IntKind.u64 (b / 2 ^ (63 - k)) 1 == 1) = true := by rw [and_one _ hz.1 hz.2]; simpa using hb
              have HB := Lib.hid (mulTo_one a b m k hlt hm0 hb)
              clear hb
              go_wp2_with (go_at_call 59; refine (radd_any _ _ _ _ (by omega) (by omega) (by omega) (by omega) (by omega) (by omega)).mono ?_; rintro e w' ⟨rfl, rfl⟩)
              exact ⟨⟨k + 1, by omega, by go_num, u64_eq HB.out⟩, by simp [intOf]; omega⟩
            · have hb0 : b / 2 ^ (63 - k) % 2 = 0 := by omega
              have hbit : (bits BinOp.and IntKind.u64 (b / 2 ^ (63 - k)) 1 == 1) = false := by rw [and_one _ hz.1 hz.2]; simpa using hb
              have HB := Lib.hid (mulTo_not a b m k hlt hm0 hb0)
              clear hb hb0
              go_wp2_with (go_at_call 59; refine (radd_any _ _ _ _ (by omega) (by omega) (by omega) (by omega) (by omega) (by omega)).mono ?_; rintro e w' ⟨rfl, rfl⟩)
              exact ⟨⟨k + 1, by omega, by go_num, u64_eq HB.out⟩, by simp [intOf]; omega⟩
          · have hk64 : k = 64 := by omega
            subst hk64
            have HD := Lib.hid (mulTo_done a b m hm0)
            go_wp2
            go_ret
            exact Qt.eq0 (u64_eq HD.out)
      · have hs2 : decide (a % m < 4294967296) = false := by simp; omega
        clear hs
        go_enter Tryd.func60, Tryd.ntmps60
        go_wp2
        go_loop [7, 8] (fun x i => ∃ k : Nat, k ≤ 64 ∧ i = .int .i64 k ∧ x = .int .u64 (mulTo a b m k)) (fun _ i => 64 - (intOf i).toNat)
        case atStart => exact ⟨0, by omega, rfl, by rw [hinit.out]⟩
        case round =>
          obtain ⟨k, hk, rfl, rfl⟩ := hrel
          have hx := mulTo_lt a b m k hm0
          by_cases hlt : k < 64
          · have hz := bits_first_word b0 b1 hlt
            have ha := addS_lt (a := mulTo a b m k) (b := mulTo a b m k) hm0
            by_cases hb : b / 2 ^ (63 - k) % 2 = 1
            · have hbit : (bits BinOp.and IntKind.u64 (b / 2 ^ (63 - k)) 1 == 1) = true := by rw [and_one _ hz.1 hz.2]; simpa using hb
              have HB := Lib.hid (mulTo_one a b m k hlt hm0 hb)
              clear hb
              go_wp2_with (go_at_call 59; refine (radd_any _ _ _ _ (by omega) (by omega) (by omega) (by omega) (by omega) (by omega)).mono ?_; rintro e w' ⟨rfl, rfl⟩)
              exact ⟨⟨k + 1, by omega, by go_num, u64_eq HB.out⟩, by simp [intOf]; omega⟩
            · have hb0 : b / 2 ^ (63 - k) % 2 = 0 := by omega
              have hbit : (bits BinOp.and IntKind.u64 (b / 2 ^ (63 - k)) 1 == 1) = false := by rw [and_one _ hz.1 hz.2]; simpa using hb
              have HB := Lib.hid (mulTo_not a b m k hlt hm0 hb0)
              clear hb hb0
              go_wp2_with (go_at_call 59; refine (radd_any _ _ _ _ (by omega) (by omega) (by omega) (by omega) (by omega) (by omega)).mono ?_; rintro e w' ⟨rfl, rfl⟩)
              exact ⟨⟨k + 1, by omega, by go_num, u64_eq HB.out⟩, by simp [intOf]; omega⟩
          · have hk64 : k = 64 := by omega
            subst hk64
            have HD := Lib.hid (mulTo_done a b m hm0)
            go_wp2
            go_ret
            exact Qt.eq0 (u64_eq HD.out)

set_option maxHeartbeats 1000000 in
theorem pow_any (a n m : Int) (w : World) (a0 : 0 ≤ a) (a1 : a < 18446744073709551616) (n0 : 0 ≤ n) (n1 : n < 18446744073709551616) (m0 : 0 ≤ m) (m1 : m < 18446744073709551616) :
    Calls Tryd.prog 134 #[.int .u64 a, .int .u64 n, .int .u64 m] w (Qt (.int .u64 (powS a n m)) w) := by
  by_cases hm : m = 0
  · subst hm
    go_enter Tryd.func134, Tryd.ntmps134
    go_wp2
    go_ret
    exact Qt.mk0 _ _
  · have hm0 : 0 < m := by omega
    have hmb : (m == 0) = false := by simpa using hm
    have o0 := Int.emod_nonneg 1 hm
    have o1 := Int.emod_lt_of_pos 1 hm0
    have hst := Lib.hid (powInv_start a n m a0 a1 n0 n1 hm0)
    clear hm
    go_enter Tryd.func134, Tryd.ntmps134
    go_wp2
    go_loopw [1, 7, 8] (fun nn p s W => ∃ (N P S : Int) (c : Nat), nn = .int .u64 N ∧ p = .int .u64 P ∧ s = .int .u64 S ∧ W = w.drewN c ∧ PowInv a n m N P S) (fun nn _ _ _ => (intOf nn).toNat)
    case atStart => exact ⟨n, 1 % m, a, 0, rfl, rfl, rfl, rfl, hst.out⟩
    case round =>
      obtain ⟨N, P, S, c, rfl, rfl, rfl, rfl, hinv⟩ := hrel
      obtain ⟨N0, N1, P0, P1, S0, S1⟩ := hinv.bounds m1
      by_cases hN : 0 < N
      · have hq := mulS_lt (a := S) (b := S) hm0
        have hp := mulS_lt (a := P) (b := S) hm0
        by_cases hb : N % 2 = 1
        · have hbit : (bits BinOp.and IntKind.u64 N 1 == 1) = true := by rw [and_one _ N0 N1]; simpa using hb
          have HB := Lib.hid (hinv.odd hm0 m1 hb)
          clear hb
          go_wp2_with (go_at_call 139; refine (mul_any _ _ _ _ (by omega) (by omega) (by omega) (by omega) (by omega) (by omega)).mono ?_; rintro e w' ⟨rfl, c1, rfl⟩)
          exact ⟨⟨_, _, _, _, rfl, rfl, rfl, rfl, HB.out⟩, by simp [intOf]; omega⟩
        · have hb0 : N % 2 = 0 := by omega
          have hbit : (bits BinOp.and IntKind.u64 N 1 == 1) = false := by rw [and_one _ N0 N1]; simpa using hb
          have HB := Lib.hid (hinv.even hm0 m1 hb0)
          clear hb hb0
          go_wp2_with (go_at_call 139; refine (mul_any _ _ _ _ (by omega) (by omega) (by omega) (by omega) (by omega) (by omega)).mono ?_; rintro e w' ⟨rfl, c1, rfl⟩)
          exact ⟨⟨_, _, _, _, rfl, rfl, rfl, rfl, HB.out⟩, by simp [intOf]; omega⟩
      · have HD := Lib.hid (hinv.done hm0 (by omega))
        go_wp2
        go_ret
        exact Qt.eqN (u64_eq HD.out)

set_option maxHeartbeats 1000000 in
theorem rpow_any (a n m : Int) (w : World) (a0 : 0 ≤ a) (a1 : a < 18446744073709551616) (n0 : 0 ≤ n) (n1 : n < 18446744073709551616) (m0 : 0 ≤ m) (m1 : m < 18446744073709551616) :
    Calls Tryd.prog 122 #[.int .u64 a, .int .u64 n, .int .u64 m] w (Qt (.int .u64 (powS a n m)) w) := by
  by_cases hm : m = 0
  · subst hm
    go_enter Tryd.func122, Tryd.ntmps122
    go_wp2
    go_ret
    exact Qt.mk0 _ _
  · have hm0 : 0 < m := by omega
    have hmb : (m == 0) = false := by simpa using hm
    have o0 := Int.emod_nonneg 1 hm
    have o1 := Int.emod_lt_of_pos 1 hm0
    have hinit := Lib.hid (powTo_zero a n m n0 n1)
    clear hm
    go_enter Tryd.func122, Tryd.ntmps122
    go_wp2
    go_loopw [7, 8] (fun x i W => ∃ (k c : Nat), k ≤ 64 ∧ i = .int .i64 k ∧ x = .int .u64 (powTo a n m k) ∧ W = w.drewN c) (fun _ i _ => 64 - (intOf i).toNat)
    case atStart => exact ⟨0, 0, by omega, rfl, by rw [hinit.out], rfl⟩
    case round =>
      obtain ⟨k, c, hk, rfl, rfl, rfl⟩ := hrel
      have hx := powTo_lt a n m k hm0
      by_cases hlt : k < 64
      · have hz := bits_first_word n0 n1 hlt
        have ha := mulS_lt (a := powTo a n m k) (b := powTo a n m k) hm0
        by_cases hb : n / 2 ^ (63 - k) % 2 = 1
        · have hbit : (bits BinOp.and IntKind.u64 (n / 2 ^ (63 - k)) 1 == 1) = true := by rw [and_one _ hz.1 hz.2]; simpa using hb
          have HB := Lib.hid (powTo_one a n m k hlt hm0 n0 hb)
          clear hb
          go_wp2_with (go_at_call 60; refine (rmul_any _ _ _ _ (by omega) (by omega) (by omega) (by omega) (by omega) (by omega)).mono ?_; rintro e w' ⟨rfl, c1, rfl⟩)
          exact ⟨⟨k + 1, _, by omega, by go_num, u64_eq HB.out, rfl⟩, by simp [intOf]; omega⟩
        · have hb0 : n / 2 ^ (63 - k) % 2 = 0 := by omega
          have hbit : (bits BinOp.and IntKind.u64 (n / 2 ^ (63 - k)) 1 == 1) = false := by rw [and_one _ hz.1 hz.2]; simpa using hb
          have HB := Lib.hid (powTo_not a n m k hlt hm0 n0 hb0)
          clear hb hb0
          go_wp2_with (go_at_call 60; refine (rmul_any _ _ _ _ (by omega) (by omega) (by omega) (by omega) (by omega) (by omega)).mono ?_; rintro e w' ⟨rfl, c1, rfl⟩)
          exact ⟨⟨k + 1, _, by omega, by go_num, u64_eq HB.out, rfl⟩, by simp [intOf]; omega⟩
      · have hk64 : k = 64 := by omega
        subst hk64
        have HD := Lib.hid (powTo_done a n m hm0)
        go_wp2
        go_ret
        exact Qt.eqN (u64_eq HD.out)
end Go.Proofs.YtpgcapobbmbchaaDoor
