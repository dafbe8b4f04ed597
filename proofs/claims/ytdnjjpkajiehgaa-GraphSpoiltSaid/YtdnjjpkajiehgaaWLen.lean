/-
  What math/bits Len64 and LeadingZeros64 answer, for every word: the number of its bits, and what is lacking to 64.
-/
import Derived.Test.YtdnjjpkajiehgaaRows
import Derived.Tactics2
import Derived.Lib.Strings
import Derived.Lib.Slices
import Derived.Lib.Small
import Derived.Lib.Walk
import Derived.Lib.BitFns
namespace Go.Proofs.Ytdnjjpkajiehgaa
set_option linter.unusedVariables false
set_option maxRecDepth 100000

/-- The number of bits, cut into its last byte and what is behind it. -/
theorem lenB (x y : Int) (k : Nat) (hy : y.toNat = x.toNat / 2 ^ k) (h : 2 ^ k ≤ x.toNat) (hx : x.toNat < 18446744073709551616) (h0 : 0 ≤ y) (h1 : y ≤ 255) :
    Lib.len8 y = Lib.bitLen x.toNat - k ∧ (k : Int) ≤ Lib.bitLen x.toNat ∧ (Lib.bitLen x.toNat : Int) ≤ 64 := by
  have l := Lib.bitLen_le x.toNat 64 (by omega) (by omega)
  rw [Lib.len8_of y h0 h1, hy]
  rw [Lib.bitLen_shift k x.toNat h hx] at l ⊢
  omega
theorem lenB0 (x : Int) (h0 : 0 ≤ x) (h1 : x ≤ 255) : Lib.len8 x = Lib.bitLen x.toNat ∧ (Lib.bitLen x.toNat : Int) ≤ 64 := by
  have l := Lib.bitLen_le x.toNat 64 (by omega) (by omega)
  rw [Lib.len8_of x h0 h1]
  omega

set_option maxHeartbeats 4000000 in
set_option maxRecDepth 100000 in
theorem len64_any (x : Int) (w : World) (h0 : 0 ≤ x) (h1 : x < 18446744073709551616) :
    Calls Try.prog 121 #[.int .u64 x] w fun e w' => e = .returned (.int .i64 (Lib.bitLen x.toNat)) ∧ w = w' := by
  go_enter Try.func121, Try.ntmps121
  go_wp2
  all_goals (go_ret; refine ⟨congrArg Ending.returned (congrArg (Value.int IntKind.i64) ?_), rfl⟩)
  · have := lenB x (x / 4294967296 / 65536 / 256 % 256) 56 (by omega) (by omega) (by omega) (by omega) (by omega); omega
  · have := lenB x (x / 4294967296 / 65536 % 256) 48 (by omega) (by omega) (by omega) (by omega) (by omega); omega
  · have := lenB x (x / 4294967296 / 256 % 256) 40 (by omega) (by omega) (by omega) (by omega) (by omega); omega
  · have := lenB x (x / 4294967296 % 256) 32 (by omega) (by omega) (by omega) (by omega) (by omega); omega
  · have := lenB x (x / 65536 / 256 % 256) 24 (by omega) (by omega) (by omega) (by omega) (by omega); omega
  · have := lenB x (x / 65536 % 256) 16 (by omega) (by omega) (by omega) (by omega) (by omega); omega
  · have := lenB x (x / 256 % 256) 8 (by omega) (by omega) (by omega) (by omega) (by omega); omega
  · have := lenB0 (x % 256) (by omega) (by omega); rw [show x % 256 = x by omega] at this ⊢; omega

theorem bitLen64 (x : Int) (h0 : 0 ≤ x) (h1 : x < 18446744073709551616) : (Lib.bitLen x.toNat : Int) ≤ 64 := by
  have := Lib.bitLen_le x.toNat 64 (by omega) (by omega)
  omega
/-- Of a word that isn't 0: shifted by what is lacking to 64 bits its highest bit is 1. -/
theorem bitLen_two (n : Nat) (h : n ≠ 0) (h1 : n < 2 ^ 64) : 1 ≤ Lib.bitLen n ∧ 2 ^ (Lib.bitLen n - 1) ≤ n ∧ n < 2 ^ Lib.bitLen n := by
  induction n using Nat.strongRecOn with
  | _ n ih =>
    have e := Lib.bitLen_half n h h1
    by_cases h2 : n / 2 = 0
    · have hn : n = 1 := by omega
      subst hn
      decide
    · obtain ⟨a, b, c⟩ := ih (n / 2) (by omega) h2 (by omega)
      have p : 2 ^ (Lib.bitLen n - 1) = 2 * 2 ^ (Lib.bitLen (n / 2) - 1) := by
        rw [e, show 1 + Lib.bitLen (n / 2) - 1 = (Lib.bitLen (n / 2) - 1) + 1 by omega, Nat.pow_succ]; omega
      have q : 2 ^ (Lib.bitLen n) = 2 * 2 ^ (Lib.bitLen (n / 2)) := by
        rw [e, Nat.pow_add]
      rw [p, q]
      omega
/-- How far a word that isn't 0 is shifted till its highest bit is 1. -/
theorem shift_of (m : Int) (m0 : 0 < m) (m1 : m < 18446744073709551616) :
    ∃ s : Nat, (64 - Lib.bitLen m.toNat : Int) = s ∧ s < 64 ∧ 9223372036854775808 ≤ m * 2 ^ s ∧ m * 2 ^ s < 18446744073709551616 := by
  obtain ⟨n, rfl⟩ := Int.eq_ofNat_of_zero_le (Int.le_of_lt m0)
  obtain ⟨a, b, c⟩ := bitLen_two n (by omega) (by omega)
  have l := Lib.bitLen_le n 64 (by omega) (by omega)
  rw [Int.toNat_natCast]
  generalize Lib.bitLen n = k at *
  refine ⟨64 - k, by omega, by omega, ?_, ?_⟩
  · have h := Nat.mul_le_mul_right (2 ^ (64 - k)) b
    rw [← Nat.pow_add, show k - 1 + (64 - k) = 63 by omega] at h
    have : ((2 ^ 63 : Nat) : Int) ≤ ((n * 2 ^ (64 - k) : Nat) : Int) := Int.ofNat_le.2 h
    simpa using this
  · have h := Nat.mul_lt_mul_of_pos_right c (Nat.two_pow_pos (64 - k))
    rw [← Nat.pow_add, show k + (64 - k) = 64 by omega] at h
    have : ((n * 2 ^ (64 - k) : Nat) : Int) < ((2 ^ 64 : Nat) : Int) := Int.ofNat_lt.2 h
    simpa using this
end Go.Proofs.Ytdnjjpkajiehgaa
