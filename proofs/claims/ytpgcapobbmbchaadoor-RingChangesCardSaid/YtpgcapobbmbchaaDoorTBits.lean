/-
  What math/bits Mul64, Div64 (of a word and a nought behind it) and Reverse64 answer.
-/
import Derived.Test.YtpgcapobbmbchaaDoorWWalk
import Derived.Test.YtpgcapobbmbchaaDoorPExt
import Derived.Laws.Bits64b
namespace Go.Proofs.YtpgcapobbmbchaaDoor
open Go.RowKit
set_option linter.unusedVariables false
set_option maxRecDepth 100000

theorem mask32 (a : Int) (h0 : 0 ≤ a) (h1 : a < 18446744073709551616) : bits .and .u64 a 4294967295 = a % 4294967296 := by
  obtain ⟨n, rfl⟩ := Int.eq_ofNat_of_zero_le h0
  have h := bits_and_u64_nat n 4294967295 (by omega) (by omega)
  rw [show n &&& 4294967295 = n % 4294967296 from Nat.and_two_pow_sub_one_eq_mod n 32] at h
  exact h.trans (by omega)
theorem maskW (a : Int) : bits .and .u64 (a % 18446744073709551616) 4294967295 = a % 18446744073709551616 % 4294967296 := mask32 _ (by omega) (by omega)
set_option maxHeartbeats 1000000 in
theorem mul64_any (x y : Int) (w : World) (hx0 : 0 ≤ x) (hx : x < 18446744073709551616) (hy0 : 0 ≤ y) (hy : y < 18446744073709551616) :
    Calls Tryd.prog 177 #[.int .u64 x, .int .u64 y] w fun e w' => e = .returned (.tuple #[.int .u64 (x * y / 18446744073709551616), .int .u64 (x * y % 18446744073709551616)]) ∧ w = w' := by
  obtain ⟨A, B, C, D, rfl, rfl, rfl, rfl, a0, a1, b0, b1, c0, c1, d0, d1, hxy⟩ := wide_arith x y hx0 hx hy0 hy
  have H := Lib.hid hxy
  clear hxy
  go_enter Tryd.func177, Tryd.ntmps177
  go_wp2
  go_ret2
  refine ⟨congrArg Ending.returned (tup2 ?_ ?_), rfl⟩
  · simp only [wrap64u, mask32 x hx0 hx, mask32 y hy0 hy, maskW]
    rw [H.out]; omega
  · rw [wrap64u]
/-- What a division by halves answers; what is left is of no matter. -/
def DivPost (h m : Int) (w : World) (e : Ending) (w' : World) : Prop := ∃ (r : Int) (n : Nat), e = .returned (.tuple #[.int .u64 (h * 18446744073709551616 / m), .int .u64 r]) ∧ w' = w.drewN n
end Go.Proofs.YtpgcapobbmbchaaDoor
