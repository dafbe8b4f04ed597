/-
  The least power of two that isn't less than a number.
-/
import Derived.Test.YtdnjjpkajiehgaaLSlM
import Derived.Test.YtdnjjpkajiehgaaWLen
import Derived.Test.YtdnjjpkajiehgaaPExt
namespace Go.Proofs.Ytdnjjpkajiehgaa
open Go.RowKit
set_option linter.unusedVariables false
set_option maxRecDepth 100000

theorem lenU_any (x : Int) (w : World) (h0 : 0 ≤ x) (h1 : x < 18446744073709551616) :
    Calls Try.prog 83 #[.int .u64 x] w fun e w' => e = .returned (.int .i64 (Lib.bitLen x.toNat)) ∧ w = w' := by
  go_enter Try.func83, Try.ntmps83
  go_wp2_with fail
  refine (len64_any x w h0 h1).mono ?_
  rintro e w1 ⟨rfl, rfl⟩
  go_wp2
  go_ret
  exact ⟨rfl, rfl⟩
theorem pow_tab : ∀ c : Nat, c < 64 → (Lib.bitLen c ≤ 6 ∧ ((2 ^ Lib.bitLen c : Nat) : Int) = powL ((c : Int) + 1)) := by decide
theorem powL_le (c : Int) : 1 ≤ powL c ∧ powL c ≤ 64 := by
  unfold powL
  (repeat' split) <;> omega
theorem pow_any (c : Nat) (w : World) (h0 : 1 ≤ c) (h1 : c ≤ 64) :
    Calls Try.prog 56 #[.int .i64 (c : Int)] w fun e w' => e = .returned (.int .i64 (powL c)) ∧ w = w' := by
  obtain ⟨d, rfl⟩ : ∃ d, c = d + 1 := ⟨c - 1, by omega⟩
  obtain ⟨t0, t1⟩ := pow_tab d (by omega)
  have HT := Lib.hid t1
  clear t1
  have e1 : IntKind.u64.wrap (((d + 1 : Nat) : Int) - 1) = (d : Int) := by rw [IntKind.wrap_u64]; omega
  go_enter Try.func56, Try.ntmps56
  go_wp2_with fail
  refine (lenU_any (d : Int) w (by omega) (by omega)).mono ?_
  rintro e w1 ⟨rfl, rfl⟩
  rw [Int.toNat_natCast]
  generalize Lib.bitLen d = k at *
  go_wp2
  go_ret
  refine ⟨?_, rfl⟩
  show Ending.returned (.int .i64 (wrap64 (2 ^ k))) = _
  have hp := powL_le ((d : Int) + 1)
  rw [show (2 : Int) ^ k = ((2 ^ k : Nat) : Int) by simp, HT.out, show wrap64 (powL ((d : Int) + 1)) = powL ((d : Int) + 1) by unfold wrap64; omega, show ((d + 1 : Nat) : Int) = (d : Int) + 1 by omega]
end Go.Proofs.Ytdnjjpkajiehgaa
