import Derived.Test.YtjikdbcjabopnaaGreatDoorJ13
import Derived.Test.YtjikdbcjabopnaaGreatDoorJTFft
namespace Go.Proofs.YtjikdbcjabopnaaGreatDoor
open Go.RowKit
set_option linter.unusedVariables false
set_option maxRecDepth 100000
theorem bitLen_top {k : Nat} (h0 : 1 ≤ k) (h1 : k ≤ 9) : Lib.bitLen (2 ^ k - 1) = k := by
 rcases (show k = 1 ∨ k = 2 ∨ k = 3 ∨ k = 4 ∨ k = 5 ∨ k = 6 ∨ k = 7 ∨ k = 8 ∨ k = 9 by omega) with rfl | rfl | rfl | rfl | rfl | rfl | rfl | rfl | rfl <;> decide
theorem two_le {k : Nat} (h0 : 1 ≤ k) (h1 : k ≤ 9) : 2 ≤ 2 ^ k ∧ 2 ^ k ≤ 512 := by
 rcases (show k = 1 ∨ k = 2 ∨ k = 3 ∨ k = 4 ∨ k = 5 ∨ k = 6 ∨ k = 7 ∨ k = 8 ∨ k = 9 by omega) with rfl | rfl | rfl | rfl | rfl | rfl | rfl | rfl | rfl <;> decide
end Go.Proofs.YtjikdbcjabopnaaGreatDoor
