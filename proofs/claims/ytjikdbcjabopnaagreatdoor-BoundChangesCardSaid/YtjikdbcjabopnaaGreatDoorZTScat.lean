import Derived.Test.YtjikdbcjabopnaaGreatDoorZ11
import Derived.Test.YtjikdbcjabopnaaGreatDoorZTFft
namespace Go.Proofs.YtjikdbcjabopnaaGreatDoor
open Go.RowKit
set_option linter.unusedVariables false
set_option maxRecDepth 100000
theorem two_le {k : Nat} (h0 : 1 ≤ k) (h1 : k ≤ 9) : 2 ≤ 2 ^ k ∧ 2 ^ k ≤ 512 := by
 rcases (show k = 1 ∨ k = 2 ∨ k = 3 ∨ k = 4 ∨ k = 5 ∨ k = 6 ∨ k = 7 ∨ k = 8 ∨ k = 9 by omega) with rfl | rfl | rfl | rfl | rfl | rfl | rfl | rfl | rfl <;> decide
end Go.Proofs.YtjikdbcjabopnaaGreatDoor
