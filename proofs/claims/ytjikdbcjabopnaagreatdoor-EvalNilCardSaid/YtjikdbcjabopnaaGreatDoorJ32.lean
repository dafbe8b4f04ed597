import Derived.Test.YtjikdbcjabopnaaGreatDoorJ30
import Derived.Carry
import Derived.ChangeSlices
import Derived.Lib.SmallJoins
import Derived.OpenShut
import Derived.Test.YtjikdbcjabopnaaGreatDoorJ4
import Derived.Deep.QuietTactic
import Derived.BigQuiet
namespace Go.Proofs.YtjikdbcjabopnaaGreatDoor
open Go.RowKit
set_option linter.unusedVariables false
set_option maxRecDepth 100000
theorem bitLen_zero {n : Nat} (h : n = 0) : Go.bitLen n = 0 := by subst h; rfl
theorem bitLen_pos {n : Nat} (h : 0 < n) : 0 < Go.bitLen n := by
 obtain ⟨a, _⟩ := Go.bitLen_spec n
 rcases Nat.eq_zero_or_pos (Go.bitLen n) with h0 | h0
 ·rw [h0] at a; omega
 ·exact h0
section
variable {H : Type} {enc : TypeId × Value → H}
end
theorem bits_half {v : Nat} (h : 0 < v) : Go.bitLen v = Go.bitLen (v / 2) + 1 := by
 obtain ⟨a, b⟩ := Go.bitLen_spec (v / 2)
 rcases Nat.eq_zero_or_pos (v / 2) with h0 | h0
 ·rw [bitLen_zero h0]
  exact (bits_unique (k := 1) (by simp; omega) (by omega) (by omega)).symm
 ·have c := b (by omega)
  have hp := bitLen_pos h0
  refine (bits_unique (k := Go.bitLen (v / 2) + 1) ?_ ?_ (by omega)).symm
  ·rw [Nat.add_sub_cancel]
   have e : 2 ^ Go.bitLen (v / 2) = 2 * 2 ^ (Go.bitLen (v / 2) - 1) := by
    rw [← Nat.pow_succ']; congr 1; omega
   omega
  ·rw [Nat.pow_succ]; omega
end Go.Proofs.YtjikdbcjabopnaaGreatDoor
