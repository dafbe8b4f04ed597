/-
  What join of package ntt makes of a list, by either way's factors.
-/
import Derived.Test.YtbpehdfpiembfaaDoorZTProg
import Derived.Test.YtbpehdfpiembfaaDoorZTFft
import Derived.Deep.RegionHeld3
namespace Go.Proofs.YtbpehdfpiembfaaDoor
open Go.RowKit
set_option linter.unusedVariables false
set_option maxRecDepth 100000

theorem far_cell {w : World} {g i X o : Nat} {v u : Value} (h : w.cell? ⟨X, o, none⟩ = some v) (hne : X ≠ g) : (w.setCell ⟨g, i, none⟩ u).cell? ⟨X, o, none⟩ = some v := by
  rw [set_far]
  · exact h
  · intro e; injection e with e1; exact hne e1.symm
theorem midF_lt {q h : Nat} {b f : Nat → Nat} {n P e : Nat} (hq : 0 < q) (hf : ∀ i, i < n → f i < q) (i : Nat) (hi : i < n) : midF q h b f P e i < q := by
  unfold midF
  split
  · exact joinF_lt hq i
  · exact hf i hi
theorem UW.below {w w' : World} {g n B : Nat} {f : Nat → Nat} (h : UW w g n f) (k : Ext w w') : UW w' g n f := RW.ext h k

end Go.Proofs.YtbpehdfpiembfaaDoor
