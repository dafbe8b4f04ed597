import Derived.Test.YtkbcobjhlpjieaaGreatDoorZ11
import Derived.StillTailTactics
import Derived.BigRegion
import Derived.Test.YtkbcobjhlpjieaaGreatDoorZTFft
import Derived.Deep.RegionHeld3
namespace Go.Proofs.YtkbcobjhlpjieaaGreatDoor
open Go.RowKit
set_option linter.unusedVariables false
set_option maxRecDepth 100000
theorem far_cell {w : World} {g i X o : Nat} {v u : Value} (h : w.cell? ⟨X, o, none⟩ = some v) (hne : X ≠ g) : (w.setCell ⟨g, i, none⟩ u).cell? ⟨X, o, none⟩ = some v := by
 rw [set_far]
 ·exact h
 ·intro e; injection e with e1; exact hne e1.symm
theorem UW.below {w w' : World} {g n B : Nat} {f : Nat → Nat} (h : UW w g n f) (k : Ext w w') : UW w' g n f := RW.ext h k
end Go.Proofs.YtkbcobjhlpjieaaGreatDoor
