import Derived.Test.YtjikdbcjabopnaaGreatDoorZ29
import Derived.ChangeSame
namespace Go.Proofs.YtjikdbcjabopnaaGreatDoor
open Go.ChangeShapes Go.WideShapes Go.ChangeAt Go.RowKit Go.Joins
set_option linter.unusedVariables false
set_option maxRecDepth 100000
section
variable {H : Type} {enc : TypeId × Value → H}
theorem nat_open {W : World} {v : Value} {d : DataW H} {p : List MemPlace} (h : DataW.Trod enc Tryz.prog W 0 (fun _ => true) true 50 v d p) : ∃ A n c xs, v.cells.toList = [.slice A n c] ∧ NXN W A n c xs := by
 obtain ⟨f, hf⟩ := h
 exact nat_cells hf
end
end Go.Proofs.YtjikdbcjabopnaaGreatDoor
