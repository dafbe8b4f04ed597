/-
  DERIVED. GIVEN WITH THE SEED: THE CARDS: each row of YtjikdbcjabopnaaGreatDoorRows.lean that lists a variable, with what it lists TIED to the program's text (the seventh form; the later family's looks); each row that meets fmt, with fmt's text TOLD by the authors' own Lean function (tested against real Go, not proved from fmt's source: count such statements apart). THE CARD IS WHAT COUNTS. Prove the row's statement (the work); the ties are given (YtjikdbcjabopnaaGreatDoorTie.lean); close each card by the builder's one call (the guide's Derived/Test/ToyasCard.lean, 'card_holds'). Laid BY PROGRAM, IN A SANDBOX (cutbox-door.mjs). By AI agents, Wed Nov 11 2026. No macro, syntax, notation, axiom, sorry.
-/
import Derived.Test.YtjikdbcjabopnaaGreatDoorRows
import GoSem.ClaimSeven
namespace Go.Proofs.YtjikdbcjabopnaaGreatDoor
namespace Rows

/-- THE TIED CARD OF 'arraslaw13.EvalSums'. -/
def evalSumsCard : Claim7 := { stood := { row := evalSumsRow, standIns := [], harness := (true, "37a43f591009b8f96dd8bcc9439b214444bbb4e486eb83d8fbeab5f4fc552ab4"), looks := false }, kinds := [], alts := [], laidByText := true, laidKinds := [.data, .data], laidTests := true, laidLooks := .later }
def EvalSumsCardSaid : Prop := Claim7.holds Tryz.pinned (.plain (OpenSpec.ofChange evalSumsSpec)) evalSumsCard

/-- THE TIED CARD OF 'arraslaw13.EvalNil'. -/
def evalNilCard : Claim7 := { stood := { row := evalNilRow, standIns := [], harness := (true, "37a43f591009b8f96dd8bcc9439b214444bbb4e486eb83d8fbeab5f4fc552ab4"), looks := false }, kinds := [], alts := [], laidByText := true, laidKinds := [.data, .data], laidTests := true, laidLooks := .later }
def EvalNilCardSaid : Prop := Claim7.holds Tryz.pinned (.plain (OpenSpec.ofChange evalNilSpec)) evalNilCard

/-- THE TIED CARD OF 'arraslaw14.BoundSums'. -/
def boundSumsCard : Claim7 := { stood := { row := boundSumsRow, standIns := [], harness := (true, "37a43f591009b8f96dd8bcc9439b214444bbb4e486eb83d8fbeab5f4fc552ab4"), looks := false }, kinds := [], alts := [], laidByText := true, laidKinds := [.data, .data], laidTests := true, laidLooks := .later }
def BoundSumsCardSaid : Prop := Claim7.holds Tryz.pinned (.plain (OpenSpec.ofChange boundSumsSpec)) boundSumsCard

/-- THE TIED CARD OF 'arraslaw14.BoundProducts'. -/
def boundProductsCard : Claim7 := { stood := { row := boundProductsRow, standIns := [], harness := (true, "37a43f591009b8f96dd8bcc9439b214444bbb4e486eb83d8fbeab5f4fc552ab4"), looks := false }, kinds := [], alts := [], laidByText := true, laidKinds := [.data, .data], laidTests := true, laidLooks := .later }
def BoundProductsCardSaid : Prop := Claim7.holds Tryz.pinned (.plain (OpenSpec.ofChange boundProductsSpec)) boundProductsCard

/-- THE TIED CARD OF 'arraslaw14.BoundChanges'. -/
def boundChangesCard : Claim7 := { stood := { row := boundChangesRow, standIns := [], harness := (true, "37a43f591009b8f96dd8bcc9439b214444bbb4e486eb83d8fbeab5f4fc552ab4"), looks := false }, kinds := [], alts := [], laidByText := true, laidKinds := [.data, .data], laidTests := true, laidLooks := .later }
def BoundChangesCardSaid : Prop := Claim7.holds Tryz.pinned (.plain (OpenSpec.ofChange boundChangesSpec)) boundChangesCard

/-- THE SECOND FORM's CARD OF 'arraslaw13.EvalSums'. -/
def evalSumsUptoCard : Claim7 := { stood := { row := evalSumsUptoRow, standIns := [], harness := (true, "37a43f591009b8f96dd8bcc9439b214444bbb4e486eb83d8fbeab5f4fc552ab4"), looks := false }, kinds := [], alts := [], laidByText := true, laidKinds := [.data, .data], laidTests := true, laidLooks := .later }
def EvalSumsUptoCardSaid : Prop := Claim7.holds Tryz.pinned (.plain (OpenSpec.upto evalSumsSpec)) evalSumsUptoCard

/-- THE SECOND FORM's CARD OF 'arraslaw13.EvalNil'. -/
def evalNilUptoCard : Claim7 := { stood := { row := evalNilUptoRow, standIns := [], harness := (true, "37a43f591009b8f96dd8bcc9439b214444bbb4e486eb83d8fbeab5f4fc552ab4"), looks := false }, kinds := [], alts := [], laidByText := true, laidKinds := [.data, .data], laidTests := true, laidLooks := .later }
def EvalNilUptoCardSaid : Prop := Claim7.holds Tryz.pinned (.plain (OpenSpec.upto evalNilSpec)) evalNilUptoCard

/-- THE SECOND FORM's CARD OF 'arraslaw14.BoundSums'. -/
def boundSumsUptoCard : Claim7 := { stood := { row := boundSumsUptoRow, standIns := [], harness := (true, "37a43f591009b8f96dd8bcc9439b214444bbb4e486eb83d8fbeab5f4fc552ab4"), looks := false }, kinds := [], alts := [], laidByText := true, laidKinds := [.data, .data], laidTests := true, laidLooks := .later }
def BoundSumsUptoCardSaid : Prop := Claim7.holds Tryz.pinned (.plain (OpenSpec.upto boundSumsSpec)) boundSumsUptoCard

/-- THE SECOND FORM's CARD OF 'arraslaw14.BoundProducts'. -/
def boundProductsUptoCard : Claim7 := { stood := { row := boundProductsUptoRow, standIns := [], harness := (true, "37a43f591009b8f96dd8bcc9439b214444bbb4e486eb83d8fbeab5f4fc552ab4"), looks := false }, kinds := [], alts := [], laidByText := true, laidKinds := [.data, .data], laidTests := true, laidLooks := .later }
def BoundProductsUptoCardSaid : Prop := Claim7.holds Tryz.pinned (.plain (OpenSpec.upto boundProductsSpec)) boundProductsUptoCard

/-- THE SECOND FORM's CARD OF 'arraslaw14.BoundChanges'. -/
def boundChangesUptoCard : Claim7 := { stood := { row := boundChangesUptoRow, standIns := [], harness := (true, "37a43f591009b8f96dd8bcc9439b214444bbb4e486eb83d8fbeab5f4fc552ab4"), looks := false }, kinds := [], alts := [], laidByText := true, laidKinds := [.data, .data], laidTests := true, laidLooks := .later }
def BoundChangesUptoCardSaid : Prop := Claim7.holds Tryz.pinned (.plain (OpenSpec.upto boundChangesSpec)) boundChangesUptoCard
end Rows
end Go.Proofs.YtjikdbcjabopnaaGreatDoor
