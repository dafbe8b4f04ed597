/-
  DERIVED. GIVEN WITH THE SEED: THE CARDS: each row of YtcnogmhkffohgaaGreatDoorRows.lean that lists a variable, with what it lists TIED to the program's text (the seventh form; the later family's looks); each row that meets fmt, with fmt's text TOLD by the authors' own Lean function (tested against real Go, not proved from fmt's source: count such statements apart). THE CARD IS WHAT COUNTS. Prove the row's statement (the work); the ties are given (YtcnogmhkffohgaaGreatDoorTie.lean); close each card by the builder's one call (the guide's Derived/Test/ToyasCard.lean, 'card_holds'). Laid BY PROGRAM, IN A SANDBOX (cutbox-door.mjs). By AI agents, Wed Nov 11 2026. No macro, syntax, notation, axiom, sorry.
-/
import Derived.Test.YtcnogmhkffohgaaGreatDoorRows
import GoSem.ClaimSeven
namespace Go.Proofs.YtcnogmhkffohgaaGreatDoor
namespace Rows

/-- THE TIED CARD OF 'arraslaw10.ScaleOrder'. -/
def scaleOrderCard : Claim7 := { stood := { row := scaleOrderRow, standIns := [], harness := (true, "25f55588fedfc229c5f157ec9bf687054cea444b32caa1155491286fa9676d34"), looks := false }, kinds := [], alts := [], laidByText := true, laidKinds := [.data, .data], laidTests := true, laidLooks := .later }
def ScaleOrderCardSaid : Prop := Claim7.holds Tryz.pinned (.plain (OpenSpec.ofChange scaleOrderSpec)) scaleOrderCard

/-- THE SECOND FORM's CARD OF 'arraslaw10.ScaleOrder'. -/
def scaleOrderUptoCard : Claim7 := { stood := { row := scaleOrderUptoRow, standIns := [], harness := (true, "25f55588fedfc229c5f157ec9bf687054cea444b32caa1155491286fa9676d34"), looks := false }, kinds := [], alts := [], laidByText := true, laidKinds := [.data, .data], laidTests := true, laidLooks := .later }
def ScaleOrderUptoCardSaid : Prop := Claim7.holds Tryz.pinned (.plain (OpenSpec.upto scaleOrderSpec)) scaleOrderUptoCard
end Rows
end Go.Proofs.YtcnogmhkffohgaaGreatDoor
