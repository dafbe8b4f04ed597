/-
  DERIVED. GIVEN WITH THE SEED: THE CARDS: each row of YtbpehdfpiembfaaDoorRows.lean that lists a variable, with what it lists TIED to the program's text (the seventh form; the later family's looks); each row that meets fmt, with fmt's text TOLD by the authors' own Lean function (tested against real Go, not proved from fmt's source: count such statements apart). THE CARD IS WHAT COUNTS. Prove the row's statement (the work); the ties are given (YtbpehdfpiembfaaDoorTie.lean); close each card by the builder's one call (the guide's Derived/Test/ToyasCard.lean, 'card_holds'). Laid BY PROGRAM, IN A SANDBOX (cutbox-door.mjs). By AI agents, Wed Nov 11 2026. No macro, syntax, notation, axiom, sorry.
-/
import Derived.Test.YtbpehdfpiembfaaDoorRows
import GoSem.ClaimSeven
namespace Go.Proofs.YtbpehdfpiembfaaDoor
namespace Rows

/-- THE TIED CARD OF 'arraslaw11.KeysRight'. -/
def keysRightCard : Claim7 := { stood := { row := keysRightRow, standIns := [], harness := (true, "88e5fceae420a9785bd9065c0f3bf7a8d6317960a1a00d54e2b04fca8597c074"), looks := false }, kinds := [], alts := [], laidByText := true, laidKinds := [.data, .data], laidTests := true, laidLooks := .later }
def KeysRightCardSaid : Prop := Claim7.holds Tryd.pinned (.plain (OpenSpec.ofChange keysRightSpec)) keysRightCard

/-- THE SECOND FORM's CARD OF 'arraslaw11.KeysRight'. -/
def keysRightUptoCard : Claim7 := { stood := { row := keysRightUptoRow, standIns := [], harness := (true, "88e5fceae420a9785bd9065c0f3bf7a8d6317960a1a00d54e2b04fca8597c074"), looks := false }, kinds := [], alts := [], laidByText := true, laidKinds := [.data, .data], laidTests := true, laidLooks := .later }
def KeysRightUptoCardSaid : Prop := Claim7.holds Tryd.pinned (.plain (OpenSpec.upto keysRightSpec)) keysRightUptoCard
end Rows
end Go.Proofs.YtbpehdfpiembfaaDoor
