/-
  DERIVED. GIVEN WITH THE SEED: THE CARDS: each row of YtopbibfpjgjalaaGreatDoorRows.lean that lists a variable, with what it lists TIED to the program's text (the seventh form; the later family's looks); each row that meets fmt, with fmt's text TOLD by the authors' own Lean function (tested against real Go, not proved from fmt's source: count such statements apart). THE CARD IS WHAT COUNTS. Prove the row's statement (the work); the ties are given (YtopbibfpjgjalaaGreatDoorTie.lean); close each card by the builder's one call (the guide's Derived/Test/ToyasCard.lean, 'card_holds'). Laid BY PROGRAM, IN A SANDBOX (cutbox-door.mjs). By AI agents, Wed Nov 11 2026. No macro, syntax, notation, axiom, sorry.
-/
import Derived.Test.YtopbibfpjgjalaaGreatDoorRows
import GoSem.ClaimSeven
namespace Go.Proofs.YtopbibfpjgjalaaGreatDoor
namespace Rows

/-- THE TIED CARD OF 'arraslaw11.KeysAll'. -/
def keysAllCard : Claim7 := { stood := { row := keysAllRow, standIns := [], harness := (true, "d51a92e083b19bdd5507d9fa49e51ed8f41c3667f778e9962071ee1a0008ae22"), looks := false }, kinds := [], alts := [], laidByText := true, laidKinds := [.data, .data], laidTests := true, laidLooks := .later }
def KeysAllCardSaid : Prop := Claim7.holds Tryz.pinned (.plain (OpenSpec.ofChange keysAllSpec)) keysAllCard

/-- THE TIED CARD OF 'arraslaw12.CipherBack'. -/
def cipherBackCard : Claim7 := { stood := { row := cipherBackRow, standIns := [], harness := (true, "d51a92e083b19bdd5507d9fa49e51ed8f41c3667f778e9962071ee1a0008ae22"), looks := false }, kinds := [], alts := [], laidByText := true, laidKinds := [.data, .data], laidTests := true, laidLooks := .later }
def CipherBackCardSaid : Prop := Claim7.holds Tryz.pinned (.plain (OpenSpec.ofChange cipherBackSpec)) cipherBackCard

/-- THE TIED CARD OF 'arraslaw12.CipherTwo'. -/
def cipherTwoCard : Claim7 := { stood := { row := cipherTwoRow, standIns := [], harness := (true, "d51a92e083b19bdd5507d9fa49e51ed8f41c3667f778e9962071ee1a0008ae22"), looks := false }, kinds := [], alts := [], laidByText := true, laidKinds := [.data, .data], laidTests := true, laidLooks := .later }
def CipherTwoCardSaid : Prop := Claim7.holds Tryz.pinned (.plain (OpenSpec.ofChange cipherTwoSpec)) cipherTwoCard

/-- THE SECOND FORM's CARD OF 'arraslaw11.KeysAll'. -/
def keysAllUptoCard : Claim7 := { stood := { row := keysAllUptoRow, standIns := [], harness := (true, "d51a92e083b19bdd5507d9fa49e51ed8f41c3667f778e9962071ee1a0008ae22"), looks := false }, kinds := [], alts := [], laidByText := true, laidKinds := [.data, .data], laidTests := true, laidLooks := .later }
def KeysAllUptoCardSaid : Prop := Claim7.holds Tryz.pinned (.plain (OpenSpec.upto keysAllSpec)) keysAllUptoCard

/-- THE SECOND FORM's CARD OF 'arraslaw12.CipherBack'. -/
def cipherBackUptoCard : Claim7 := { stood := { row := cipherBackUptoRow, standIns := [], harness := (true, "d51a92e083b19bdd5507d9fa49e51ed8f41c3667f778e9962071ee1a0008ae22"), looks := false }, kinds := [], alts := [], laidByText := true, laidKinds := [.data, .data], laidTests := true, laidLooks := .later }
def CipherBackUptoCardSaid : Prop := Claim7.holds Tryz.pinned (.plain (OpenSpec.upto cipherBackSpec)) cipherBackUptoCard

/-- THE SECOND FORM's CARD OF 'arraslaw12.CipherTwo'. -/
def cipherTwoUptoCard : Claim7 := { stood := { row := cipherTwoUptoRow, standIns := [], harness := (true, "d51a92e083b19bdd5507d9fa49e51ed8f41c3667f778e9962071ee1a0008ae22"), looks := false }, kinds := [], alts := [], laidByText := true, laidKinds := [.data, .data], laidTests := true, laidLooks := .later }
def CipherTwoUptoCardSaid : Prop := Claim7.holds Tryz.pinned (.plain (OpenSpec.upto cipherTwoSpec)) cipherTwoUptoCard
end Rows
end Go.Proofs.YtopbibfpjgjalaaGreatDoor
