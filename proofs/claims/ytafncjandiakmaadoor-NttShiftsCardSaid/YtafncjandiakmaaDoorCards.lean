/-
  DERIVED. GIVEN WITH THE SEED: THE CARDS: each row of YtafncjandiakmaaDoorRows.lean that lists a variable, with what it lists TIED to the program's text (the seventh form; the later family's looks); each row that meets fmt, with fmt's text TOLD by the authors' own Lean function (tested against real Go, not proved from fmt's source: count such statements apart). THE CARD IS WHAT COUNTS. Prove the row's statement (the work); the ties are given (YtafncjandiakmaaDoorTie.lean); close each card by the builder's one call (the guide's Derived/Test/ToyasCard.lean, 'card_holds'). Laid BY PROGRAM, IN A SANDBOX (cutbox-door.mjs). By AI agents, Wed Nov 11 2026. No macro, syntax, notation, axiom, sorry.
-/
import Derived.Test.YtafncjandiakmaaDoorRows
import GoSem.ClaimSeven
namespace Go.Proofs.YtafncjandiakmaaDoor
namespace Rows

/-- THE TIED CARD OF 'arraslaw04.NttMakes'. -/
def nttMakesCard : Claim7 := { stood := { row := nttMakesRow, standIns := [], harness := (true, "c27020e5890407b38b248c9558f0e5efa13c1dbed257c12bfad9c03d0045b7fe"), looks := false }, kinds := [], alts := [], laidByText := true, laidKinds := [.data, .data], laidTests := true, laidLooks := .later }
def NttMakesCardSaid : Prop := Claim7.holds Tryd.pinned (.plain (OpenSpec.ofChange nttMakesSpec)) nttMakesCard

/-- THE TIED CARD OF 'arraslaw04.NttProducts'. -/
def nttProductsCard : Claim7 := { stood := { row := nttProductsRow, standIns := [], harness := (true, "c27020e5890407b38b248c9558f0e5efa13c1dbed257c12bfad9c03d0045b7fe"), looks := false }, kinds := [], alts := [], laidByText := true, laidKinds := [.data, .data], laidTests := true, laidLooks := .later }
def NttProductsCardSaid : Prop := Claim7.holds Tryd.pinned (.plain (OpenSpec.ofChange nttProductsSpec)) nttProductsCard

/-- THE TIED CARD OF 'arraslaw04.NttBack'. -/
def nttBackCard : Claim7 := { stood := { row := nttBackRow, standIns := [], harness := (true, "c27020e5890407b38b248c9558f0e5efa13c1dbed257c12bfad9c03d0045b7fe"), looks := false }, kinds := [], alts := [], laidByText := true, laidKinds := [.data, .data], laidTests := true, laidLooks := .later }
def NttBackCardSaid : Prop := Claim7.holds Tryd.pinned (.plain (OpenSpec.ofChange nttBackSpec)) nttBackCard

/-- THE TIED CARD OF 'arraslaw04.NttValues'. -/
def nttValuesCard : Claim7 := { stood := { row := nttValuesRow, standIns := [], harness := (true, "c27020e5890407b38b248c9558f0e5efa13c1dbed257c12bfad9c03d0045b7fe"), looks := false }, kinds := [], alts := [], laidByText := true, laidKinds := [.data, .data], laidTests := true, laidLooks := .later }
def NttValuesCardSaid : Prop := Claim7.holds Tryd.pinned (.plain (OpenSpec.ofChange nttValuesSpec)) nttValuesCard

/-- THE TIED CARD OF 'arraslaw04.NttNil'. -/
def nttNilCard : Claim7 := { stood := { row := nttNilRow, standIns := [], harness := (true, "c27020e5890407b38b248c9558f0e5efa13c1dbed257c12bfad9c03d0045b7fe"), looks := false }, kinds := [], alts := [], laidByText := true, laidKinds := [.data, .data], laidTests := true, laidLooks := .later }
def NttNilCardSaid : Prop := Claim7.holds Tryd.pinned (.plain (OpenSpec.ofChange nttNilSpec)) nttNilCard

/-- THE TIED CARD OF 'arraslaw04.NttShifts'. -/
def nttShiftsCard : Claim7 := { stood := { row := nttShiftsRow, standIns := [], harness := (true, "c27020e5890407b38b248c9558f0e5efa13c1dbed257c12bfad9c03d0045b7fe"), looks := false }, kinds := [], alts := [], laidByText := true, laidKinds := [.data, .data], laidTests := true, laidLooks := .later }
def NttShiftsCardSaid : Prop := Claim7.holds Tryd.pinned (.plain (OpenSpec.ofChange nttShiftsSpec)) nttShiftsCard

/-- THE SECOND FORM's CARD OF 'arraslaw04.NttMakes'. -/
def nttMakesUptoCard : Claim7 := { stood := { row := nttMakesUptoRow, standIns := [], harness := (true, "c27020e5890407b38b248c9558f0e5efa13c1dbed257c12bfad9c03d0045b7fe"), looks := false }, kinds := [], alts := [], laidByText := true, laidKinds := [.data, .data], laidTests := true, laidLooks := .later }
def NttMakesUptoCardSaid : Prop := Claim7.holds Tryd.pinned (.plain (OpenSpec.upto nttMakesSpec)) nttMakesUptoCard

/-- THE SECOND FORM's CARD OF 'arraslaw04.NttProducts'. -/
def nttProductsUptoCard : Claim7 := { stood := { row := nttProductsUptoRow, standIns := [], harness := (true, "c27020e5890407b38b248c9558f0e5efa13c1dbed257c12bfad9c03d0045b7fe"), looks := false }, kinds := [], alts := [], laidByText := true, laidKinds := [.data, .data], laidTests := true, laidLooks := .later }
def NttProductsUptoCardSaid : Prop := Claim7.holds Tryd.pinned (.plain (OpenSpec.upto nttProductsSpec)) nttProductsUptoCard

/-- THE SECOND FORM's CARD OF 'arraslaw04.NttBack'. -/
def nttBackUptoCard : Claim7 := { stood := { row := nttBackUptoRow, standIns := [], harness := (true, "c27020e5890407b38b248c9558f0e5efa13c1dbed257c12bfad9c03d0045b7fe"), looks := false }, kinds := [], alts := [], laidByText := true, laidKinds := [.data, .data], laidTests := true, laidLooks := .later }
def NttBackUptoCardSaid : Prop := Claim7.holds Tryd.pinned (.plain (OpenSpec.upto nttBackSpec)) nttBackUptoCard

/-- THE SECOND FORM's CARD OF 'arraslaw04.NttValues'. -/
def nttValuesUptoCard : Claim7 := { stood := { row := nttValuesUptoRow, standIns := [], harness := (true, "c27020e5890407b38b248c9558f0e5efa13c1dbed257c12bfad9c03d0045b7fe"), looks := false }, kinds := [], alts := [], laidByText := true, laidKinds := [.data, .data], laidTests := true, laidLooks := .later }
def NttValuesUptoCardSaid : Prop := Claim7.holds Tryd.pinned (.plain (OpenSpec.upto nttValuesSpec)) nttValuesUptoCard

/-- THE SECOND FORM's CARD OF 'arraslaw04.NttNil'. -/
def nttNilUptoCard : Claim7 := { stood := { row := nttNilUptoRow, standIns := [], harness := (true, "c27020e5890407b38b248c9558f0e5efa13c1dbed257c12bfad9c03d0045b7fe"), looks := false }, kinds := [], alts := [], laidByText := true, laidKinds := [.data, .data], laidTests := true, laidLooks := .later }
def NttNilUptoCardSaid : Prop := Claim7.holds Tryd.pinned (.plain (OpenSpec.upto nttNilSpec)) nttNilUptoCard

/-- THE SECOND FORM's CARD OF 'arraslaw04.NttShifts'. -/
def nttShiftsUptoCard : Claim7 := { stood := { row := nttShiftsUptoRow, standIns := [], harness := (true, "c27020e5890407b38b248c9558f0e5efa13c1dbed257c12bfad9c03d0045b7fe"), looks := false }, kinds := [], alts := [], laidByText := true, laidKinds := [.data, .data], laidTests := true, laidLooks := .later }
def NttShiftsUptoCardSaid : Prop := Claim7.holds Tryd.pinned (.plain (OpenSpec.upto nttShiftsSpec)) nttShiftsUptoCard
end Rows
end Go.Proofs.YtafncjandiakmaaDoor
