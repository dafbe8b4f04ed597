/-
  DERIVED. GIVEN WITH THE SEED: THE CARDS: each row of YtcclekboeppcfaaDoorRows.lean that lists a variable, with what it lists TIED to the program's text (the seventh form; the later family's looks); each row that meets fmt, with fmt's text TOLD by the authors' own Lean function (tested against real Go, not proved from fmt's source: count such statements apart). THE CARD IS WHAT COUNTS. Prove the row's statement (the work); the ties are given (YtcclekboeppcfaaDoorTie.lean); close each card by the builder's one call (the guide's Derived/Test/ToyasCard.lean, 'card_holds'). Laid BY PROGRAM, IN A SANDBOX (cutbox-door.mjs). By AI agents, Wed Nov 11 2026. No macro, syntax, notation, axiom, sorry.
-/
import Derived.Test.YtcclekboeppcfaaDoorRows
import GoSem.ClaimSeven
namespace Go.Proofs.YtcclekboeppcfaaDoor
namespace Rows

/-- THE TIED CARD OF 'arraslaw08.ParamChecks'. -/
def paramChecksCard : Claim7 := { stood := { row := paramChecksRow, standIns := [], harness := (true, "83e0b88a4aa196ca5bbd55de8c8253745148b488b965fb8e03c301b486bab146"), looks := false }, kinds := [], alts := [], laidByText := true, laidKinds := [.data, .data], laidTests := true, laidLooks := .later }
def ParamChecksCardSaid : Prop := Claim7.holds Tryd.pinned (.plain (OpenSpec.ofChange paramChecksSpec)) paramChecksCard

/-- THE TIED CARD OF 'arraslaw08.ParamLevels'. -/
def paramLevelsCard : Claim7 := { stood := { row := paramLevelsRow, standIns := [], harness := (true, "83e0b88a4aa196ca5bbd55de8c8253745148b488b965fb8e03c301b486bab146"), looks := false }, kinds := [], alts := [], laidByText := true, laidKinds := [.data, .data], laidTests := true, laidLooks := .later }
def ParamLevelsCardSaid : Prop := Claim7.holds Tryd.pinned (.plain (OpenSpec.ofChange paramLevelsSpec)) paramLevelsCard

/-- THE TIED CARD OF 'arraslaw08.ParamSteps'. -/
def paramStepsCard : Claim7 := { stood := { row := paramStepsRow, standIns := [], harness := (true, "83e0b88a4aa196ca5bbd55de8c8253745148b488b965fb8e03c301b486bab146"), looks := false }, kinds := [], alts := [], laidByText := true, laidKinds := [.data, .data], laidTests := true, laidLooks := .later }
def ParamStepsCardSaid : Prop := Claim7.holds Tryd.pinned (.plain (OpenSpec.ofChange paramStepsSpec)) paramStepsCard

/-- THE TIED CARD OF 'arraslaw08.ParamSame'. -/
def paramSameCard : Claim7 := { stood := { row := paramSameRow, standIns := [], harness := (true, "83e0b88a4aa196ca5bbd55de8c8253745148b488b965fb8e03c301b486bab146"), looks := false }, kinds := [], alts := [], laidByText := true, laidKinds := [.data, .data], laidTests := true, laidLooks := .later }
def ParamSameCardSaid : Prop := Claim7.holds Tryd.pinned (.plain (OpenSpec.ofChange paramSameSpec)) paramSameCard

/-- THE TIED CARD OF 'arraslaw08.ParamRows'. -/
def paramRowsCard : Claim7 := { stood := { row := paramRowsRow, standIns := [], harness := (true, "83e0b88a4aa196ca5bbd55de8c8253745148b488b965fb8e03c301b486bab146"), looks := false }, kinds := [], alts := [], laidByText := true, laidKinds := [.data, .data], laidTests := true, laidLooks := .later }
def ParamRowsCardSaid : Prop := Claim7.holds Tryd.pinned (.plain (OpenSpec.ofChange paramRowsSpec)) paramRowsCard

/-- THE TIED CARD OF 'arraslaw09.BatchPowers'. -/
def batchPowersCard : Claim7 := { stood := { row := batchPowersRow, standIns := [], harness := (true, "83e0b88a4aa196ca5bbd55de8c8253745148b488b965fb8e03c301b486bab146"), looks := false }, kinds := [], alts := [], laidByText := true, laidKinds := [.data, .data], laidTests := true, laidLooks := .later }
def BatchPowersCardSaid : Prop := Claim7.holds Tryd.pinned (.plain (OpenSpec.ofChange batchPowersSpec)) batchPowersCard

/-- THE TIED CARD OF 'arraslaw09.BatchBack'. -/
def batchBackCard : Claim7 := { stood := { row := batchBackRow, standIns := [], harness := (true, "83e0b88a4aa196ca5bbd55de8c8253745148b488b965fb8e03c301b486bab146"), looks := false }, kinds := [], alts := [], laidByText := true, laidKinds := [.data, .data], laidTests := true, laidLooks := .later }
def BatchBackCardSaid : Prop := Claim7.holds Tryd.pinned (.plain (OpenSpec.ofChange batchBackSpec)) batchBackCard

/-- THE TIED CARD OF 'arraslaw09.BatchGoes'. -/
def batchGoesCard : Claim7 := { stood := { row := batchGoesRow, standIns := [], harness := (true, "83e0b88a4aa196ca5bbd55de8c8253745148b488b965fb8e03c301b486bab146"), looks := false }, kinds := [], alts := [], laidByText := true, laidKinds := [.data, .data], laidTests := true, laidLooks := .later }
def BatchGoesCardSaid : Prop := Claim7.holds Tryd.pinned (.plain (OpenSpec.ofChange batchGoesSpec)) batchGoesCard

/-- THE TIED CARD OF 'arraslaw09.BatchNil'. -/
def batchNilCard : Claim7 := { stood := { row := batchNilRow, standIns := [], harness := (true, "83e0b88a4aa196ca5bbd55de8c8253745148b488b965fb8e03c301b486bab146"), looks := false }, kinds := [], alts := [], laidByText := true, laidKinds := [.data, .data], laidTests := true, laidLooks := .later }
def BatchNilCardSaid : Prop := Claim7.holds Tryd.pinned (.plain (OpenSpec.ofChange batchNilSpec)) batchNilCard

/-- THE SECOND FORM's CARD OF 'arraslaw08.ParamChecks'. -/
def paramChecksUptoCard : Claim7 := { stood := { row := paramChecksUptoRow, standIns := [], harness := (true, "83e0b88a4aa196ca5bbd55de8c8253745148b488b965fb8e03c301b486bab146"), looks := false }, kinds := [], alts := [], laidByText := true, laidKinds := [.data, .data], laidTests := true, laidLooks := .later }
def ParamChecksUptoCardSaid : Prop := Claim7.holds Tryd.pinned (.plain (OpenSpec.upto paramChecksSpec)) paramChecksUptoCard

/-- THE SECOND FORM's CARD OF 'arraslaw08.ParamLevels'. -/
def paramLevelsUptoCard : Claim7 := { stood := { row := paramLevelsUptoRow, standIns := [], harness := (true, "83e0b88a4aa196ca5bbd55de8c8253745148b488b965fb8e03c301b486bab146"), looks := false }, kinds := [], alts := [], laidByText := true, laidKinds := [.data, .data], laidTests := true, laidLooks := .later }
def ParamLevelsUptoCardSaid : Prop := Claim7.holds Tryd.pinned (.plain (OpenSpec.upto paramLevelsSpec)) paramLevelsUptoCard

/-- THE SECOND FORM's CARD OF 'arraslaw08.ParamSteps'. -/
def paramStepsUptoCard : Claim7 := { stood := { row := paramStepsUptoRow, standIns := [], harness := (true, "83e0b88a4aa196ca5bbd55de8c8253745148b488b965fb8e03c301b486bab146"), looks := false }, kinds := [], alts := [], laidByText := true, laidKinds := [.data, .data], laidTests := true, laidLooks := .later }
def ParamStepsUptoCardSaid : Prop := Claim7.holds Tryd.pinned (.plain (OpenSpec.upto paramStepsSpec)) paramStepsUptoCard

/-- THE SECOND FORM's CARD OF 'arraslaw08.ParamSame'. -/
def paramSameUptoCard : Claim7 := { stood := { row := paramSameUptoRow, standIns := [], harness := (true, "83e0b88a4aa196ca5bbd55de8c8253745148b488b965fb8e03c301b486bab146"), looks := false }, kinds := [], alts := [], laidByText := true, laidKinds := [.data, .data], laidTests := true, laidLooks := .later }
def ParamSameUptoCardSaid : Prop := Claim7.holds Tryd.pinned (.plain (OpenSpec.upto paramSameSpec)) paramSameUptoCard

/-- THE SECOND FORM's CARD OF 'arraslaw08.ParamRows'. -/
def paramRowsUptoCard : Claim7 := { stood := { row := paramRowsUptoRow, standIns := [], harness := (true, "83e0b88a4aa196ca5bbd55de8c8253745148b488b965fb8e03c301b486bab146"), looks := false }, kinds := [], alts := [], laidByText := true, laidKinds := [.data, .data], laidTests := true, laidLooks := .later }
def ParamRowsUptoCardSaid : Prop := Claim7.holds Tryd.pinned (.plain (OpenSpec.upto paramRowsSpec)) paramRowsUptoCard

/-- THE SECOND FORM's CARD OF 'arraslaw09.BatchPowers'. -/
def batchPowersUptoCard : Claim7 := { stood := { row := batchPowersUptoRow, standIns := [], harness := (true, "83e0b88a4aa196ca5bbd55de8c8253745148b488b965fb8e03c301b486bab146"), looks := false }, kinds := [], alts := [], laidByText := true, laidKinds := [.data, .data], laidTests := true, laidLooks := .later }
def BatchPowersUptoCardSaid : Prop := Claim7.holds Tryd.pinned (.plain (OpenSpec.upto batchPowersSpec)) batchPowersUptoCard

/-- THE SECOND FORM's CARD OF 'arraslaw09.BatchBack'. -/
def batchBackUptoCard : Claim7 := { stood := { row := batchBackUptoRow, standIns := [], harness := (true, "83e0b88a4aa196ca5bbd55de8c8253745148b488b965fb8e03c301b486bab146"), looks := false }, kinds := [], alts := [], laidByText := true, laidKinds := [.data, .data], laidTests := true, laidLooks := .later }
def BatchBackUptoCardSaid : Prop := Claim7.holds Tryd.pinned (.plain (OpenSpec.upto batchBackSpec)) batchBackUptoCard

/-- THE SECOND FORM's CARD OF 'arraslaw09.BatchGoes'. -/
def batchGoesUptoCard : Claim7 := { stood := { row := batchGoesUptoRow, standIns := [], harness := (true, "83e0b88a4aa196ca5bbd55de8c8253745148b488b965fb8e03c301b486bab146"), looks := false }, kinds := [], alts := [], laidByText := true, laidKinds := [.data, .data], laidTests := true, laidLooks := .later }
def BatchGoesUptoCardSaid : Prop := Claim7.holds Tryd.pinned (.plain (OpenSpec.upto batchGoesSpec)) batchGoesUptoCard

/-- THE SECOND FORM's CARD OF 'arraslaw09.BatchNil'. -/
def batchNilUptoCard : Claim7 := { stood := { row := batchNilUptoRow, standIns := [], harness := (true, "83e0b88a4aa196ca5bbd55de8c8253745148b488b965fb8e03c301b486bab146"), looks := false }, kinds := [], alts := [], laidByText := true, laidKinds := [.data, .data], laidTests := true, laidLooks := .later }
def BatchNilUptoCardSaid : Prop := Claim7.holds Tryd.pinned (.plain (OpenSpec.upto batchNilSpec)) batchNilUptoCard
end Rows
end Go.Proofs.YtcclekboeppcfaaDoor
