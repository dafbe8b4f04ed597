/-
  DERIVED. GIVEN WITH THE SEED: THE CARDS: each row of YtpgcapobbmbchaaDoorRows.lean that lists a variable, with what it lists TIED to the program's text (the seventh form; the later family's looks); each row that meets fmt, with fmt's text TOLD by the authors' own Lean function (tested against real Go, not proved from fmt's source: count such statements apart). THE CARD IS WHAT COUNTS. Prove the row's statement (the work); the ties are given (YtpgcapobbmbchaaDoorTie.lean); close each card by the builder's one call (the guide's Derived/Test/ToyasCard.lean, 'card_holds'). Laid BY PROGRAM, IN A SANDBOX (cutbox-door.mjs). By AI agents, Wed Nov 11 2026. No macro, syntax, notation, axiom, sorry.
-/
import Derived.Test.YtpgcapobbmbchaaDoorRows
import GoSem.ClaimSeven
namespace Go.Proofs.YtpgcapobbmbchaaDoor
namespace Rows

/-- THE TIED CARD OF 'arraslaw05.RingMakes'. -/
def ringMakesCard : Claim7 := { stood := { row := ringMakesRow, standIns := [], harness := (true, "f4f21cad1351f6f532d05f5ed2ba6ab89c999447de7a9a0a81eb272b57baa2d9"), looks := false }, kinds := [], alts := [], laidByText := true, laidKinds := [.data, .data], laidTests := true, laidLooks := .later }
def RingMakesCardSaid : Prop := Claim7.holds Tryd.pinned (.plain (OpenSpec.ofChange ringMakesSpec)) ringMakesCard

/-- THE TIED CARD OF 'arraslaw05.RingReckons'. -/
def ringReckonsCard : Claim7 := { stood := { row := ringReckonsRow, standIns := [], harness := (true, "f4f21cad1351f6f532d05f5ed2ba6ab89c999447de7a9a0a81eb272b57baa2d9"), looks := false }, kinds := [], alts := [], laidByText := true, laidKinds := [.data, .data], laidTests := true, laidLooks := .later }
def RingReckonsCardSaid : Prop := Claim7.holds Tryd.pinned (.plain (OpenSpec.ofChange ringReckonsSpec)) ringReckonsCard

/-- THE TIED CARD OF 'arraslaw05.RingChanges'. -/
def ringChangesCard : Claim7 := { stood := { row := ringChangesRow, standIns := [], harness := (true, "f4f21cad1351f6f532d05f5ed2ba6ab89c999447de7a9a0a81eb272b57baa2d9"), looks := false }, kinds := [], alts := [], laidByText := true, laidKinds := [.data, .data], laidTests := true, laidLooks := .later }
def RingChangesCardSaid : Prop := Claim7.holds Tryd.pinned (.plain (OpenSpec.ofChange ringChangesSpec)) ringChangesCard

/-- THE TIED CARD OF 'arraslaw05.RingLifts'. -/
def ringLiftsCard : Claim7 := { stood := { row := ringLiftsRow, standIns := [], harness := (true, "f4f21cad1351f6f532d05f5ed2ba6ab89c999447de7a9a0a81eb272b57baa2d9"), looks := false }, kinds := [], alts := [], laidByText := true, laidKinds := [.data, .data], laidTests := true, laidLooks := .later }
def RingLiftsCardSaid : Prop := Claim7.holds Tryd.pinned (.plain (OpenSpec.ofChange ringLiftsSpec)) ringLiftsCard

/-- THE TIED CARD OF 'arraslaw05.RingTurns'. -/
def ringTurnsCard : Claim7 := { stood := { row := ringTurnsRow, standIns := [], harness := (true, "f4f21cad1351f6f532d05f5ed2ba6ab89c999447de7a9a0a81eb272b57baa2d9"), looks := false }, kinds := [], alts := [], laidByText := true, laidKinds := [.data, .data], laidTests := true, laidLooks := .later }
def RingTurnsCardSaid : Prop := Claim7.holds Tryd.pinned (.plain (OpenSpec.ofChange ringTurnsSpec)) ringTurnsCard

/-- THE TIED CARD OF 'arraslaw05.RingNil'. -/
def ringNilCard : Claim7 := { stood := { row := ringNilRow, standIns := [], harness := (true, "f4f21cad1351f6f532d05f5ed2ba6ab89c999447de7a9a0a81eb272b57baa2d9"), looks := false }, kinds := [], alts := [], laidByText := true, laidKinds := [.data, .data], laidTests := true, laidLooks := .later }
def RingNilCardSaid : Prop := Claim7.holds Tryd.pinned (.plain (OpenSpec.ofChange ringNilSpec)) ringNilCard

/-- THE TIED CARD OF 'arraslaw05.RingLaws'. -/
def ringLawsCard : Claim7 := { stood := { row := ringLawsRow, standIns := [], harness := (true, "f4f21cad1351f6f532d05f5ed2ba6ab89c999447de7a9a0a81eb272b57baa2d9"), looks := false }, kinds := [], alts := [], laidByText := true, laidKinds := [.data, .data], laidTests := true, laidLooks := .later }
def RingLawsCardSaid : Prop := Claim7.holds Tryd.pinned (.plain (OpenSpec.ofChange ringLawsSpec)) ringLawsCard

/-- THE TIED CARD OF 'arraslaw06.CrtWholes'. -/
def crtWholesCard : Claim7 := { stood := { row := crtWholesRow, standIns := [], harness := (true, "f4f21cad1351f6f532d05f5ed2ba6ab89c999447de7a9a0a81eb272b57baa2d9"), looks := false }, kinds := [], alts := [], laidByText := true, laidKinds := [.data, .data], laidTests := true, laidLooks := .later }
def CrtWholesCardSaid : Prop := Claim7.holds Tryd.pinned (.plain (OpenSpec.ofChange crtWholesSpec)) crtWholesCard

/-- THE TIED CARD OF 'arraslaw06.CrtResidues'. -/
def crtResiduesCard : Claim7 := { stood := { row := crtResiduesRow, standIns := [], harness := (true, "f4f21cad1351f6f532d05f5ed2ba6ab89c999447de7a9a0a81eb272b57baa2d9"), looks := false }, kinds := [], alts := [], laidByText := true, laidKinds := [.data, .data], laidTests := true, laidLooks := .later }
def CrtResiduesCardSaid : Prop := Claim7.holds Tryd.pinned (.plain (OpenSpec.ofChange crtResiduesSpec)) crtResiduesCard

/-- THE TIED CARD OF 'arraslaw06.CrtElements'. -/
def crtElementsCard : Claim7 := { stood := { row := crtElementsRow, standIns := [], harness := (true, "f4f21cad1351f6f532d05f5ed2ba6ab89c999447de7a9a0a81eb272b57baa2d9"), looks := false }, kinds := [], alts := [], laidByText := true, laidKinds := [.data, .data], laidTests := true, laidLooks := .later }
def CrtElementsCardSaid : Prop := Claim7.holds Tryd.pinned (.plain (OpenSpec.ofChange crtElementsSpec)) crtElementsCard

/-- THE TIED CARD OF 'arraslaw06.CrtBack'. -/
def crtBackCard : Claim7 := { stood := { row := crtBackRow, standIns := [], harness := (true, "f4f21cad1351f6f532d05f5ed2ba6ab89c999447de7a9a0a81eb272b57baa2d9"), looks := false }, kinds := [], alts := [], laidByText := true, laidKinds := [.data, .data], laidTests := true, laidLooks := .later }
def CrtBackCardSaid : Prop := Claim7.holds Tryd.pinned (.plain (OpenSpec.ofChange crtBackSpec)) crtBackCard

/-- THE TIED CARD OF 'arraslaw06.CrtGoes'. -/
def crtGoesCard : Claim7 := { stood := { row := crtGoesRow, standIns := [], harness := (true, "f4f21cad1351f6f532d05f5ed2ba6ab89c999447de7a9a0a81eb272b57baa2d9"), looks := false }, kinds := [], alts := [], laidByText := true, laidKinds := [.data, .data], laidTests := true, laidLooks := .later }
def CrtGoesCardSaid : Prop := Claim7.holds Tryd.pinned (.plain (OpenSpec.ofChange crtGoesSpec)) crtGoesCard

/-- THE SECOND FORM's CARD OF 'arraslaw05.RingMakes'. -/
def ringMakesUptoCard : Claim7 := { stood := { row := ringMakesUptoRow, standIns := [], harness := (true, "f4f21cad1351f6f532d05f5ed2ba6ab89c999447de7a9a0a81eb272b57baa2d9"), looks := false }, kinds := [], alts := [], laidByText := true, laidKinds := [.data, .data], laidTests := true, laidLooks := .later }
def RingMakesUptoCardSaid : Prop := Claim7.holds Tryd.pinned (.plain (OpenSpec.upto ringMakesSpec)) ringMakesUptoCard

/-- THE SECOND FORM's CARD OF 'arraslaw05.RingReckons'. -/
def ringReckonsUptoCard : Claim7 := { stood := { row := ringReckonsUptoRow, standIns := [], harness := (true, "f4f21cad1351f6f532d05f5ed2ba6ab89c999447de7a9a0a81eb272b57baa2d9"), looks := false }, kinds := [], alts := [], laidByText := true, laidKinds := [.data, .data], laidTests := true, laidLooks := .later }
def RingReckonsUptoCardSaid : Prop := Claim7.holds Tryd.pinned (.plain (OpenSpec.upto ringReckonsSpec)) ringReckonsUptoCard

/-- THE SECOND FORM's CARD OF 'arraslaw05.RingChanges'. -/
def ringChangesUptoCard : Claim7 := { stood := { row := ringChangesUptoRow, standIns := [], harness := (true, "f4f21cad1351f6f532d05f5ed2ba6ab89c999447de7a9a0a81eb272b57baa2d9"), looks := false }, kinds := [], alts := [], laidByText := true, laidKinds := [.data, .data], laidTests := true, laidLooks := .later }
def RingChangesUptoCardSaid : Prop := Claim7.holds Tryd.pinned (.plain (OpenSpec.upto ringChangesSpec)) ringChangesUptoCard

/-- THE SECOND FORM's CARD OF 'arraslaw05.RingLifts'. -/
def ringLiftsUptoCard : Claim7 := { stood := { row := ringLiftsUptoRow, standIns := [], harness := (true, "f4f21cad1351f6f532d05f5ed2ba6ab89c999447de7a9a0a81eb272b57baa2d9"), looks := false }, kinds := [], alts := [], laidByText := true, laidKinds := [.data, .data], laidTests := true, laidLooks := .later }
def RingLiftsUptoCardSaid : Prop := Claim7.holds Tryd.pinned (.plain (OpenSpec.upto ringLiftsSpec)) ringLiftsUptoCard

/-- THE SECOND FORM's CARD OF 'arraslaw05.RingTurns'. -/
def ringTurnsUptoCard : Claim7 := { stood := { row := ringTurnsUptoRow, standIns := [], harness := (true, "f4f21cad1351f6f532d05f5ed2ba6ab89c999447de7a9a0a81eb272b57baa2d9"), looks := false }, kinds := [], alts := [], laidByText := true, laidKinds := [.data, .data], laidTests := true, laidLooks := .later }
def RingTurnsUptoCardSaid : Prop := Claim7.holds Tryd.pinned (.plain (OpenSpec.upto ringTurnsSpec)) ringTurnsUptoCard

/-- THE SECOND FORM's CARD OF 'arraslaw05.RingNil'. -/
def ringNilUptoCard : Claim7 := { stood := { row := ringNilUptoRow, standIns := [], harness := (true, "f4f21cad1351f6f532d05f5ed2ba6ab89c999447de7a9a0a81eb272b57baa2d9"), looks := false }, kinds := [], alts := [], laidByText := true, laidKinds := [.data, .data], laidTests := true, laidLooks := .later }
def RingNilUptoCardSaid : Prop := Claim7.holds Tryd.pinned (.plain (OpenSpec.upto ringNilSpec)) ringNilUptoCard

/-- THE SECOND FORM's CARD OF 'arraslaw05.RingLaws'. -/
def ringLawsUptoCard : Claim7 := { stood := { row := ringLawsUptoRow, standIns := [], harness := (true, "f4f21cad1351f6f532d05f5ed2ba6ab89c999447de7a9a0a81eb272b57baa2d9"), looks := false }, kinds := [], alts := [], laidByText := true, laidKinds := [.data, .data], laidTests := true, laidLooks := .later }
def RingLawsUptoCardSaid : Prop := Claim7.holds Tryd.pinned (.plain (OpenSpec.upto ringLawsSpec)) ringLawsUptoCard

/-- THE SECOND FORM's CARD OF 'arraslaw06.CrtWholes'. -/
def crtWholesUptoCard : Claim7 := { stood := { row := crtWholesUptoRow, standIns := [], harness := (true, "f4f21cad1351f6f532d05f5ed2ba6ab89c999447de7a9a0a81eb272b57baa2d9"), looks := false }, kinds := [], alts := [], laidByText := true, laidKinds := [.data, .data], laidTests := true, laidLooks := .later }
def CrtWholesUptoCardSaid : Prop := Claim7.holds Tryd.pinned (.plain (OpenSpec.upto crtWholesSpec)) crtWholesUptoCard

/-- THE SECOND FORM's CARD OF 'arraslaw06.CrtResidues'. -/
def crtResiduesUptoCard : Claim7 := { stood := { row := crtResiduesUptoRow, standIns := [], harness := (true, "f4f21cad1351f6f532d05f5ed2ba6ab89c999447de7a9a0a81eb272b57baa2d9"), looks := false }, kinds := [], alts := [], laidByText := true, laidKinds := [.data, .data], laidTests := true, laidLooks := .later }
def CrtResiduesUptoCardSaid : Prop := Claim7.holds Tryd.pinned (.plain (OpenSpec.upto crtResiduesSpec)) crtResiduesUptoCard

/-- THE SECOND FORM's CARD OF 'arraslaw06.CrtElements'. -/
def crtElementsUptoCard : Claim7 := { stood := { row := crtElementsUptoRow, standIns := [], harness := (true, "f4f21cad1351f6f532d05f5ed2ba6ab89c999447de7a9a0a81eb272b57baa2d9"), looks := false }, kinds := [], alts := [], laidByText := true, laidKinds := [.data, .data], laidTests := true, laidLooks := .later }
def CrtElementsUptoCardSaid : Prop := Claim7.holds Tryd.pinned (.plain (OpenSpec.upto crtElementsSpec)) crtElementsUptoCard

/-- THE SECOND FORM's CARD OF 'arraslaw06.CrtBack'. -/
def crtBackUptoCard : Claim7 := { stood := { row := crtBackUptoRow, standIns := [], harness := (true, "f4f21cad1351f6f532d05f5ed2ba6ab89c999447de7a9a0a81eb272b57baa2d9"), looks := false }, kinds := [], alts := [], laidByText := true, laidKinds := [.data, .data], laidTests := true, laidLooks := .later }
def CrtBackUptoCardSaid : Prop := Claim7.holds Tryd.pinned (.plain (OpenSpec.upto crtBackSpec)) crtBackUptoCard

/-- THE SECOND FORM's CARD OF 'arraslaw06.CrtGoes'. -/
def crtGoesUptoCard : Claim7 := { stood := { row := crtGoesUptoRow, standIns := [], harness := (true, "f4f21cad1351f6f532d05f5ed2ba6ab89c999447de7a9a0a81eb272b57baa2d9"), looks := false }, kinds := [], alts := [], laidByText := true, laidKinds := [.data, .data], laidTests := true, laidLooks := .later }
def CrtGoesUptoCardSaid : Prop := Claim7.holds Tryd.pinned (.plain (OpenSpec.upto crtGoesSpec)) crtGoesUptoCard
end Rows
end Go.Proofs.YtpgcapobbmbchaaDoor
