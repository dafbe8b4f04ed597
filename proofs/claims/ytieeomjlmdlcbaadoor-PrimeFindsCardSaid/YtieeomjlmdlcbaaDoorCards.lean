/-
  DERIVED. GIVEN WITH THE SEED: THE CARDS: each row of YtieeomjlmdlcbaaDoorRows.lean that lists a variable, with what it lists TIED to the program's text (the seventh form; the later family's looks); each row that meets fmt, with fmt's text TOLD by the authors' own Lean function (tested against real Go, not proved from fmt's source: count such statements apart). THE CARD IS WHAT COUNTS. Prove the row's statement (the work); the ties are given (YtieeomjlmdlcbaaDoorTie.lean); close each card by the builder's one call (the guide's Derived/Test/ToyasCard.lean, 'card_holds'). Laid BY PROGRAM, IN A SANDBOX (cutbox-door.mjs). By AI agents, Wed Nov 11 2026. No macro, syntax, notation, axiom, sorry.
-/
import Derived.Test.YtieeomjlmdlcbaaDoorRows
import GoSem.ClaimSeven
namespace Go.Proofs.YtieeomjlmdlcbaaDoor
namespace Rows

/-- THE TIED CARD OF 'arraslaw03.PrimeIs'. -/
def primeIsCard : Claim7 := { stood := { row := primeIsRow, standIns := [], harness := (true, "609bb5481f7b1648478ee1868944ef8013e5718f6a3feb73a9ea69438740c061"), looks := false }, kinds := [], alts := [], laidByText := true, laidKinds := [.data, .data], laidTests := true, laidLooks := .later }
def PrimeIsCardSaid : Prop := Claim7.holds Tryd.pinned (.plain (OpenSpec.ofChange primeIsSpec)) primeIsCard

/-- THE TIED CARD OF 'arraslaw03.PrimeProducts'. -/
def primeProductsCard : Claim7 := { stood := { row := primeProductsRow, standIns := [], harness := (true, "609bb5481f7b1648478ee1868944ef8013e5718f6a3feb73a9ea69438740c061"), looks := false }, kinds := [], alts := [], laidByText := true, laidKinds := [.data, .data], laidTests := true, laidLooks := .later }
def PrimeProductsCardSaid : Prop := Claim7.holds Tryd.pinned (.plain (OpenSpec.ofChange primeProductsSpec)) primeProductsCard

/-- THE TIED CARD OF 'arraslaw03.PrimeFinds'. -/
def primeFindsCard : Claim7 := { stood := { row := primeFindsRow, standIns := [], harness := (true, "609bb5481f7b1648478ee1868944ef8013e5718f6a3feb73a9ea69438740c061"), looks := false }, kinds := [], alts := [], laidByText := true, laidKinds := [.data, .data], laidTests := true, laidLooks := .later }
def PrimeFindsCardSaid : Prop := Claim7.holds Tryd.pinned (.plain (OpenSpec.ofChange primeFindsSpec)) primeFindsCard

/-- THE TIED CARD OF 'arraslaw03.PrimeRoots'. -/
def primeRootsCard : Claim7 := { stood := { row := primeRootsRow, standIns := [], harness := (true, "609bb5481f7b1648478ee1868944ef8013e5718f6a3feb73a9ea69438740c061"), looks := false }, kinds := [], alts := [], laidByText := true, laidKinds := [.data, .data], laidTests := true, laidLooks := .later }
def PrimeRootsCardSaid : Prop := Claim7.holds Tryd.pinned (.plain (OpenSpec.ofChange primeRootsSpec)) primeRootsCard

/-- THE TIED CARD OF 'arraslaw03.PrimeFriendly'. -/
def primeFriendlyCard : Claim7 := { stood := { row := primeFriendlyRow, standIns := [], harness := (true, "609bb5481f7b1648478ee1868944ef8013e5718f6a3feb73a9ea69438740c061"), looks := false }, kinds := [], alts := [], laidByText := true, laidKinds := [.data, .data], laidTests := true, laidLooks := .later }
def PrimeFriendlyCardSaid : Prop := Claim7.holds Tryd.pinned (.plain (OpenSpec.ofChange primeFriendlySpec)) primeFriendlyCard

/-- THE SECOND FORM's CARD OF 'arraslaw03.PrimeIs'. -/
def primeIsUptoCard : Claim7 := { stood := { row := primeIsUptoRow, standIns := [], harness := (true, "609bb5481f7b1648478ee1868944ef8013e5718f6a3feb73a9ea69438740c061"), looks := false }, kinds := [], alts := [], laidByText := true, laidKinds := [.data, .data], laidTests := true, laidLooks := .later }
def PrimeIsUptoCardSaid : Prop := Claim7.holds Tryd.pinned (.plain (OpenSpec.upto primeIsSpec)) primeIsUptoCard

/-- THE SECOND FORM's CARD OF 'arraslaw03.PrimeProducts'. -/
def primeProductsUptoCard : Claim7 := { stood := { row := primeProductsUptoRow, standIns := [], harness := (true, "609bb5481f7b1648478ee1868944ef8013e5718f6a3feb73a9ea69438740c061"), looks := false }, kinds := [], alts := [], laidByText := true, laidKinds := [.data, .data], laidTests := true, laidLooks := .later }
def PrimeProductsUptoCardSaid : Prop := Claim7.holds Tryd.pinned (.plain (OpenSpec.upto primeProductsSpec)) primeProductsUptoCard

/-- THE SECOND FORM's CARD OF 'arraslaw03.PrimeFinds'. -/
def primeFindsUptoCard : Claim7 := { stood := { row := primeFindsUptoRow, standIns := [], harness := (true, "609bb5481f7b1648478ee1868944ef8013e5718f6a3feb73a9ea69438740c061"), looks := false }, kinds := [], alts := [], laidByText := true, laidKinds := [.data, .data], laidTests := true, laidLooks := .later }
def PrimeFindsUptoCardSaid : Prop := Claim7.holds Tryd.pinned (.plain (OpenSpec.upto primeFindsSpec)) primeFindsUptoCard

/-- THE SECOND FORM's CARD OF 'arraslaw03.PrimeRoots'. -/
def primeRootsUptoCard : Claim7 := { stood := { row := primeRootsUptoRow, standIns := [], harness := (true, "609bb5481f7b1648478ee1868944ef8013e5718f6a3feb73a9ea69438740c061"), looks := false }, kinds := [], alts := [], laidByText := true, laidKinds := [.data, .data], laidTests := true, laidLooks := .later }
def PrimeRootsUptoCardSaid : Prop := Claim7.holds Tryd.pinned (.plain (OpenSpec.upto primeRootsSpec)) primeRootsUptoCard

/-- THE SECOND FORM's CARD OF 'arraslaw03.PrimeFriendly'. -/
def primeFriendlyUptoCard : Claim7 := { stood := { row := primeFriendlyUptoRow, standIns := [], harness := (true, "609bb5481f7b1648478ee1868944ef8013e5718f6a3feb73a9ea69438740c061"), looks := false }, kinds := [], alts := [], laidByText := true, laidKinds := [.data, .data], laidTests := true, laidLooks := .later }
def PrimeFriendlyUptoCardSaid : Prop := Claim7.holds Tryd.pinned (.plain (OpenSpec.upto primeFriendlySpec)) primeFriendlyUptoCard
end Rows
end Go.Proofs.YtieeomjlmdlcbaaDoor
