/-
  DERIVED. GIVEN WITH THE SEED: THE CARDS: each row of YtoimbommiheccaaGreatDoorRows.lean that lists a variable, with what it lists TIED to the program's text (the seventh form; the later family's looks); each row that meets fmt, with fmt's text TOLD by the authors' own Lean function (tested against real Go, not proved from fmt's source: count such statements apart). THE CARD IS WHAT COUNTS. Prove the row's statement (the work); the ties are given (YtoimbommiheccaaGreatDoorTie.lean); close each card by the builder's one call (the guide's Derived/Test/ToyasCard.lean, 'card_holds'). Laid BY PROGRAM, IN A SANDBOX (cutbox-door.mjs). By AI agents, Wed Nov 11 2026. No macro, syntax, notation, axiom, sorry.
-/
import Derived.Test.YtoimbommiheccaaGreatDoorRows
import GoSem.ClaimSeven
namespace Go.Proofs.YtoimbommiheccaaGreatDoor
namespace Rows

/-- THE TIED CARD OF 'arraslaw09.BatchPacks'. -/
def batchPacksCard : Claim7 := { stood := { row := batchPacksRow, standIns := [], harness := (true, "1527da9a51bd661a7d9558e5fbf1ed9567b8dc5acdc99c7042f17976c34b9161"), looks := false }, kinds := [], alts := [], laidByText := true, laidKinds := [.data, .data], laidTests := true, laidLooks := .later }
def BatchPacksCardSaid : Prop := Claim7.holds Tryz.pinned (.plain (OpenSpec.ofChange batchPacksSpec)) batchPacksCard

/-- THE TIED CARD OF 'arraslaw09.BatchUnpacks'. -/
def batchUnpacksCard : Claim7 := { stood := { row := batchUnpacksRow, standIns := [], harness := (true, "1527da9a51bd661a7d9558e5fbf1ed9567b8dc5acdc99c7042f17976c34b9161"), looks := false }, kinds := [], alts := [], laidByText := true, laidKinds := [.data, .data], laidTests := true, laidLooks := .later }
def BatchUnpacksCardSaid : Prop := Claim7.holds Tryz.pinned (.plain (OpenSpec.ofChange batchUnpacksSpec)) batchUnpacksCard

/-- THE TIED CARD OF 'arraslaw10.ScaleLowers'. -/
def scaleLowersCard : Claim7 := { stood := { row := scaleLowersRow, standIns := [], harness := (true, "1527da9a51bd661a7d9558e5fbf1ed9567b8dc5acdc99c7042f17976c34b9161"), looks := false }, kinds := [], alts := [], laidByText := true, laidKinds := [.data, .data], laidTests := true, laidLooks := .later }
def ScaleLowersCardSaid : Prop := Claim7.holds Tryz.pinned (.plain (OpenSpec.ofChange scaleLowersSpec)) scaleLowersCard

/-- THE TIED CARD OF 'arraslaw10.ScaleDots'. -/
def scaleDotsCard : Claim7 := { stood := { row := scaleDotsRow, standIns := [], harness := (true, "1527da9a51bd661a7d9558e5fbf1ed9567b8dc5acdc99c7042f17976c34b9161"), looks := false }, kinds := [], alts := [], laidByText := true, laidKinds := [.data, .data], laidTests := true, laidLooks := .later }
def ScaleDotsCardSaid : Prop := Claim7.holds Tryz.pinned (.plain (OpenSpec.ofChange scaleDotsSpec)) scaleDotsCard

/-- THE TIED CARD OF 'arraslaw10.ScaleNear'. -/
def scaleNearCard : Claim7 := { stood := { row := scaleNearRow, standIns := [], harness := (true, "1527da9a51bd661a7d9558e5fbf1ed9567b8dc5acdc99c7042f17976c34b9161"), looks := false }, kinds := [], alts := [], laidByText := true, laidKinds := [.data, .data], laidTests := true, laidLooks := .later }
def ScaleNearCardSaid : Prop := Claim7.holds Tryz.pinned (.plain (OpenSpec.ofChange scaleNearSpec)) scaleNearCard

/-- THE TIED CARD OF 'arraslaw10.ScaleNil'. -/
def scaleNilCard : Claim7 := { stood := { row := scaleNilRow, standIns := [], harness := (true, "1527da9a51bd661a7d9558e5fbf1ed9567b8dc5acdc99c7042f17976c34b9161"), looks := false }, kinds := [], alts := [], laidByText := true, laidKinds := [.data, .data], laidTests := true, laidLooks := .later }
def ScaleNilCardSaid : Prop := Claim7.holds Tryz.pinned (.plain (OpenSpec.ofChange scaleNilSpec)) scaleNilCard

/-- THE TIED CARD OF 'arraslaw10.ScaleOrder'. -/
def scaleOrderCard : Claim7 := { stood := { row := scaleOrderRow, standIns := [], harness := (true, "1527da9a51bd661a7d9558e5fbf1ed9567b8dc5acdc99c7042f17976c34b9161"), looks := false }, kinds := [], alts := [], laidByText := true, laidKinds := [.data, .data], laidTests := true, laidLooks := .later }
def ScaleOrderCardSaid : Prop := Claim7.holds Tryz.pinned (.plain (OpenSpec.ofChange scaleOrderSpec)) scaleOrderCard

/-- THE SECOND FORM's CARD OF 'arraslaw09.BatchPacks'. -/
def batchPacksUptoCard : Claim7 := { stood := { row := batchPacksUptoRow, standIns := [], harness := (true, "1527da9a51bd661a7d9558e5fbf1ed9567b8dc5acdc99c7042f17976c34b9161"), looks := false }, kinds := [], alts := [], laidByText := true, laidKinds := [.data, .data], laidTests := true, laidLooks := .later }
def BatchPacksUptoCardSaid : Prop := Claim7.holds Tryz.pinned (.plain (OpenSpec.upto batchPacksSpec)) batchPacksUptoCard

/-- THE SECOND FORM's CARD OF 'arraslaw09.BatchUnpacks'. -/
def batchUnpacksUptoCard : Claim7 := { stood := { row := batchUnpacksUptoRow, standIns := [], harness := (true, "1527da9a51bd661a7d9558e5fbf1ed9567b8dc5acdc99c7042f17976c34b9161"), looks := false }, kinds := [], alts := [], laidByText := true, laidKinds := [.data, .data], laidTests := true, laidLooks := .later }
def BatchUnpacksUptoCardSaid : Prop := Claim7.holds Tryz.pinned (.plain (OpenSpec.upto batchUnpacksSpec)) batchUnpacksUptoCard

/-- THE SECOND FORM's CARD OF 'arraslaw10.ScaleLowers'. -/
def scaleLowersUptoCard : Claim7 := { stood := { row := scaleLowersUptoRow, standIns := [], harness := (true, "1527da9a51bd661a7d9558e5fbf1ed9567b8dc5acdc99c7042f17976c34b9161"), looks := false }, kinds := [], alts := [], laidByText := true, laidKinds := [.data, .data], laidTests := true, laidLooks := .later }
def ScaleLowersUptoCardSaid : Prop := Claim7.holds Tryz.pinned (.plain (OpenSpec.upto scaleLowersSpec)) scaleLowersUptoCard

/-- THE SECOND FORM's CARD OF 'arraslaw10.ScaleDots'. -/
def scaleDotsUptoCard : Claim7 := { stood := { row := scaleDotsUptoRow, standIns := [], harness := (true, "1527da9a51bd661a7d9558e5fbf1ed9567b8dc5acdc99c7042f17976c34b9161"), looks := false }, kinds := [], alts := [], laidByText := true, laidKinds := [.data, .data], laidTests := true, laidLooks := .later }
def ScaleDotsUptoCardSaid : Prop := Claim7.holds Tryz.pinned (.plain (OpenSpec.upto scaleDotsSpec)) scaleDotsUptoCard

/-- THE SECOND FORM's CARD OF 'arraslaw10.ScaleNear'. -/
def scaleNearUptoCard : Claim7 := { stood := { row := scaleNearUptoRow, standIns := [], harness := (true, "1527da9a51bd661a7d9558e5fbf1ed9567b8dc5acdc99c7042f17976c34b9161"), looks := false }, kinds := [], alts := [], laidByText := true, laidKinds := [.data, .data], laidTests := true, laidLooks := .later }
def ScaleNearUptoCardSaid : Prop := Claim7.holds Tryz.pinned (.plain (OpenSpec.upto scaleNearSpec)) scaleNearUptoCard

/-- THE SECOND FORM's CARD OF 'arraslaw10.ScaleNil'. -/
def scaleNilUptoCard : Claim7 := { stood := { row := scaleNilUptoRow, standIns := [], harness := (true, "1527da9a51bd661a7d9558e5fbf1ed9567b8dc5acdc99c7042f17976c34b9161"), looks := false }, kinds := [], alts := [], laidByText := true, laidKinds := [.data, .data], laidTests := true, laidLooks := .later }
def ScaleNilUptoCardSaid : Prop := Claim7.holds Tryz.pinned (.plain (OpenSpec.upto scaleNilSpec)) scaleNilUptoCard

/-- THE SECOND FORM's CARD OF 'arraslaw10.ScaleOrder'. -/
def scaleOrderUptoCard : Claim7 := { stood := { row := scaleOrderUptoRow, standIns := [], harness := (true, "1527da9a51bd661a7d9558e5fbf1ed9567b8dc5acdc99c7042f17976c34b9161"), looks := false }, kinds := [], alts := [], laidByText := true, laidKinds := [.data, .data], laidTests := true, laidLooks := .later }
def ScaleOrderUptoCardSaid : Prop := Claim7.holds Tryz.pinned (.plain (OpenSpec.upto scaleOrderSpec)) scaleOrderUptoCard
end Rows
end Go.Proofs.YtoimbommiheccaaGreatDoor
