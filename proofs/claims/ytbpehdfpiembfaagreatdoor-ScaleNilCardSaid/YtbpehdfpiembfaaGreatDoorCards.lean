/-
  DERIVED. GIVEN WITH THE SEED: THE CARDS: each row of YtbpehdfpiembfaaGreatDoorRows.lean that lists a variable, with what it lists TIED to the program's text (the seventh form; the later family's looks); each row that meets fmt, with fmt's text TOLD by the authors' own Lean function (tested against real Go, not proved from fmt's source: count such statements apart). THE CARD IS WHAT COUNTS. Prove the row's statement (the work); the ties are given (YtbpehdfpiembfaaGreatDoorTie.lean); close each card by the builder's one call (the guide's Derived/Test/ToyasCard.lean, 'card_holds'). Laid BY PROGRAM, IN A SANDBOX (cutbox-door.mjs). By AI agents, Wed Nov 11 2026. No macro, syntax, notation, axiom, sorry.
-/
import Derived.Test.YtbpehdfpiembfaaGreatDoorRows
import GoSem.ClaimSeven
namespace Go.Proofs.YtbpehdfpiembfaaGreatDoor
namespace Rows

/-- THE TIED CARD OF 'arraslaw10.ScaleLowers'. -/
def scaleLowersCard : Claim7 := { stood := { row := scaleLowersRow, standIns := [], harness := (true, "25773ba5f1cfaa810a6ef9f997b2f5c8a4993065c9ecf86ddbf23ad9cf9a7316"), looks := false }, kinds := [], alts := [], laidByText := true, laidKinds := [.data, .data], laidTests := true, laidLooks := .later }
def ScaleLowersCardSaid : Prop := Claim7.holds Tryz.pinned (.plain (OpenSpec.ofChange scaleLowersSpec)) scaleLowersCard

/-- THE TIED CARD OF 'arraslaw10.ScaleDots'. -/
def scaleDotsCard : Claim7 := { stood := { row := scaleDotsRow, standIns := [], harness := (true, "25773ba5f1cfaa810a6ef9f997b2f5c8a4993065c9ecf86ddbf23ad9cf9a7316"), looks := false }, kinds := [], alts := [], laidByText := true, laidKinds := [.data, .data], laidTests := true, laidLooks := .later }
def ScaleDotsCardSaid : Prop := Claim7.holds Tryz.pinned (.plain (OpenSpec.ofChange scaleDotsSpec)) scaleDotsCard

/-- THE TIED CARD OF 'arraslaw10.ScaleNear'. -/
def scaleNearCard : Claim7 := { stood := { row := scaleNearRow, standIns := [], harness := (true, "25773ba5f1cfaa810a6ef9f997b2f5c8a4993065c9ecf86ddbf23ad9cf9a7316"), looks := false }, kinds := [], alts := [], laidByText := true, laidKinds := [.data, .data], laidTests := true, laidLooks := .later }
def ScaleNearCardSaid : Prop := Claim7.holds Tryz.pinned (.plain (OpenSpec.ofChange scaleNearSpec)) scaleNearCard

/-- THE TIED CARD OF 'arraslaw10.ScaleNil'. -/
def scaleNilCard : Claim7 := { stood := { row := scaleNilRow, standIns := [], harness := (true, "25773ba5f1cfaa810a6ef9f997b2f5c8a4993065c9ecf86ddbf23ad9cf9a7316"), looks := false }, kinds := [], alts := [], laidByText := true, laidKinds := [.data, .data], laidTests := true, laidLooks := .later }
def ScaleNilCardSaid : Prop := Claim7.holds Tryz.pinned (.plain (OpenSpec.ofChange scaleNilSpec)) scaleNilCard

/-- THE TIED CARD OF 'arraslaw10.ScaleOrder'. -/
def scaleOrderCard : Claim7 := { stood := { row := scaleOrderRow, standIns := [], harness := (true, "25773ba5f1cfaa810a6ef9f997b2f5c8a4993065c9ecf86ddbf23ad9cf9a7316"), looks := false }, kinds := [], alts := [], laidByText := true, laidKinds := [.data, .data], laidTests := true, laidLooks := .later }
def ScaleOrderCardSaid : Prop := Claim7.holds Tryz.pinned (.plain (OpenSpec.ofChange scaleOrderSpec)) scaleOrderCard

/-- THE TIED CARD OF 'arraslaw11.KeysSecret'. -/
def keysSecretCard : Claim7 := { stood := { row := keysSecretRow, standIns := [], harness := (true, "25773ba5f1cfaa810a6ef9f997b2f5c8a4993065c9ecf86ddbf23ad9cf9a7316"), looks := false }, kinds := [], alts := [], laidByText := true, laidKinds := [.data, .data], laidTests := true, laidLooks := .later }
def KeysSecretCardSaid : Prop := Claim7.holds Tryz.pinned (.plain (OpenSpec.ofChange keysSecretSpec)) keysSecretCard

/-- THE TIED CARD OF 'arraslaw11.KeysSwitches'. -/
def keysSwitchesCard : Claim7 := { stood := { row := keysSwitchesRow, standIns := [], harness := (true, "25773ba5f1cfaa810a6ef9f997b2f5c8a4993065c9ecf86ddbf23ad9cf9a7316"), looks := false }, kinds := [], alts := [], laidByText := true, laidKinds := [.data, .data], laidTests := true, laidLooks := .later }
def KeysSwitchesCardSaid : Prop := Claim7.holds Tryz.pinned (.plain (OpenSpec.ofChange keysSwitchesSpec)) keysSwitchesCard

/-- THE TIED CARD OF 'arraslaw11.KeysAll'. -/
def keysAllCard : Claim7 := { stood := { row := keysAllRow, standIns := [], harness := (true, "25773ba5f1cfaa810a6ef9f997b2f5c8a4993065c9ecf86ddbf23ad9cf9a7316"), looks := false }, kinds := [], alts := [], laidByText := true, laidKinds := [.data, .data], laidTests := true, laidLooks := .later }
def KeysAllCardSaid : Prop := Claim7.holds Tryz.pinned (.plain (OpenSpec.ofChange keysAllSpec)) keysAllCard

/-- THE TIED CARD OF 'arraslaw11.KeysNil'. -/
def keysNilCard : Claim7 := { stood := { row := keysNilRow, standIns := [], harness := (true, "25773ba5f1cfaa810a6ef9f997b2f5c8a4993065c9ecf86ddbf23ad9cf9a7316"), looks := false }, kinds := [], alts := [], laidByText := true, laidKinds := [.data, .data], laidTests := true, laidLooks := .later }
def KeysNilCardSaid : Prop := Claim7.holds Tryz.pinned (.plain (OpenSpec.ofChange keysNilSpec)) keysNilCard

/-- THE SECOND FORM's CARD OF 'arraslaw10.ScaleLowers'. -/
def scaleLowersUptoCard : Claim7 := { stood := { row := scaleLowersUptoRow, standIns := [], harness := (true, "25773ba5f1cfaa810a6ef9f997b2f5c8a4993065c9ecf86ddbf23ad9cf9a7316"), looks := false }, kinds := [], alts := [], laidByText := true, laidKinds := [.data, .data], laidTests := true, laidLooks := .later }
def ScaleLowersUptoCardSaid : Prop := Claim7.holds Tryz.pinned (.plain (OpenSpec.upto scaleLowersSpec)) scaleLowersUptoCard

/-- THE SECOND FORM's CARD OF 'arraslaw10.ScaleDots'. -/
def scaleDotsUptoCard : Claim7 := { stood := { row := scaleDotsUptoRow, standIns := [], harness := (true, "25773ba5f1cfaa810a6ef9f997b2f5c8a4993065c9ecf86ddbf23ad9cf9a7316"), looks := false }, kinds := [], alts := [], laidByText := true, laidKinds := [.data, .data], laidTests := true, laidLooks := .later }
def ScaleDotsUptoCardSaid : Prop := Claim7.holds Tryz.pinned (.plain (OpenSpec.upto scaleDotsSpec)) scaleDotsUptoCard

/-- THE SECOND FORM's CARD OF 'arraslaw10.ScaleNear'. -/
def scaleNearUptoCard : Claim7 := { stood := { row := scaleNearUptoRow, standIns := [], harness := (true, "25773ba5f1cfaa810a6ef9f997b2f5c8a4993065c9ecf86ddbf23ad9cf9a7316"), looks := false }, kinds := [], alts := [], laidByText := true, laidKinds := [.data, .data], laidTests := true, laidLooks := .later }
def ScaleNearUptoCardSaid : Prop := Claim7.holds Tryz.pinned (.plain (OpenSpec.upto scaleNearSpec)) scaleNearUptoCard

/-- THE SECOND FORM's CARD OF 'arraslaw10.ScaleNil'. -/
def scaleNilUptoCard : Claim7 := { stood := { row := scaleNilUptoRow, standIns := [], harness := (true, "25773ba5f1cfaa810a6ef9f997b2f5c8a4993065c9ecf86ddbf23ad9cf9a7316"), looks := false }, kinds := [], alts := [], laidByText := true, laidKinds := [.data, .data], laidTests := true, laidLooks := .later }
def ScaleNilUptoCardSaid : Prop := Claim7.holds Tryz.pinned (.plain (OpenSpec.upto scaleNilSpec)) scaleNilUptoCard

/-- THE SECOND FORM's CARD OF 'arraslaw10.ScaleOrder'. -/
def scaleOrderUptoCard : Claim7 := { stood := { row := scaleOrderUptoRow, standIns := [], harness := (true, "25773ba5f1cfaa810a6ef9f997b2f5c8a4993065c9ecf86ddbf23ad9cf9a7316"), looks := false }, kinds := [], alts := [], laidByText := true, laidKinds := [.data, .data], laidTests := true, laidLooks := .later }
def ScaleOrderUptoCardSaid : Prop := Claim7.holds Tryz.pinned (.plain (OpenSpec.upto scaleOrderSpec)) scaleOrderUptoCard

/-- THE SECOND FORM's CARD OF 'arraslaw11.KeysSecret'. -/
def keysSecretUptoCard : Claim7 := { stood := { row := keysSecretUptoRow, standIns := [], harness := (true, "25773ba5f1cfaa810a6ef9f997b2f5c8a4993065c9ecf86ddbf23ad9cf9a7316"), looks := false }, kinds := [], alts := [], laidByText := true, laidKinds := [.data, .data], laidTests := true, laidLooks := .later }
def KeysSecretUptoCardSaid : Prop := Claim7.holds Tryz.pinned (.plain (OpenSpec.upto keysSecretSpec)) keysSecretUptoCard

/-- THE SECOND FORM's CARD OF 'arraslaw11.KeysSwitches'. -/
def keysSwitchesUptoCard : Claim7 := { stood := { row := keysSwitchesUptoRow, standIns := [], harness := (true, "25773ba5f1cfaa810a6ef9f997b2f5c8a4993065c9ecf86ddbf23ad9cf9a7316"), looks := false }, kinds := [], alts := [], laidByText := true, laidKinds := [.data, .data], laidTests := true, laidLooks := .later }
def KeysSwitchesUptoCardSaid : Prop := Claim7.holds Tryz.pinned (.plain (OpenSpec.upto keysSwitchesSpec)) keysSwitchesUptoCard

/-- THE SECOND FORM's CARD OF 'arraslaw11.KeysAll'. -/
def keysAllUptoCard : Claim7 := { stood := { row := keysAllUptoRow, standIns := [], harness := (true, "25773ba5f1cfaa810a6ef9f997b2f5c8a4993065c9ecf86ddbf23ad9cf9a7316"), looks := false }, kinds := [], alts := [], laidByText := true, laidKinds := [.data, .data], laidTests := true, laidLooks := .later }
def KeysAllUptoCardSaid : Prop := Claim7.holds Tryz.pinned (.plain (OpenSpec.upto keysAllSpec)) keysAllUptoCard

/-- THE SECOND FORM's CARD OF 'arraslaw11.KeysNil'. -/
def keysNilUptoCard : Claim7 := { stood := { row := keysNilUptoRow, standIns := [], harness := (true, "25773ba5f1cfaa810a6ef9f997b2f5c8a4993065c9ecf86ddbf23ad9cf9a7316"), looks := false }, kinds := [], alts := [], laidByText := true, laidKinds := [.data, .data], laidTests := true, laidLooks := .later }
def KeysNilUptoCardSaid : Prop := Claim7.holds Tryz.pinned (.plain (OpenSpec.upto keysNilSpec)) keysNilUptoCard
end Rows
end Go.Proofs.YtbpehdfpiembfaaGreatDoor
