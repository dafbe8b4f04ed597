/-
  No cell of these rows narrows 'for every input' (looked for: loops, veiled, ifaces, maps, wideKeys, modest, calm, conditions, laid).
  DERIVED. THE GIVEN ROWS OF THIS SEAT. 3 by the template 'for every input the law returns true; each argument reads behind the call as it read before'; 0 by the template 'total and deterministic' (their statements: YthaljhmdhchiaaaTotals.lean).
  GIVEN WITH THE SEED: the statements are not yours to turn. If you find one false, say at which input.
  Laid BY PROGRAM, IN A SANDBOX (cutbox-rows.mjs): the forced cells as the released guide's own fill.sh prints them over the translation 7dd40afa4a9604b8… (all of the seat's roots in one cut). By AI agents, Wed Nov 11 2026. No macro, syntax, notation, axiom, sorry.
-/
import Derived.Test.YthaljhmdhchiaaaChecked
import GoSem.Claim
import GoSem.ClaimJoined
import GoSem.ClaimMapViews
import Derived.JoinedTies
import Derived.KernelRfl
namespace Go.Proofs.Ythaljhmdhchiaaa
/- THE CELL 'sum', in the pinned program and in every row, IS THE sha256 OF THE DUMP (.gsa) THAT YthaljhmdhchiaaaProg.lean LOADS. Nothing in Lean hashes anything: it is a label: what it is worth is what the hold of that sum in a sandbox is worth. -/
noncomputable def Try.pinned : Pinned := { name := "ythaljhmdhchiaaa", sum := "7dd40afa4a9604b87adb1b668b8850e1e90672bfc88b29d0dbace3d64d28dc78", checked := Try.checked }
namespace Rows
def none {H : Type} : Left H := { results := [], args := [] }

/-- 'arraslaw07.TapeBounds': WHATEVER THE INPUT: true; the input reads as it did. -/
def tapeBoundsSpec : ChangeSpec := { name := "tapeBounds", fn := fun _ => fun
  | [d1, d2, d3] => { results := [.lit (.bool true)], args := [d1, d2, d3] }
  | _ => none }
def tapeBoundsRow : OpenClaim := { program := "ythaljhmdhchiaaa", sum := "7dd40afa4a9604b87adb1b668b8850e1e90672bfc88b29d0dbace3d64d28dc78", func := "arras/arraslaw07.TapeBounds", spec := "tapeBounds", unfollowed := true, recurses := true, apart := false }
def TapeBoundsSaid : Prop := tapeBoundsRow.holds Try.pinned (OpenSpec.ofChange tapeBoundsSpec)

/-- ITS FALSE NEIGHBOUR: 'it returns false'. Refute it at one input. -/
def tapeBoundsWrong : ChangeSpec := { name := "tapeBounds", fn := fun _ => fun
  | [d1, d2, d3] => { results := [.lit (.bool false)], args := [d1, d2, d3] }
  | _ => none }
def TapeBoundsWrongFalsely : Prop := tapeBoundsRow.holds Try.pinned (OpenSpec.ofChange tapeBoundsWrong)

/-- 'arraslaw07.TapeOut': WHATEVER THE INPUT: true; the input reads as it did. -/
def tapeOutSpec : ChangeSpec := { name := "tapeOut", fn := fun _ => fun
  | [d1, d2] => { results := [.lit (.bool true)], args := [d1, d2] }
  | _ => none }
def tapeOutRow : OpenClaim := { program := "ythaljhmdhchiaaa", sum := "7dd40afa4a9604b87adb1b668b8850e1e90672bfc88b29d0dbace3d64d28dc78", func := "arras/arraslaw07.TapeOut", spec := "tapeOut", unfollowed := true, recurses := true, apart := false }
def TapeOutSaid : Prop := tapeOutRow.holds Try.pinned (OpenSpec.ofChange tapeOutSpec)

/-- ITS FALSE NEIGHBOUR: 'it returns false'. Refute it at one input. -/
def tapeOutWrong : ChangeSpec := { name := "tapeOut", fn := fun _ => fun
  | [d1, d2] => { results := [.lit (.bool false)], args := [d1, d2] }
  | _ => none }
def TapeOutWrongFalsely : Prop := tapeOutRow.holds Try.pinned (OpenSpec.ofChange tapeOutWrong)

/-- 'arraslaw07.TapeNil': WHATEVER THE INPUT: true; the input reads as it did. -/
def tapeNilSpec : ChangeSpec := { name := "tapeNil", fn := fun _ => fun
  | [d1, d2] => { results := [.lit (.bool true)], args := [d1, d2] }
  | _ => none }
def tapeNilRow : OpenClaim := { program := "ythaljhmdhchiaaa", sum := "7dd40afa4a9604b87adb1b668b8850e1e90672bfc88b29d0dbace3d64d28dc78", func := "arras/arraslaw07.TapeNil", spec := "tapeNil", unfollowed := true, recurses := true, apart := false }
def TapeNilSaid : Prop := tapeNilRow.holds Try.pinned (OpenSpec.ofChange tapeNilSpec)

/-- ITS FALSE NEIGHBOUR: 'it returns false'. Refute it at one input. -/
def tapeNilWrong : ChangeSpec := { name := "tapeNil", fn := fun _ => fun
  | [d1, d2] => { results := [.lit (.bool false)], args := [d1, d2] }
  | _ => none }
def TapeNilWrongFalsely : Prop := tapeNilRow.holds Try.pinned (OpenSpec.ofChange tapeNilWrong)

/- THE SECOND FORM. 'bulk': how many values and letters a reading holds, each counted each time it is reached (what is shared counts as often as it is met; a slice's spare places count too). A statement '..UptoSaid' is the law's where the arguments, and the package variables that the reading takes, are together of bulk at most 1048576: NARROWER than '..Said'. Prove '..Said' where nothing that the law and all that it calls make is longer than what came in: it says more and counts as full. Else prove '..UptoSaid'. A law counts once. -/
mutual
def uptoBulk {H : Type} : DataW H → Nat
  | .lit (.string bytes) => bytes.length + 1
  | .lit _ => 1
  | .nil => 1
  | .ptr d => uptoBulk d + 1
  | .slice elems spare => uptoBulkAll elems + uptoBulkAll spare + 1
  | .agg parts => uptoBulkAll parts + 1
  | .iface _ d => uptoBulk d + 1
  | .map entries => uptoBulkEntries entries + 1
  | .held _ => 1
def uptoBulkAll {H : Type} : List (DataW H) → Nat
  | [] => 0
  | d :: r => uptoBulk d + uptoBulkAll r
def uptoBulkEntries {H : Type} : List (Lit × DataW H) → Nat
  | [] => 0
  | x :: r => uptoBulkEntry x + uptoBulkEntries r
def uptoBulkEntry {H : Type} : Lit × DataW H → Nat
  | (.string bytes, d) => bytes.length + uptoBulk d + 1
  | (_, d) => uptoBulk d + 1
 end
def uptoSmall : (H : Type) → List (DataW H) → Bool := fun _ ds => decide (uptoBulkAll ds ≤ 1048576)
def OpenSpec.upto (s : _root_.Go.ChangeSpec) : _root_.Go.OpenSpec := { _root_.Go.OpenSpec.ofChange s with cond := some uptoSmall }

/-- 'arraslaw07.TapeBounds', WHERE WHAT IT READS IS OF BULK AT MOST 1048576: true; the input reads as it did. -/
def tapeBoundsUptoRow : OpenClaim := { program := "ythaljhmdhchiaaa", sum := "7dd40afa4a9604b87adb1b668b8850e1e90672bfc88b29d0dbace3d64d28dc78", func := "arras/arraslaw07.TapeBounds", spec := "tapeBounds", unfollowed := true, recurses := true, apart := false, narrowed := true }
def TapeBoundsUptoSaid : Prop := tapeBoundsUptoRow.holds Try.pinned (OpenSpec.upto tapeBoundsSpec)

/-- 'arraslaw07.TapeOut', WHERE WHAT IT READS IS OF BULK AT MOST 1048576: true; the input reads as it did. -/
def tapeOutUptoRow : OpenClaim := { program := "ythaljhmdhchiaaa", sum := "7dd40afa4a9604b87adb1b668b8850e1e90672bfc88b29d0dbace3d64d28dc78", func := "arras/arraslaw07.TapeOut", spec := "tapeOut", unfollowed := true, recurses := true, apart := false, narrowed := true }
def TapeOutUptoSaid : Prop := tapeOutUptoRow.holds Try.pinned (OpenSpec.upto tapeOutSpec)

/-- 'arraslaw07.TapeNil', WHERE WHAT IT READS IS OF BULK AT MOST 1048576: true; the input reads as it did. -/
def tapeNilUptoRow : OpenClaim := { program := "ythaljhmdhchiaaa", sum := "7dd40afa4a9604b87adb1b668b8850e1e90672bfc88b29d0dbace3d64d28dc78", func := "arras/arraslaw07.TapeNil", spec := "tapeNil", unfollowed := true, recurses := true, apart := false, narrowed := true }
def TapeNilUptoSaid : Prop := tapeNilUptoRow.holds Try.pinned (OpenSpec.upto tapeNilSpec)

end Rows
end Go.Proofs.Ythaljhmdhchiaaa
