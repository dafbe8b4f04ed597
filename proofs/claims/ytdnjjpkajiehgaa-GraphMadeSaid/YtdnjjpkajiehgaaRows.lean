/-
  No cell of these rows narrows 'for every input' (looked for: loops, veiled, ifaces, maps, wideKeys, modest, calm, conditions, laid).
  DERIVED. THE GIVEN ROWS OF THIS SEAT. 12 by the template 'for every input the law returns true; each argument reads behind the call as it read before'; 0 by the template 'total and deterministic' (their statements: YtdnjjpkajiehgaaTotals.lean).
  GIVEN WITH THE SEED: the statements are not yours to turn. If you find one false, say at which input.
  Laid BY PROGRAM, IN A SANDBOX (cutbox-rows.mjs): the forced cells as the released guide's own fill.sh prints them over the translation c63fc5dcaf6fdb12… (all of the seat's roots in one cut). By AI agents, Wed Nov 11 2026. No macro, syntax, notation, axiom, sorry.
-/
import Derived.Test.YtdnjjpkajiehgaaChecked
import GoSem.Claim
import GoSem.ClaimJoined
import GoSem.ClaimMapViews
import Derived.JoinedTies
import Derived.KernelRfl
namespace Go.Proofs.Ytdnjjpkajiehgaa
/- THE CELL 'sum', in the pinned program and in every row, IS THE sha256 OF THE DUMP (.gsa) THAT YtdnjjpkajiehgaaProg.lean LOADS. Nothing in Lean hashes anything: it is a label: what it is worth is what the hold of that sum in a sandbox is worth. -/
noncomputable def Try.pinned : Pinned := { name := "ytdnjjpkajiehgaa", sum := "c63fc5dcaf6fdb12fefc5727db14472d95925cf01146916918a50d191557a2fd", checked := Try.checked }
namespace Rows
def none {H : Type} : Left H := { results := [], args := [] }

/-- 'arraslaw16.GraphMade': WHATEVER THE INPUT: true; the input reads as it did. -/
def graphMadeSpec : ChangeSpec := { name := "graphMade", fn := fun _ => fun
  | [d1, d2] => { results := [.lit (.bool true)], args := [d1, d2] }
  | _ => none }
def graphMadeRow : OpenClaim := { program := "ytdnjjpkajiehgaa", sum := "c63fc5dcaf6fdb12fefc5727db14472d95925cf01146916918a50d191557a2fd", func := "arras/arraslaw16.GraphMade", spec := "graphMade", unfollowed := true, recurses := true, apart := false }
def GraphMadeSaid : Prop := graphMadeRow.holds Try.pinned (OpenSpec.ofChange graphMadeSpec)

/-- ITS FALSE NEIGHBOUR: 'it returns false'. Refute it at one input. -/
def graphMadeWrong : ChangeSpec := { name := "graphMade", fn := fun _ => fun
  | [d1, d2] => { results := [.lit (.bool false)], args := [d1, d2] }
  | _ => none }
def GraphMadeWrongFalsely : Prop := graphMadeRow.holds Try.pinned (OpenSpec.ofChange graphMadeWrong)

/-- 'arraslaw16.GraphSpoilt': WHATEVER THE INPUT: true; the input reads as it did. -/
def graphSpoiltSpec : ChangeSpec := { name := "graphSpoilt", fn := fun _ => fun
  | [d1, d2, d3, d4] => { results := [.lit (.bool true)], args := [d1, d2, d3, d4] }
  | _ => none }
def graphSpoiltRow : OpenClaim := { program := "ytdnjjpkajiehgaa", sum := "c63fc5dcaf6fdb12fefc5727db14472d95925cf01146916918a50d191557a2fd", func := "arras/arraslaw16.GraphSpoilt", spec := "graphSpoilt", unfollowed := true, recurses := true, apart := false }
def GraphSpoiltSaid : Prop := graphSpoiltRow.holds Try.pinned (OpenSpec.ofChange graphSpoiltSpec)

/-- ITS FALSE NEIGHBOUR: 'it returns false'. Refute it at one input. -/
def graphSpoiltWrong : ChangeSpec := { name := "graphSpoilt", fn := fun _ => fun
  | [d1, d2, d3, d4] => { results := [.lit (.bool false)], args := [d1, d2, d3, d4] }
  | _ => none }
def GraphSpoiltWrongFalsely : Prop := graphSpoiltRow.holds Try.pinned (OpenSpec.ofChange graphSpoiltWrong)

/-- 'arraslaw17.IntervalSpans': WHATEVER THE INPUT: true; the input reads as it did. -/
def intervalSpansSpec : ChangeSpec := { name := "intervalSpans", fn := fun _ => fun
  | [d] => { results := [.lit (.bool true)], args := [d] }
  | _ => none }
def intervalSpansRow : OpenClaim := { program := "ytdnjjpkajiehgaa", sum := "c63fc5dcaf6fdb12fefc5727db14472d95925cf01146916918a50d191557a2fd", func := "arras/arraslaw17.IntervalSpans", spec := "intervalSpans", unfollowed := true, recurses := true, apart := false }
def IntervalSpansSaid : Prop := intervalSpansRow.holds Try.pinned (OpenSpec.ofChange intervalSpansSpec)

/-- ITS FALSE NEIGHBOUR: 'it returns false'. Refute it at one input. -/
def intervalSpansWrong : ChangeSpec := { name := "intervalSpans", fn := fun _ => fun
  | [d] => { results := [.lit (.bool false)], args := [d] }
  | _ => none }
def IntervalSpansWrongFalsely : Prop := intervalSpansRow.holds Try.pinned (OpenSpec.ofChange intervalSpansWrong)

/-- 'arraslaw17.IntervalRuns': WHATEVER THE INPUT: true; the input reads as it did. -/
def intervalRunsSpec : ChangeSpec := { name := "intervalRuns", fn := fun _ => fun
  | [d1, d2] => { results := [.lit (.bool true)], args := [d1, d2] }
  | _ => none }
def intervalRunsRow : OpenClaim := { program := "ytdnjjpkajiehgaa", sum := "c63fc5dcaf6fdb12fefc5727db14472d95925cf01146916918a50d191557a2fd", func := "arras/arraslaw17.IntervalRuns", spec := "intervalRuns", unfollowed := true, recurses := true, apart := false }
def IntervalRunsSaid : Prop := intervalRunsRow.holds Try.pinned (OpenSpec.ofChange intervalRunsSpec)

/-- ITS FALSE NEIGHBOUR: 'it returns false'. Refute it at one input. -/
def intervalRunsWrong : ChangeSpec := { name := "intervalRuns", fn := fun _ => fun
  | [d1, d2] => { results := [.lit (.bool false)], args := [d1, d2] }
  | _ => none }
def IntervalRunsWrongFalsely : Prop := intervalRunsRow.holds Try.pinned (OpenSpec.ofChange intervalRunsWrong)

/-- 'arraslaw17.IntervalWithin': WHATEVER THE INPUT: true; the input reads as it did. -/
def intervalWithinSpec : ChangeSpec := { name := "intervalWithin", fn := fun _ => fun
  | [d1, d2] => { results := [.lit (.bool true)], args := [d1, d2] }
  | _ => none }
def intervalWithinRow : OpenClaim := { program := "ytdnjjpkajiehgaa", sum := "c63fc5dcaf6fdb12fefc5727db14472d95925cf01146916918a50d191557a2fd", func := "arras/arraslaw17.IntervalWithin", spec := "intervalWithin", unfollowed := true, recurses := true, apart := false }
def IntervalWithinSaid : Prop := intervalWithinRow.holds Try.pinned (OpenSpec.ofChange intervalWithinSpec)

/-- ITS FALSE NEIGHBOUR: 'it returns false'. Refute it at one input. -/
def intervalWithinWrong : ChangeSpec := { name := "intervalWithin", fn := fun _ => fun
  | [d1, d2] => { results := [.lit (.bool false)], args := [d1, d2] }
  | _ => none }
def IntervalWithinWrongFalsely : Prop := intervalWithinRow.holds Try.pinned (OpenSpec.ofChange intervalWithinWrong)

/-- 'arraslaw17.IntervalSums': WHATEVER THE INPUT: true; the input reads as it did. -/
def intervalSumsSpec : ChangeSpec := { name := "intervalSums", fn := fun _ => fun
  | [d1, d2] => { results := [.lit (.bool true)], args := [d1, d2] }
  | _ => none }
def intervalSumsRow : OpenClaim := { program := "ytdnjjpkajiehgaa", sum := "c63fc5dcaf6fdb12fefc5727db14472d95925cf01146916918a50d191557a2fd", func := "arras/arraslaw17.IntervalSums", spec := "intervalSums", unfollowed := true, recurses := true, apart := false }
def IntervalSumsSaid : Prop := intervalSumsRow.holds Try.pinned (OpenSpec.ofChange intervalSumsSpec)

/-- ITS FALSE NEIGHBOUR: 'it returns false'. Refute it at one input. -/
def intervalSumsWrong : ChangeSpec := { name := "intervalSums", fn := fun _ => fun
  | [d1, d2] => { results := [.lit (.bool false)], args := [d1, d2] }
  | _ => none }
def IntervalSumsWrongFalsely : Prop := intervalSumsRow.holds Try.pinned (OpenSpec.ofChange intervalSumsWrong)

/-- 'arraslaw19.LinearSlots': WHATEVER THE INPUT: true; the input reads as it did. -/
def linearSlotsSpec : ChangeSpec := { name := "linearSlots", fn := fun _ => fun
  | [d1, d2, d3] => { results := [.lit (.bool true)], args := [d1, d2, d3] }
  | _ => none }
def linearSlotsRow : OpenClaim := { program := "ytdnjjpkajiehgaa", sum := "c63fc5dcaf6fdb12fefc5727db14472d95925cf01146916918a50d191557a2fd", func := "arras/arraslaw19.LinearSlots", spec := "linearSlots", unfollowed := true, recurses := true, apart := false }
def LinearSlotsSaid : Prop := linearSlotsRow.holds Try.pinned (OpenSpec.ofChange linearSlotsSpec)

/-- ITS FALSE NEIGHBOUR: 'it returns false'. Refute it at one input. -/
def linearSlotsWrong : ChangeSpec := { name := "linearSlots", fn := fun _ => fun
  | [d1, d2, d3] => { results := [.lit (.bool false)], args := [d1, d2, d3] }
  | _ => none }
def LinearSlotsWrongFalsely : Prop := linearSlotsRow.holds Try.pinned (OpenSpec.ofChange linearSlotsWrong)

/-- 'arraslaw19.LinearRows': WHATEVER THE INPUT: true; the input reads as it did. -/
def linearRowsSpec : ChangeSpec := { name := "linearRows", fn := fun _ => fun
  | [d1, d2] => { results := [.lit (.bool true)], args := [d1, d2] }
  | _ => none }
def linearRowsRow : OpenClaim := { program := "ytdnjjpkajiehgaa", sum := "c63fc5dcaf6fdb12fefc5727db14472d95925cf01146916918a50d191557a2fd", func := "arras/arraslaw19.LinearRows", spec := "linearRows", unfollowed := true, recurses := true, apart := false }
def LinearRowsSaid : Prop := linearRowsRow.holds Try.pinned (OpenSpec.ofChange linearRowsSpec)

/-- ITS FALSE NEIGHBOUR: 'it returns false'. Refute it at one input. -/
def linearRowsWrong : ChangeSpec := { name := "linearRows", fn := fun _ => fun
  | [d1, d2] => { results := [.lit (.bool false)], args := [d1, d2] }
  | _ => none }
def LinearRowsWrongFalsely : Prop := linearRowsRow.holds Try.pinned (OpenSpec.ofChange linearRowsWrong)

/-- 'arraslaw19.LinearMade': WHATEVER THE INPUT: true; the input reads as it did. -/
def linearMadeSpec : ChangeSpec := { name := "linearMade", fn := fun _ => fun
  | [d1, d2] => { results := [.lit (.bool true)], args := [d1, d2] }
  | _ => none }
def linearMadeRow : OpenClaim := { program := "ytdnjjpkajiehgaa", sum := "c63fc5dcaf6fdb12fefc5727db14472d95925cf01146916918a50d191557a2fd", func := "arras/arraslaw19.LinearMade", spec := "linearMade", unfollowed := true, recurses := true, apart := false }
def LinearMadeSaid : Prop := linearMadeRow.holds Try.pinned (OpenSpec.ofChange linearMadeSpec)

/-- ITS FALSE NEIGHBOUR: 'it returns false'. Refute it at one input. -/
def linearMadeWrong : ChangeSpec := { name := "linearMade", fn := fun _ => fun
  | [d1, d2] => { results := [.lit (.bool false)], args := [d1, d2] }
  | _ => none }
def LinearMadeWrongFalsely : Prop := linearMadeRow.holds Try.pinned (OpenSpec.ofChange linearMadeWrong)

/-- 'arraslaw19.LinearDiagonals': WHATEVER THE INPUT: true; the input reads as it did. -/
def linearDiagonalsSpec : ChangeSpec := { name := "linearDiagonals", fn := fun _ => fun
  | [d1, d2, d3, d4] => { results := [.lit (.bool true)], args := [d1, d2, d3, d4] }
  | _ => none }
def linearDiagonalsRow : OpenClaim := { program := "ytdnjjpkajiehgaa", sum := "c63fc5dcaf6fdb12fefc5727db14472d95925cf01146916918a50d191557a2fd", func := "arras/arraslaw19.LinearDiagonals", spec := "linearDiagonals", unfollowed := true, recurses := true, apart := false }
def LinearDiagonalsSaid : Prop := linearDiagonalsRow.holds Try.pinned (OpenSpec.ofChange linearDiagonalsSpec)

/-- ITS FALSE NEIGHBOUR: 'it returns false'. Refute it at one input. -/
def linearDiagonalsWrong : ChangeSpec := { name := "linearDiagonals", fn := fun _ => fun
  | [d1, d2, d3, d4] => { results := [.lit (.bool false)], args := [d1, d2, d3, d4] }
  | _ => none }
def LinearDiagonalsWrongFalsely : Prop := linearDiagonalsRow.holds Try.pinned (OpenSpec.ofChange linearDiagonalsWrong)

/-- 'arraslaw19.LinearSums': WHATEVER THE INPUT: true; the input reads as it did. -/
def linearSumsSpec : ChangeSpec := { name := "linearSums", fn := fun _ => fun
  | [d1, d2, d3, d4, d5] => { results := [.lit (.bool true)], args := [d1, d2, d3, d4, d5] }
  | _ => none }
def linearSumsRow : OpenClaim := { program := "ytdnjjpkajiehgaa", sum := "c63fc5dcaf6fdb12fefc5727db14472d95925cf01146916918a50d191557a2fd", func := "arras/arraslaw19.LinearSums", spec := "linearSums", unfollowed := true, recurses := true, apart := false }
def LinearSumsSaid : Prop := linearSumsRow.holds Try.pinned (OpenSpec.ofChange linearSumsSpec)

/-- ITS FALSE NEIGHBOUR: 'it returns false'. Refute it at one input. -/
def linearSumsWrong : ChangeSpec := { name := "linearSums", fn := fun _ => fun
  | [d1, d2, d3, d4, d5] => { results := [.lit (.bool false)], args := [d1, d2, d3, d4, d5] }
  | _ => none }
def LinearSumsWrongFalsely : Prop := linearSumsRow.holds Try.pinned (OpenSpec.ofChange linearSumsWrong)

/-- 'arraslaw19.LinearPlaces': WHATEVER THE INPUT: true; the input reads as it did. -/
def linearPlacesSpec : ChangeSpec := { name := "linearPlaces", fn := fun _ => fun
  | [d1, d2] => { results := [.lit (.bool true)], args := [d1, d2] }
  | _ => none }
def linearPlacesRow : OpenClaim := { program := "ytdnjjpkajiehgaa", sum := "c63fc5dcaf6fdb12fefc5727db14472d95925cf01146916918a50d191557a2fd", func := "arras/arraslaw19.LinearPlaces", spec := "linearPlaces", unfollowed := true, recurses := true, apart := false }
def LinearPlacesSaid : Prop := linearPlacesRow.holds Try.pinned (OpenSpec.ofChange linearPlacesSpec)

/-- ITS FALSE NEIGHBOUR: 'it returns false'. Refute it at one input. -/
def linearPlacesWrong : ChangeSpec := { name := "linearPlaces", fn := fun _ => fun
  | [d1, d2] => { results := [.lit (.bool false)], args := [d1, d2] }
  | _ => none }
def LinearPlacesWrongFalsely : Prop := linearPlacesRow.holds Try.pinned (OpenSpec.ofChange linearPlacesWrong)

/- THE SECOND FORM. 'bulk': how many values and letters a reading holds, each counted each time it is reached (what is shared counts as often as it is met; a slice's spare places count too). A statement '..UptoSaid' is the law's where the arguments, and the package variables that the reading takes, are together of bulk at most 1048576: NARROWER than '..Said'. Prove '..Said' where nothing that the law and all that it calls make is longer than what came in: it says more and counts as full. Else prove '..UptoSaid'. A law counts once. -/
mutual
def uptoBulk {H : Type} : DataW H → Nat
  | .lit (.string bytes) => bytes.length + 1
  | .lit _ => 1
  | .nil => 1
  | .ptr d => uptoBulk d + 1
  | .slice elems spare => uptoBulkAll elems + uptoBulkAll spare + 1
  | .agg parts => uptoBulkAll parts + 1
  | .iface _ d => uptoBulk d + 1
  | .map entries => uptoBulkEntries entries + 1
  | .held _ => 1
def uptoBulkAll {H : Type} : List (DataW H) → Nat
  | [] => 0
  | d :: r => uptoBulk d + uptoBulkAll r
def uptoBulkEntries {H : Type} : List (Lit × DataW H) → Nat
  | [] => 0
  | x :: r => uptoBulkEntry x + uptoBulkEntries r
def uptoBulkEntry {H : Type} : Lit × DataW H → Nat
  | (.string bytes, d) => bytes.length + uptoBulk d + 1
  | (_, d) => uptoBulk d + 1
 end
def uptoSmall : (H : Type) → List (DataW H) → Bool := fun _ ds => decide (uptoBulkAll ds ≤ 1048576)
def OpenSpec.upto (s : _root_.Go.ChangeSpec) : _root_.Go.OpenSpec := { _root_.Go.OpenSpec.ofChange s with cond := some uptoSmall }

/-- 'arraslaw16.GraphMade', WHERE WHAT IT READS IS OF BULK AT MOST 1048576: true; the input reads as it did. -/
def graphMadeUptoRow : OpenClaim := { program := "ytdnjjpkajiehgaa", sum := "c63fc5dcaf6fdb12fefc5727db14472d95925cf01146916918a50d191557a2fd", func := "arras/arraslaw16.GraphMade", spec := "graphMade", unfollowed := true, recurses := true, apart := false, narrowed := true }
def GraphMadeUptoSaid : Prop := graphMadeUptoRow.holds Try.pinned (OpenSpec.upto graphMadeSpec)

/-- 'arraslaw16.GraphSpoilt', WHERE WHAT IT READS IS OF BULK AT MOST 1048576: true; the input reads as it did. -/
def graphSpoiltUptoRow : OpenClaim := { program := "ytdnjjpkajiehgaa", sum := "c63fc5dcaf6fdb12fefc5727db14472d95925cf01146916918a50d191557a2fd", func := "arras/arraslaw16.GraphSpoilt", spec := "graphSpoilt", unfollowed := true, recurses := true, apart := false, narrowed := true }
def GraphSpoiltUptoSaid : Prop := graphSpoiltUptoRow.holds Try.pinned (OpenSpec.upto graphSpoiltSpec)

/-- 'arraslaw17.IntervalSpans', WHERE WHAT IT READS IS OF BULK AT MOST 1048576: true; the input reads as it did. -/
def intervalSpansUptoRow : OpenClaim := { program := "ytdnjjpkajiehgaa", sum := "c63fc5dcaf6fdb12fefc5727db14472d95925cf01146916918a50d191557a2fd", func := "arras/arraslaw17.IntervalSpans", spec := "intervalSpans", unfollowed := true, recurses := true, apart := false, narrowed := true }
def IntervalSpansUptoSaid : Prop := intervalSpansUptoRow.holds Try.pinned (OpenSpec.upto intervalSpansSpec)

/-- 'arraslaw17.IntervalRuns', WHERE WHAT IT READS IS OF BULK AT MOST 1048576: true; the input reads as it did. -/
def intervalRunsUptoRow : OpenClaim := { program := "ytdnjjpkajiehgaa", sum := "c63fc5dcaf6fdb12fefc5727db14472d95925cf01146916918a50d191557a2fd", func := "arras/arraslaw17.IntervalRuns", spec := "intervalRuns", unfollowed := true, recurses := true, apart := false, narrowed := true }
def IntervalRunsUptoSaid : Prop := intervalRunsUptoRow.holds Try.pinned (OpenSpec.upto intervalRunsSpec)

/-- 'arraslaw17.IntervalWithin', WHERE WHAT IT READS IS OF BULK AT MOST 1048576: true; the input reads as it did. -/
def intervalWithinUptoRow : OpenClaim := { program := "ytdnjjpkajiehgaa", sum := "c63fc5dcaf6fdb12fefc5727db14472d95925cf01146916918a50d191557a2fd", func := "arras/arraslaw17.IntervalWithin", spec := "intervalWithin", unfollowed := true, recurses := true, apart := false, narrowed := true }
def IntervalWithinUptoSaid : Prop := intervalWithinUptoRow.holds Try.pinned (OpenSpec.upto intervalWithinSpec)

/-- 'arraslaw17.IntervalSums', WHERE WHAT IT READS IS OF BULK AT MOST 1048576: true; the input reads as it did. -/
def intervalSumsUptoRow : OpenClaim := { program := "ytdnjjpkajiehgaa", sum := "c63fc5dcaf6fdb12fefc5727db14472d95925cf01146916918a50d191557a2fd", func := "arras/arraslaw17.IntervalSums", spec := "intervalSums", unfollowed := true, recurses := true, apart := false, narrowed := true }
def IntervalSumsUptoSaid : Prop := intervalSumsUptoRow.holds Try.pinned (OpenSpec.upto intervalSumsSpec)

/-- 'arraslaw19.LinearSlots', WHERE WHAT IT READS IS OF BULK AT MOST 1048576: true; the input reads as it did. -/
def linearSlotsUptoRow : OpenClaim := { program := "ytdnjjpkajiehgaa", sum := "c63fc5dcaf6fdb12fefc5727db14472d95925cf01146916918a50d191557a2fd", func := "arras/arraslaw19.LinearSlots", spec := "linearSlots", unfollowed := true, recurses := true, apart := false, narrowed := true }
def LinearSlotsUptoSaid : Prop := linearSlotsUptoRow.holds Try.pinned (OpenSpec.upto linearSlotsSpec)

/-- 'arraslaw19.LinearRows', WHERE WHAT IT READS IS OF BULK AT MOST 1048576: true; the input reads as it did. -/
def linearRowsUptoRow : OpenClaim := { program := "ytdnjjpkajiehgaa", sum := "c63fc5dcaf6fdb12fefc5727db14472d95925cf01146916918a50d191557a2fd", func := "arras/arraslaw19.LinearRows", spec := "linearRows", unfollowed := true, recurses := true, apart := false, narrowed := true }
def LinearRowsUptoSaid : Prop := linearRowsUptoRow.holds Try.pinned (OpenSpec.upto linearRowsSpec)

/-- 'arraslaw19.LinearMade', WHERE WHAT IT READS IS OF BULK AT MOST 1048576: true; the input reads as it did. -/
def linearMadeUptoRow : OpenClaim := { program := "ytdnjjpkajiehgaa", sum := "c63fc5dcaf6fdb12fefc5727db14472d95925cf01146916918a50d191557a2fd", func := "arras/arraslaw19.LinearMade", spec := "linearMade", unfollowed := true, recurses := true, apart := false, narrowed := true }
def LinearMadeUptoSaid : Prop := linearMadeUptoRow.holds Try.pinned (OpenSpec.upto linearMadeSpec)

/-- 'arraslaw19.LinearDiagonals', WHERE WHAT IT READS IS OF BULK AT MOST 1048576: true; the input reads as it did. -/
def linearDiagonalsUptoRow : OpenClaim := { program := "ytdnjjpkajiehgaa", sum := "c63fc5dcaf6fdb12fefc5727db14472d95925cf01146916918a50d191557a2fd", func := "arras/arraslaw19.LinearDiagonals", spec := "linearDiagonals", unfollowed := true, recurses := true, apart := false, narrowed := true }
def LinearDiagonalsUptoSaid : Prop := linearDiagonalsUptoRow.holds Try.pinned (OpenSpec.upto linearDiagonalsSpec)

/-- 'arraslaw19.LinearSums', WHERE WHAT IT READS IS OF BULK AT MOST 1048576: true; the input reads as it did. -/
def linearSumsUptoRow : OpenClaim := { program := "ytdnjjpkajiehgaa", sum := "c63fc5dcaf6fdb12fefc5727db14472d95925cf01146916918a50d191557a2fd", func := "arras/arraslaw19.LinearSums", spec := "linearSums", unfollowed := true, recurses := true, apart := false, narrowed := true }
def LinearSumsUptoSaid : Prop := linearSumsUptoRow.holds Try.pinned (OpenSpec.upto linearSumsSpec)

/-- 'arraslaw19.LinearPlaces', WHERE WHAT IT READS IS OF BULK AT MOST 1048576: true; the input reads as it did. -/
def linearPlacesUptoRow : OpenClaim := { program := "ytdnjjpkajiehgaa", sum := "c63fc5dcaf6fdb12fefc5727db14472d95925cf01146916918a50d191557a2fd", func := "arras/arraslaw19.LinearPlaces", spec := "linearPlaces", unfollowed := true, recurses := true, apart := false, narrowed := true }
def LinearPlacesUptoSaid : Prop := linearPlacesUptoRow.holds Try.pinned (OpenSpec.upto linearPlacesSpec)

end Rows
end Go.Proofs.Ytdnjjpkajiehgaa
