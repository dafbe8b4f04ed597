/-
  NARROWER THAN 'FOR EVERY INPUT', by the rows' own cells (each row's printed sentence says how): RingMakes: laid · RingReckons: laid · RingChanges: laid · RingLifts: laid · RingTurns: laid · RingNil: laid · RingLaws: laid · CrtWholes: laid · CrtResidues: laid · CrtElements: laid · CrtBack: laid · CrtGoes: laid.
  DERIVED. THE GIVEN ROWS OF THIS SEAT. 12 by the template 'for every input the law returns true; each argument reads behind the call as it read before'; 0 by the template 'total and deterministic' (their statements: YtpgcapobbmbchaaDoorTotals.lean).
  GIVEN WITH THE SEED: the statements are not yours to turn. If you find one false, say at which input.
  Laid BY PROGRAM, IN A SANDBOX (cutbox-rows.mjs): the forced cells as the released guide's own fill.sh prints them over the translation 13ac560f0dbd475b… (all of the seat's roots in one cut). By AI agents, Wed Nov 11 2026. No macro, syntax, notation, axiom, sorry.
-/
import Derived.Test.YtpgcapobbmbchaaDoorChecked
import GoSem.Claim
import GoSem.ClaimJoined
import GoSem.ClaimMapViews
import Derived.JoinedTies
import Derived.KernelRfl
namespace Go.Proofs.YtpgcapobbmbchaaDoor
/- THE CELL 'sum', in the pinned program and in every row, IS THE sha256 OF THE DUMP (.gsa) THAT YtpgcapobbmbchaaDoorProg.lean LOADS. Nothing in Lean hashes anything: it is a label: what it is worth is what the hold of that sum in a sandbox is worth. -/
noncomputable def Tryd.pinned : Pinned := { name := "ytpgcapobbmbchaadoor", sum := "13ac560f0dbd475b5e1346f37e7b54d4d79d2b726b1ff6217e8ca7c32b24254f", checked := Tryd.checked }
namespace Rows
def none {H : Type} : Left H := { results := [], args := [] }

/- WHAT THE LISTED PACKAGE-LEVEL VARIABLES READ AS WHEN THE CALL BEGINS. Each datum BY PROGRAM (the guide's laid-datum.mjs) off the statement by which the dump's own 'gosem.cut.vars' lays the variable. In a bare row this is a premise. The card (YtpgcapobbmbchaaDoorCards.lean) ties it to the program's text. -/
def laid_math_bits_deBruijn64tab {H : Type} : DataW H := .agg [.lit (.int .u8 0), .lit (.int .u8 1), .lit (.int .u8 56), .lit (.int .u8 2), .lit (.int .u8 57), .lit (.int .u8 49), .lit (.int .u8 28), .lit (.int .u8 3), .lit (.int .u8 61), .lit (.int .u8 58), .lit (.int .u8 42), .lit (.int .u8 50), .lit (.int .u8 38), .lit (.int .u8 29), .lit (.int .u8 17), .lit (.int .u8 4), .lit (.int .u8 62), .lit (.int .u8 47), .lit (.int .u8 59), .lit (.int .u8 36), .lit (.int .u8 45), .lit (.int .u8 43), .lit (.int .u8 51), .lit (.int .u8 22), .lit (.int .u8 53), .lit (.int .u8 39), .lit (.int .u8 33), .lit (.int .u8 30), .lit (.int .u8 24), .lit (.int .u8 18), .lit (.int .u8 12), .lit (.int .u8 5), .lit (.int .u8 63), .lit (.int .u8 55), .lit (.int .u8 48), .lit (.int .u8 27), .lit (.int .u8 60), .lit (.int .u8 41), .lit (.int .u8 37), .lit (.int .u8 16), .lit (.int .u8 46), .lit (.int .u8 35), .lit (.int .u8 44), .lit (.int .u8 21), .lit (.int .u8 52), .lit (.int .u8 32), .lit (.int .u8 23), .lit (.int .u8 11), .lit (.int .u8 54), .lit (.int .u8 26), .lit (.int .u8 40), .lit (.int .u8 15), .lit (.int .u8 34), .lit (.int .u8 20), .lit (.int .u8 31), .lit (.int .u8 10), .lit (.int .u8 25), .lit (.int .u8 14), .lit (.int .u8 19), .lit (.int .u8 9), .lit (.int .u8 13), .lit (.int .u8 8), .lit (.int .u8 7), .lit (.int .u8 6)]
def laid_arras_prime_bases {H : Type} : DataW H := .agg [.lit (.int .u64 2), .lit (.int .u64 3), .lit (.int .u64 5), .lit (.int .u64 7), .lit (.int .u64 11), .lit (.int .u64 13), .lit (.int .u64 17), .lit (.int .u64 19), .lit (.int .u64 23), .lit (.int .u64 29), .lit (.int .u64 31), .lit (.int .u64 37)]

/-- 'arraslaw05.RingMakes': WHATEVER THE INPUT: true; the input reads as it did. -/
def ringMakesSpec : ChangeSpec := { name := "ringMakes", fn := fun _ => fun
  | [d1, d2, d3] => { results := [.lit (.bool true)], args := [d1, d2, d3] }
  | _ => none }
def ringMakesRow : OpenClaim := { program := "ytpgcapobbmbchaadoor", sum := "13ac560f0dbd475b5e1346f37e7b54d4d79d2b726b1ff6217e8ca7c32b24254f", func := "arras/arraslaw05.RingMakes", spec := "ringMakes", unfollowed := true, recurses := true, named := ["arras/prime.bases", "math/bits.deBruijn64tab", "math/bits.divideError", "math/bits.overflowError"], apart := false, laid := [("math/bits.deBruijn64tab", laid_math_bits_deBruijn64tab), ("arras/prime.bases", laid_arras_prime_bases)] }
def RingMakesSaid : Prop := ringMakesRow.holds Tryd.pinned (OpenSpec.ofChange ringMakesSpec)

/-- ITS FALSE NEIGHBOUR: 'it returns false'. Refute it at one input. -/
def ringMakesWrong : ChangeSpec := { name := "ringMakes", fn := fun _ => fun
  | [d1, d2, d3] => { results := [.lit (.bool false)], args := [d1, d2, d3] }
  | _ => none }
def RingMakesWrongFalsely : Prop := ringMakesRow.holds Tryd.pinned (OpenSpec.ofChange ringMakesWrong)

/-- 'arraslaw05.RingReckons': WHATEVER THE INPUT: true; the input reads as it did. -/
def ringReckonsSpec : ChangeSpec := { name := "ringReckons", fn := fun _ => fun
  | [d1, d2, d3, d4] => { results := [.lit (.bool true)], args := [d1, d2, d3, d4] }
  | _ => none }
def ringReckonsRow : OpenClaim := { program := "ytpgcapobbmbchaadoor", sum := "13ac560f0dbd475b5e1346f37e7b54d4d79d2b726b1ff6217e8ca7c32b24254f", func := "arras/arraslaw05.RingReckons", spec := "ringReckons", unfollowed := true, recurses := true, named := ["arras/prime.bases", "math/bits.deBruijn64tab", "math/bits.divideError", "math/bits.overflowError"], apart := false, laid := [("math/bits.deBruijn64tab", laid_math_bits_deBruijn64tab), ("arras/prime.bases", laid_arras_prime_bases)] }
def RingReckonsSaid : Prop := ringReckonsRow.holds Tryd.pinned (OpenSpec.ofChange ringReckonsSpec)

/-- ITS FALSE NEIGHBOUR: 'it returns false'. Refute it at one input. -/
def ringReckonsWrong : ChangeSpec := { name := "ringReckons", fn := fun _ => fun
  | [d1, d2, d3, d4] => { results := [.lit (.bool false)], args := [d1, d2, d3, d4] }
  | _ => none }
def RingReckonsWrongFalsely : Prop := ringReckonsRow.holds Tryd.pinned (OpenSpec.ofChange ringReckonsWrong)

/-- 'arraslaw05.RingChanges': WHATEVER THE INPUT: true; the input reads as it did. -/
def ringChangesSpec : ChangeSpec := { name := "ringChanges", fn := fun _ => fun
  | [d1, d2, d3, d4, d5] => { results := [.lit (.bool true)], args := [d1, d2, d3, d4, d5] }
  | _ => none }
def ringChangesRow : OpenClaim := { program := "ytpgcapobbmbchaadoor", sum := "13ac560f0dbd475b5e1346f37e7b54d4d79d2b726b1ff6217e8ca7c32b24254f", func := "arras/arraslaw05.RingChanges", spec := "ringChanges", unfollowed := true, recurses := true, named := ["arras/prime.bases", "math/bits.deBruijn64tab", "math/bits.divideError", "math/bits.overflowError"], apart := false, laid := [("math/bits.deBruijn64tab", laid_math_bits_deBruijn64tab), ("arras/prime.bases", laid_arras_prime_bases)] }
def RingChangesSaid : Prop := ringChangesRow.holds Tryd.pinned (OpenSpec.ofChange ringChangesSpec)

/-- ITS FALSE NEIGHBOUR: 'it returns false'. Refute it at one input. -/
def ringChangesWrong : ChangeSpec := { name := "ringChanges", fn := fun _ => fun
  | [d1, d2, d3, d4, d5] => { results := [.lit (.bool false)], args := [d1, d2, d3, d4, d5] }
  | _ => none }
def RingChangesWrongFalsely : Prop := ringChangesRow.holds Tryd.pinned (OpenSpec.ofChange ringChangesWrong)

/-- 'arraslaw05.RingLifts': WHATEVER THE INPUT: true; the input reads as it did. -/
def ringLiftsSpec : ChangeSpec := { name := "ringLifts", fn := fun _ => fun
  | [d1, d2, d3, d4] => { results := [.lit (.bool true)], args := [d1, d2, d3, d4] }
  | _ => none }
def ringLiftsRow : OpenClaim := { program := "ytpgcapobbmbchaadoor", sum := "13ac560f0dbd475b5e1346f37e7b54d4d79d2b726b1ff6217e8ca7c32b24254f", func := "arras/arraslaw05.RingLifts", spec := "ringLifts", unfollowed := true, recurses := true, named := ["arras/prime.bases", "math/bits.deBruijn64tab", "math/bits.divideError", "math/bits.overflowError"], apart := false, laid := [("math/bits.deBruijn64tab", laid_math_bits_deBruijn64tab), ("arras/prime.bases", laid_arras_prime_bases)] }
def RingLiftsSaid : Prop := ringLiftsRow.holds Tryd.pinned (OpenSpec.ofChange ringLiftsSpec)

/-- ITS FALSE NEIGHBOUR: 'it returns false'. Refute it at one input. -/
def ringLiftsWrong : ChangeSpec := { name := "ringLifts", fn := fun _ => fun
  | [d1, d2, d3, d4] => { results := [.lit (.bool false)], args := [d1, d2, d3, d4] }
  | _ => none }
def RingLiftsWrongFalsely : Prop := ringLiftsRow.holds Tryd.pinned (OpenSpec.ofChange ringLiftsWrong)

/-- 'arraslaw05.RingTurns': WHATEVER THE INPUT: true; the input reads as it did. -/
def ringTurnsSpec : ChangeSpec := { name := "ringTurns", fn := fun _ => fun
  | [d1, d2, d3, d4, d5, d6] => { results := [.lit (.bool true)], args := [d1, d2, d3, d4, d5, d6] }
  | _ => none }
def ringTurnsRow : OpenClaim := { program := "ytpgcapobbmbchaadoor", sum := "13ac560f0dbd475b5e1346f37e7b54d4d79d2b726b1ff6217e8ca7c32b24254f", func := "arras/arraslaw05.RingTurns", spec := "ringTurns", unfollowed := true, recurses := true, named := ["arras/prime.bases", "math/bits.deBruijn64tab", "math/bits.divideError", "math/bits.overflowError"], apart := false, laid := [("math/bits.deBruijn64tab", laid_math_bits_deBruijn64tab), ("arras/prime.bases", laid_arras_prime_bases)] }
def RingTurnsSaid : Prop := ringTurnsRow.holds Tryd.pinned (OpenSpec.ofChange ringTurnsSpec)

/-- ITS FALSE NEIGHBOUR: 'it returns false'. Refute it at one input. -/
def ringTurnsWrong : ChangeSpec := { name := "ringTurns", fn := fun _ => fun
  | [d1, d2, d3, d4, d5, d6] => { results := [.lit (.bool false)], args := [d1, d2, d3, d4, d5, d6] }
  | _ => none }
def RingTurnsWrongFalsely : Prop := ringTurnsRow.holds Tryd.pinned (OpenSpec.ofChange ringTurnsWrong)

/-- 'arraslaw05.RingNil': WHATEVER THE INPUT: true; the input reads as it did. -/
def ringNilSpec : ChangeSpec := { name := "ringNil", fn := fun _ => fun
  | [d1, d2] => { results := [.lit (.bool true)], args := [d1, d2] }
  | _ => none }
def ringNilRow : OpenClaim := { program := "ytpgcapobbmbchaadoor", sum := "13ac560f0dbd475b5e1346f37e7b54d4d79d2b726b1ff6217e8ca7c32b24254f", func := "arras/arraslaw05.RingNil", spec := "ringNil", unfollowed := true, recurses := true, named := ["arras/prime.bases", "math/bits.deBruijn64tab", "math/bits.divideError", "math/bits.overflowError"], apart := false, laid := [("math/bits.deBruijn64tab", laid_math_bits_deBruijn64tab), ("arras/prime.bases", laid_arras_prime_bases)] }
def RingNilSaid : Prop := ringNilRow.holds Tryd.pinned (OpenSpec.ofChange ringNilSpec)

/-- ITS FALSE NEIGHBOUR: 'it returns false'. Refute it at one input. -/
def ringNilWrong : ChangeSpec := { name := "ringNil", fn := fun _ => fun
  | [d1, d2] => { results := [.lit (.bool false)], args := [d1, d2] }
  | _ => none }
def RingNilWrongFalsely : Prop := ringNilRow.holds Tryd.pinned (OpenSpec.ofChange ringNilWrong)

/-- 'arraslaw05.RingLaws': WHATEVER THE INPUT: true; the input reads as it did. -/
def ringLawsSpec : ChangeSpec := { name := "ringLaws", fn := fun _ => fun
  | [d1, d2, d3, d4] => { results := [.lit (.bool true)], args := [d1, d2, d3, d4] }
  | _ => none }
def ringLawsRow : OpenClaim := { program := "ytpgcapobbmbchaadoor", sum := "13ac560f0dbd475b5e1346f37e7b54d4d79d2b726b1ff6217e8ca7c32b24254f", func := "arras/arraslaw05.RingLaws", spec := "ringLaws", unfollowed := true, recurses := true, named := ["arras/prime.bases", "math/bits.deBruijn64tab", "math/bits.divideError", "math/bits.overflowError"], apart := false, laid := [("math/bits.deBruijn64tab", laid_math_bits_deBruijn64tab), ("arras/prime.bases", laid_arras_prime_bases)] }
def RingLawsSaid : Prop := ringLawsRow.holds Tryd.pinned (OpenSpec.ofChange ringLawsSpec)

/-- ITS FALSE NEIGHBOUR: 'it returns false'. Refute it at one input. -/
def ringLawsWrong : ChangeSpec := { name := "ringLaws", fn := fun _ => fun
  | [d1, d2, d3, d4] => { results := [.lit (.bool false)], args := [d1, d2, d3, d4] }
  | _ => none }
def RingLawsWrongFalsely : Prop := ringLawsRow.holds Tryd.pinned (OpenSpec.ofChange ringLawsWrong)

/-- 'arraslaw06.CrtWholes': WHATEVER THE INPUT: true; the input reads as it did. -/
def crtWholesSpec : ChangeSpec := { name := "crtWholes", fn := fun _ => fun
  | [d1, d2] => { results := [.lit (.bool true)], args := [d1, d2] }
  | _ => none }
def crtWholesRow : OpenClaim := { program := "ytpgcapobbmbchaadoor", sum := "13ac560f0dbd475b5e1346f37e7b54d4d79d2b726b1ff6217e8ca7c32b24254f", func := "arras/arraslaw06.CrtWholes", spec := "crtWholes", unfollowed := true, recurses := true, named := ["arras/prime.bases", "math/bits.deBruijn64tab"], apart := false, laid := [("math/bits.deBruijn64tab", laid_math_bits_deBruijn64tab), ("arras/prime.bases", laid_arras_prime_bases)] }
def CrtWholesSaid : Prop := crtWholesRow.holds Tryd.pinned (OpenSpec.ofChange crtWholesSpec)

/-- ITS FALSE NEIGHBOUR: 'it returns false'. Refute it at one input. -/
def crtWholesWrong : ChangeSpec := { name := "crtWholes", fn := fun _ => fun
  | [d1, d2] => { results := [.lit (.bool false)], args := [d1, d2] }
  | _ => none }
def CrtWholesWrongFalsely : Prop := crtWholesRow.holds Tryd.pinned (OpenSpec.ofChange crtWholesWrong)

/-- 'arraslaw06.CrtResidues': WHATEVER THE INPUT: true; the input reads as it did. -/
def crtResiduesSpec : ChangeSpec := { name := "crtResidues", fn := fun _ => fun
  | [d1, d2] => { results := [.lit (.bool true)], args := [d1, d2] }
  | _ => none }
def crtResiduesRow : OpenClaim := { program := "ytpgcapobbmbchaadoor", sum := "13ac560f0dbd475b5e1346f37e7b54d4d79d2b726b1ff6217e8ca7c32b24254f", func := "arras/arraslaw06.CrtResidues", spec := "crtResidues", unfollowed := true, recurses := true, named := ["arras/prime.bases", "math/bits.deBruijn64tab"], apart := false, laid := [("math/bits.deBruijn64tab", laid_math_bits_deBruijn64tab), ("arras/prime.bases", laid_arras_prime_bases)] }
def CrtResiduesSaid : Prop := crtResiduesRow.holds Tryd.pinned (OpenSpec.ofChange crtResiduesSpec)

/-- ITS FALSE NEIGHBOUR: 'it returns false'. Refute it at one input. -/
def crtResiduesWrong : ChangeSpec := { name := "crtResidues", fn := fun _ => fun
  | [d1, d2] => { results := [.lit (.bool false)], args := [d1, d2] }
  | _ => none }
def CrtResiduesWrongFalsely : Prop := crtResiduesRow.holds Tryd.pinned (OpenSpec.ofChange crtResiduesWrong)

/-- 'arraslaw06.CrtElements': WHATEVER THE INPUT: true; the input reads as it did. -/
def crtElementsSpec : ChangeSpec := { name := "crtElements", fn := fun _ => fun
  | [d1, d2, d3] => { results := [.lit (.bool true)], args := [d1, d2, d3] }
  | _ => none }
def crtElementsRow : OpenClaim := { program := "ytpgcapobbmbchaadoor", sum := "13ac560f0dbd475b5e1346f37e7b54d4d79d2b726b1ff6217e8ca7c32b24254f", func := "arras/arraslaw06.CrtElements", spec := "crtElements", unfollowed := true, recurses := true, named := ["arras/prime.bases", "math/bits.deBruijn64tab"], apart := false, laid := [("math/bits.deBruijn64tab", laid_math_bits_deBruijn64tab), ("arras/prime.bases", laid_arras_prime_bases)] }
def CrtElementsSaid : Prop := crtElementsRow.holds Tryd.pinned (OpenSpec.ofChange crtElementsSpec)

/-- ITS FALSE NEIGHBOUR: 'it returns false'. Refute it at one input. -/
def crtElementsWrong : ChangeSpec := { name := "crtElements", fn := fun _ => fun
  | [d1, d2, d3] => { results := [.lit (.bool false)], args := [d1, d2, d3] }
  | _ => none }
def CrtElementsWrongFalsely : Prop := crtElementsRow.holds Tryd.pinned (OpenSpec.ofChange crtElementsWrong)

/-- 'arraslaw06.CrtBack': WHATEVER THE INPUT: true; the input reads as it did. -/
def crtBackSpec : ChangeSpec := { name := "crtBack", fn := fun _ => fun
  | [d1, d2] => { results := [.lit (.bool true)], args := [d1, d2] }
  | _ => none }
def crtBackRow : OpenClaim := { program := "ytpgcapobbmbchaadoor", sum := "13ac560f0dbd475b5e1346f37e7b54d4d79d2b726b1ff6217e8ca7c32b24254f", func := "arras/arraslaw06.CrtBack", spec := "crtBack", unfollowed := true, recurses := true, named := ["arras/prime.bases", "math/bits.deBruijn64tab"], apart := false, laid := [("math/bits.deBruijn64tab", laid_math_bits_deBruijn64tab), ("arras/prime.bases", laid_arras_prime_bases)] }
def CrtBackSaid : Prop := crtBackRow.holds Tryd.pinned (OpenSpec.ofChange crtBackSpec)

/-- ITS FALSE NEIGHBOUR: 'it returns false'. Refute it at one input. -/
def crtBackWrong : ChangeSpec := { name := "crtBack", fn := fun _ => fun
  | [d1, d2] => { results := [.lit (.bool false)], args := [d1, d2] }
  | _ => none }
def CrtBackWrongFalsely : Prop := crtBackRow.holds Tryd.pinned (OpenSpec.ofChange crtBackWrong)

/-- 'arraslaw06.CrtGoes': WHATEVER THE INPUT: true; the input reads as it did. -/
def crtGoesSpec : ChangeSpec := { name := "crtGoes", fn := fun _ => fun
  | [d1, d2, d3] => { results := [.lit (.bool true)], args := [d1, d2, d3] }
  | _ => none }
def crtGoesRow : OpenClaim := { program := "ytpgcapobbmbchaadoor", sum := "13ac560f0dbd475b5e1346f37e7b54d4d79d2b726b1ff6217e8ca7c32b24254f", func := "arras/arraslaw06.CrtGoes", spec := "crtGoes", unfollowed := true, recurses := true, named := ["arras/prime.bases", "math/bits.deBruijn64tab"], apart := false, laid := [("math/bits.deBruijn64tab", laid_math_bits_deBruijn64tab), ("arras/prime.bases", laid_arras_prime_bases)] }
def CrtGoesSaid : Prop := crtGoesRow.holds Tryd.pinned (OpenSpec.ofChange crtGoesSpec)

/-- ITS FALSE NEIGHBOUR: 'it returns false'. Refute it at one input. -/
def crtGoesWrong : ChangeSpec := { name := "crtGoes", fn := fun _ => fun
  | [d1, d2, d3] => { results := [.lit (.bool false)], args := [d1, d2, d3] }
  | _ => none }
def CrtGoesWrongFalsely : Prop := crtGoesRow.holds Tryd.pinned (OpenSpec.ofChange crtGoesWrong)

/- THE SECOND FORM. 'bulk': how many values and letters a reading holds, each counted each time it is reached (what is shared counts as often as it is met; a slice's spare places count too). A statement '..UptoSaid' is the law's where the arguments, and the package variables that the reading takes, are together of bulk at most 1048576: NARROWER than '..Said'. Prove '..Said' where nothing that the law and all that it calls make is longer than what came in: it says more and counts as full. Else prove '..UptoSaid'. A law counts once. -/
mutual
def uptoBulk {H : Type} : DataW H → Nat
  | .lit (.string bytes) => bytes.length + 1
  | .lit _ => 1
  | .nil => 1
  | .ptr d => uptoBulk d + 1
  | .slice elems spare => uptoBulkAll elems + uptoBulkAll spare + 1
  | .agg parts => uptoBulkAll parts + 1
  | .iface _ d => uptoBulk d + 1
  | .map entries => uptoBulkEntries entries + 1
  | .held _ => 1
def uptoBulkAll {H : Type} : List (DataW H) → Nat
  | [] => 0
  | d :: r => uptoBulk d + uptoBulkAll r
def uptoBulkEntries {H : Type} : List (Lit × DataW H) → Nat
  | [] => 0
  | x :: r => uptoBulkEntry x + uptoBulkEntries r
def uptoBulkEntry {H : Type} : Lit × DataW H → Nat
  | (.string bytes, d) => bytes.length + uptoBulk d + 1
  | (_, d) => uptoBulk d + 1
 end
def uptoSmall : (H : Type) → List (DataW H) → Bool := fun _ ds => decide (uptoBulkAll ds ≤ 1048576)
def OpenSpec.upto (s : _root_.Go.ChangeSpec) : _root_.Go.OpenSpec := { _root_.Go.OpenSpec.ofChange s with cond := some uptoSmall }

/-- 'arraslaw05.RingMakes', WHERE WHAT IT READS IS OF BULK AT MOST 1048576: true; the input reads as it did. -/
def ringMakesUptoRow : OpenClaim := { program := "ytpgcapobbmbchaadoor", sum := "13ac560f0dbd475b5e1346f37e7b54d4d79d2b726b1ff6217e8ca7c32b24254f", func := "arras/arraslaw05.RingMakes", spec := "ringMakes", unfollowed := true, recurses := true, named := ["arras/prime.bases", "math/bits.deBruijn64tab", "math/bits.divideError", "math/bits.overflowError"], apart := false, laid := [("math/bits.deBruijn64tab", laid_math_bits_deBruijn64tab), ("arras/prime.bases", laid_arras_prime_bases)], narrowed := true }
def RingMakesUptoSaid : Prop := ringMakesUptoRow.holds Tryd.pinned (OpenSpec.upto ringMakesSpec)

/-- 'arraslaw05.RingReckons', WHERE WHAT IT READS IS OF BULK AT MOST 1048576: true; the input reads as it did. -/
def ringReckonsUptoRow : OpenClaim := { program := "ytpgcapobbmbchaadoor", sum := "13ac560f0dbd475b5e1346f37e7b54d4d79d2b726b1ff6217e8ca7c32b24254f", func := "arras/arraslaw05.RingReckons", spec := "ringReckons", unfollowed := true, recurses := true, named := ["arras/prime.bases", "math/bits.deBruijn64tab", "math/bits.divideError", "math/bits.overflowError"], apart := false, laid := [("math/bits.deBruijn64tab", laid_math_bits_deBruijn64tab), ("arras/prime.bases", laid_arras_prime_bases)], narrowed := true }
def RingReckonsUptoSaid : Prop := ringReckonsUptoRow.holds Tryd.pinned (OpenSpec.upto ringReckonsSpec)

/-- 'arraslaw05.RingChanges', WHERE WHAT IT READS IS OF BULK AT MOST 1048576: true; the input reads as it did. -/
def ringChangesUptoRow : OpenClaim := { program := "ytpgcapobbmbchaadoor", sum := "13ac560f0dbd475b5e1346f37e7b54d4d79d2b726b1ff6217e8ca7c32b24254f", func := "arras/arraslaw05.RingChanges", spec := "ringChanges", unfollowed := true, recurses := true, named := ["arras/prime.bases", "math/bits.deBruijn64tab", "math/bits.divideError", "math/bits.overflowError"], apart := false, laid := [("math/bits.deBruijn64tab", laid_math_bits_deBruijn64tab), ("arras/prime.bases", laid_arras_prime_bases)], narrowed := true }
def RingChangesUptoSaid : Prop := ringChangesUptoRow.holds Tryd.pinned (OpenSpec.upto ringChangesSpec)

/-- 'arraslaw05.RingLifts', WHERE WHAT IT READS IS OF BULK AT MOST 1048576: true; the input reads as it did. -/
def ringLiftsUptoRow : OpenClaim := { program := "ytpgcapobbmbchaadoor", sum := "13ac560f0dbd475b5e1346f37e7b54d4d79d2b726b1ff6217e8ca7c32b24254f", func := "arras/arraslaw05.RingLifts", spec := "ringLifts", unfollowed := true, recurses := true, named := ["arras/prime.bases", "math/bits.deBruijn64tab", "math/bits.divideError", "math/bits.overflowError"], apart := false, laid := [("math/bits.deBruijn64tab", laid_math_bits_deBruijn64tab), ("arras/prime.bases", laid_arras_prime_bases)], narrowed := true }
def RingLiftsUptoSaid : Prop := ringLiftsUptoRow.holds Tryd.pinned (OpenSpec.upto ringLiftsSpec)

/-- 'arraslaw05.RingTurns', WHERE WHAT IT READS IS OF BULK AT MOST 1048576: true; the input reads as it did. -/
def ringTurnsUptoRow : OpenClaim := { program := "ytpgcapobbmbchaadoor", sum := "13ac560f0dbd475b5e1346f37e7b54d4d79d2b726b1ff6217e8ca7c32b24254f", func := "arras/arraslaw05.RingTurns", spec := "ringTurns", unfollowed := true, recurses := true, named := ["arras/prime.bases", "math/bits.deBruijn64tab", "math/bits.divideError", "math/bits.overflowError"], apart := false, laid := [("math/bits.deBruijn64tab", laid_math_bits_deBruijn64tab), ("arras/prime.bases", laid_arras_prime_bases)], narrowed := true }
def RingTurnsUptoSaid : Prop := ringTurnsUptoRow.holds Tryd.pinned (OpenSpec.upto ringTurnsSpec)

/-- 'arraslaw05.RingNil', WHERE WHAT IT READS IS OF BULK AT MOST 1048576: true; the input reads as it did. -/
def ringNilUptoRow : OpenClaim := { program := "ytpgcapobbmbchaadoor", sum := "13ac560f0dbd475b5e1346f37e7b54d4d79d2b726b1ff6217e8ca7c32b24254f", func := "arras/arraslaw05.RingNil", spec := "ringNil", unfollowed := true, recurses := true, named := ["arras/prime.bases", "math/bits.deBruijn64tab", "math/bits.divideError", "math/bits.overflowError"], apart := false, laid := [("math/bits.deBruijn64tab", laid_math_bits_deBruijn64tab), ("arras/prime.bases", laid_arras_prime_bases)], narrowed := true }
def RingNilUptoSaid : Prop := ringNilUptoRow.holds Tryd.pinned (OpenSpec.upto ringNilSpec)

/-- 'arraslaw05.RingLaws', WHERE WHAT IT READS IS OF BULK AT MOST 1048576: true; the input reads as it did. -/
def ringLawsUptoRow : OpenClaim := { program := "ytpgcapobbmbchaadoor", sum := "13ac560f0dbd475b5e1346f37e7b54d4d79d2b726b1ff6217e8ca7c32b24254f", func := "arras/arraslaw05.RingLaws", spec := "ringLaws", unfollowed := true, recurses := true, named := ["arras/prime.bases", "math/bits.deBruijn64tab", "math/bits.divideError", "math/bits.overflowError"], apart := false, laid := [("math/bits.deBruijn64tab", laid_math_bits_deBruijn64tab), ("arras/prime.bases", laid_arras_prime_bases)], narrowed := true }
def RingLawsUptoSaid : Prop := ringLawsUptoRow.holds Tryd.pinned (OpenSpec.upto ringLawsSpec)

/-- 'arraslaw06.CrtWholes', WHERE WHAT IT READS IS OF BULK AT MOST 1048576: true; the input reads as it did. -/
def crtWholesUptoRow : OpenClaim := { program := "ytpgcapobbmbchaadoor", sum := "13ac560f0dbd475b5e1346f37e7b54d4d79d2b726b1ff6217e8ca7c32b24254f", func := "arras/arraslaw06.CrtWholes", spec := "crtWholes", unfollowed := true, recurses := true, named := ["arras/prime.bases", "math/bits.deBruijn64tab"], apart := false, laid := [("math/bits.deBruijn64tab", laid_math_bits_deBruijn64tab), ("arras/prime.bases", laid_arras_prime_bases)], narrowed := true }
def CrtWholesUptoSaid : Prop := crtWholesUptoRow.holds Tryd.pinned (OpenSpec.upto crtWholesSpec)

/-- 'arraslaw06.CrtResidues', WHERE WHAT IT READS IS OF BULK AT MOST 1048576: true; the input reads as it did. -/
def crtResiduesUptoRow : OpenClaim := { program := "ytpgcapobbmbchaadoor", sum := "13ac560f0dbd475b5e1346f37e7b54d4d79d2b726b1ff6217e8ca7c32b24254f", func := "arras/arraslaw06.CrtResidues", spec := "crtResidues", unfollowed := true, recurses := true, named := ["arras/prime.bases", "math/bits.deBruijn64tab"], apart := false, laid := [("math/bits.deBruijn64tab", laid_math_bits_deBruijn64tab), ("arras/prime.bases", laid_arras_prime_bases)], narrowed := true }
def CrtResiduesUptoSaid : Prop := crtResiduesUptoRow.holds Tryd.pinned (OpenSpec.upto crtResiduesSpec)

/-- 'arraslaw06.CrtElements', WHERE WHAT IT READS IS OF BULK AT MOST 1048576: true; the input reads as it did. -/
def crtElementsUptoRow : OpenClaim := { program := "ytpgcapobbmbchaadoor", sum := "13ac560f0dbd475b5e1346f37e7b54d4d79d2b726b1ff6217e8ca7c32b24254f", func := "arras/arraslaw06.CrtElements", spec := "crtElements", unfollowed := true, recurses := true, named := ["arras/prime.bases", "math/bits.deBruijn64tab"], apart := false, laid := [("math/bits.deBruijn64tab", laid_math_bits_deBruijn64tab), ("arras/prime.bases", laid_arras_prime_bases)], narrowed := true }
def CrtElementsUptoSaid : Prop := crtElementsUptoRow.holds Tryd.pinned (OpenSpec.upto crtElementsSpec)

/-- 'arraslaw06.CrtBack', WHERE WHAT IT READS IS OF BULK AT MOST 1048576: true; the input reads as it did. -/
def crtBackUptoRow : OpenClaim := { program := "ytpgcapobbmbchaadoor", sum := "13ac560f0dbd475b5e1346f37e7b54d4d79d2b726b1ff6217e8ca7c32b24254f", func := "arras/arraslaw06.CrtBack", spec := "crtBack", unfollowed := true, recurses := true, named := ["arras/prime.bases", "math/bits.deBruijn64tab"], apart := false, laid := [("math/bits.deBruijn64tab", laid_math_bits_deBruijn64tab), ("arras/prime.bases", laid_arras_prime_bases)], narrowed := true }
def CrtBackUptoSaid : Prop := crtBackUptoRow.holds Tryd.pinned (OpenSpec.upto crtBackSpec)

/-- 'arraslaw06.CrtGoes', WHERE WHAT IT READS IS OF BULK AT MOST 1048576: true; the input reads as it did. -/
def crtGoesUptoRow : OpenClaim := { program := "ytpgcapobbmbchaadoor", sum := "13ac560f0dbd475b5e1346f37e7b54d4d79d2b726b1ff6217e8ca7c32b24254f", func := "arras/arraslaw06.CrtGoes", spec := "crtGoes", unfollowed := true, recurses := true, named := ["arras/prime.bases", "math/bits.deBruijn64tab"], apart := false, laid := [("math/bits.deBruijn64tab", laid_math_bits_deBruijn64tab), ("arras/prime.bases", laid_arras_prime_bases)], narrowed := true }
def CrtGoesUptoSaid : Prop := crtGoesUptoRow.holds Tryd.pinned (OpenSpec.upto crtGoesSpec)

end Rows
end Go.Proofs.YtpgcapobbmbchaaDoor
