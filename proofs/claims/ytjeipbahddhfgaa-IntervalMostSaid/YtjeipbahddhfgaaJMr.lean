/-
  What a place has no more, what it stands behind, and whether its numbers are within.
-/
import Derived.Test.YtjeipbahddhfgaaJNd
namespace Go.Proofs.Ytjeipbahddhfgaa
open Go.RowKit
set_option linter.unusedVariables false
set_option maxRecDepth 100000

/-- What a node has: A, B, Shape, Lo or Hi, Size, Data, Bias. -/
def hasL (x : Nd) : List Bool := [decide (x.a ≠ 0), decide (x.b ≠ 0), decide (0 < x.sh.length), decide (x.lo ≠ 0) || decide (x.hi ≠ 0), decide (x.sz ≠ 0), decide (0 < x.da.length), decide (0 < x.bi.length)]
def okL : List Bool → List Bool → Bool
  | h :: hs, m :: ms => (!h || m) && okL hs ms
  | _, _ => true
/-- What a kind has. -/
def mayL (k : Int) : Option (List Bool) :=
  if k = 1 then some [false, false, true, true, false, false, false] else
  if k = 2 then some [false, false, true, false, false, true, false] else
  if k = 3 then some [true, false, false, false, false, true, true] else
  if k = 4 then some [true, false, true, false, false, true, true] else
  if k = 5 then some [true, false, false, false, true, false, false] else
  if k = 6 then some [true, true, false, false, false, false, false] else
  if k = 7 then some [true, false, false, false, false, true, false] else
  if k = 8 then some [true, false, false, false, false, true, false] else
  if k = 9 then some [true, false, true, false, false, false, false] else none
def near1 (z : Int) : Bool := decide (-1048576 ≤ z) && decide (z ≤ 1048576)
def nearOK (x : Nd) : Bool := decide (x.lo ≤ x.hi) && (near1 x.lo && (near1 x.hi && (nearB x.da && nearB x.bi)))
def ahB (v : Int) (n : Nat) : Bool := decide (0 ≤ v) && decide (v < (n : Int))
end Go.Proofs.Ytjeipbahddhfgaa
