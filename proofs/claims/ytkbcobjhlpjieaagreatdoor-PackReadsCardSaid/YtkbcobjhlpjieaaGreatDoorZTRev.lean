import Derived.Test.YtkbcobjhlpjieaaGreatDoorZ6
import Derived.Test.YtkbcobjhlpjieaaGreatDoorZPExt
import Derived.Laws.Bits64b
namespace Go.Proofs.YtkbcobjhlpjieaaGreatDoor
open Go.RowKit
set_option linter.unusedVariables false
set_option maxRecDepth 100000
def rev : Nat → Nat → Nat
 | 0, _ => 0
 | k + 1, x => (x % 2) * 2 ^ k + rev k (x / 2)
end Go.Proofs.YtkbcobjhlpjieaaGreatDoor
