import Derived.Test.YtjikdbcjabopnaaDoorZ19
import Derived.Deep.RegionHeld3
import Derived.Deep.RegionLawGrows
import Derived.Deep.Upon
import Derived.Lib.SliceRun
import Derived.Test.YtjikdbcjabopnaaDoorZTOpen
import Derived.Deep.Matrix
namespace Go.Proofs.YtjikdbcjabopnaaDoor
open Go.RowKit
set_option linter.unusedVariables false
set_option maxRecDepth 100000
def q2 (i : Nat) : Nat := if i = 0 then 5 else 13
theorem add_block (ad : Addr) (j : Nat) : (ad.add j).block = ad.block := by unfold Addr.add; split <;> rfl
end Go.Proofs.YtjikdbcjabopnaaDoor
