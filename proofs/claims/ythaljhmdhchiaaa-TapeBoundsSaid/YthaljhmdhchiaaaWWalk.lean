/-
  What the calls of package word, and of the reference of layer 1, answer, for every word: halves, joined, the number of bits, the whole product, sum and difference.
-/
import Derived.Test.YthaljhmdhchiaaaRows
import Derived.Test.YthaljhmdhchiaaaWMath
import Derived.Test.YthaljhmdhchiaaaWLen
import Derived.Deep.QuietTactic
import Derived.BigQuiet
import Derived.LoopTactic
import Derived.ProofKit
import Derived.Lib.Hide
namespace Go.Proofs.Ythaljhmdhchiaaa
open Go.RowKit
set_option linter.unusedVariables false

end Go.Proofs.Ythaljhmdhchiaaa
