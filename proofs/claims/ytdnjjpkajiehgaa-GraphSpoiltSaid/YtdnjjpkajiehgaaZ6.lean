/-
  What the calls of package word, and of the reference of layer 1, answer, for every word: halves, joined, the number of bits, the whole product, sum and difference.
-/
import Derived.Test.YtdnjjpkajiehgaaRows
import Derived.Test.YtdnjjpkajiehgaaZ1
import Derived.Test.YtdnjjpkajiehgaaWLen
import Derived.Deep.QuietTactic
import Derived.BigQuiet
import Derived.LoopTactic
import Derived.ProofKit
import Derived.Lib.Hide
namespace Go.Proofs.Ytdnjjpkajiehgaa
open Go.RowKit
set_option linter.unusedVariables false
set_option maxRecDepth 100000

end Go.Proofs.Ytdnjjpkajiehgaa

/-
  What the calls of package word, and of the reference of layer 1, answer, for every word: products, powers, inverses, centered and lifted numbers, the greatest common divisor.
-/
namespace Go.Proofs.Ytdnjjpkajiehgaa
open Go.RowKit
set_option linter.unusedVariables false
set_option maxRecDepth 100000

end Go.Proofs.Ytdnjjpkajiehgaa
