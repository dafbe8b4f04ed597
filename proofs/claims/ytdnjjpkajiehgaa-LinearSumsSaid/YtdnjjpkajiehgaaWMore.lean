/-
  What the calls of package word, and of the reference of layer 1, answer, for every word: products, powers, inverses, centered and lifted numbers, the greatest common divisor.
-/
import Derived.Test.YtdnjjpkajiehgaaWWalk
import Derived.Test.YtdnjjpkajiehgaaWMath2
namespace Go.Proofs.Ytdnjjpkajiehgaa
open Go.RowKit
set_option linter.unusedVariables false
set_option maxRecDepth 100000

end Go.Proofs.Ytdnjjpkajiehgaa
