import Derived.Test.YtjikdbcjabopnaaDoorRows
namespace Go.Proofs.YtjikdbcjabopnaaDoor
set_option linter.unusedVariables false
set_option maxRecDepth 100000
def S : Nat → (Nat → Int) → Int
 | 0, _ => 0
 | n + 1, f => S n f + f n
def M (q a b : Int) : Prop := a % q = b % q
end Go.Proofs.YtjikdbcjabopnaaDoor
