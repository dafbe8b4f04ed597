/-
  The document's shapes: what is told of them.
-/
import Derived.Test.YtmmninjiklgebaaJRa
import Derived.Test.YtmmninjiklgebaaJAh
namespace Go.Proofs.Ytmmninjiklgebaa
open Go.RowKit
set_option linter.unusedVariables false
set_option maxRecDepth 100000

/-- A shape that the document tells, or none. -/
def RSh (w : World) (o : Option (List Int)) (e : Ending) (w' : World) : Prop :=
  (∃ s A c, o = some s ∧ e = .returned (.slice (some A) s.length c) ∧ ZX w' (some A) s.length c s ∧ Ext w w') ∨ (o = none ∧ e = .returned (.slice none 0 0) ∧ Ext w w')
theorem form_parts {x : Nd} {n : Nat} {m : List Bool} (hm : mayL x.k = some m) (h : formB x n = true) : okL (hasL x) m = true ∧ behB m x n = true ∧ toldB x = true := by
  unfold formB at h
  rw [hm] at h
  simpa [Bool.and_eq_true] using h
theorem behB_a {m : List Bool} {x : Nd} {n : Nat} (hm : m.getD 0 false = true) (h : behB m x n = true) : ahB x.a n = true := by
  unfold behB at h
  rw [hm] at h
  simp at h
  exact h.1
theorem behB_b {m : List Bool} {x : Nd} {n : Nat} (hm : m.getD 1 false = true) (h : behB m x n = true) : ahB x.b n = true := by
  unfold behB at h
  rw [hm] at h
  simp at h
  exact h.2
theorem entN_zero {a b c : Int} (h : 1 ≤ a ∧ 1 ≤ b ∧ 1 ≤ c ∧ a * b * c ≤ 64 → False) : entN [a, b, c] = 0 := by
  have h1 := entN_le [a, b, c]
  rcases Int.lt_or_le 0 (entN [a, b, c]) with g | g
  · exact (h (entN_three.1 g)).elim
  · omega
end Go.Proofs.Ytmmninjiklgebaa
