import Derived.Test.YtkbcobjhlpjieaaGreatDoorZ12
import Derived.Test.YtkbcobjhlpjieaaGreatDoorZNPlace
import Derived.Test.YtkbcobjhlpjieaaGreatDoorZ14
namespace Go.Proofs.YtkbcobjhlpjieaaGreatDoor
open Go.RowKit
set_option linter.unusedVariables false
set_option maxRecDepth 100000
def PlaceInv (P D N b n : Nat) (Wd Bl : Nat) (ns : List Nat) : Prop :=
 ns.length = n ∧ (∀ x ∈ ns, x < b) ∧ Bl ≤ 1 ∧ Wd < b ∧ vl b ns + Wd * D = P + N * Bl ∧ (Bl = 0 → P < (Wd + 1) * D)
theorem PlaceInv.done {P D N b n Wd Bl : Nat} {ns : List Nat} (h : PlaceInv P D N b n Wd Bl ns) (h0 : Bl = 0) (hD : 0 < D) : Wd = P / D ∧ vl b ns = P % D := by
 obtain ⟨g1, g2, g3, g4, g5, g6⟩ := h
 subst h0
 have h1 := g6 rfl
 rw [Nat.add_mul, Nat.one_mul] at h1
 rw [Nat.mul_zero, Nat.add_zero] at g5
 have hlt : vl b ns < D := by omega
 have e : P = vl b ns + D * Wd := by rw [Nat.mul_comm D]; exact g5.symm
 constructor
 ·rw [e, Nat.add_mul_div_left _ _ hD, Nat.div_eq_of_lt hlt, Nat.zero_add]
 ·rw [e, Nat.add_mul_mod_self_left, Nat.mod_eq_of_lt hlt]
end Go.Proofs.YtkbcobjhlpjieaaGreatDoor
