/-
  What shiftedUp, shiftedDown, guessWord and divPlace of package nat answer.
-/
import Derived.Test.YtoimbommiheccaaDoorZ15
import Derived.Test.YtoimbommiheccaaDoorZNPlace
import Derived.Test.YtoimbommiheccaaDoorZ17
namespace Go.Proofs.YtoimbommiheccaaDoor
open Go.RowKit
set_option linter.unusedVariables false
set_option maxRecDepth 100000

/-- What shiftedUp answers: a row of its own, a word longer. -/
def UpPost (w : World) (n V : Nat) (e : Ending) (w' : World) : Prop :=
  ∃ zs, e = .returned (.slice (some ⟨w.heap.size, 0, none⟩) (n + 1) (n + 1)) ∧ Row w.heap.size w w' w.heap.size (n + 1) (n + 1) zs ∧ (∀ x ∈ zs, x < W64) ∧ nv zs = V

theorem quiet_first {P : Program} {f : FuncId} {args : Array Value} {w : World} {n : Nat} {v : Value} (h : Calls P f args (w.drewN n) (Qt v (w.drewN n))) : Calls P f args (w.drewN n) fun e w'' => e = .returned v ∧ ∃ m, w'' = w.drewN m :=
  h.mono fun _ _ ⟨he, m, hm⟩ => ⟨he, n + m, by rw [hm, World.drewN_drewN]⟩
theorem quo_int (a b t : Nat) : ((a : Int) * 18446744073709551616 + b) / t = ((a * W64 + b) / t : Nat) := by
  rw [W64_eq, Int.natCast_ediv, Int.natCast_add, Int.natCast_mul]; rfl
/-- What a guess answers: a word that is never too small. -/
def GuessPost (P D : Nat) (w : World) (e : Ending) (w' : World) : Prop := ∃ (G q : Nat), e = .returned (.int .u64 (G : Int)) ∧ G < 18446744073709551616 ∧ P < (G + 1) * D ∧ w' = w.drewN q
end Go.Proofs.YtoimbommiheccaaDoor

/-
  What divPlace of package nat answers: a word of the quotient, and the rest in its place.
-/
namespace Go.Proofs.YtoimbommiheccaaDoor
open Go.RowKit
set_option linter.unusedVariables false
set_option maxRecDepth 100000

/-- While too much was taken: word, what is below 0, and what stands in the place. -/
def PlaceInv (P D N b n : Nat) (Wd Bl : Nat) (ns : List Nat) : Prop :=
  ns.length = n ∧ (∀ x ∈ ns, x < b) ∧ Bl ≤ 1 ∧ Wd < b ∧ vl b ns + Wd * D = P + N * Bl ∧ (Bl = 0 → P < (Wd + 1) * D)
theorem PlaceInv.back {P D N b n Wd Bl C : Nat} {ns ns' : List Nat} (h : PlaceInv P D N b n Wd Bl ns) (hN : N = b ^ n) (hB : 0 < Bl) (h1 : ns'.length = n) (h2 : ∀ x ∈ ns', x < b) (hC : C ≤ 1) (h3 : vl b ns' + b ^ n * C = vl b ns + D) :
    1 ≤ Wd ∧ C ≤ Bl ∧ PlaceInv P D N b n (Wd - 1) (Bl - C) ns' := by
  obtain ⟨g1, g2, g3, g4, g5, g6⟩ := h
  obtain rfl : Bl = 1 := by omega
  have hl := vl_lt g2
  rw [g1, ← hN] at hl
  rw [← hN] at h3
  have hw : 1 ≤ Wd := by
    rcases Nat.eq_zero_or_pos Wd with h0 | h0
    · subst h0; rw [Nat.zero_mul] at g5; omega
    · exact h0
  obtain ⟨V, rfl⟩ : ∃ V, Wd = V + 1 := ⟨Wd - 1, by omega⟩
  rw [Nat.add_mul, Nat.one_mul] at g5
  refine ⟨hw, hC, h1, h2, by omega, by omega, ?_, fun h0 => ?_⟩
  · rw [Nat.add_sub_cancel, Nat.mul_sub, Nat.mul_one]
    have : N * C ≤ N := by
      rcases Nat.eq_zero_or_pos C with h0 | h0
      · subst h0; omega
      · obtain rfl : C = 1 := by omega
        omega
    omega
  · rw [Nat.add_sub_cancel, Nat.add_mul, Nat.one_mul]
    omega
theorem PlaceInv.done {P D N b n Wd Bl : Nat} {ns : List Nat} (h : PlaceInv P D N b n Wd Bl ns) (h0 : Bl = 0) (hD : 0 < D) : Wd = P / D ∧ vl b ns = P % D := by
  obtain ⟨g1, g2, g3, g4, g5, g6⟩ := h
  subst h0
  have h1 := g6 rfl
  rw [Nat.add_mul, Nat.one_mul] at h1
  rw [Nat.mul_zero, Nat.add_zero] at g5
  have hlt : vl b ns < D := by omega
  have e : P = vl b ns + D * Wd := by rw [Nat.mul_comm D]; exact g5.symm
  constructor
  · rw [e, Nat.add_mul_div_left _ _ hD, Nat.div_eq_of_lt hlt, Nat.zero_add]
  · rw [e, Nat.add_mul_mod_self_left, Nat.mod_eq_of_lt hlt]

end Go.Proofs.YtoimbommiheccaaDoor
