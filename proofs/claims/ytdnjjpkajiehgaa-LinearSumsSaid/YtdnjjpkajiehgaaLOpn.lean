/-
  How rows that are handed in read.
-/
import Derived.Test.YtdnjjpkajiehgaaLGro
import Derived.Test.YtdnjjpkajiehgaaJOpen
import Derived.Deep.Slices
namespace Go.Proofs.Ytdnjjpkajiehgaa
open Go.ChangeShapes Go.WideShapes Go.ChangeAt Go.RowKit Go.Joins
set_option linter.unusedVariables false
set_option maxRecDepth 100000

section
variable {H : Type} {enc : TypeId × Value → H}
theorem c_rowL : Try.prog.cellsOf 38 = 1 := by kernel_rfl
theorem rows_openL {W : World} {v : Value} {d : DataW H} {p : List MemPlace} (h : DataW.Trod enc Try.prog W 0 (fun _ => true) true 31 v d p) :
    ∃ (A : Option Addr) (c : Nat) (l : List (List Int)), v.cells.toList = [.slice A l.length c] ∧ SX W A c l := by
  obtain ⟨fuel, hf⟩ := h
  rcases Deep.open_slice Try.underlying31 hf with ⟨e, _⟩ | ⟨a, len, cap, m, n, D, Pl, e, hb, hl, hm, hmm, _, hx⟩
  · exact ⟨none, 0, [], e, ⟨Nat.le_refl _, fun h => absurd h (by simp)⟩⟩
  · simp only [if_true] at hmm
    subst hmm
    have hall : ∀ i, i < len → ∃ q : List Int, ∃ B d, W.cell? (a.add i) = some (.slice B q.length d) ∧ ZX W B q.length d q := fun i hi => by
      obtain ⟨cs', h1, h2⟩ := hx i (by omega)
      rw [c_rowL, Nat.mul_one] at h1
      obtain ⟨B, k, d, xs, rfl, hz, _⟩ := ints_cellsJ h2
      obtain rfl := hz.len
      obtain ⟨_, _, hc⟩ := World.cells?_some h1
      have g0 := hc 0 (by simp)
      rw [show (a.add i).add 0 = a.add i by unfold Addr.add; split <;> simp_all] at g0
      exact ⟨xs, B, d, g0, hz⟩
    obtain ⟨X, hX⟩ := Deep.choose_lt hall
    refine ⟨some a, m, (List.range len).map X, by simpa using e, ⟨by simp; omega, fun hn => ⟨a, rfl, fun j x hj => ?_⟩⟩⟩
    have hjl : j < len := by
      have := (List.getElem?_eq_some_iff.1 hj).1
      simpa using this
    rw [List.getElem?_map, List.getElem?_range hjl] at hj
    injection hj with hj
    subst hj
    exact hX j hjl
end
end Go.Proofs.Ytdnjjpkajiehgaa
