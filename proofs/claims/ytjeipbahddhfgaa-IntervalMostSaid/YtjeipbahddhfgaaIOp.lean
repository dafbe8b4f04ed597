/-
  How spans that are handed in read.
-/
import Derived.Test.YtjeipbahddhfgaaIMw
import Derived.Test.YtjeipbahddhfgaaJOpen
import Derived.Deep.Slices
namespace Go.Proofs.Ytjeipbahddhfgaa
open Go.ChangeShapes Go.WideShapes Go.ChangeAt Go.RowKit Go.Joins
set_option linter.unusedVariables false
set_option maxRecDepth 100000

section
variable {H : Type} {enc : TypeId × Value → H}
theorem c_spanI : Try.prog.cellsOf 53 = 2 := by kernel_rfl
theorem span_cellsI {W : World} {fuel : Nat} {cs : List Value} {y : DataW H × List MemPlace} (h : DataW.trod enc Try.prog W 0 (fun _ => true) true fuel 53 cs = some y) :
    ∃ lo hv : Int, cs = [.int .i64 lo, .int .i64 hv] := by
  obtain ⟨xs, n, _, _, hl, hlen, hx⟩ := DataW.trod_struct Try.underlying53 h
  have hs := hl.trans c_spanI
  obtain ⟨c0, c1, rfl⟩ : ∃ c0 c1, cs = [c0, c1] := by
    match cs, hs with
    | [c0, c1], _ => exact ⟨c0, c1, rfl⟩
  have ei : Try.prog.cellsOf 3 = 1 := by kernel_rfl
  match xs, hlen with
  | [y0, y1], _ =>
    have h0 : DataW.trod enc Try.prog W 0 (fun _ => true) true n 3 [c0] = some y0 := by
      have h1 := hx 0 _ rfl
      simpa [ei] using h1
    have h1 : DataW.trod enc Try.prog W 0 (fun _ => true) true n 3 [c1] = some y1 := by
      have h1 := hx 1 _ rfl
      simpa [ei] using h1
    obtain ⟨v0, e0, _, _⟩ := DataW.trod_int Try.underlying3 h0
    obtain ⟨v1, e1, _, _⟩ := DataW.trod_int Try.underlying3 h1
    simp at e0 e1
    subst e0 e1
    exact ⟨v0, v1, rfl⟩
theorem spans_openI {W : World} {v : Value} {d : DataW H} {p : List MemPlace} (h : DataW.Trod enc Try.prog W 0 (fun _ => true) true 43 v d p) :
    ∃ (A : Option Addr) (c : Nat) (l : List (Int × Int)), v.cells.toList = [.slice A l.length c] ∧ SpX W A c l ∧ l.length ≤ 9223372036854775807 := by
  obtain ⟨fuel, hf⟩ := h
  rcases Deep.open_slice Try.underlying43 hf with ⟨e, _⟩ | ⟨a, len, cap, m, n, D, Pl, e, hb, hl, hm, hmm, _, hx⟩
  · exact ⟨none, 0, [], e, ⟨Nat.le_refl _, fun h => absurd h (by simp)⟩, by simp⟩
  · simp only [if_true] at hmm
    subst hmm
    have hall : ∀ i, i < len → ∃ q : Int × Int, W.cell? (a.add (i * 2)) = some (.int .i64 q.1) ∧ W.cell? ⟨(a.add (i * 2)).block, (a.add (i * 2)).off + 1, none⟩ = some (.int .i64 q.2) := fun i hi => by
      obtain ⟨cs', h1, h2⟩ := hx i (by omega)
      rw [c_spanI] at h1
      obtain ⟨lo, hv, rfl⟩ := span_cellsI h2
      obtain ⟨_, _, hc⟩ := World.cells?_some h1
      have g0 := hc 0 (by simp)
      have g1 := hc 1 (by simp)
      rw [add0J] at g0
      exact ⟨(lo, hv), g0, g1⟩
    obtain ⟨X, hX⟩ := Deep.choose_lt hall
    refine ⟨some a, m, (List.range len).map X, by simpa using e, ⟨by simp; omega, fun hn => ⟨a, rfl, fun j x hj => ?_⟩⟩, by simp; unfold maxLen at hm; omega⟩
    have hjl : j < len := by
      have := (List.getElem?_eq_some_iff.1 hj).1
      simpa using this
    rw [List.getElem?_map, List.getElem?_range hjl] at hj
    injection hj with hj
    subst hj
    exact hX j hjl
end
end Go.Proofs.Ytjeipbahddhfgaa
