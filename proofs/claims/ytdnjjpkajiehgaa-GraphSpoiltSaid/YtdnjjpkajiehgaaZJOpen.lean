/-
  How numbers that are handed in read, and that a law's row holds if the law returns true and memory only grows.
-/
import Derived.Test.YtdnjjpkajiehgaaZJLst
import Derived.Test.YtdnjjpkajiehgaaZ1
import Derived.ChangeSame
import Derived.Carry
import Derived.ChangeSlices
import Derived.Lib.SmallJoins
import Derived.ProofKit
import Derived.OpenShut
namespace Go.Proofs.Ytdnjjpkajiehgaa
open Go.ChangeShapes Go.WideShapes Go.ChangeAt Go.RowKit Go.Joins
set_option linter.unusedVariables false
set_option maxRecDepth 100000

theorem long_ofJ {a : Int} (h : (Lit.int .i64 a).wf = true) : -9223372036854775808 ≤ a ∧ a < 9223372036854775808 := by
  have h1 : IntKind.i64.min = -9223372036854775808 := by decide
  have h2 : IntKind.i64.max = 9223372036854775807 := by decide
  simp only [Lit.wf, h1, h2, Bool.and_eq_true, decide_eq_true_eq] at h
  omega
section
variable {H : Type} {enc : TypeId × Value → H}
theorem cells_intJ : Try.prog.cellsOf 3 = 1 := by kernel_rfl
theorem laidOutJ : laidOutB Try.prog = true := by kernel_rfl
theorem ints_cellsJ {W : World} {fuel : Nat} {cs : List Value} {x : DataW H × List MemPlace} (h : DataW.trod enc Try.prog W 0 (fun _ => true) true fuel 38 cs = some x) :
    ∃ A n c xs, cs = [.slice A n c] ∧ ZX W A n c xs ∧ n ≤ maxLen ∧ (n = 0 → xs = []) ∧ (∀ z ∈ xs, -9223372036854775808 ≤ z ∧ z < 9223372036854775808) := by
  rcases ChangeShapes.open_ints Try.underlying38 Try.underlying3 cells_intJ h with ⟨rfl, _⟩ | ⟨a, len, cap, zs, rfl, _, hl, hm, hz, _, hcell, hwz⟩
  · exact ⟨none, 0, 0, [], rfl, ZX.none_ _ _ _, Nat.zero_le _, fun _ => rfl, fun z h => by cases h⟩
  · simp only [if_true] at hz
    refine ⟨some a, len, cap, zs.take len, rfl, ⟨by simp; omega, hl, fun hn => ⟨a, rfl, fun j x hx => ?_⟩⟩, by omega, fun h => by simp [h], fun z hz1 => ?_⟩
    · rw [List.getElem?_take] at hx
      split at hx
      · have hj := (List.getElem?_eq_some_iff.1 hx).1
        rw [hcell j hj, show zs.getD j 0 = x by simp [List.getD, hx]]
      · cases hx
    · exact long_ofJ (hwz z (List.mem_of_mem_take hz1))
theorem ints_openJ {W : World} {v : Value} {d : DataW H} {p : List MemPlace} (h : DataW.Trod enc Try.prog W 0 (fun _ => true) true 38 v d p) : ∃ A n c xs, v.cells.toList = [.slice A n c] ∧ ZX W A n c xs ∧ n ≤ maxLen ∧ (∀ z ∈ xs, -9223372036854775808 ≤ z ∧ z < 9223372036854775808) := by
  obtain ⟨f, hf⟩ := h
  obtain ⟨A, n, c, xs, h1, h2, h3, _, h4⟩ := ints_cellsJ hf
  exact ⟨A, n, c, xs, h1, h2, h3, h4⟩
theorem post_extJ {P : Program} {f : Func} {s : ChangeSpec} {W W' : World} {args : Array Value} {v : Value} {ds gs : List (DataW H)} {before pa pv : List MemPlace}
    (hW : DataW.Whole enc P f.params.toList s.vars false W args.toList ds gs before)
    (hres : ∀ (b : Nat) (sp : Nat → Bool) (hd : Bool), DataW.TrodAll enc P W' b sp hd f.resultTypes.toList (v.resultList f.resultTypes.size) (s.fn H (ds ++ gs)).results [])
    (hargs : DataW.TrodAll enc P W' 0 (fun b => decide (b < W.heap.size)) true f.params.toList args.toList (s.fn H (ds ++ gs)).args pa)
    (hvars : DataW.TrodVars enc P W' (fun b => decide (b < W.heap.size)) s.vars (s.fn H (ds ++ gs)).vars pv)
    (hps : before = pa ++ pv) (hb : Ext W W') : s.post enc P f false true false false W args v W' := by
  refine ⟨ds, gs, before, [], pa, pv, hW, hres _ _ _, hargs, hvars, World.keptBut_mono (fun p hp => ⟨hp, ?_⟩) (Below.frame hb (· ∈ before)), fun h => by cases h⟩
  rw [hps, List.mem_append] at hp
  exact Or.inr hp
end
end Go.Proofs.Ytdnjjpkajiehgaa
