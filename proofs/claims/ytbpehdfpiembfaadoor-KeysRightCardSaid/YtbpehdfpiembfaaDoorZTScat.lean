/-
  What scattered of package ntt answers.
-/
import Derived.Test.YtbpehdfpiembfaaDoorZ13
import Derived.Test.YtbpehdfpiembfaaDoorZTFft
namespace Go.Proofs.YtbpehdfpiembfaaDoor
open Go.RowKit
set_option linter.unusedVariables false
set_option maxRecDepth 100000

def newU (n : Nat) : Array Value := ((List.range n).map fun _ => Value.int .u64 0).toArray
theorem newU_uw (w : World) (n : Nat) : UW (w.alloc (.cells (newU n) 22)) w.heap.size n (fun _ => 0) := heap_alloc_new w _
theorem make_u64 (n : Nat) (hn : n ≤ 1000000) (w : World) :
    (Instr.makeSlice 23 (.int .i64 (n : Int)) (.int .i64 (n : Int))).run Tryd.prog w = .ok (.slice (some ⟨w.heap.size, 0, none⟩) n n) (w.alloc (.cells (newU n) 22)) := by
  obtain ⟨i0, hi, hz0, hz1, hz2⟩ := info_parts info_u64
  have hr := run_make (P := Tryd.prog) w 23 22 i0 (.int .u64 0) Tryd.underlying23 hi hz0 .i64 .i64 (n : Int) (n : Int) (by omega) (by omega) (by rw [hz2]; omega) (by omega)
  rw [hz1] at hr
  simp only [Int.toNat_natCast] at hr
  rw [hr]
  have e : madeCells (Value.int .u64 0).cells (n * 1) = newU n := by
    apply Array.toList_inj.1
    unfold newU madeCells
    apply List.ext_getElem?
    intro j
    by_cases hj : j < n
    · simp [hj, Value.cells, Nat.mod_one]
    · simp [hj]
  rw [e]
theorem bitLen_top {k : Nat} (h0 : 1 ≤ k) (h1 : k ≤ 9) : Lib.bitLen (2 ^ k - 1) = k := by
  rcases (show k = 1 ∨ k = 2 ∨ k = 3 ∨ k = 4 ∨ k = 5 ∨ k = 6 ∨ k = 7 ∨ k = 8 ∨ k = 9 by omega) with rfl | rfl | rfl | rfl | rfl | rfl | rfl | rfl | rfl <;> decide
theorem two_le {k : Nat} (h0 : 1 ≤ k) (h1 : k ≤ 9) : 2 ≤ 2 ^ k ∧ 2 ^ k ≤ 512 := by
  rcases (show k = 1 ∨ k = 2 ∨ k = 3 ∨ k = 4 ∨ k = 5 ∨ k = 6 ∨ k = 7 ∨ k = 8 ∨ k = 9 by omega) with rfl | rfl | rfl | rfl | rfl | rfl | rfl | rfl | rfl <;> decide
/-- The list while it is scattered. -/
def scatF (k : Nat) (f : Nat → Nat) (m i : Nat) : Nat := if rev k i < m then f (rev k i) else 0
theorem scatF_step {k : Nat} (h0 : 1 ≤ k) (h1 : k ≤ 9) (f : Nat → Nat) (m i : Nat) (hm : m < 2 ^ k) (hi : i < 2 ^ k) : (if i = rev k m then f m else scatF k f m i) = scatF k f (m + 1) i := by
  unfold scatF
  by_cases h : i = rev k m
  · subst h
    rw [if_pos rfl, (rev_two h0 h1 hm).1, if_pos (by omega)]
  · rw [if_neg h]
    have : rev k i ≠ m := fun e => h (by rw [← e, (rev_two h0 h1 hi).1])
    by_cases h2 : rev k i < m
    · rw [if_pos h2, if_pos (by omega)]
    · rw [if_neg h2, if_neg (by omega)]
end Go.Proofs.YtbpehdfpiembfaaDoor
