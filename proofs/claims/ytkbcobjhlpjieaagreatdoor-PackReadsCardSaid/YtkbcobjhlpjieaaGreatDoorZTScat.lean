import Derived.Test.YtkbcobjhlpjieaaGreatDoorZ11
import Derived.Test.YtkbcobjhlpjieaaGreatDoorZTFft
namespace Go.Proofs.YtkbcobjhlpjieaaGreatDoor
open Go.RowKit
set_option linter.unusedVariables false
set_option maxRecDepth 100000
def newU (n : Nat) : Array Value := ((List.range n).map fun _ => Value.int .u64 0).toArray
theorem newU_uw (w : World) (n : Nat) : UW (w.alloc (.cells (newU n) 22)) w.heap.size n (fun _ => 0) := heap_alloc_new w _
theorem make_u64 (n : Nat) (hn : n ≤ 1000000) (w : World) :
    (Instr.makeSlice 23 (.int .i64 (n : Int)) (.int .i64 (n : Int))).run Tryz.prog w = .ok (.slice (some ⟨w.heap.size, 0, none⟩) n n) (w.alloc (.cells (newU n) 22)) := by
 obtain ⟨i0, hi, hz0, hz1, hz2⟩ := info_parts info_u64
 have hr := run_make (P := Tryz.prog) w 23 22 i0 (.int .u64 0) Tryz.underlying23 hi hz0 .i64 .i64 (n : Int) (n : Int) (by omega) (by omega) (by rw [hz2]; omega) (by omega)
 rw [hz1] at hr
 simp only [Int.toNat_natCast] at hr
 rw [hr]
 have e : madeCells (Value.int .u64 0).cells (n * 1) = newU n := by
  apply Array.toList_inj.1
  unfold newU madeCells
  apply List.ext_getElem?
  intro j
  by_cases hj : j < n
  ·simp [hj, Value.cells, Nat.mod_one]
  ·simp [hj]
 rw [e]
theorem two_le {k : Nat} (h0 : 1 ≤ k) (h1 : k ≤ 9) : 2 ≤ 2 ^ k ∧ 2 ^ k ≤ 512 := by
 rcases (show k = 1 ∨ k = 2 ∨ k = 3 ∨ k = 4 ∨ k = 5 ∨ k = 6 ∨ k = 7 ∨ k = 8 ∨ k = 9 by omega) with rfl | rfl | rfl | rfl | rfl | rfl | rfl | rfl | rfl <;> decide
end Go.Proofs.YtkbcobjhlpjieaaGreatDoor
