import Derived.Test.YtjikdbcjabopnaaGreatDoorJ33
import Derived.Test.YtjikdbcjabopnaaGreatDoorJ6
import Derived.Test.YtjikdbcjabopnaaGreatDoorJVList
namespace Go.Proofs.YtjikdbcjabopnaaGreatDoor
open Go.RowKit
set_option linter.unusedVariables false
set_option linter.unusedSimpArgs false
set_option maxRecDepth 100000
theorem newJ_rowX (w : World) (n : Nat) : RW (w.alloc (.cells (newJ n) 2)) w.heap.size 2 n (fun _ => .int .i64 0) := by
 have h := heap_alloc_new w (.cells (newJ n) 2 (0, 0))
 have e : newJ n = ((List.range n).map fun _ => Value.int .i64 0).toArray := by
  unfold newJ
  congr 1
  apply List.ext_getElem
  ·simp
  ·intro i h1 h2
   simp
 rw [e] at h ⊢
 exact h
theorem RW.vxX {w : World} {g n : Nat} {v : Nat → Int} (h : RW w g 2 n (fun i => .int .i64 (v i))) : VX w (some ⟨g, 0, none⟩) n n v :=
 ⟨Nat.le_refl _, fun _ => ⟨_, rfl, fun j hj => by rw [Addr.add_lit, Nat.zero_add]; exact h.cell hj⟩⟩
end Go.Proofs.YtjikdbcjabopnaaGreatDoor
