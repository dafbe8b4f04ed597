import Derived.Test.YtjikdbcjabopnaaDoorZ21
import Derived.Carry
import Derived.ChangeSlices
import Derived.Lib.SmallJoins
import Derived.OpenShut
import Derived.Test.YtjikdbcjabopnaaDoorZ4
namespace Go.Proofs.YtjikdbcjabopnaaDoor
open Go.RowKit
set_option linter.unusedVariables false
set_option maxRecDepth 100000
theorem bitLen_zero {n : Nat} (h : n = 0) : Go.bitLen n = 0 := by subst h; rfl
theorem bitLen_pos {n : Nat} (h : 0 < n) : 0 < Go.bitLen n := by
 obtain ⟨a, _⟩ := Go.bitLen_spec n
 rcases Nat.eq_zero_or_pos (Go.bitLen n) with h0 | h0
 ·rw [h0] at a; omega
 ·exact h0
section
variable {H : Type} {enc : TypeId × Value → H}
theorem cells_u64 : Tryd.prog.cellsOf 22 = 1 := by kernel_rfl
theorem nat_cells {W : World} {fuel : Nat} {cs : List Value} {x : DataW H × List MemPlace} (h : DataW.trod enc Tryd.prog W 0 (fun _ => true) true fuel 26 cs = some x) :
    ∃ A n c xs, cs = [.slice A n c] ∧ NXN W A n c xs := by
 rcases ChangeShapes.open_ints Tryd.underlying26 Tryd.underlying22 cells_u64 h with ⟨rfl, _⟩ | ⟨a, len, cap, zs, rfl, _, hl, hm, hz, _, hcell, hwz⟩
 ·exact ⟨none, 0, 0, [], rfl, Rd.none_ _ _ _ _ _ _⟩
 ·simp only [if_true] at hz
  refine ⟨some a, len, cap, (zs.take len).map Int.toNat, rfl, by simp; omega, hl, ?_, fun hn => ⟨a, rfl, ?_, fun j x hx => ?_⟩⟩
  ·intro x hx
   obtain ⟨z, hz', rfl⟩ := List.mem_map.1 hx
   have := word_of (hwz z (List.mem_of_mem_take hz'))
   rw [W64_eq]
   omega
  ·have := hcell 0 (by omega)
   exact World.block_lt_of_cell? W a (by simpa [Addr.add] using this)
  ·rw [List.getElem?_map] at hx
   obtain ⟨z, hz1, rfl⟩ := Option.map_eq_some_iff.1 hx
   rw [List.getElem?_take] at hz1
   split at hz1
   ·have hj := (List.getElem?_eq_some_iff.1 hz1).1
    have hw := word_of (hwz z (List.mem_of_getElem? hz1))
    rw [hcell j hj, show zs.getD j 0 = z by simp [List.getD, hz1], Int.toNat_of_nonneg hw.1]
   ·cases hz1
end
end Go.Proofs.YtjikdbcjabopnaaDoor
