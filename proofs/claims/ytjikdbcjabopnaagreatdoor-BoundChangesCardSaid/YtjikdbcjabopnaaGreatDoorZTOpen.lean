import Derived.Test.YtjikdbcjabopnaaGreatDoorZ11
import Derived.Test.YtjikdbcjabopnaaGreatDoorZPLaid
namespace Go.Proofs.YtjikdbcjabopnaaGreatDoor
open Go.ChangeShapes Go.WideShapes Go.ChangeAt Go.RowKit Go.Joins
set_option linter.unusedVariables false
set_option maxRecDepth 100000
section
variable {H : Type} {enc : TypeId × Value → H}
theorem words_cells {W : World} {fuel : Nat} {cs : List Value} {x : DataW H × List MemPlace} (h : DataW.trod enc Tryz.prog W 0 (fun _ => true) true fuel 23 cs = some x) :
    ∃ A n c f, cs = [.slice A n c] ∧ FX W A n c f ∧ n ≤ maxLen ∧ ∀ i, i < n → f i < 18446744073709551616 := by
 rcases ChangeShapes.open_ints Tryz.underlying23 Tryz.underlying22 c_u64 h with ⟨rfl, _⟩ | ⟨a, len, cap, zs, rfl, _, hl, hm, hz, _, hcell, hwz⟩
 ·exact ⟨none, 0, 0, fun _ => 0, rfl, ⟨Nat.le_refl _, fun h => absurd h (by omega)⟩, Nat.zero_le _, fun i hi => absurd hi (by omega)⟩
 ·simp only [if_true] at hz
  have hw : ∀ j, j < len → ∃ z : Int, zs[j]? = some z ∧ 0 ≤ z ∧ z < 18446744073709551616 := fun j hj => by
   have hl2 : j < zs.length := by omega
   refine ⟨zs[j], List.getElem?_eq_getElem hl2, ?_⟩
   exact word_of (hwz _ (List.getElem_mem hl2))
  refine ⟨some a, len, cap, fun j => (zs.getD j 0).toNat, rfl, ⟨hl, fun hn => ⟨a, rfl, fun j hj => ?_⟩⟩, by omega, fun j hj => ?_⟩
  ·obtain ⟨z, hz1, hz2, hz3⟩ := hw j hj
   have e : zs.getD j 0 = z := by rw [List.getD_eq_getElem?_getD, hz1, Option.getD_some]
   have hc := hcell j (List.getElem?_eq_some_iff.1 hz1).1
   rw [e] at hc
   show W.cell? (a.add j) = some (.int .u64 ((zs.getD j 0).toNat : Int))
   rw [e, Int.toNat_of_nonneg hz2]
   exact hc
  ·obtain ⟨z, hz1, hz2, hz3⟩ := hw j hj
   show (zs.getD j 0).toNat < _
   rw [List.getD_eq_getElem?_getD, hz1, Option.getD_some]
   omega
theorem words_open {W : World} {v : Value} {d : DataW H} {p : List MemPlace} (h : DataW.Trod enc Tryz.prog W 0 (fun _ => true) true 23 v d p) : ∃ A n c f, v.cells.toList = [.slice A n c] ∧ FX W A n c f ∧ n ≤ maxLen ∧ ∀ i, i < n → f i < 18446744073709551616 := by
 obtain ⟨f, hf⟩ := h
 exact words_cells hf
end
end Go.Proofs.YtjikdbcjabopnaaGreatDoor
