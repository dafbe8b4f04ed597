import Derived.Test.YtjikdbcjabopnaaGreatDoorJ25
import Derived.Test.YtjikdbcjabopnaaGreatDoorJ13
import Derived.Test.YtjikdbcjabopnaaGreatDoorJPLaid
import Derived.Deep.Matrix
namespace Go.Proofs.YtjikdbcjabopnaaGreatDoor
open Go.ChangeShapes Go.WideShapes Go.ChangeAt Go.RowKit Go.Joins
set_option linter.unusedVariables false
set_option maxRecDepth 100000
section
variable {H : Type} {enc : TypeId × Value → H}
structure PW (W : World) (A : Option Addr) (L c : Nat) (As : Nat → Option Addr) (ns cs : Nat → Nat) (f : Nat → Nat → Nat) : Prop where
 px : PX W A L c As ns cs f
 len : L ≤ maxLen
 lens : ∀ j, j < L → ns j ≤ maxLen
 words : ∀ j, j < L → ∀ i, i < ns j → f j i < 18446744073709551616
theorem c_us : Tryz.prog.cellsOf 23 = 1 := by kernel_rfl
theorem c_poly : Tryz.prog.cellsOf 73 = 1 := by kernel_rfl
theorem rows_cells {W : World} {fuel : Nat} {cs : List Value} {x : DataW H × List MemPlace} (h : DataW.trod enc Tryz.prog W 0 (fun _ => true) true fuel 71 cs = some x) :
    ∃ A L c As ns ds f, cs = [.slice A L c] ∧ PW W A L c As ns ds f := by
 rcases Deep.open_int_rows Tryz.underlying71 Tryz.underlying23 Tryz.underlying22 c_us c_u64 h with ⟨rfl, _⟩ | ⟨a, len, cap, A, L, C, Z, rfl, _, hl, hm, _, hr⟩
 ·exact ⟨none, 0, 0, fun _ => none, fun _ => 0, fun _ => 0, fun _ _ => 0, rfl, ⟨⟨Nat.le_refl _, fun h => absurd h (by omega), fun j hj => absurd hj (by omega)⟩, Nat.zero_le _, fun j hj => absurd hj (by omega), fun j hj => absurd hj (by omega)⟩⟩
 ·have hw : ∀ r, r < len → ∀ j, j < L r → ∃ z : Int, (Z r)[j]? = some z ∧ 0 ≤ z ∧ z < 18446744073709551616 := fun r hr' j hj => by
     obtain ⟨_, h1, _, h3, h4, _⟩ := hr r (by omega)
     have hl2 : j < (Z r).length := by omega
     exact ⟨(Z r)[j], List.getElem?_eq_getElem hl2, word_of (h4 _ (List.getElem_mem hl2))⟩
  refine ⟨some a, len, cap, A, L, C, fun r j => ((Z r).getD j 0).toNat, rfl, ⟨⟨hl, fun _ => ⟨a, rfl, fun j hj => (hr j (by omega)).1⟩, fun j hj => ?_⟩, by omega, fun j hj => ?_, fun j hj i hi => ?_⟩⟩
  ·obtain ⟨_, h1, h2, h3, h4, h5, h6⟩ := hr j (by omega)
   refine ⟨h1, fun hn => ?_⟩
   cases hA : A j with
   | none => have := h5 hA; omega
   | some a' =>
    refine ⟨a', rfl, fun i hi => ?_⟩
    obtain ⟨z, hz1, hz2, hz3⟩ := hw j hj i hi
    have e : (Z j).getD i 0 = z := by rw [List.getD_eq_getElem?_getD, hz1, Option.getD_some]
    have hc := (h6 a' hA).2 i (by omega)
    show W.cell? (a'.add i) = some (.int .u64 (((Z j).getD i 0).toNat : Int))
    rw [e] at hc ⊢
    rw [Int.toNat_of_nonneg hz2]
    exact hc
  ·obtain ⟨_, h1, h2, _⟩ := hr j (by omega)
   omega
  ·obtain ⟨z, hz1, hz2, hz3⟩ := hw j hj i hi
   show ((Z j).getD i 0).toNat < _
   rw [List.getD_eq_getElem?_getD, hz1, Option.getD_some]
   omega
end
end Go.Proofs.YtjikdbcjabopnaaGreatDoor
