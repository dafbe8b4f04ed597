/-
  The law NttShifts walked.
-/
import Derived.Test.YtcnogmhkffohgaaGreatDoorW26
import Derived.Deep.RegionLawGrows
namespace Go.Proofs.YtcnogmhkffohgaaGreatDoor
open Go.RowKit
set_option linter.unusedVariables false
set_option maxRecDepth 100000

/-- X times a polynomial. -/
theorem nega_up {n : Nat} (hn : 2 ≤ n) (a : Nat → Int) {m : Nat} (hm : m < n) : nega n a (fun l => ((if l = 1 then 1 else 0 : Nat) : Int)) m = if m = 0 then -a (n - 1) else a (m - 1) := by
  have inner : ∀ i, i < n → S n (fun l => if i + l = m then a i * ((if l = 1 then 1 else 0 : Nat) : Int) else if i + l = m + n then -(a i * ((if l = 1 then 1 else 0 : Nat) : Int)) else 0) = if i + 1 = m then a i else if i + 1 = m + n then -a i else 0 := fun i _ => by
    rw [S_one (k := 1) (by omega)]
    · rw [if_pos (rfl : 1 = 1), show (((1 : Nat)) : Int) = 1 from rfl, Int.mul_one]
    · intro l _ hl
      rw [if_neg hl, show (((0 : Nat)) : Int) = 0 from rfl, Int.mul_zero, Int.neg_zero]
      split
      · rfl
      · split <;> rfl
  unfold nega
  rw [S_congr inner]
  by_cases h : m = 0
  · subst h
    rw [if_pos rfl, S_one (k := n - 1) (by omega)]
    · rw [if_neg (by omega), if_pos (by omega)]
    · intro i hi hne
      rw [if_neg (by omega), if_neg (by omega)]
  · rw [if_neg h, S_one (k := m - 1) (by omega)]
    · rw [if_pos (by omega)]
    · intro i hi hne
      rw [if_neg (by omega), if_neg (by omega)]
theorem one_drew {w : World} {z : Value} {t : TypeId} : ∀ (j : Nat) (u : Value), [z][j]? = some u → (w.alloc (.cells #[z] t)).drew.cell? ((⟨w.heap.size, 0, none⟩ : Addr).add j) = some u := one_cell
theorem row_cells {w : World} {g n z : Nat} {X : Nat → Nat} {v : Value} {t : TypeId} (h : UW w g n X) (hz : z < n) : ∀ (j : Nat) (u : Value), (u64s ((List.range z).map X))[j]? = some u → (w.alloc (.cells #[v] t)).drew.cell? ((⟨g, 0, none⟩ : Addr).add j) = some u := fun j u hu => by
  have h1 := RW.cell (RW.ext h ((Ext.refl w).alloc (.cells #[v] t))) (i := j)
  unfold u64s at hu
  rw [List.getElem?_map, List.getElem?_map] at hu
  by_cases hj : j < z
  · rw [List.getElem?_range hj] at hu
    simp only [Option.map_some, Option.some.injEq] at hu
    rw [Addr.add_lit, Nat.zero_add, ← hu]
    exact h1 (by omega)
  · rw [List.getElem?_eq_none (by simp; omega)] at hu
    cases hu
theorem fx_of_rd {w : World} {B : Nat} {A : Option Addr} {n c : Nat} {xs : List Nat} (h : NR w B A n c xs) : FX w A n c (fun i => xs.getD i 0) :=
  ⟨h.room, fun hn => by
    obtain ⟨ad, e, _, hc⟩ := h.cells hn
    refine ⟨ad, e, fun j hj => ?_⟩
    have hl : j < xs.length := by have := h.len; omega
    rw [hc j xs[j] (List.getElem?_eq_getElem hl), List.getD_eq_getElem?_getD, List.getElem?_eq_getElem hl, Option.getD_some]⟩
end Go.Proofs.YtcnogmhkffohgaaGreatDoor
