import Derived.Test.YtjikdbcjabopnaaDoorZ9
import Derived.Deep.RegionHeld3
import Derived.Test.YtjikdbcjabopnaaDoorZ6
import Derived.Test.YtjikdbcjabopnaaDoorZPExt
import Derived.Laws.Bits64b
namespace Go.Proofs.YtjikdbcjabopnaaDoor
open Go.RowKit
set_option linter.unusedVariables false
set_option maxRecDepth 100000
theorem isS_ge {q : Nat} (h : isS q = true) : 2 ≤ q := by
 rcases Nat.lt_or_ge q 2 with g | g
 ·rw [isS_one g] at h; cases h
 ·exact g
def RW (w : World) (g : Nat) (t : TypeId) (n : Nat) (F : Nat → Value) : Prop := w.heap[g]? = some (.cells ((List.range n).map F).toArray t (0, 0))
section
variable {w w' : World} {g : Nat} {t : TypeId} {n : Nat} {F G : Nat → Value}
theorem RW.lt (h : RW w g t n F) : g < w.heap.size := (Array.getElem?_eq_some_iff.1 h).1
theorem RW.cell (h : RW w g t n F) {i : Nat} (hi : i < n) : w.cell? ⟨g, i, none⟩ = some (F i) := by
 rw [cell_of_row w g i _ t (0, 0) h]
 simp [hi]
theorem RW.frozen (h : RW w g t n F) (i : Nat) : w.frozen? ⟨g, i, none⟩ = false := by
 unfold RW at h
 simp [World.frozen?, h]
theorem RW.keep (h : RW w g t n F) (hg : w'.heap[g]? = w.heap[g]?) : RW w' g t n F := hg.trans h
theorem RW.below {B : Nat} (h : RW w g t n F) (hb : Below B w w') (hg : g < B) : RW w' g t n F := h.keep (hb.block g hg)
theorem RW.ext (h : RW w g t n F) (hb : Ext w w') : RW w' g t n F := h.below hb h.lt
theorem RW.congr (h : RW w g t n F) (e : ∀ i, i < n → F i = G i) : RW w g t n G := by
 have : (List.range n).map F = (List.range n).map G := List.map_congr_left fun i hi => e i (List.mem_range.1 hi)
 unfold RW at h ⊢
 rw [← this]; exact h
theorem RW.set (h : RW w g t n F) {i : Nat} (hi : i < n) (v : Value) : RW (w.setCell ⟨g, i, none⟩ v) g t n (fun j => if j = i then v else F j) := by
 unfold RW at h ⊢
 simp only [World.setCell, Array.getElem?_modify, h]
 simp only [if_true, Option.map_some, List.setIfInBounds_toArray]
 have e : (List.map F (List.range n)).set i v = List.map (fun j => if j = i then v else F j) (List.range n) := by
  apply List.ext_getElem?
  intro j
  rw [List.getElem?_set, List.getElem?_map, List.getElem?_map]
  by_cases hj : j < n
  ·by_cases hij : i = j
   ·subst hij; simp [hj]
   ·have : ¬ j = i := fun e => hij e.symm
    simp [hj, hij, this]
  ·by_cases hij : i = j
   ·omega
   ·simp [hj, hij]
 rw [← e]
 rfl
end
structure FX (w : World) (A : Option Addr) (n c : Nat) (f : Nat → Nat) : Prop where
 room : n ≤ c
 cells : 0 < n → ∃ ad, A = some ad ∧ ∀ j, j < n → w.cell? (ad.add j) = some (.int .u64 (f j : Int))
theorem FX.ext {a b : World} {A : Option Addr} {n c : Nat} {f : Nat → Nat} (h : FX a A n c f) (k : Ext a b) : FX b A n c f :=
 ⟨h.room, fun hn => by
  obtain ⟨ad, e, hc⟩ := h.cells hn
  exact ⟨ad, e, fun j hj => cell_ext k (hc j hj)⟩⟩
theorem stepF_even {n : Nat} : ∀ f k, k % 2 = 0 → stepF n f k = true → n % 2 = 0
 | 0, k, _, h => by simp [stepF] at h
 | f + 1, k, hk, h => by
  unfold stepF at h
  rw [beq_iff] at h
  by_cases e : n = k
  ·rw [e]; exact hk
  ·rw [decide_eq_false e, cond_false] at h
   exact stepF_even f (2 * k) (by omega) h
theorem stepS_even {n : Nat} (h : stepS n = true) : n % 2 = 0 := stepF_even 13 2 rfl h
end Go.Proofs.YtjikdbcjabopnaaDoor
