/-
  An input that arrasmake makes.
-/
import Derived.Test.YtdnjjpkajiehgaaZ15
namespace Go.Proofs.Ytdnjjpkajiehgaa
open Go.RowKit
set_option linter.unusedVariables false
set_option maxRecDepth 100000

def shapes8 : List (List Int) := [[1], [2], [3], [2, 2], [1, 2, 2], [2, 2, 1], [1, 3, 3], [1, 4, 2]]
theorem zx_newL (w : World) (l : List Int) (hl : l.length ≤ 1000) : ZX (w.alloc (.cells (i64s l).toArray 3)) (some ⟨w.heap.size, 0, none⟩) l.length l.length l := by
  obtain ⟨A, c, e, h, _⟩ := rdZ_of_own (own_newJ w 3 1 l.length (i64s l) (by simp [i64s]) (by unfold maxLen; omega))
  injection e with e1 _ e2
  subst e1
  subst e2
  exact h
theorem cell_newI (w : World) (cs : List Value) (t : TypeId) (j : Nat) (v : Value) (h : cs[j]? = some v) (hl : cs.length ≤ 1000) : (w.alloc (.cells cs.toArray t)).cell? ⟨w.heap.size, j, none⟩ = some v := by
  have := World.ownsRow.cells (g := w.heap.size) (own_newJ w t 1 cs.length cs (by omega) (by unfold maxLen; omega)) rfl j v h
  rw [Addr.add_lit, Nat.zero_add] at this
  exact this
/-- What Input answers. -/
def InPost (w : World) (g : Nat) (e : Ending) (w' : World) : Prop :=
  ∃ (A : Option Addr) (c : Nat) (sh : List Int) (lo hv : Int), e = .returned (.agg #[.int .i64 1, .int .i64 0, .int .i64 0, .slice A sh.length c, .int .i64 lo, .int .i64 hv, .int .i64 0, .slice none 0 0, .slice none 0 0]) ∧ sh ∈ shapes8 ∧ ZX w' A sh.length c sh ∧ Frsh w.heap.size A ∧ (-4 ≤ lo ∧ lo ≤ 4 ∧ lo ≤ hv ∧ hv ≤ 9) ∧ TM w' g ∧ On g w w' ∧ TyM w' A
theorem eight_at (w : World) : ∀ j, j < 8 → ∃ (ad : Addr) (sh : List Int), sh ∈ shapes8 ∧ ((((((((((w.alloc (.cells #[.int .i64 0, .int .i64 0, .int .i64 0, .slice none 0 0, .int .i64 0, .int .i64 0, .int .i64 0, .slice none 0 0, .slice none 0 0] 40)).alloc (.cells #[.int .i64 1] 3)).alloc (.cells #[.int .i64 2] 3)).alloc (.cells #[.int .i64 3] 3)).alloc (.cells #[.int .i64 2, .int .i64 2] 3)).alloc (.cells #[.int .i64 1, .int .i64 2, .int .i64 2] 3)).alloc (.cells #[.int .i64 2, .int .i64 2, .int .i64 1] 3)).alloc (.cells #[.int .i64 1, .int .i64 3, .int .i64 3] 3)).alloc (.cells #[.int .i64 1, .int .i64 4, .int .i64 2] 3)).alloc (.cells #[.slice (some ⟨w.heap.size + 1, 0, none⟩) 1 1, .slice (some ⟨w.heap.size + 1 + 1, 0, none⟩) 1 1, .slice (some ⟨w.heap.size + 1 + 1 + 1, 0, none⟩) 1 1, .slice (some ⟨w.heap.size + 1 + 1 + 1 + 1, 0, none⟩) 2 2, .slice (some ⟨w.heap.size + 1 + 1 + 1 + 1 + 1, 0, none⟩) 3 3, .slice (some ⟨w.heap.size + 1 + 1 + 1 + 1 + 1 + 1, 0, none⟩) 3 3, .slice (some ⟨w.heap.size + 1 + 1 + 1 + 1 + 1 + 1 + 1, 0, none⟩) 3 3, .slice (some ⟨w.heap.size + 1 + 1 + 1 + 1 + 1 + 1 + 1 + 1, 0, none⟩) 3 3] 38)).cell? ⟨w.heap.size + 1 + 1 + 1 + 1 + 1 + 1 + 1 + 1 + 1, j, none⟩ = some (.slice (some ad) sh.length sh.length) ∧ ZX ((((((((((w.alloc (.cells #[.int .i64 0, .int .i64 0, .int .i64 0, .slice none 0 0, .int .i64 0, .int .i64 0, .int .i64 0, .slice none 0 0, .slice none 0 0] 40)).alloc (.cells #[.int .i64 1] 3)).alloc (.cells #[.int .i64 2] 3)).alloc (.cells #[.int .i64 3] 3)).alloc (.cells #[.int .i64 2, .int .i64 2] 3)).alloc (.cells #[.int .i64 1, .int .i64 2, .int .i64 2] 3)).alloc (.cells #[.int .i64 2, .int .i64 2, .int .i64 1] 3)).alloc (.cells #[.int .i64 1, .int .i64 3, .int .i64 3] 3)).alloc (.cells #[.int .i64 1, .int .i64 4, .int .i64 2] 3)).alloc (.cells #[.slice (some ⟨w.heap.size + 1, 0, none⟩) 1 1, .slice (some ⟨w.heap.size + 1 + 1, 0, none⟩) 1 1, .slice (some ⟨w.heap.size + 1 + 1 + 1, 0, none⟩) 1 1, .slice (some ⟨w.heap.size + 1 + 1 + 1 + 1, 0, none⟩) 2 2, .slice (some ⟨w.heap.size + 1 + 1 + 1 + 1 + 1, 0, none⟩) 3 3, .slice (some ⟨w.heap.size + 1 + 1 + 1 + 1 + 1 + 1, 0, none⟩) 3 3, .slice (some ⟨w.heap.size + 1 + 1 + 1 + 1 + 1 + 1 + 1, 0, none⟩) 3 3, .slice (some ⟨w.heap.size + 1 + 1 + 1 + 1 + 1 + 1 + 1 + 1, 0, none⟩) 3 3] 38)) (some ad) sh.length sh.length sh ∧ w.heap.size < ad.block ∧ TyM ((((((((((w.alloc (.cells #[.int .i64 0, .int .i64 0, .int .i64 0, .slice none 0 0, .int .i64 0, .int .i64 0, .int .i64 0, .slice none 0 0, .slice none 0 0] 40)).alloc (.cells #[.int .i64 1] 3)).alloc (.cells #[.int .i64 2] 3)).alloc (.cells #[.int .i64 3] 3)).alloc (.cells #[.int .i64 2, .int .i64 2] 3)).alloc (.cells #[.int .i64 1, .int .i64 2, .int .i64 2] 3)).alloc (.cells #[.int .i64 2, .int .i64 2, .int .i64 1] 3)).alloc (.cells #[.int .i64 1, .int .i64 3, .int .i64 3] 3)).alloc (.cells #[.int .i64 1, .int .i64 4, .int .i64 2] 3)).alloc (.cells #[.slice (some ⟨w.heap.size + 1, 0, none⟩) 1 1, .slice (some ⟨w.heap.size + 1 + 1, 0, none⟩) 1 1, .slice (some ⟨w.heap.size + 1 + 1 + 1, 0, none⟩) 1 1, .slice (some ⟨w.heap.size + 1 + 1 + 1 + 1, 0, none⟩) 2 2, .slice (some ⟨w.heap.size + 1 + 1 + 1 + 1 + 1, 0, none⟩) 3 3, .slice (some ⟨w.heap.size + 1 + 1 + 1 + 1 + 1 + 1, 0, none⟩) 3 3, .slice (some ⟨w.heap.size + 1 + 1 + 1 + 1 + 1 + 1 + 1, 0, none⟩) 3 3, .slice (some ⟨w.heap.size + 1 + 1 + 1 + 1 + 1 + 1 + 1 + 1, 0, none⟩) 3 3] 38)) (some ad) := by
  intro j hj
  have s1 : (w.alloc (.cells #[.int .i64 0, .int .i64 0, .int .i64 0, .slice none 0 0, .int .i64 0, .int .i64 0, .int .i64 0, .slice none 0 0, .slice none 0 0] 40)).heap.size = w.heap.size + 1 := by simp
  have s2 : ((w.alloc (.cells #[.int .i64 0, .int .i64 0, .int .i64 0, .slice none 0 0, .int .i64 0, .int .i64 0, .int .i64 0, .slice none 0 0, .slice none 0 0] 40)).alloc (.cells #[.int .i64 1] 3)).heap.size = w.heap.size + 1 + 1 := by simp
  have s3 : (((w.alloc (.cells #[.int .i64 0, .int .i64 0, .int .i64 0, .slice none 0 0, .int .i64 0, .int .i64 0, .int .i64 0, .slice none 0 0, .slice none 0 0] 40)).alloc (.cells #[.int .i64 1] 3)).alloc (.cells #[.int .i64 2] 3)).heap.size = w.heap.size + 1 + 1 + 1 := by simp
  have s4 : ((((w.alloc (.cells #[.int .i64 0, .int .i64 0, .int .i64 0, .slice none 0 0, .int .i64 0, .int .i64 0, .int .i64 0, .slice none 0 0, .slice none 0 0] 40)).alloc (.cells #[.int .i64 1] 3)).alloc (.cells #[.int .i64 2] 3)).alloc (.cells #[.int .i64 3] 3)).heap.size = w.heap.size + 1 + 1 + 1 + 1 := by simp
  have s5 : (((((w.alloc (.cells #[.int .i64 0, .int .i64 0, .int .i64 0, .slice none 0 0, .int .i64 0, .int .i64 0, .int .i64 0, .slice none 0 0, .slice none 0 0] 40)).alloc (.cells #[.int .i64 1] 3)).alloc (.cells #[.int .i64 2] 3)).alloc (.cells #[.int .i64 3] 3)).alloc (.cells #[.int .i64 2, .int .i64 2] 3)).heap.size = w.heap.size + 1 + 1 + 1 + 1 + 1 := by simp
  have s6 : ((((((w.alloc (.cells #[.int .i64 0, .int .i64 0, .int .i64 0, .slice none 0 0, .int .i64 0, .int .i64 0, .int .i64 0, .slice none 0 0, .slice none 0 0] 40)).alloc (.cells #[.int .i64 1] 3)).alloc (.cells #[.int .i64 2] 3)).alloc (.cells #[.int .i64 3] 3)).alloc (.cells #[.int .i64 2, .int .i64 2] 3)).alloc (.cells #[.int .i64 1, .int .i64 2, .int .i64 2] 3)).heap.size = w.heap.size + 1 + 1 + 1 + 1 + 1 + 1 := by simp
  have s7 : (((((((w.alloc (.cells #[.int .i64 0, .int .i64 0, .int .i64 0, .slice none 0 0, .int .i64 0, .int .i64 0, .int .i64 0, .slice none 0 0, .slice none 0 0] 40)).alloc (.cells #[.int .i64 1] 3)).alloc (.cells #[.int .i64 2] 3)).alloc (.cells #[.int .i64 3] 3)).alloc (.cells #[.int .i64 2, .int .i64 2] 3)).alloc (.cells #[.int .i64 1, .int .i64 2, .int .i64 2] 3)).alloc (.cells #[.int .i64 2, .int .i64 2, .int .i64 1] 3)).heap.size = w.heap.size + 1 + 1 + 1 + 1 + 1 + 1 + 1 := by simp
  have s8 : ((((((((w.alloc (.cells #[.int .i64 0, .int .i64 0, .int .i64 0, .slice none 0 0, .int .i64 0, .int .i64 0, .int .i64 0, .slice none 0 0, .slice none 0 0] 40)).alloc (.cells #[.int .i64 1] 3)).alloc (.cells #[.int .i64 2] 3)).alloc (.cells #[.int .i64 3] 3)).alloc (.cells #[.int .i64 2, .int .i64 2] 3)).alloc (.cells #[.int .i64 1, .int .i64 2, .int .i64 2] 3)).alloc (.cells #[.int .i64 2, .int .i64 2, .int .i64 1] 3)).alloc (.cells #[.int .i64 1, .int .i64 3, .int .i64 3] 3)).heap.size = w.heap.size + 1 + 1 + 1 + 1 + 1 + 1 + 1 + 1 := by simp
  have s9 : (((((((((w.alloc (.cells #[.int .i64 0, .int .i64 0, .int .i64 0, .slice none 0 0, .int .i64 0, .int .i64 0, .int .i64 0, .slice none 0 0, .slice none 0 0] 40)).alloc (.cells #[.int .i64 1] 3)).alloc (.cells #[.int .i64 2] 3)).alloc (.cells #[.int .i64 3] 3)).alloc (.cells #[.int .i64 2, .int .i64 2] 3)).alloc (.cells #[.int .i64 1, .int .i64 2, .int .i64 2] 3)).alloc (.cells #[.int .i64 2, .int .i64 2, .int .i64 1] 3)).alloc (.cells #[.int .i64 1, .int .i64 3, .int .i64 3] 3)).alloc (.cells #[.int .i64 1, .int .i64 4, .int .i64 2] 3)).heap.size = w.heap.size + 1 + 1 + 1 + 1 + 1 + 1 + 1 + 1 + 1 := by simp
  have hc := cell_newI (((((((((w.alloc (.cells #[.int .i64 0, .int .i64 0, .int .i64 0, .slice none 0 0, .int .i64 0, .int .i64 0, .int .i64 0, .slice none 0 0, .slice none 0 0] 40)).alloc (.cells #[.int .i64 1] 3)).alloc (.cells #[.int .i64 2] 3)).alloc (.cells #[.int .i64 3] 3)).alloc (.cells #[.int .i64 2, .int .i64 2] 3)).alloc (.cells #[.int .i64 1, .int .i64 2, .int .i64 2] 3)).alloc (.cells #[.int .i64 2, .int .i64 2, .int .i64 1] 3)).alloc (.cells #[.int .i64 1, .int .i64 3, .int .i64 3] 3)).alloc (.cells #[.int .i64 1, .int .i64 4, .int .i64 2] 3)) [.slice (some ⟨w.heap.size + 1, 0, none⟩) 1 1, .slice (some ⟨w.heap.size + 1 + 1, 0, none⟩) 1 1, .slice (some ⟨w.heap.size + 1 + 1 + 1, 0, none⟩) 1 1, .slice (some ⟨w.heap.size + 1 + 1 + 1 + 1, 0, none⟩) 2 2, .slice (some ⟨w.heap.size + 1 + 1 + 1 + 1 + 1, 0, none⟩) 3 3, .slice (some ⟨w.heap.size + 1 + 1 + 1 + 1 + 1 + 1, 0, none⟩) 3 3, .slice (some ⟨w.heap.size + 1 + 1 + 1 + 1 + 1 + 1 + 1, 0, none⟩) 3 3, .slice (some ⟨w.heap.size + 1 + 1 + 1 + 1 + 1 + 1 + 1 + 1, 0, none⟩) 3 3] 38
  rw [s9] at hc
  rcases (show j = 0 ∨ j = 1 ∨ j = 2 ∨ j = 3 ∨ j = 4 ∨ j = 5 ∨ j = 6 ∨ j = 7 by omega) with rfl | rfl | rfl | rfl | rfl | rfl | rfl | rfl
  · have hz := zx_newL (w.alloc (.cells #[.int .i64 0, .int .i64 0, .int .i64 0, .slice none 0 0, .int .i64 0, .int .i64 0, .int .i64 0, .slice none 0 0, .slice none 0 0] 40)) [1] (by simp)
    have hy := TyM.new (w.alloc (.cells #[.int .i64 0, .int .i64 0, .int .i64 0, .slice none 0 0, .int .i64 0, .int .i64 0, .int .i64 0, .slice none 0 0, .slice none 0 0] 40)) (i64s [1]).toArray
    rw [s1] at hz hy
    have kz : Ext ((w.alloc (.cells #[.int .i64 0, .int .i64 0, .int .i64 0, .slice none 0 0, .int .i64 0, .int .i64 0, .int .i64 0, .slice none 0 0, .slice none 0 0] 40)).alloc (.cells #[.int .i64 1] 3)) ((((((((((w.alloc (.cells #[.int .i64 0, .int .i64 0, .int .i64 0, .slice none 0 0, .int .i64 0, .int .i64 0, .int .i64 0, .slice none 0 0, .slice none 0 0] 40)).alloc (.cells #[.int .i64 1] 3)).alloc (.cells #[.int .i64 2] 3)).alloc (.cells #[.int .i64 3] 3)).alloc (.cells #[.int .i64 2, .int .i64 2] 3)).alloc (.cells #[.int .i64 1, .int .i64 2, .int .i64 2] 3)).alloc (.cells #[.int .i64 2, .int .i64 2, .int .i64 1] 3)).alloc (.cells #[.int .i64 1, .int .i64 3, .int .i64 3] 3)).alloc (.cells #[.int .i64 1, .int .i64 4, .int .i64 2] 3)).alloc (.cells #[.slice (some ⟨w.heap.size + 1, 0, none⟩) 1 1, .slice (some ⟨w.heap.size + 1 + 1, 0, none⟩) 1 1, .slice (some ⟨w.heap.size + 1 + 1 + 1, 0, none⟩) 1 1, .slice (some ⟨w.heap.size + 1 + 1 + 1 + 1, 0, none⟩) 2 2, .slice (some ⟨w.heap.size + 1 + 1 + 1 + 1 + 1, 0, none⟩) 3 3, .slice (some ⟨w.heap.size + 1 + 1 + 1 + 1 + 1 + 1, 0, none⟩) 3 3, .slice (some ⟨w.heap.size + 1 + 1 + 1 + 1 + 1 + 1 + 1, 0, none⟩) 3 3, .slice (some ⟨w.heap.size + 1 + 1 + 1 + 1 + 1 + 1 + 1 + 1, 0, none⟩) 3 3] 38)) := ((((((((Ext.refl _).alloc _).alloc _).alloc _).alloc _).alloc _).alloc _).alloc _).alloc _
    exact ⟨⟨w.heap.size + 1, 0, none⟩, [1], by simp [shapes8], hc 0 _ rfl (by simp), hz.ext kz, by show w.heap.size < w.heap.size + 1; omega, hy.ext kz⟩
  · have hz := zx_newL ((w.alloc (.cells #[.int .i64 0, .int .i64 0, .int .i64 0, .slice none 0 0, .int .i64 0, .int .i64 0, .int .i64 0, .slice none 0 0, .slice none 0 0] 40)).alloc (.cells #[.int .i64 1] 3)) [2] (by simp)
    have hy := TyM.new ((w.alloc (.cells #[.int .i64 0, .int .i64 0, .int .i64 0, .slice none 0 0, .int .i64 0, .int .i64 0, .int .i64 0, .slice none 0 0, .slice none 0 0] 40)).alloc (.cells #[.int .i64 1] 3)) (i64s [2]).toArray
    rw [s2] at hz hy
    have kz : Ext (((w.alloc (.cells #[.int .i64 0, .int .i64 0, .int .i64 0, .slice none 0 0, .int .i64 0, .int .i64 0, .int .i64 0, .slice none 0 0, .slice none 0 0] 40)).alloc (.cells #[.int .i64 1] 3)).alloc (.cells #[.int .i64 2] 3)) ((((((((((w.alloc (.cells #[.int .i64 0, .int .i64 0, .int .i64 0, .slice none 0 0, .int .i64 0, .int .i64 0, .int .i64 0, .slice none 0 0, .slice none 0 0] 40)).alloc (.cells #[.int .i64 1] 3)).alloc (.cells #[.int .i64 2] 3)).alloc (.cells #[.int .i64 3] 3)).alloc (.cells #[.int .i64 2, .int .i64 2] 3)).alloc (.cells #[.int .i64 1, .int .i64 2, .int .i64 2] 3)).alloc (.cells #[.int .i64 2, .int .i64 2, .int .i64 1] 3)).alloc (.cells #[.int .i64 1, .int .i64 3, .int .i64 3] 3)).alloc (.cells #[.int .i64 1, .int .i64 4, .int .i64 2] 3)).alloc (.cells #[.slice (some ⟨w.heap.size + 1, 0, none⟩) 1 1, .slice (some ⟨w.heap.size + 1 + 1, 0, none⟩) 1 1, .slice (some ⟨w.heap.size + 1 + 1 + 1, 0, none⟩) 1 1, .slice (some ⟨w.heap.size + 1 + 1 + 1 + 1, 0, none⟩) 2 2, .slice (some ⟨w.heap.size + 1 + 1 + 1 + 1 + 1, 0, none⟩) 3 3, .slice (some ⟨w.heap.size + 1 + 1 + 1 + 1 + 1 + 1, 0, none⟩) 3 3, .slice (some ⟨w.heap.size + 1 + 1 + 1 + 1 + 1 + 1 + 1, 0, none⟩) 3 3, .slice (some ⟨w.heap.size + 1 + 1 + 1 + 1 + 1 + 1 + 1 + 1, 0, none⟩) 3 3] 38)) := (((((((Ext.refl _).alloc _).alloc _).alloc _).alloc _).alloc _).alloc _).alloc _
    exact ⟨⟨w.heap.size + 1 + 1, 0, none⟩, [2], by simp [shapes8], hc 1 _ rfl (by simp), hz.ext kz, by show w.heap.size < w.heap.size + 1 + 1; omega, hy.ext kz⟩
  · have hz := zx_newL (((w.alloc (.cells #[.int .i64 0, .int .i64 0, .int .i64 0, .slice none 0 0, .int .i64 0, .int .i64 0, .int .i64 0, .slice none 0 0, .slice none 0 0] 40)).alloc (.cells #[.int .i64 1] 3)).alloc (.cells #[.int .i64 2] 3)) [3] (by simp)
    have hy := TyM.new (((w.alloc (.cells #[.int .i64 0, .int .i64 0, .int .i64 0, .slice none 0 0, .int .i64 0, .int .i64 0, .int .i64 0, .slice none 0 0, .slice none 0 0] 40)).alloc (.cells #[.int .i64 1] 3)).alloc (.cells #[.int .i64 2] 3)) (i64s [3]).toArray
    rw [s3] at hz hy
    have kz : Ext ((((w.alloc (.cells #[.int .i64 0, .int .i64 0, .int .i64 0, .slice none 0 0, .int .i64 0, .int .i64 0, .int .i64 0, .slice none 0 0, .slice none 0 0] 40)).alloc (.cells #[.int .i64 1] 3)).alloc (.cells #[.int .i64 2] 3)).alloc (.cells #[.int .i64 3] 3)) ((((((((((w.alloc (.cells #[.int .i64 0, .int .i64 0, .int .i64 0, .slice none 0 0, .int .i64 0, .int .i64 0, .int .i64 0, .slice none 0 0, .slice none 0 0] 40)).alloc (.cells #[.int .i64 1] 3)).alloc (.cells #[.int .i64 2] 3)).alloc (.cells #[.int .i64 3] 3)).alloc (.cells #[.int .i64 2, .int .i64 2] 3)).alloc (.cells #[.int .i64 1, .int .i64 2, .int .i64 2] 3)).alloc (.cells #[.int .i64 2, .int .i64 2, .int .i64 1] 3)).alloc (.cells #[.int .i64 1, .int .i64 3, .int .i64 3] 3)).alloc (.cells #[.int .i64 1, .int .i64 4, .int .i64 2] 3)).alloc (.cells #[.slice (some ⟨w.heap.size + 1, 0, none⟩) 1 1, .slice (some ⟨w.heap.size + 1 + 1, 0, none⟩) 1 1, .slice (some ⟨w.heap.size + 1 + 1 + 1, 0, none⟩) 1 1, .slice (some ⟨w.heap.size + 1 + 1 + 1 + 1, 0, none⟩) 2 2, .slice (some ⟨w.heap.size + 1 + 1 + 1 + 1 + 1, 0, none⟩) 3 3, .slice (some ⟨w.heap.size + 1 + 1 + 1 + 1 + 1 + 1, 0, none⟩) 3 3, .slice (some ⟨w.heap.size + 1 + 1 + 1 + 1 + 1 + 1 + 1, 0, none⟩) 3 3, .slice (some ⟨w.heap.size + 1 + 1 + 1 + 1 + 1 + 1 + 1 + 1, 0, none⟩) 3 3] 38)) := ((((((Ext.refl _).alloc _).alloc _).alloc _).alloc _).alloc _).alloc _
    exact ⟨⟨w.heap.size + 1 + 1 + 1, 0, none⟩, [3], by simp [shapes8], hc 2 _ rfl (by simp), hz.ext kz, by show w.heap.size < w.heap.size + 1 + 1 + 1; omega, hy.ext kz⟩
  · have hz := zx_newL ((((w.alloc (.cells #[.int .i64 0, .int .i64 0, .int .i64 0, .slice none 0 0, .int .i64 0, .int .i64 0, .int .i64 0, .slice none 0 0, .slice none 0 0] 40)).alloc (.cells #[.int .i64 1] 3)).alloc (.cells #[.int .i64 2] 3)).alloc (.cells #[.int .i64 3] 3)) [2, 2] (by simp)
    have hy := TyM.new ((((w.alloc (.cells #[.int .i64 0, .int .i64 0, .int .i64 0, .slice none 0 0, .int .i64 0, .int .i64 0, .int .i64 0, .slice none 0 0, .slice none 0 0] 40)).alloc (.cells #[.int .i64 1] 3)).alloc (.cells #[.int .i64 2] 3)).alloc (.cells #[.int .i64 3] 3)) (i64s [2, 2]).toArray
    rw [s4] at hz hy
    have kz : Ext (((((w.alloc (.cells #[.int .i64 0, .int .i64 0, .int .i64 0, .slice none 0 0, .int .i64 0, .int .i64 0, .int .i64 0, .slice none 0 0, .slice none 0 0] 40)).alloc (.cells #[.int .i64 1] 3)).alloc (.cells #[.int .i64 2] 3)).alloc (.cells #[.int .i64 3] 3)).alloc (.cells #[.int .i64 2, .int .i64 2] 3)) ((((((((((w.alloc (.cells #[.int .i64 0, .int .i64 0, .int .i64 0, .slice none 0 0, .int .i64 0, .int .i64 0, .int .i64 0, .slice none 0 0, .slice none 0 0] 40)).alloc (.cells #[.int .i64 1] 3)).alloc (.cells #[.int .i64 2] 3)).alloc (.cells #[.int .i64 3] 3)).alloc (.cells #[.int .i64 2, .int .i64 2] 3)).alloc (.cells #[.int .i64 1, .int .i64 2, .int .i64 2] 3)).alloc (.cells #[.int .i64 2, .int .i64 2, .int .i64 1] 3)).alloc (.cells #[.int .i64 1, .int .i64 3, .int .i64 3] 3)).alloc (.cells #[.int .i64 1, .int .i64 4, .int .i64 2] 3)).alloc (.cells #[.slice (some ⟨w.heap.size + 1, 0, none⟩) 1 1, .slice (some ⟨w.heap.size + 1 + 1, 0, none⟩) 1 1, .slice (some ⟨w.heap.size + 1 + 1 + 1, 0, none⟩) 1 1, .slice (some ⟨w.heap.size + 1 + 1 + 1 + 1, 0, none⟩) 2 2, .slice (some ⟨w.heap.size + 1 + 1 + 1 + 1 + 1, 0, none⟩) 3 3, .slice (some ⟨w.heap.size + 1 + 1 + 1 + 1 + 1 + 1, 0, none⟩) 3 3, .slice (some ⟨w.heap.size + 1 + 1 + 1 + 1 + 1 + 1 + 1, 0, none⟩) 3 3, .slice (some ⟨w.heap.size + 1 + 1 + 1 + 1 + 1 + 1 + 1 + 1, 0, none⟩) 3 3] 38)) := (((((Ext.refl _).alloc _).alloc _).alloc _).alloc _).alloc _
    exact ⟨⟨w.heap.size + 1 + 1 + 1 + 1, 0, none⟩, [2, 2], by simp [shapes8], hc 3 _ rfl (by simp), hz.ext kz, by show w.heap.size < w.heap.size + 1 + 1 + 1 + 1; omega, hy.ext kz⟩
  · have hz := zx_newL (((((w.alloc (.cells #[.int .i64 0, .int .i64 0, .int .i64 0, .slice none 0 0, .int .i64 0, .int .i64 0, .int .i64 0, .slice none 0 0, .slice none 0 0] 40)).alloc (.cells #[.int .i64 1] 3)).alloc (.cells #[.int .i64 2] 3)).alloc (.cells #[.int .i64 3] 3)).alloc (.cells #[.int .i64 2, .int .i64 2] 3)) [1, 2, 2] (by simp)
    have hy := TyM.new (((((w.alloc (.cells #[.int .i64 0, .int .i64 0, .int .i64 0, .slice none 0 0, .int .i64 0, .int .i64 0, .int .i64 0, .slice none 0 0, .slice none 0 0] 40)).alloc (.cells #[.int .i64 1] 3)).alloc (.cells #[.int .i64 2] 3)).alloc (.cells #[.int .i64 3] 3)).alloc (.cells #[.int .i64 2, .int .i64 2] 3)) (i64s [1, 2, 2]).toArray
    rw [s5] at hz hy
    have kz : Ext ((((((w.alloc (.cells #[.int .i64 0, .int .i64 0, .int .i64 0, .slice none 0 0, .int .i64 0, .int .i64 0, .int .i64 0, .slice none 0 0, .slice none 0 0] 40)).alloc (.cells #[.int .i64 1] 3)).alloc (.cells #[.int .i64 2] 3)).alloc (.cells #[.int .i64 3] 3)).alloc (.cells #[.int .i64 2, .int .i64 2] 3)).alloc (.cells #[.int .i64 1, .int .i64 2, .int .i64 2] 3)) ((((((((((w.alloc (.cells #[.int .i64 0, .int .i64 0, .int .i64 0, .slice none 0 0, .int .i64 0, .int .i64 0, .int .i64 0, .slice none 0 0, .slice none 0 0] 40)).alloc (.cells #[.int .i64 1] 3)).alloc (.cells #[.int .i64 2] 3)).alloc (.cells #[.int .i64 3] 3)).alloc (.cells #[.int .i64 2, .int .i64 2] 3)).alloc (.cells #[.int .i64 1, .int .i64 2, .int .i64 2] 3)).alloc (.cells #[.int .i64 2, .int .i64 2, .int .i64 1] 3)).alloc (.cells #[.int .i64 1, .int .i64 3, .int .i64 3] 3)).alloc (.cells #[.int .i64 1, .int .i64 4, .int .i64 2] 3)).alloc (.cells #[.slice (some ⟨w.heap.size + 1, 0, none⟩) 1 1, .slice (some ⟨w.heap.size + 1 + 1, 0, none⟩) 1 1, .slice (some ⟨w.heap.size + 1 + 1 + 1, 0, none⟩) 1 1, .slice (some ⟨w.heap.size + 1 + 1 + 1 + 1, 0, none⟩) 2 2, .slice (some ⟨w.heap.size + 1 + 1 + 1 + 1 + 1, 0, none⟩) 3 3, .slice (some ⟨w.heap.size + 1 + 1 + 1 + 1 + 1 + 1, 0, none⟩) 3 3, .slice (some ⟨w.heap.size + 1 + 1 + 1 + 1 + 1 + 1 + 1, 0, none⟩) 3 3, .slice (some ⟨w.heap.size + 1 + 1 + 1 + 1 + 1 + 1 + 1 + 1, 0, none⟩) 3 3] 38)) := ((((Ext.refl _).alloc _).alloc _).alloc _).alloc _
    exact ⟨⟨w.heap.size + 1 + 1 + 1 + 1 + 1, 0, none⟩, [1, 2, 2], by simp [shapes8], hc 4 _ rfl (by simp), hz.ext kz, by show w.heap.size < w.heap.size + 1 + 1 + 1 + 1 + 1; omega, hy.ext kz⟩
  · have hz := zx_newL ((((((w.alloc (.cells #[.int .i64 0, .int .i64 0, .int .i64 0, .slice none 0 0, .int .i64 0, .int .i64 0, .int .i64 0, .slice none 0 0, .slice none 0 0] 40)).alloc (.cells #[.int .i64 1] 3)).alloc (.cells #[.int .i64 2] 3)).alloc (.cells #[.int .i64 3] 3)).alloc (.cells #[.int .i64 2, .int .i64 2] 3)).alloc (.cells #[.int .i64 1, .int .i64 2, .int .i64 2] 3)) [2, 2, 1] (by simp)
    have hy := TyM.new ((((((w.alloc (.cells #[.int .i64 0, .int .i64 0, .int .i64 0, .slice none 0 0, .int .i64 0, .int .i64 0, .int .i64 0, .slice none 0 0, .slice none 0 0] 40)).alloc (.cells #[.int .i64 1] 3)).alloc (.cells #[.int .i64 2] 3)).alloc (.cells #[.int .i64 3] 3)).alloc (.cells #[.int .i64 2, .int .i64 2] 3)).alloc (.cells #[.int .i64 1, .int .i64 2, .int .i64 2] 3)) (i64s [2, 2, 1]).toArray
    rw [s6] at hz hy
    have kz : Ext (((((((w.alloc (.cells #[.int .i64 0, .int .i64 0, .int .i64 0, .slice none 0 0, .int .i64 0, .int .i64 0, .int .i64 0, .slice none 0 0, .slice none 0 0] 40)).alloc (.cells #[.int .i64 1] 3)).alloc (.cells #[.int .i64 2] 3)).alloc (.cells #[.int .i64 3] 3)).alloc (.cells #[.int .i64 2, .int .i64 2] 3)).alloc (.cells #[.int .i64 1, .int .i64 2, .int .i64 2] 3)).alloc (.cells #[.int .i64 2, .int .i64 2, .int .i64 1] 3)) ((((((((((w.alloc (.cells #[.int .i64 0, .int .i64 0, .int .i64 0, .slice none 0 0, .int .i64 0, .int .i64 0, .int .i64 0, .slice none 0 0, .slice none 0 0] 40)).alloc (.cells #[.int .i64 1] 3)).alloc (.cells #[.int .i64 2] 3)).alloc (.cells #[.int .i64 3] 3)).alloc (.cells #[.int .i64 2, .int .i64 2] 3)).alloc (.cells #[.int .i64 1, .int .i64 2, .int .i64 2] 3)).alloc (.cells #[.int .i64 2, .int .i64 2, .int .i64 1] 3)).alloc (.cells #[.int .i64 1, .int .i64 3, .int .i64 3] 3)).alloc (.cells #[.int .i64 1, .int .i64 4, .int .i64 2] 3)).alloc (.cells #[.slice (some ⟨w.heap.size + 1, 0, none⟩) 1 1, .slice (some ⟨w.heap.size + 1 + 1, 0, none⟩) 1 1, .slice (some ⟨w.heap.size + 1 + 1 + 1, 0, none⟩) 1 1, .slice (some ⟨w.heap.size + 1 + 1 + 1 + 1, 0, none⟩) 2 2, .slice (some ⟨w.heap.size + 1 + 1 + 1 + 1 + 1, 0, none⟩) 3 3, .slice (some ⟨w.heap.size + 1 + 1 + 1 + 1 + 1 + 1, 0, none⟩) 3 3, .slice (some ⟨w.heap.size + 1 + 1 + 1 + 1 + 1 + 1 + 1, 0, none⟩) 3 3, .slice (some ⟨w.heap.size + 1 + 1 + 1 + 1 + 1 + 1 + 1 + 1, 0, none⟩) 3 3] 38)) := (((Ext.refl _).alloc _).alloc _).alloc _
    exact ⟨⟨w.heap.size + 1 + 1 + 1 + 1 + 1 + 1, 0, none⟩, [2, 2, 1], by simp [shapes8], hc 5 _ rfl (by simp), hz.ext kz, by show w.heap.size < w.heap.size + 1 + 1 + 1 + 1 + 1 + 1; omega, hy.ext kz⟩
  · have hz := zx_newL (((((((w.alloc (.cells #[.int .i64 0, .int .i64 0, .int .i64 0, .slice none 0 0, .int .i64 0, .int .i64 0, .int .i64 0, .slice none 0 0, .slice none 0 0] 40)).alloc (.cells #[.int .i64 1] 3)).alloc (.cells #[.int .i64 2] 3)).alloc (.cells #[.int .i64 3] 3)).alloc (.cells #[.int .i64 2, .int .i64 2] 3)).alloc (.cells #[.int .i64 1, .int .i64 2, .int .i64 2] 3)).alloc (.cells #[.int .i64 2, .int .i64 2, .int .i64 1] 3)) [1, 3, 3] (by simp)
    have hy := TyM.new (((((((w.alloc (.cells #[.int .i64 0, .int .i64 0, .int .i64 0, .slice none 0 0, .int .i64 0, .int .i64 0, .int .i64 0, .slice none 0 0, .slice none 0 0] 40)).alloc (.cells #[.int .i64 1] 3)).alloc (.cells #[.int .i64 2] 3)).alloc (.cells #[.int .i64 3] 3)).alloc (.cells #[.int .i64 2, .int .i64 2] 3)).alloc (.cells #[.int .i64 1, .int .i64 2, .int .i64 2] 3)).alloc (.cells #[.int .i64 2, .int .i64 2, .int .i64 1] 3)) (i64s [1, 3, 3]).toArray
    rw [s7] at hz hy
    have kz : Ext ((((((((w.alloc (.cells #[.int .i64 0, .int .i64 0, .int .i64 0, .slice none 0 0, .int .i64 0, .int .i64 0, .int .i64 0, .slice none 0 0, .slice none 0 0] 40)).alloc (.cells #[.int .i64 1] 3)).alloc (.cells #[.int .i64 2] 3)).alloc (.cells #[.int .i64 3] 3)).alloc (.cells #[.int .i64 2, .int .i64 2] 3)).alloc (.cells #[.int .i64 1, .int .i64 2, .int .i64 2] 3)).alloc (.cells #[.int .i64 2, .int .i64 2, .int .i64 1] 3)).alloc (.cells #[.int .i64 1, .int .i64 3, .int .i64 3] 3)) ((((((((((w.alloc (.cells #[.int .i64 0, .int .i64 0, .int .i64 0, .slice none 0 0, .int .i64 0, .int .i64 0, .int .i64 0, .slice none 0 0, .slice none 0 0] 40)).alloc (.cells #[.int .i64 1] 3)).alloc (.cells #[.int .i64 2] 3)).alloc (.cells #[.int .i64 3] 3)).alloc (.cells #[.int .i64 2, .int .i64 2] 3)).alloc (.cells #[.int .i64 1, .int .i64 2, .int .i64 2] 3)).alloc (.cells #[.int .i64 2, .int .i64 2, .int .i64 1] 3)).alloc (.cells #[.int .i64 1, .int .i64 3, .int .i64 3] 3)).alloc (.cells #[.int .i64 1, .int .i64 4, .int .i64 2] 3)).alloc (.cells #[.slice (some ⟨w.heap.size + 1, 0, none⟩) 1 1, .slice (some ⟨w.heap.size + 1 + 1, 0, none⟩) 1 1, .slice (some ⟨w.heap.size + 1 + 1 + 1, 0, none⟩) 1 1, .slice (some ⟨w.heap.size + 1 + 1 + 1 + 1, 0, none⟩) 2 2, .slice (some ⟨w.heap.size + 1 + 1 + 1 + 1 + 1, 0, none⟩) 3 3, .slice (some ⟨w.heap.size + 1 + 1 + 1 + 1 + 1 + 1, 0, none⟩) 3 3, .slice (some ⟨w.heap.size + 1 + 1 + 1 + 1 + 1 + 1 + 1, 0, none⟩) 3 3, .slice (some ⟨w.heap.size + 1 + 1 + 1 + 1 + 1 + 1 + 1 + 1, 0, none⟩) 3 3] 38)) := ((Ext.refl _).alloc _).alloc _
    exact ⟨⟨w.heap.size + 1 + 1 + 1 + 1 + 1 + 1 + 1, 0, none⟩, [1, 3, 3], by simp [shapes8], hc 6 _ rfl (by simp), hz.ext kz, by show w.heap.size < w.heap.size + 1 + 1 + 1 + 1 + 1 + 1 + 1; omega, hy.ext kz⟩
  · have hz := zx_newL ((((((((w.alloc (.cells #[.int .i64 0, .int .i64 0, .int .i64 0, .slice none 0 0, .int .i64 0, .int .i64 0, .int .i64 0, .slice none 0 0, .slice none 0 0] 40)).alloc (.cells #[.int .i64 1] 3)).alloc (.cells #[.int .i64 2] 3)).alloc (.cells #[.int .i64 3] 3)).alloc (.cells #[.int .i64 2, .int .i64 2] 3)).alloc (.cells #[.int .i64 1, .int .i64 2, .int .i64 2] 3)).alloc (.cells #[.int .i64 2, .int .i64 2, .int .i64 1] 3)).alloc (.cells #[.int .i64 1, .int .i64 3, .int .i64 3] 3)) [1, 4, 2] (by simp)
    have hy := TyM.new ((((((((w.alloc (.cells #[.int .i64 0, .int .i64 0, .int .i64 0, .slice none 0 0, .int .i64 0, .int .i64 0, .int .i64 0, .slice none 0 0, .slice none 0 0] 40)).alloc (.cells #[.int .i64 1] 3)).alloc (.cells #[.int .i64 2] 3)).alloc (.cells #[.int .i64 3] 3)).alloc (.cells #[.int .i64 2, .int .i64 2] 3)).alloc (.cells #[.int .i64 1, .int .i64 2, .int .i64 2] 3)).alloc (.cells #[.int .i64 2, .int .i64 2, .int .i64 1] 3)).alloc (.cells #[.int .i64 1, .int .i64 3, .int .i64 3] 3)) (i64s [1, 4, 2]).toArray
    rw [s8] at hz hy
    have kz : Ext (((((((((w.alloc (.cells #[.int .i64 0, .int .i64 0, .int .i64 0, .slice none 0 0, .int .i64 0, .int .i64 0, .int .i64 0, .slice none 0 0, .slice none 0 0] 40)).alloc (.cells #[.int .i64 1] 3)).alloc (.cells #[.int .i64 2] 3)).alloc (.cells #[.int .i64 3] 3)).alloc (.cells #[.int .i64 2, .int .i64 2] 3)).alloc (.cells #[.int .i64 1, .int .i64 2, .int .i64 2] 3)).alloc (.cells #[.int .i64 2, .int .i64 2, .int .i64 1] 3)).alloc (.cells #[.int .i64 1, .int .i64 3, .int .i64 3] 3)).alloc (.cells #[.int .i64 1, .int .i64 4, .int .i64 2] 3)) ((((((((((w.alloc (.cells #[.int .i64 0, .int .i64 0, .int .i64 0, .slice none 0 0, .int .i64 0, .int .i64 0, .int .i64 0, .slice none 0 0, .slice none 0 0] 40)).alloc (.cells #[.int .i64 1] 3)).alloc (.cells #[.int .i64 2] 3)).alloc (.cells #[.int .i64 3] 3)).alloc (.cells #[.int .i64 2, .int .i64 2] 3)).alloc (.cells #[.int .i64 1, .int .i64 2, .int .i64 2] 3)).alloc (.cells #[.int .i64 2, .int .i64 2, .int .i64 1] 3)).alloc (.cells #[.int .i64 1, .int .i64 3, .int .i64 3] 3)).alloc (.cells #[.int .i64 1, .int .i64 4, .int .i64 2] 3)).alloc (.cells #[.slice (some ⟨w.heap.size + 1, 0, none⟩) 1 1, .slice (some ⟨w.heap.size + 1 + 1, 0, none⟩) 1 1, .slice (some ⟨w.heap.size + 1 + 1 + 1, 0, none⟩) 1 1, .slice (some ⟨w.heap.size + 1 + 1 + 1 + 1, 0, none⟩) 2 2, .slice (some ⟨w.heap.size + 1 + 1 + 1 + 1 + 1, 0, none⟩) 3 3, .slice (some ⟨w.heap.size + 1 + 1 + 1 + 1 + 1 + 1, 0, none⟩) 3 3, .slice (some ⟨w.heap.size + 1 + 1 + 1 + 1 + 1 + 1 + 1, 0, none⟩) 3 3, .slice (some ⟨w.heap.size + 1 + 1 + 1 + 1 + 1 + 1 + 1 + 1, 0, none⟩) 3 3] 38)) := (Ext.refl _).alloc _
    exact ⟨⟨w.heap.size + 1 + 1 + 1 + 1 + 1 + 1 + 1 + 1, 0, none⟩, [1, 4, 2], by simp [shapes8], hc 7 _ rfl (by simp), hz.ext kz, by show w.heap.size < w.heap.size + 1 + 1 + 1 + 1 + 1 + 1 + 1 + 1; omega, hy.ext kz⟩
theorem zx_cells {p n c : Nat} {A : Option Addr} {zs : List Int} : ∀ (l : List Value) (w : World) (i : Nat), ZX w A n c zs → (∀ ad, A = some ad → p < ad.block) → ZX (w.setCells p i l) A n c zs
  | [], w, i, h, _ => h
  | v :: l, w, i, h, hA => zx_cells l (w.setCell ⟨p, i, none⟩ v) (i + 1) (h.far hA v) hA
theorem onp_cells {p : Nat} : ∀ (l : List Value) (w : World) (i : Nat), On p w (w.setCells p i l)
  | [], w, i => On.refl _ _
  | v :: l, w, i => (On.set (On.refl p w) i v).trans (onp_cells l (w.setCell ⟨p, i, none⟩ v) (i + 1))
theorem on_cells {g p : Nat} {w w3 : World} (h : On g w w3) (hp : w.heap.size ≤ p) (l : List Value) (i : Nat) : On g w (w3.setCells p i l) := by
  have k := onp_cells (p := p) l w3 i
  exact ⟨k.os.trans h.os, k.tape.trans h.tape, k.output.trans h.output, Nat.le_trans h.size k.size, fun j hj hne => (k.block j (Nat.lt_of_lt_of_le hj h.size) (fun e => by injection e with e; omega)).trans (h.block j hj hne)⟩
theorem TM.on {w w' : World} {g p : Nat} (h : TM w g) (k : On p w w') (hp : g < p) : TM w' g := by
  obtain ⟨A, n, c, at_, h1, h2, h3, h4⟩ := h.ex
  refine ⟨A, n, c, at_, (k.block g (Array.getElem?_eq_some_iff.1 h1).1 (fun e => by injection e with e; omega)).trans h1, h2, h3, fun hn => ?_⟩
  obtain ⟨ad, e, hb, hc⟩ := h4 hn
  exact ⟨ad, e, hb, fun j hj => by obtain ⟨b, b1, b2⟩ := hc j hj; exact ⟨b, b1, cellOn k (by rw [add_blockJ]; omega) b2⟩⟩
theorem tm_cells {g p : Nat} (l : List Value) (w : World) (i : Nat) (h : TM w g) (hp : g < p) : TM (w.setCells p i l) g := h.on (onp_cells l w i) hp
set_option maxHeartbeats 2000000 in
theorem mkInput_any (g : Nat) (w : World) (hT : Hid (TM w g)) :
    Calls Try.prog 42 #[.pointer (some ⟨g, 0, none⟩)] w fun e w' => InPost w g e w' := by
  have hgl := hT.out.lt
  have H8 := Lib.hid (eight_at w)
  have kV : Ext w ((((((((((w.alloc (.cells #[.int .i64 0, .int .i64 0, .int .i64 0, .slice none 0 0, .int .i64 0, .int .i64 0, .int .i64 0, .slice none 0 0, .slice none 0 0] 40)).alloc (.cells #[.int .i64 1] 3)).alloc (.cells #[.int .i64 2] 3)).alloc (.cells #[.int .i64 3] 3)).alloc (.cells #[.int .i64 2, .int .i64 2] 3)).alloc (.cells #[.int .i64 1, .int .i64 2, .int .i64 2] 3)).alloc (.cells #[.int .i64 2, .int .i64 2, .int .i64 1] 3)).alloc (.cells #[.int .i64 1, .int .i64 3, .int .i64 3] 3)).alloc (.cells #[.int .i64 1, .int .i64 4, .int .i64 2] 3)).alloc (.cells #[.slice (some ⟨w.heap.size + 1, 0, none⟩) 1 1, .slice (some ⟨w.heap.size + 1 + 1, 0, none⟩) 1 1, .slice (some ⟨w.heap.size + 1 + 1 + 1, 0, none⟩) 1 1, .slice (some ⟨w.heap.size + 1 + 1 + 1 + 1, 0, none⟩) 2 2, .slice (some ⟨w.heap.size + 1 + 1 + 1 + 1 + 1, 0, none⟩) 3 3, .slice (some ⟨w.heap.size + 1 + 1 + 1 + 1 + 1 + 1, 0, none⟩) 3 3, .slice (some ⟨w.heap.size + 1 + 1 + 1 + 1 + 1 + 1 + 1, 0, none⟩) 3 3, .slice (some ⟨w.heap.size + 1 + 1 + 1 + 1 + 1 + 1 + 1 + 1, 0, none⟩) 3 3] 38)) := ((((((((((Ext.refl w).alloc _).alloc _).alloc _).alloc _).alloc _).alloc _).alloc _).alloc _).alloc _).alloc _
  have HH := Lib.hid (show ((((((((((w.alloc (.cells #[.int .i64 0, .int .i64 0, .int .i64 0, .slice none 0 0, .int .i64 0, .int .i64 0, .int .i64 0, .slice none 0 0, .slice none 0 0] 40)).alloc (.cells #[.int .i64 1] 3)).alloc (.cells #[.int .i64 2] 3)).alloc (.cells #[.int .i64 3] 3)).alloc (.cells #[.int .i64 2, .int .i64 2] 3)).alloc (.cells #[.int .i64 1, .int .i64 2, .int .i64 2] 3)).alloc (.cells #[.int .i64 2, .int .i64 2, .int .i64 1] 3)).alloc (.cells #[.int .i64 1, .int .i64 3, .int .i64 3] 3)).alloc (.cells #[.int .i64 1, .int .i64 4, .int .i64 2] 3)).alloc (.cells #[.slice (some ⟨w.heap.size + 1, 0, none⟩) 1 1, .slice (some ⟨w.heap.size + 1 + 1, 0, none⟩) 1 1, .slice (some ⟨w.heap.size + 1 + 1 + 1, 0, none⟩) 1 1, .slice (some ⟨w.heap.size + 1 + 1 + 1 + 1, 0, none⟩) 2 2, .slice (some ⟨w.heap.size + 1 + 1 + 1 + 1 + 1, 0, none⟩) 3 3, .slice (some ⟨w.heap.size + 1 + 1 + 1 + 1 + 1 + 1, 0, none⟩) 3 3, .slice (some ⟨w.heap.size + 1 + 1 + 1 + 1 + 1 + 1 + 1, 0, none⟩) 3 3, .slice (some ⟨w.heap.size + 1 + 1 + 1 + 1 + 1 + 1 + 1 + 1, 0, none⟩) 3 3] 38)).heap[w.heap.size]? = some (.cells #[.int .i64 0, .int .i64 0, .int .i64 0, .slice none 0 0, .int .i64 0, .int .i64 0, .int .i64 0, .slice none 0 0, .slice none 0 0] 40 (0, 0)) from ((show Ext (w.alloc (.cells #[.int .i64 0, .int .i64 0, .int .i64 0, .slice none 0 0, .int .i64 0, .int .i64 0, .int .i64 0, .slice none 0 0, .slice none 0 0] 40)) ((((((((((w.alloc (.cells #[.int .i64 0, .int .i64 0, .int .i64 0, .slice none 0 0, .int .i64 0, .int .i64 0, .int .i64 0, .slice none 0 0, .slice none 0 0] 40)).alloc (.cells #[.int .i64 1] 3)).alloc (.cells #[.int .i64 2] 3)).alloc (.cells #[.int .i64 3] 3)).alloc (.cells #[.int .i64 2, .int .i64 2] 3)).alloc (.cells #[.int .i64 1, .int .i64 2, .int .i64 2] 3)).alloc (.cells #[.int .i64 2, .int .i64 2, .int .i64 1] 3)).alloc (.cells #[.int .i64 1, .int .i64 3, .int .i64 3] 3)).alloc (.cells #[.int .i64 1, .int .i64 4, .int .i64 2] 3)).alloc (.cells #[.slice (some ⟨w.heap.size + 1, 0, none⟩) 1 1, .slice (some ⟨w.heap.size + 1 + 1, 0, none⟩) 1 1, .slice (some ⟨w.heap.size + 1 + 1 + 1, 0, none⟩) 1 1, .slice (some ⟨w.heap.size + 1 + 1 + 1 + 1, 0, none⟩) 2 2, .slice (some ⟨w.heap.size + 1 + 1 + 1 + 1 + 1, 0, none⟩) 3 3, .slice (some ⟨w.heap.size + 1 + 1 + 1 + 1 + 1 + 1, 0, none⟩) 3 3, .slice (some ⟨w.heap.size + 1 + 1 + 1 + 1 + 1 + 1 + 1, 0, none⟩) 3 3, .slice (some ⟨w.heap.size + 1 + 1 + 1 + 1 + 1 + 1 + 1 + 1, 0, none⟩) 3 3] 38)) from (((((((((Ext.refl _).alloc _).alloc _).alloc _).alloc _).alloc _).alloc _).alloc _).alloc _).alloc _).block _ (by simp)).trans (heap_alloc_new w _))
  go_enter Try.func42, Try.ntmps42
  go_wp2_with fail
  generalize ((((((((((w.alloc (.cells #[.int .i64 0, .int .i64 0, .int .i64 0, .slice none 0 0, .int .i64 0, .int .i64 0, .int .i64 0, .slice none 0 0, .slice none 0 0] 40)).alloc (.cells #[.int .i64 1] 3)).alloc (.cells #[.int .i64 2] 3)).alloc (.cells #[.int .i64 3] 3)).alloc (.cells #[.int .i64 2, .int .i64 2] 3)).alloc (.cells #[.int .i64 1, .int .i64 2, .int .i64 2] 3)).alloc (.cells #[.int .i64 2, .int .i64 2, .int .i64 1] 3)).alloc (.cells #[.int .i64 1, .int .i64 3, .int .i64 3] 3)).alloc (.cells #[.int .i64 1, .int .i64 4, .int .i64 2] 3)).alloc (.cells #[.slice (some ⟨w.heap.size + 1, 0, none⟩) 1 1, .slice (some ⟨w.heap.size + 1 + 1, 0, none⟩) 1 1, .slice (some ⟨w.heap.size + 1 + 1 + 1, 0, none⟩) 1 1, .slice (some ⟨w.heap.size + 1 + 1 + 1 + 1, 0, none⟩) 2 2, .slice (some ⟨w.heap.size + 1 + 1 + 1 + 1 + 1, 0, none⟩) 3 3, .slice (some ⟨w.heap.size + 1 + 1 + 1 + 1 + 1 + 1, 0, none⟩) 3 3, .slice (some ⟨w.heap.size + 1 + 1 + 1 + 1 + 1 + 1 + 1, 0, none⟩) 3 3, .slice (some ⟨w.heap.size + 1 + 1 + 1 + 1 + 1 + 1 + 1 + 1, 0, none⟩) 3 3] 38)) = V at *
  have HTV := Lib.hid (hT.out.keep kV)
  have KV := Lib.hid kV
  clear kV
  refine (mkNext_any g 8 V HTV (by omega) (by omega)).mono ?_
  rintro e1 w1 ⟨v, rfl, h0, h1, h2, h3⟩
  have hv8 : v < 8 := by omega
  obtain ⟨j, rfl⟩ : ∃ j : Nat, v = (j : Int) := ⟨v.toNat, by omega⟩
  obtain ⟨ad, sh, hsh, hcell, hzx, hadb, hty⟩ := H8.out j (by omega)
  have HY1 := Lib.hid (hty.onT HTV.out h3)
  clear hty
  have c1 := cellOn h3 (by show w.heap.size + 1 + 1 + 1 + 1 + 1 + 1 + 1 + 1 + 1 ≠ g; omega) hcell
  have HZG := Lib.hid (ZG.on (g := g) (w' := w1) ⟨hzx, fun ad' e => by injection e with e; subst e; omega⟩ h3)
  have HT1 := Lib.hid h2
  have HO1 := Lib.hid h3
  have j0 : (0 : Int) ≤ (j : Int) := by omega
  clear hcell hzx h1 h2 h3
  go_wp2_with fail
  refine (mkSmall_any g w1 HT1).mono ?_
  rintro e2 w2 ⟨lo, rfl, l0, l1, h2, h3⟩
  have HZ2 := Lib.hid (HZG.out.on h3)
  have HY2 := Lib.hid (HY1.out.onT HT1.out h3)
  have HT2 := Lib.hid h2
  have HO2 := Lib.hid (HO1.out.trans h3)
  clear h2 h3 c1
  go_wp2_with fail
  refine (mkNext_any g 6 w2 HT2 (by omega) (by omega)).mono ?_
  rintro e3 w3 ⟨d, rfl, d0, d1, h2, h3⟩
  have hd5 : d ≤ 5 := by omega
  have HZ3 := Lib.hid (HZ2.out.on h3)
  have HY3 := Lib.hid (HY2.out.onT HT2.out h3)
  have HT3 := Lib.hid h2
  have HO3 := Lib.hid (HO2.out.trans h3)
  clear d1 h2 h3
  have hh3 : w3.heap[w.heap.size]? = some (.cells #[.int .i64 0, .int .i64 0, .int .i64 0, .slice none 0 0, .int .i64 0, .int .i64 0, .int .i64 0, .slice none 0 0, .slice none 0 0] 40 (0, 0)) := (HO3.out.block _ (by have := (Array.getElem?_eq_some_iff.1 HH.out).1; exact this) (fun e => by injection e with e; omega)).trans HH.out
  have da : w3.cell? ⟨w.heap.size, 0, none⟩ = some (.int .i64 0) := by simp [World.cell?, hh3]
  have fa : w3.frozen? ⟨w.heap.size, 0, none⟩ = false := by simp [World.frozen?, hh3]
  have db : w3.cell? ⟨w.heap.size, 1, none⟩ = some (.int .i64 0) := by simp [World.cell?, hh3]
  have fb : w3.frozen? ⟨w.heap.size, 1, none⟩ = false := by simp [World.frozen?, hh3]
  have dc : w3.cell? ⟨w.heap.size, 2, none⟩ = some (.int .i64 0) := by simp [World.cell?, hh3]
  have fc : w3.frozen? ⟨w.heap.size, 2, none⟩ = false := by simp [World.frozen?, hh3]
  have dd : w3.cell? ⟨w.heap.size, 3, none⟩ = some (.slice none 0 0) := by simp [World.cell?, hh3]
  have fd : w3.frozen? ⟨w.heap.size, 3, none⟩ = false := by simp [World.frozen?, hh3]
  have de : w3.cell? ⟨w.heap.size, 4, none⟩ = some (.int .i64 0) := by simp [World.cell?, hh3]
  have fe : w3.frozen? ⟨w.heap.size, 4, none⟩ = false := by simp [World.frozen?, hh3]
  have df : w3.cell? ⟨w.heap.size, 5, none⟩ = some (.int .i64 0) := by simp [World.cell?, hh3]
  have ff : w3.frozen? ⟨w.heap.size, 5, none⟩ = false := by simp [World.frozen?, hh3]
  have dg : w3.cell? ⟨w.heap.size, 6, none⟩ = some (.int .i64 0) := by simp [World.cell?, hh3]
  have fg : w3.frozen? ⟨w.heap.size, 6, none⟩ = false := by simp [World.frozen?, hh3]
  have dh : w3.cell? ⟨w.heap.size, 7, none⟩ = some (.slice none 0 0) := by simp [World.cell?, hh3]
  have fh : w3.frozen? ⟨w.heap.size, 7, none⟩ = false := by simp [World.frozen?, hh3]
  have di : w3.cell? ⟨w.heap.size, 8, none⟩ = some (.slice none 0 0) := by simp [World.cell?, hh3]
  have fi : w3.frozen? ⟨w.heap.size, 8, none⟩ = false := by simp [World.frozen?, hh3]
  have HH3 := Lib.hid hh3
  clear hh3
  go_wp2
  refine bodyPost_ret (v := .agg #[.int .i64 1, .int .i64 0, .int .i64 0, .slice (some ad) sh.length sh.length, .int .i64 lo, .int .i64 (lo + d), .int .i64 0, .slice none 0 0, .slice none 0 0]) (by simp [results, Try.results42, go_sem, da, db, dc, dd, de, df, dg, dh, di]) rfl ⟨some ad, sh.length, sh, lo, lo + d, rfl, hsh, ?_, fun ad' e => by injection e with e; subst e; omega, ⟨l0, l1, by omega, by omega⟩, ?_, ?_, ?_⟩
  · exact zx_cells [.int .i64 1, .int .i64 0, .int .i64 0, .slice (some ad) sh.length sh.length, .int .i64 lo, .int .i64 (lo + d), .int .i64 0, .slice none 0 0, .slice none 0 0] w3 0 HZ3.out.zx (fun ad' e => by injection e with e; subst e; exact hadb)
  · exact tm_cells [.int .i64 1, .int .i64 0, .int .i64 0, .slice (some ad) sh.length sh.length, .int .i64 lo, .int .i64 (lo + d), .int .i64 0, .slice none 0 0, .slice none 0 0] w3 0 HT3.out hgl
  · exact on_cells ((On.of KV.out).trans HO3.out) (Nat.le_refl _) [.int .i64 1, .int .i64 0, .int .i64 0, .slice (some ad) sh.length sh.length, .int .i64 lo, .int .i64 (lo + d), .int .i64 0, .slice none 0 0, .slice none 0 0] 0
  · exact HY3.out.onp HH3.out (by decide) (onp_cells [.int .i64 1, .int .i64 0, .int .i64 0, .slice (some ad) sh.length sh.length, .int .i64 lo, .int .i64 (lo + d), .int .i64 0, .slice none 0 0, .slice none 0 0] w3 0)
end Go.Proofs.Ytdnjjpkajiehgaa

/-
  The nodes that arrasmake makes may be, and have few entries.
-/
namespace Go.Proofs.Ytdnjjpkajiehgaa
open Go.RowKit
set_option linter.unusedVariables false
set_option maxRecDepth 100000

/-- Pictures that come up. -/
def good3 : List (List Int) := [[1, 1, 1], [1, 1, 2], [1, 1, 3], [1, 1, 4], [1, 1, 5], [1, 1, 6], [1, 1, 7], [1, 1, 8], [1, 1, 9], [1, 2, 1], [1, 2, 2], [1, 2, 3], [1, 2, 4], [1, 3, 1], [1, 3, 2], [1, 3, 3], [1, 4, 1], [1, 4, 2], [1, 5, 1], [1, 6, 1], [1, 7, 1], [1, 8, 1], [1, 9, 1], [2, 1, 1], [2, 1, 2], [2, 1, 3], [2, 1, 4], [2, 1, 5], [2, 1, 6], [2, 1, 7], [2, 1, 8], [2, 1, 9], [2, 2, 1], [2, 2, 2], [2, 2, 3], [2, 2, 4], [2, 3, 1], [2, 3, 2], [2, 3, 3], [2, 4, 1], [2, 4, 2], [2, 5, 1], [2, 6, 1], [2, 7, 1], [2, 8, 1], [2, 9, 1]]
/-- Shapes that come up. -/
def GoodS (s : List Int) : Prop := s ∈ good3 ∨ s = [2, 2] ∨ ∃ m : Int, s = [m] ∧ 1 ≤ m ∧ m ≤ 64
theorem ent_1 {m : Int} (h1 : 1 ≤ m) (h2 : m ≤ 64) : entN [m] = m := by
  unfold entN
  rw [if_neg (by simp)]
  unfold entF
  rw [if_neg (by omega)]
  unfold entF
  omega
theorem good_ent3 : ∀ s ∈ good3, 1 ≤ entN s ∧ entN s ≤ 18 ∧ s.length = 3 := by decide +kernel
theorem good_ent {s : List Int} (h : GoodS s) : 1 ≤ entN s ∧ entN s ≤ 64 := by
  rcases h with h | rfl | ⟨m, rfl, h1, h2⟩
  · have := good_ent3 s h
    omega
  · decide
  · rw [ent_1 h1 h2]
    omega
theorem good_in : ∀ s ∈ shapes8, s ∈ good3 ∨ s = [2, 2] ∨ (∃ m ∈ [(1 : Int), 2, 3], s = [m]) := by decide +kernel
theorem good_shapes8 {s : List Int} (h : s ∈ shapes8) : GoodS s := by
  rcases good_in s h with h | h | ⟨m, hm, rfl⟩
  · exact .inl h
  · exact .inr (.inl h)
  · refine .inr (.inr ⟨m, rfl, ?_⟩)
    simp at hm
    omega
theorem in4_near {l : List Int} (h : In4 l) : nearB l = true := by
  unfold nearB
  rw [List.all_eq_true]
  intro z hz
  have := h z hz
  simp
  omega
theorem near_4 {v : Int} (h0 : -100 ≤ v) (h1 : v ≤ 100) : near1 v = true := by
  simp [near1]
  omega
theorem mk_input {sh : List Int} {lo hv : Int} {shs : List (List Int)} (h : sh ∈ shapes8) (h0 : -4 ≤ lo) (h1 : lo ≤ 4) (h2 : lo ≤ hv) (h3 : hv ≤ 9) : nodeR ⟨1, 0, 0, sh, lo, hv, 0, [], []⟩ shs = .ok sh := by
  have he := good_ent (good_shapes8 h)
  refine node_ok ?_ rfl ?_
  · have : (0 : Int) < entN sh := by omega
    simp [formB, mayL, okL, hasL, behB, toldB, this]
  · simp [nearOK, nearB, h2, near_4 (v := lo) (by omega) (by omega), near_4 (v := hv) (by omega) (by omega)]
theorem mk_const {s l : List Int} {shs : List (List Int)} (h : GoodS s) (hl : (l.length : Int) = entN s) (h4 : In4 l) : nodeR ⟨2, 0, 0, s, 0, 0, 0, l, []⟩ shs = .ok s := by
  have he := good_ent h
  refine node_ok ?_ rfl ?_
  · have : (0 : Int) < entN s := by omega
    simp [formB, mayL, okL, hasL, behB, toldB, this, hl]
  · simp [nearOK, in4_near h4, near_4 (v := 0) (by omega) (by omega)]
    rfl
theorem ah_of {shs : List (List Int)} {ia : Nat} (h : ia < shs.length) : ahB (ia : Int) shs.length = true := by
  simp [ahB]
  exact h
theorem getD_of {shs : List (List Int)} {ia : Nat} {s : List Int} (h : shs[ia]? = some s) : shs.getD (ia : Int).toNat [] = s := by
  rw [Int.toNat_natCast, List.getD_eq_getElem?_getD, h]
  rfl
theorem mk_dense {s l bi : List Int} {shs : List (List Int)} {ia o : Nat} (hs : shs[ia]? = some s) (h1 : 1 ≤ o) (h2 : o ≤ 4) (hl : (l.length : Int) = (o : Int) * entN s) (hb : bi.length = o) (h4 : In4 l) (h5 : In4 bi) : nodeR ⟨3, (ia : Int), 0, [], 0, 0, 0, l, bi⟩ shs = .ok [(o : Int)] := by
  have hi := (List.getElem?_eq_some_iff.1 hs).1
  refine node_ok ?_ ?_ ?_
  · simp [formB, mayL, okL, hasL, behB, toldB, ah_of hi, hb]
    omega
  · unfold shapeO
    simp only [show ¬ ((3 : Int) = 1) by decide, show ¬ ((3 : Int) = 2) by decide, if_false, if_true]
    rw [getD_of hs, if_pos (by rw [hl, hb]), hb]
  · simp [nearOK, in4_near h4, in4_near h5, near_4 (v := 0) (by omega) (by omega)]
theorem mk_like {s l : List Int} {shs : List (List Int)} {ia : Nat} {k : Int} (hk : k = 7 ∧ l.length = 1 ∨ k = 8 ∧ l.length = 3) (hs : shs[ia]? = some s) (h4 : In4 l) : nodeR ⟨k, (ia : Int), 0, [], 0, 0, 0, l, []⟩ shs = .ok s := by
  have hi := (List.getElem?_eq_some_iff.1 hs).1
  rcases hk with ⟨rfl, hl⟩ | ⟨rfl, hl⟩
  · refine node_ok ?_ ?_ ?_
    · simp [formB, mayL, okL, hasL, behB, toldB, ah_of hi, hl]
    · unfold shapeO
      simp only [show ¬ ((7 : Int) = 1) by decide, show ¬ ((7 : Int) = 2) by decide, show ¬ ((7 : Int) = 3) by decide, show ¬ ((7 : Int) = 4) by decide, show ¬ ((7 : Int) = 5) by decide, show ¬ ((7 : Int) = 6) by decide, if_false, if_true]
      rw [getD_of hs]
    · simp [nearOK, in4_near h4, near_4 (v := 0) (by omega) (by omega)]
      rfl
  · refine node_ok ?_ ?_ ?_
    · simp [formB, mayL, okL, hasL, behB, toldB, ah_of hi, hl]
    · unfold shapeO
      simp only [show ¬ ((8 : Int) = 1) by decide, show ¬ ((8 : Int) = 2) by decide, show ¬ ((8 : Int) = 3) by decide, show ¬ ((8 : Int) = 4) by decide, show ¬ ((8 : Int) = 5) by decide, show ¬ ((8 : Int) = 6) by decide, show ¬ ((8 : Int) = 7) by decide, if_false, if_true]
      rw [getD_of hs]
    · simp [nearOK, in4_near h4, near_4 (v := 0) (by omega) (by omega)]
      rfl
theorem mk_add {s : List Int} {shs : List (List Int)} {ia ib : Nat} (hs : shs[ia]? = some s) (hb : shs[ib]? = some s) : nodeR ⟨6, (ia : Int), (ib : Int), [], 0, 0, 0, [], []⟩ shs = .ok s := by
  have hi := (List.getElem?_eq_some_iff.1 hs).1
  have hj := (List.getElem?_eq_some_iff.1 hb).1
  refine node_ok ?_ ?_ rfl
  · simp [formB, mayL, okL, hasL, behB, toldB, ah_of hi, ah_of hj]
  · unfold shapeO
    simp only [show ¬ ((6 : Int) = 1) by decide, show ¬ ((6 : Int) = 2) by decide, show ¬ ((6 : Int) = 3) by decide, show ¬ ((6 : Int) = 4) by decide, show ¬ ((6 : Int) = 5) by decide, if_false, if_true]
    rw [getD_of hs, getD_of hb, if_pos rfl]
theorem mk_flat {s : List Int} {shs : List (List Int)} {ia : Nat} (hs : shs[ia]? = some s) (hg : GoodS s) : nodeR ⟨9, (ia : Int), 0, [entN s], 0, 0, 0, [], []⟩ shs = .ok [entN s] ∧ GoodS [entN s] := by
  have hi := (List.getElem?_eq_some_iff.1 hs).1
  have he := good_ent hg
  have e1 := ent_1 he.1 he.2
  refine ⟨node_ok ?_ ?_ rfl, .inr (.inr ⟨_, rfl, he.1, he.2⟩)⟩
  · have : (0 : Int) < entN s := by omega
    simp [formB, mayL, okL, hasL, behB, toldB, ah_of hi, e1, this]
  · unfold shapeO
    simp only [show ¬ ((9 : Int) = 1) by decide, show ¬ ((9 : Int) = 2) by decide, show ¬ ((9 : Int) = 3) by decide, show ¬ ((9 : Int) = 4) by decide, show ¬ ((9 : Int) = 5) by decide, show ¬ ((9 : Int) = 6) by decide, show ¬ ((9 : Int) = 7) by decide, show ¬ ((9 : Int) = 8) by decide, if_false]
    rw [getD_of hs, if_pos e1]
theorem pool_good : ∀ s ∈ good3, s.getD 1 0 % 2 = 0 → s.getD 2 0 % 2 = 0 → ∃ s' ∈ good3, poolO 2 s = some s' := by decide +kernel
theorem mk_pool {s : List Int} {shs : List (List Int)} {ia : Nat} (hs : shs[ia]? = some s) (hg : s ∈ good3) (h1 : s.getD 1 0 % 2 = 0) (h2 : s.getD 2 0 % 2 = 0) : ∃ s', nodeR ⟨5, (ia : Int), 0, [], 0, 0, 2, [], []⟩ shs = .ok s' ∧ GoodS s' := by
  have hi := (List.getElem?_eq_some_iff.1 hs).1
  obtain ⟨s', hs', hp⟩ := pool_good s hg h1 h2
  refine ⟨s', node_ok ?_ ?_ rfl, .inl hs'⟩
  · simp [formB, mayL, okL, hasL, behB, toldB, ah_of hi]
  · unfold shapeO
    simp only [show ¬ ((5 : Int) = 1) by decide, show ¬ ((5 : Int) = 2) by decide, show ¬ ((5 : Int) = 3) by decide, show ¬ ((5 : Int) = 4) by decide, if_false, if_true]
    rw [getD_of hs]
    exact hp
theorem conv_good : ∀ s ∈ good3, ∀ k0 ∈ [(1 : Int), 2], ∀ k2 ∈ [(1 : Int), 2], ∀ k3 ∈ [(1 : Int), 2], k2 ≤ s.getD 1 0 → k3 ≤ s.getD 2 0 → (∃ s' ∈ good3, convO [k0, s.getD 0 0, k2, k3] s = some s') ∧ kernB [k0, s.getD 0 0, k2, k3] (k0 * s.getD 0 0 * k2 * k3) k0 = true := by decide +kernel
theorem mk_conv {s l bi : List Int} {shs : List (List Int)} {ia : Nat} {k0 k2 k3 : Int} (hs : shs[ia]? = some s) (hg : s ∈ good3) (h0 : k0 ∈ [(1 : Int), 2]) (h2 : k2 ∈ [(1 : Int), 2]) (h3 : k3 ∈ [(1 : Int), 2]) (e2 : k2 ≤ s.getD 1 0) (e3 : k3 ≤ s.getD 2 0) (hl : (l.length : Int) = k0 * s.getD 0 0 * k2 * k3) (hb : (bi.length : Int) = k0) (h4 : In4 l) (h5 : In4 bi) :
    ∃ s', nodeR ⟨4, (ia : Int), 0, [k0, s.getD 0 0, k2, k3], 0, 0, 0, l, bi⟩ shs = .ok s' ∧ GoodS s' := by
  have hi := (List.getElem?_eq_some_iff.1 hs).1
  obtain ⟨⟨s', hs', hp⟩, hk⟩ := conv_good s hg k0 h0 k2 h2 k3 h3 e2 e3
  rw [← hl] at hk
  have hk' : kernB [k0, s.getD 0 0, k2, k3] (l.length : Int) (bi.length : Int) = true := by rw [hb]; exact hk
  generalize [k0, s.getD 0 0, k2, k3] = kk at *
  refine ⟨s', node_ok ?_ ?_ ?_, .inl hs'⟩
  · simp [formB, mayL, okL, hasL, behB, toldB, ah_of hi, hk']
  · unfold shapeO
    simp only [show ¬ ((4 : Int) = 1) by decide, show ¬ ((4 : Int) = 2) by decide, show ¬ ((4 : Int) = 3) by decide, if_false, if_true]
    rw [getD_of hs]
    exact hp
  · simp [nearOK, in4_near h4, in4_near h5, near_4 (v := 0) (by omega) (by omega)]
end Go.Proofs.Ytdnjjpkajiehgaa
