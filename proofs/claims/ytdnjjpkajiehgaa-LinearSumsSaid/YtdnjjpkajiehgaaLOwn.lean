/-
  Rows that grow by append: what was there stays.
-/
import Derived.Test.YtdnjjpkajiehgaaJLst
namespace Go.Proofs.Ytdnjjpkajiehgaa
open Go.RowKit
set_option linter.unusedVariables false
set_option maxRecDepth 100000

theorem own_newL (w0 : World) (t : TypeId) (size n : Nat) (xs : List Value) (h : xs.length = n * size) (hn : n ≤ maxLen) : (w0.alloc (.cells xs.toArray t)).ownsRow w0.heap.size t size (.slice (some ⟨w0.heap.size, 0, none⟩) n n) n xs :=
  ⟨h, .inr ⟨w0.heap.size, n, xs.toArray, rfl, Nat.le_refl _, heap_alloc_new w0 _, Nat.le_refl _, hn, by simpa using h, by rw [← h]; simp⟩⟩
theorem own_extL {w w' : World} {B : Nat} {t : TypeId} {s : Nat} {v : Value} {n : Nat} {xs : List Value} (h : w.ownsRow B t s v n xs) (k : Ext w w') : w'.ownsRow B t s v n xs := by
  refine ⟨h.1, ?_⟩
  rcases h.2 with h0 | ⟨g, cap, cur, e, hg, hh, h1⟩
  · exact .inl h0
  · exact .inr ⟨g, cap, cur, e, hg, (k.block g (Array.getElem?_eq_some_iff.1 hh).1).trans hh, h1⟩
theorem own_lowL {w : World} {B B' : Nat} {t : TypeId} {s : Nat} {v : Value} {n : Nat} {xs : List Value} (h : w.ownsRow B t s v n xs) (hb : B' ≤ B) : w.ownsRow B' t s v n xs := by
  refine ⟨h.1, ?_⟩
  rcases h.2 with h0 | ⟨g, cap, cur, e, hg, h1⟩
  · exact .inl h0
  · exact .inr ⟨g, cap, cur, e, by omega, h1⟩
theorem one_cellL {w : World} {u : Value} {t : TypeId} : ∀ (j : Nat) (x : Value), [u][j]? = some x → (w.alloc (.cells #[u] t)).cell? ((⟨w.heap.size, 0, none⟩ : Addr).add j) = some x := by
  intro j x hx
  rcases j with _ | j
  · simp at hx; subst hx; simp [Addr.add]
  · simp at hx
theorem one_intL {z : Int} : ∀ u ∈ [Value.int .i64 z], u.oneCell' = true := by
  intro u hu; simp at hu; subst hu; rfl
theorem ext_grownL {w0 w w' : World} {B : Nat} {t : TypeId} {s : Nat} {v : Value} {n : Nat} {xs : List Value} (h : Ext w0 w) (ho : w.ownsRow B t s v n xs) (hb : w0.heap.size ≤ B) (hg : w.grownBy w' v.ownBlock) : Ext w0 w' :=
  Below.grown h hg h.size (fun k e => by have := (ho.lt k e).1; omega)
theorem i64s_app (l : List Int) (m : List Int) : i64s (l ++ m) = i64s l ++ i64s m := by simp [i64s]
end Go.Proofs.Ytdnjjpkajiehgaa
