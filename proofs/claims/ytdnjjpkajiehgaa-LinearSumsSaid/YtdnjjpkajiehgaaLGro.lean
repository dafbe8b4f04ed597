/-
  Lists of lists that grow by append.
-/
import Derived.Test.YtdnjjpkajiehgaaJNd
import Derived.Test.YtdnjjpkajiehgaaLOwn
namespace Go.Proofs.Ytdnjjpkajiehgaa
open Go.RowKit
set_option linter.unusedVariables false
set_option maxRecDepth 100000

def TyL (w : World) (A : Option Addr) : Prop := ∀ ad, A = some ad → ∃ cur fz, w.heap[ad.block]? = some (.cells cur 3 fz)
theorem TyL.ext {w w' : World} {A : Option Addr} (h : TyL w A) (k : Ext w w') : TyL w' A := fun ad e => by
  obtain ⟨cur, fz, hc⟩ := h ad e
  exact ⟨cur, fz, (k.block _ (Array.getElem?_eq_some_iff.1 hc).1).trans hc⟩
theorem one_atL {w : World} {g : Nat} {t : TypeId} {u : Value} (hg : g = w.heap.size) : ∀ (j : Nat) (x : Value), [u][j]? = some x → (w.alloc (.cells #[u] t)).cell? ((⟨g, 0, none⟩ : Addr).add j) = some x := by
  intro j x hx
  subst hg
  rcases j with _ | j
  · simp at hx; subst hx; simp [Addr.add]
  · simp at hx
theorem one_sliceL {A : Option Addr} {n c : Nat} : ∀ u ∈ [Value.slice A n c], u.oneCell' = true := by
  intro u hu; simp at hu; subst hu; rfl
def GL (B : Nat) (w : World) (v : Value) (shs : List (List Int)) : Prop :=
  ∃ us, w.ownsRow B 38 1 v shs.length us ∧ ∀ (j : Nat) (s : List Int), shs[j]? = some s → ∃ A d, us[j]? = some (.slice A s.length d) ∧ ZX w A s.length d s ∧ TyL w A
theorem GL.nil (B : Nat) (w : World) : GL B w (.slice none 0 0) [] := ⟨[], World.ownsRow_nil _ _ _ _, fun j s h => by simp at h⟩
theorem GL.sx {B : Nat} {w : World} {v : Value} {shs : List (List Int)} (h : GL B w v shs) : ∃ A c, v = .slice A shs.length c ∧ SX w A c shs := by
  obtain ⟨us, ho, hu⟩ := h
  have ho' := ho
  rcases ho.2 with ⟨rfl, e⟩ | ⟨g, cap, cur, rfl, hg, hh, hle, _⟩
  · exact ⟨none, 0, by rw [e], ⟨by omega, fun hn => by omega⟩⟩
  · refine ⟨_, cap, rfl, ⟨hle, fun hn => ⟨_, rfl, fun j s hs => ?_⟩⟩⟩
    obtain ⟨A, d, h1, h2, _⟩ := hu j s hs
    exact ⟨A, d, World.ownsRow.cells (g := g) ho' rfl j _ h1, h2⟩
theorem GL.ext {B : Nat} {w w' : World} {v : Value} {shs : List (List Int)} (h : GL B w v shs) (k : Ext w w') : GL B w' v shs := by
  obtain ⟨us, ho, hu⟩ := h
  refine ⟨us, ⟨ho.1, ?_⟩, fun j s hs => ?_⟩
  · rcases ho.2 with h0 | ⟨g, cap, cur, e, hg, hh, h1⟩
    · exact .inl h0
    · exact .inr ⟨g, cap, cur, e, hg, (k.block g (Array.getElem?_eq_some_iff.1 hh).1).trans hh, h1⟩
  · obtain ⟨A, d, h1, h2, h3⟩ := hu j s hs
    exact ⟨A, d, h1, h2.ext k, h3.ext k⟩
theorem grownL {B : Nat} {w w' : World} {v : Value} {n m c : Nat} {us : List Value} {A : Option Addr} {zs : List Int} (h : ZX w A n c zs) (ht : TyL w A) (ho : w.ownsRow B 38 1 v m us) (hg : w.grownBy w' v.ownBlock) : ZX w' A n c zs ∧ TyL w' A := by
  have hb : ∀ ad, A = some ad → w'.heap[ad.block]? = w.heap[ad.block]? := fun ad e => by
    obtain ⟨cur, fz, hc⟩ := ht ad e
    refine hg.block _ (Array.getElem?_eq_some_iff.1 hc).1 (fun e2 => ?_)
    rcases ho.2 with ⟨rfl, _⟩ | ⟨g, cap, cur2, rfl, _, hh, _⟩
    · simp [Value.ownBlock] at e2
    · simp [Value.ownBlock] at e2
      subst e2
      rw [hc] at hh
      injection hh with hh
      injection hh with _ hh _
      exact absurd hh (by decide)
  refine ⟨⟨h.len, h.room, fun hn => ?_⟩, fun ad e => ?_⟩
  · obtain ⟨ad, e, hc⟩ := h.cells hn
    refine ⟨ad, e, fun j z hz => ?_⟩
    have hbk : (ad.add j).block = ad.block := by unfold Addr.add; split <;> rfl
    rw [World.cell?_of_block (w := w) (by rw [hbk]; exact hb ad e)]
    exact hc j z hz
  · obtain ⟨cur, fz, hc⟩ := ht ad e
    exact ⟨cur, fz, (hb ad e).trans hc⟩
theorem TyL.nil (w : World) : TyL w none := fun ad e => by cases e
/-- One list more. -/
theorem GL.push {B m : Nat} {w w' : World} {v v' : Value} {shs : List (List Int)} {us : List Value} {A : Option Addr} {c : Nat} {s : List Int} (hm : shs.length = m) (ho : w.ownsRow B 38 1 v m us) (hu : ∀ (j : Nat) (s : List Int), shs[j]? = some s → ∃ A d, us[j]? = some (.slice A s.length d) ∧ ZX w A s.length d s ∧ TyL w A) (hz : ZX w A s.length c s) (ht : TyL w A)
    (hg : w.grownBy w' v.ownBlock) (hn : w'.ownsRow B 38 1 v' (m + 1) (us ++ [.slice A s.length c])) : GL B w' v' (shs ++ [s]) := by
  subst hm
  have hl : us.length = shs.length := by have := ho.1; omega
  refine ⟨us ++ [.slice A s.length c], by simpa using hn, fun j u hj => ?_⟩
  rcases Nat.lt_or_ge j shs.length with g | g
  · rw [List.getElem?_append_left g] at hj
    obtain ⟨A9, d9, e1, e2, e3⟩ := hu j u hj
    obtain ⟨f1, f2⟩ := grownL e2 e3 ho hg
    exact ⟨A9, d9, by rw [List.getElem?_append_left (by omega)]; exact e1, f1, f2⟩
  · obtain rfl : j = shs.length := by
      have := (List.getElem?_eq_some_iff.1 hj).1
      simp at this
      omega
    rw [List.getElem?_append_right (Nat.le_refl _)] at hj
    simp at hj
    subst hj
    obtain ⟨f1, f2⟩ := grownL hz ht ho hg
    exact ⟨A, c, by rw [List.getElem?_append_right (by omega), hl]; simp, f1, f2⟩
theorem i64s_length (l : List Int) : (i64s l).length = l.length := by simp [i64s]
end Go.Proofs.Ytdnjjpkajiehgaa
