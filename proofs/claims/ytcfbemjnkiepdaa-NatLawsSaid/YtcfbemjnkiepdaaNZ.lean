/-
  Whole numbers that read as numbers; the calls of layer 2 over them.
-/
import Derived.Test.YtcfbemjnkiepdaaNLaw
namespace Go.Proofs.Ytcfbemjnkiepdaa
open Go.RowKit
set_option linter.unusedVariables false

/-- A whole number that reads as z. -/
def IX (w : World) (b : Bool) (A : Option Addr) (n c : Nat) (z : Int) : Prop := ∃ xs, NX w A n c xs ∧ iv b (nv xs) = z
theorem IX.ext {a b : World} {f : Bool} {A : Option Addr} {n c : Nat} {z : Int} (h : IX a f A n c z) (k : Ext a b) : IX b f A n c z := by
  obtain ⟨xs, hx, e⟩ := h
  exact ⟨xs, hx.ext k, e⟩
theorem iv_back (z : Int) : iv (decide (z < 0)) z.natAbs = z := by
  unfold iv
  by_cases h : z < 0
  · rw [decide_eq_true h, if_pos rfl]; omega
  · rw [decide_eq_false h, if_neg (by simp)]; omega
theorem IX.of {w : World} {A : Option Addr} {n c : Nat} {z : Int} (h : NX w A n c (nw z.natAbs)) : IX w (decide (z < 0)) A n c z := ⟨_, h, by rw [nv_nw]; exact iv_back z⟩
/-- What a call answers that makes the whole number z. -/
def ZX (w : World) (N : Nat) (z : Int) (e : Ending) (w' : World) : Prop := ∃ A n c, e = .returned (.agg #[.bool (decide (z < 0)), .slice A n c]) ∧ n ≤ N ∧ NX w' A n c (nw z.natAbs) ∧ Ext w w'
theorem timesX {A A' : Option Addr} {n n' c c' : Nat} {b b' : Bool} {z z' : Int} {w : World} (h : IX w b A n c z) (h' : IX w b' A' n' c' z') (hn : n ≤ 1000) (hn' : n' ≤ 1000) :
    Calls Try.prog 55 #[.agg #[.bool b, .slice A n c], .agg #[.bool b', .slice A' n' c']] w (ZX w (n + n') (z * z')) := by
  obtain ⟨xs, hx, rfl⟩ := h
  obtain ⟨ys, hy, rfl⟩ := h'
  exact timesZ_any A A' n n' c c' b b' xs ys w hx hy hn hn'
theorem sumX {A A' : Option Addr} {n n' c c' : Nat} {b b' : Bool} {z z' : Int} {w : World} (h : IX w b A n c z) (h' : IX w b' A' n' c' z') (hn : n ≤ 1000) (hn' : n' ≤ 1000) :
    Calls Try.prog 53 #[.agg #[.bool b, .slice A n c], .agg #[.bool b', .slice A' n' c']] w (ZX w (n + n' + 1) (z + z')) := by
  obtain ⟨xs, hx, rfl⟩ := h
  obtain ⟨ys, hy, rfl⟩ := h'
  exact sumZ_any A A' n n' c c' b b' xs ys w hx hy hn hn'
theorem sameZ {A A' : Option Addr} {n n' c c' : Nat} {z z' : Int} {w : World} (h : NX w A n c (nw z.natAbs)) (h' : NX w A' n' c' (nw z'.natAbs)) (e : z = z') (hn : n ≤ 100000) (hn' : n' ≤ 100000) :
    Calls Try.prog 52 #[.agg #[.bool (decide (z < 0)), .slice A n c], .agg #[.bool (decide (z' < 0)), .slice A' n' c']] w fun e w' => e = .returned (.bool true) ∧ Ext w w' := by
  subst e
  have := sameIntX (b := decide (z < 0)) (b' := decide (z < 0)) h h' hn hn'
  rwa [show decide (decide (z < 0) = decide (z < 0) ∧ nw z.natAbs = nw z.natAbs) = true by simp] at this
theorem few3_any (w : World) (A A' A'' : Option Addr) (n n' n'' c c' c'' : Nat) (t : TypeId) (g : Nat) (hg : g = w.heap.size) (b : Bool) (hb : decide (n ≤ 30 ∧ n' ≤ 30 ∧ n'' ≤ 30) = b) :
    Calls Try.prog 32 #[.slice (some ⟨g, 0, none⟩) 3 3] (w.alloc (.cells #[.slice A n c, .slice A' n' c', .slice A'' n'' c''] t)) fun e w' => e = .returned (.bool b) ∧ Ext w w' := by
  subst hg
  refine (few_any w.heap.size 3 (fun j => if j = 0 then A else if j = 1 then A' else A'') (fun j => if j = 0 then n else if j = 1 then n' else n'') (fun j => if j = 0 then c else if j = 1 then c' else c'') _ (by omega) (fun j hj => ?_)).mono ?_
  · match j, hj with
    | 0, _ => simp
    | 1, _ => simp
    | 2, _ => simp
  · rintro e w' ⟨rfl, rfl⟩
    refine ⟨?_, (Ext.refl w).alloc _⟩
    rw [← hb]
    congr 2
    simp only [decide_eq_decide]
    constructor
    · intro h
      exact ⟨h 0 (by omega), h 1 (by omega), h 2 (by omega)⟩
    · rintro ⟨h1, h2, h3⟩ j hj
      match j, hj with
      | 0, _ => exact h1
      | 1, _ => exact h2
      | 2, _ => exact h3
end Go.Proofs.Ytcfbemjnkiepdaa
