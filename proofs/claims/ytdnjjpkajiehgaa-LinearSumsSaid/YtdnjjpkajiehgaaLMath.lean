/-
  The numbers of diagonals: sums over rows and entries of what hits a place.
-/
import Derived.Test.YtdnjjpkajiehgaaJEnt
namespace Go.Proofs.Ytdnjjpkajiehgaa
open Go.RowKit
set_option linter.unusedVariables false
set_option maxRecDepth 100000

/-- Rows of weights, and the places from which and to which they go. -/
structure Dg where
  n : Nat
  rows : List (List Int)
  fr : List Int
  tt : List Int
/-- Does entry i, going into number o, stand in diagonal d at slot s? -/
def Dg.hit (D : Dg) (d s o i : Nat) : Prop := D.tt[o]? = some (s : Int) ∧ D.fr[i]? = some (((s + d) % D.n : Nat) : Int)
instance (D : Dg) (d s o i : Nat) : Decidable (D.hit d s o i) := inferInstanceAs (Decidable (_ ∧ _))
def Dg.wt (D : Dg) (o i : Nat) : Int := (D.rows.getD o []).getD i 0
/-- The sum over the first k entries of a number. -/
def Dg.rowS (D : Dg) (d s o : Nat) : Nat → Int
  | 0 => 0
  | k + 1 => D.rowS d s o k + (if D.hit d s o k then D.wt o k else 0)
/-- The sum over the first numbers. -/
def Dg.allS (D : Dg) (d s : Nat) : Nat → Int
  | 0 => 0
  | o + 1 => D.allS d s o + D.rowS d s o D.fr.length
/-- What stands in diagonal d at slot s. -/
def Dg.val (D : Dg) (d s : Nat) : Int := D.allS d s D.tt.length
def Dg.diag (D : Dg) (d : Nat) : List Int := if (List.range D.n).all (fun s => decide (D.val d s = 0)) then [] else (List.range D.n).map (D.val d)
def Dg.diags (D : Dg) : List (List Int) := (List.range D.n).map D.diag
/-- Slots, each at most once. -/
def placesB (l : List Int) (n : Nat) : Bool := match l with
  | [] => true
  | z :: r => decide (0 ≤ z) && decide (z < (n : Int)) && !(r.contains z) && placesB r n
/-- The same, told from place to place. -/
def Plcs (l : List Int) (n : Nat) : Prop := (∀ (j : Nat) (z : Int), l[j]? = some z → 0 ≤ z ∧ z < (n : Int)) ∧ ∀ (j k : Nat) (z : Int), l[j]? = some z → l[k]? = some z → j = k
/-- Do diagonals stand of these? -/
structure Dg.Ok (D : Dg) : Prop where
  pos : 0 < D.n
  fr : Plcs D.fr D.n
  tt : Plcs D.tt D.n
  rows : D.rows.length = D.tt.length
  len : ∀ r ∈ D.rows, r.length = D.fr.length
theorem rowS_zero {D : Dg} {d s o : Nat} : ∀ k, (∀ i, i < k → ¬ D.hit d s o i) → D.rowS d s o k = 0
  | 0, _ => rfl
  | k + 1, h => by rw [Dg.rowS, rowS_zero k (fun i hi => h i (by omega)), if_neg (h k (by omega))]; rfl
theorem allS_zero {D : Dg} {d s : Nat} : ∀ o, (∀ o', o' < o → D.tt[o']? ≠ some (s : Int)) → D.allS d s o = 0
  | 0, _ => rfl
  | o + 1, h => by rw [Dg.allS, allS_zero o (fun o' ho => h o' (by omega)), rowS_zero _ (fun i _ hh => h o (by omega) hh.1)]; rfl
theorem hit_iff {D : Dg} {d s o i : Nat} {t f : Int} (hn : 0 < D.n) (hd : d < D.n) (hs : s < D.n) (ht : D.tt[o]? = some t) (hf : D.fr[i]? = some f) (t0 : 0 ≤ t) (t1 : t < (D.n : Int)) (f0 : 0 ≤ f) (f1 : f < (D.n : Int)) :
    D.hit d s o i ↔ (d : Int) = (f - t + D.n) % (D.n : Int) ∧ (s : Int) = t := by
  unfold Dg.hit
  rw [ht, hf]
  obtain ⟨t, rfl⟩ := Int.eq_ofNat_of_zero_le t0
  obtain ⟨f, rfl⟩ := Int.eq_ofNat_of_zero_le f0
  generalize D.n = n at *
  have e1 : ∀ m, m < 2 * n → m % n = if m < n then m else m - n := fun m hm => by
    split
    · exact Nat.mod_eq_of_lt (by omega)
    · rw [Nat.mod_eq_sub_mod (by omega), Nat.mod_eq_of_lt (by omega)]
  have e2 : ((f : Int) - t + n) = ((f + n - t : Nat) : Int) := by omega
  rw [e2, ← Int.natCast_emod, e1 (s + d) (by omega), e1 (f + n - t) (by omega)]
  constructor
  · rintro ⟨h1, h2⟩
    injection h1 with h1
    injection h2 with h2
    refine ⟨?_, by omega⟩
    split at h2 <;> split <;> omega
  · rintro ⟨h1, h2⟩
    have h3 : s = t := by omega
    subst h3
    refine ⟨rfl, congrArg some ?_⟩
    split at h1 <;> split <;> omega
/-- What is there before a weight is laid: nothing. -/
theorem was_zero {D : Dg} (ok : D.Ok) {d s o i : Nat} (h : D.hit d s o i) : D.allS d s o + D.rowS d s o i = 0 := by
  rw [allS_zero o (fun o' ho e => by have := ok.tt.2 o' o _ e h.1; omega), rowS_zero i (fun i' hi hh => by have := ok.fr.2 i' i _ hh.2 h.2; omega)]
  rfl
theorem next_at {D : Dg} (ok : D.Ok) {d s o i : Nat} (h : D.hit d s o i) : D.allS d s o + D.rowS d s o (i + 1) = D.wt o i := by
  have := was_zero ok h
  rw [Dg.rowS, if_pos h]
  omega
theorem next_off {D : Dg} {d s o i : Nat} (h : ¬ D.hit d s o i) : D.allS d s o + D.rowS d s o (i + 1) = D.allS d s o + D.rowS d s o i := by
  rw [Dg.rowS, if_neg h]
  omega
/-- What a filled list of lists is, when it is told which are made. -/
theorem diag_of {D : Dg} {d : Nat} {mk : Bool} {F : Nat → Int} (hF : ∀ s, s < D.n → F s = D.val d s) (h1 : mk = true → ∃ s, s < D.n ∧ F s ≠ 0) (h0 : mk = false → ∀ s, s < D.n → F s = 0) :
    D.diag d = if mk = true then (List.range D.n).map F else [] := by
  unfold Dg.diag
  cases mk
  · rw [if_pos (by
      rw [List.all_eq_true]
      intro s hs
      have hs := List.mem_range.1 hs
      simp [← hF s hs, h0 rfl s hs])]
    rfl
  · obtain ⟨s, hs, hne⟩ := h1 rfl
    rw [if_neg (by
      rw [List.all_eq_true]
      intro h
      have := h s (List.mem_range.2 hs)
      simp at this
      exact hne (by rw [hF s hs]; exact this)), if_pos rfl]
    exact List.map_congr_left fun s hs => (hF s (List.mem_range.1 hs)).symm
theorem placesB_iff {n : Nat} : ∀ (l : List Int), placesB l n = true ↔ Plcs l n
  | [] => ⟨fun _ => ⟨fun j z h => by simp at h, fun j k z h => by simp at h⟩, fun _ => rfl⟩
  | z :: r => by
    rw [placesB]
    simp only [Bool.and_eq_true, decide_eq_true_eq, Bool.not_eq_true', placesB_iff r]
    constructor
    · rintro ⟨⟨⟨h0, h1⟩, h2⟩, h3, h4⟩
      have hnm : z ∉ r := fun hm => by
        have : r.contains z = true := List.contains_iff_mem.2 hm
        rw [h2] at this
        cases this
      refine ⟨fun j y hy => ?_, fun j k y hj hk => ?_⟩
      · rcases j with _ | j
        · simp at hy; subst hy; exact ⟨h0, h1⟩
        · exact h3 j y (by simpa using hy)
      · rcases j with _ | j <;> rcases k with _ | k
        · rfl
        · simp at hj hk; subst hj; exact absurd (List.mem_of_getElem? hk) hnm
        · simp at hj hk; subst hk; exact absurd (List.mem_of_getElem? hj) hnm
        · rw [h4 j k y (by simpa using hj) (by simpa using hk)]
    · rintro ⟨h1, h2⟩
      obtain ⟨a, b⟩ := h1 0 z rfl
      refine ⟨⟨⟨a, b⟩, ?_⟩, fun j y hy => h1 (j + 1) y (by simpa using hy), fun j k y hj hk => by have := h2 (j + 1) (k + 1) y (by simpa using hj) (by simpa using hk); omega⟩
      cases hc : r.contains z
      · rfl
      · obtain ⟨j, hj⟩ := List.getElem?_of_mem (List.contains_iff_mem.1 hc)
        have := h2 0 (j + 1) z rfl (by simpa using hj)
        omega
end Go.Proofs.Ytdnjjpkajiehgaa
