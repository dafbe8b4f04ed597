/-
  In which slots entries stand: the numbers.
-/
import Derived.Test.YtdnjjpkajiehgaaJEnt
namespace Go.Proofs.Ytdnjjpkajiehgaa
open Go.RowKit
set_option linter.unusedVariables false
set_option maxRecDepth 100000

/-- The least power of two that isn't less. -/
def powL (c : Int) : Int := if c ≤ 1 then 1 else if c ≤ 2 then 2 else if c ≤ 4 then 4 else if c ≤ 8 then 8 else if c ≤ 16 then 16 else if c ≤ 32 then 32 else 64
def chanL (l : List Int) (y : Int) : Int := if y = 1 ∧ l.length = 3 then l.getD 1 0 * l.getD 2 0 else entN l
def pitL (l : List Int) (y : Int) : Int := if y = 1 ∧ l.length = 3 then powL (l.getD 1 0 * l.getD 2 0) else entN l
/-- The slot of entry i. -/
def slotP (c p : Int) (i : Nat) : Int := (i : Int) / c * p + (i : Int) % c
def slotL (l : List Int) (y : Int) (i : Nat) : Int := slotP (chanL l y) (pitL l y) i
/-- What Slots answers. -/
def slotsR (l : List Int) (y n : Int) : Except Nat (List Int) :=
  if entN l = 0 ∨ (y ≠ 0 ∧ y ≠ 1) then .error 4 else if n ≤ slotL l y ((entN l).toNat - 1) then .error 7 else .ok ((List.range (entN l).toNat).map (slotL l y))
theorem three_of {a b c : Int} (h : 0 < entN [a, b, c]) : 1 ≤ a ∧ 1 ≤ b ∧ 1 ≤ c ∧ 1 ≤ b * c ∧ b * c ≤ 64 := by
  unfold entN at h
  simp only [List.length_cons, List.length_nil] at h
  rw [if_neg (by omega)] at h
  unfold entF at h
  by_cases h2 : a < 1 ∨ 64 < 1 * a
  · rw [if_pos h2] at h; omega
  rw [if_neg h2] at h
  unfold entF at h
  by_cases h3 : b < 1 ∨ 64 < 1 * a * b
  · rw [if_pos h3] at h; omega
  rw [if_neg h3] at h
  unfold entF at h
  by_cases h4 : c < 1 ∨ 64 < 1 * a * b * c
  · rw [if_pos h4] at h; omega
  have e1 : 1 * 1 ≤ b * c := Int.mul_le_mul (by omega) (by omega) (by omega) (by omega)
  have e2 : 1 * (b * c) ≤ a * (b * c) := Int.mul_le_mul (by omega) (Int.le_refl _) (by omega) (by omega)
  have e3 : 1 * a * b * c = a * (b * c) := by rw [Int.one_mul, Int.mul_assoc]
  rw [e3] at h4
  omega
theorem chan_pos {l : List Int} {y : Int} (h : 0 < entN l) : 1 ≤ chanL l y ∧ chanL l y ≤ 64 ∧ chanL l y ≤ pitL l y ∧ pitL l y ≤ 64 := by
  have he := (entN_le l).2
  unfold chanL pitL
  by_cases hc : y = 1 ∧ l.length = 3
  · rw [if_pos hc, if_pos hc]
    obtain ⟨a, b, c, rfl⟩ : ∃ a b c, l = [a, b, c] := by
      match l, hc.2 with
      | [a, b, c], _ => exact ⟨a, b, c, rfl⟩
    obtain ⟨_, _, _, h1, h2⟩ := three_of h
    simp only [List.getD_cons_succ, List.getD_cons_zero]
    generalize b * c = m at *
    unfold powL
    refine ⟨h1, h2, ?_, ?_⟩ <;> (repeat' split) <;> omega
  · rw [if_neg hc, if_neg hc]
    omega
theorem slotP_nonneg {c p : Int} (hc : 1 ≤ c) (hp : c ≤ p) (i : Nat) : 0 ≤ slotP c p i := by
  unfold slotP
  have h1 : 0 ≤ (i : Int) / c := Int.ediv_nonneg (by omega) (by omega)
  have h2 := Int.emod_nonneg (i : Int) (show c ≠ 0 by omega)
  have h3 := Int.mul_nonneg h1 (show 0 ≤ p by omega)
  omega
theorem slotP_lt {c p : Int} (hc : 1 ≤ c) (hp : c ≤ p) {i j : Nat} (h : i < j) : slotP c p i < slotP c p j := by
  unfold slotP
  have h1 : (i : Int) / c ≤ (j : Int) / c := Int.ediv_le_ediv (by omega) (by omega)
  have ei := Int.mul_ediv_add_emod (i : Int) c
  have ej := Int.mul_ediv_add_emod (j : Int) c
  have mi := Int.emod_lt_of_pos (i : Int) (show 0 < c by omega)
  have mj := Int.emod_nonneg (j : Int) (show c ≠ 0 by omega)
  by_cases e : (i : Int) / c = (j : Int) / c
  · rw [e] at ei ⊢
    omega
  · have h2 : ((i : Int) / c + 1) * p ≤ (j : Int) / c * p := Int.mul_le_mul_of_nonneg_right (by omega) (by omega)
    rw [Int.add_mul, Int.one_mul] at h2
    omega
theorem slotP_le {c p : Int} (hc : 1 ≤ c) (hp : c ≤ p) {i j : Nat} (h : i ≤ j) : slotP c p i ≤ slotP c p j := by
  rcases Nat.lt_or_ge i j with g | g
  · exact Int.le_of_lt (slotP_lt hc hp g)
  · obtain rfl : i = j := by omega
    exact Int.le_refl _
theorem slotP_self {n : Int} {i : Nat} (h : (i : Int) < n) : slotP n n i = i := by
  unfold slotP
  rw [Int.ediv_eq_zero_of_lt (by omega) h, Int.emod_eq_of_lt (by omega) h]
  omega
/-- What slots of few entries are at most. -/
theorem slotP_top {c p : Int} (hc : 1 ≤ c) (hc6 : c ≤ 64) (hp : c ≤ p) (hp6 : p ≤ 64) {i : Nat} (hi : i < 64) : (i : Int) / c * p ≤ 4096 ∧ 0 ≤ (i : Int) / c * p ∧ 0 ≤ (i : Int) % c ∧ (i : Int) % c ≤ 64 ∧ 0 ≤ (i : Int) / c ∧ (i : Int) / c ≤ 64 := by
  have h1 : 0 ≤ (i : Int) / c := Int.ediv_nonneg (by omega) (by omega)
  have h2 : (i : Int) / c ≤ i := Int.ediv_le_self _ (by omega)
  have h3 : (i : Int) / c * p ≤ 64 * 64 := Int.mul_le_mul (by omega) hp6 (by omega) (by omega)
  have h4 := Int.mul_nonneg h1 (show 0 ≤ p by omega)
  have h5 := Int.emod_nonneg (i : Int) (show c ≠ 0 by omega)
  have h6 := Int.emod_lt_of_pos (i : Int) (show 0 < c by omega)
  omega
end Go.Proofs.Ytdnjjpkajiehgaa
