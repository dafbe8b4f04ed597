/-
  What Root tells is a root of -1, if there is a number that is no square.
-/
import Derived.Test.YtpgcapobbmbchaaDoorPRoot
namespace Go.Proofs.YtpgcapobbmbchaaDoor
open Go.RowKit
set_option linter.unusedVariables false
set_option maxRecDepth 100000

theorem pm_pow (a b q n : Nat) (h : a % q = b % q) : a ^ n % q = b ^ n % q := by
  rw [Nat.pow_mod, h, ← Nat.pow_mod]
/-- A number that is one of the odd powers of r. -/
def OddP (q r y : Nat) : Prop := ∃ m, y = r ^ (2 * m + 1) % q
theorem OddP.next {q r y : Nat} (h : OddP q r y) : OddP q r (y * (r * r % q) % q) := by
  obtain ⟨m, rfl⟩ := h
  refine ⟨m + 1, ?_⟩
  rw [← Nat.mul_mod, show 2 * (m + 1) + 1 = (2 * m + 1) + 2 by omega, Nat.pow_add r (2 * m + 1) 2, Nat.pow_two]
theorem lr_odd {q r : Nat} : ∀ k R L, OddP q r R → OddP q r L → OddP q r (lr q (r * r % q) k R L)
  | 0, R, L, _, h => by rw [lr]; exact h
  | k + 1, R, L, h, h' => by
    rw [lr]
    refine lr_odd k _ _ h.next ?_
    rcases Nat.le_total L (R * (r * r % q) % q) with g | g
    · rw [Nat.min_eq_left g]; exact h'
    · rw [Nat.min_eq_right g]; exact h.next
theorem neg_sq {q : Nat} (hq : 2 ≤ q) : (q - 1) * (q - 1) % q = 1 := by
  obtain ⟨p, rfl⟩ : ∃ p, q = p + 2 := ⟨q - 2, by omega⟩
  rw [show p + 2 - 1 = p + 1 by omega, show (p + 1) * (p + 1) = (p + 2) * p + 1 by rw [Nat.add_mul, Nat.mul_add, Nat.add_mul]; omega, Nat.mul_add_mod]
  exact Nat.mod_eq_of_lt (by omega)
theorem neg_odd {q : Nat} (hq : 2 ≤ q) (m : Nat) : (q - 1) ^ (2 * m + 1) % q = q - 1 := by
  rw [Nat.pow_succ, Nat.pow_mul, Nat.mul_mod, pm_pow _ 1 q m (by rw [Nat.pow_two, neg_sq hq]; exact (Nat.mod_eq_of_lt (by omega)).symm), Nat.one_pow, ← Nat.mul_mod, Nat.one_mul]
  exact Nat.mod_eq_of_lt (by omega)
theorem stepF_even {n : Nat} : ∀ f k, k % 2 = 0 → stepF n f k = true → n % 2 = 0
  | 0, k, _, h => by simp [stepF] at h
  | f + 1, k, hk, h => by
    unfold stepF at h
    rw [beq_iff] at h
    by_cases e : n = k
    · rw [e]; exact hk
    · rw [decide_eq_false e, cond_false] at h
      exact stepF_even f (2 * k) (by omega) h
theorem stepS_even {n : Nat} (h : stepS n = true) : n % 2 = 0 := stepF_even 13 2 rfl h
/-- What Root tells of a number q that has one which is no square. -/
theorem root_good {q n x : Nat} (hq : 2 ≤ q) (hn : stepS n = true) (h1 : q % n = 1) (hx : noSq q x = true) :
    lr q (x ^ ((q - 1) / n) % q * (x ^ ((q - 1) / n) % q) % q) (n / 2 - 1) (x ^ ((q - 1) / n) % q) (x ^ ((q - 1) / n) % q) < q ∧
    lr q (x ^ ((q - 1) / n) % q * (x ^ ((q - 1) / n) % q) % q) (n / 2 - 1) (x ^ ((q - 1) / n) % q) (x ^ ((q - 1) / n) % q) ^ (n / 2) % q = q - 1 := by
  have hr : ∀ r, r = x ^ ((q - 1) / n) % q → lr q (r * r % q) (n / 2 - 1) r r < q ∧ lr q (r * r % q) (n / 2 - 1) r r ^ (n / 2) % q = q - 1 := fun r hr => by
    have hrq : r < q := by rw [hr]; exact Nat.mod_lt _ (by omega)
    obtain ⟨m, hm⟩ := lr_odd (q := q) (r := r) (n / 2 - 1) r r ⟨0, by rw [Nat.mul_zero, Nat.zero_add, Nat.pow_one]; exact (Nat.mod_eq_of_lt hrq).symm⟩ ⟨0, by rw [Nat.mul_zero, Nat.zero_add, Nat.pow_one]; exact (Nat.mod_eq_of_lt hrq).symm⟩
    rw [hm]
    refine ⟨Nat.mod_lt _ (by omega), ?_⟩
    have hev := stepS_even hn
    obtain ⟨hn0, _⟩ := stepS_range hn
    have hq1 : (q - 1) / n * n = q - 1 := by
      have h2 := Nat.div_add_mod q n
      have h3 : q - 1 = n * (q / n) := by omega
      rw [h3, Nat.mul_div_cancel_left _ (by omega), Nat.mul_comm]
    have hdh : (q - 1) / n * (n / 2) = (q - 1) / 2 := by
      have e2 : n = 2 * (n / 2) := by omega
      generalize (q - 1) / n = d at *
      generalize n / 2 = h at *
      subst e2
      have : d * (2 * h) = 2 * (d * h) := by rw [← Nat.mul_assoc, Nat.mul_comm d, Nat.mul_assoc]
      omega
    have hh : r ^ (n / 2) % q = q - 1 := by
      rw [hr, ← Nat.pow_mod, ← Nat.pow_mul, hdh]
      simpa [noSq] using hx
    rw [← Nat.pow_mod, ← Nat.pow_mul, Nat.mul_comm, Nat.pow_mul, pm_pow _ (q - 1) q (2 * m + 1) (by rw [hh]; exact (Nat.mod_eq_of_lt (by omega)).symm)]
    exact neg_odd hq m
  exact hr _ rfl
end Go.Proofs.YtpgcapobbmbchaaDoor
