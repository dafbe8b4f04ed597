/-
  Which numbers may be steps: powers of two from 2 to 8192, by the program and by the reference.
-/
import Derived.Test.YtpgcapobbmbchaaDoorPRef
namespace Go.Proofs.YtpgcapobbmbchaaDoor
open Go.RowKit
set_option linter.unusedVariables false

/-- A power of two from 2 to 8192. -/
def stepF (n : Nat) : Nat → Nat → Bool
  | 0, _ => false
  | f + 1, k => cond (Nat.beq n k) true (stepF n f (2 * k))
def stepS (n : Nat) : Bool := stepF n 13 2
def stepRun : Nat → Nat → Bool
  | 0, _ => true
  | k + 1, n => cond (Nat.beq (Nat.land n (n - 1)) 0) (cond (stepS n) (stepRun k (n + 1)) false) (cond (stepS n) false (stepRun k (n + 1)))
theorem stepRun_spec : ∀ k n, stepRun k n = true → ∀ m, n ≤ m → m < n + k → stepS m = Nat.beq (Nat.land m (m - 1)) 0
  | 0, n, _, m, h1, h2 => by omega
  | k + 1, n, h, m, h1, h2 => by
    unfold stepRun at h
    have key : stepS n = Nat.beq (Nat.land n (n - 1)) 0 ∧ stepRun k (n + 1) = true := by
      revert h
      cases Nat.beq (Nat.land n (n - 1)) 0 <;> cases stepS n <;> simp
    rcases Nat.lt_or_eq_of_le h1 with g | g
    · exact stepRun_spec k (n + 1) key.2 m g (by omega)
    · rw [← g]; exact key.1
set_option maxRecDepth 100000 in
theorem stepRun_all : stepRun 8191 2 = true := by decide +kernel
theorem stepF_range {n : Nat} : ∀ f k, stepF n f k = true → k ≤ n ∧ n * 2 ≤ k * 2 ^ f
  | 0, k, h => by simp [stepF] at h
  | f + 1, k, h => by
    unfold stepF at h
    rw [beq_iff] at h
    by_cases hk : n = k
    · subst hk
      exact ⟨Nat.le_refl _, Nat.mul_le_mul_left _ (by rw [Nat.pow_succ]; have := Nat.two_pow_pos f; omega)⟩
    · rw [decide_eq_false hk, cond_false] at h
      obtain ⟨a, b⟩ := stepF_range f (2 * k) h
      refine ⟨by omega, ?_⟩
      rw [Nat.pow_succ, show k * (2 ^ f * 2) = 2 * k * 2 ^ f by rw [Nat.mul_comm (2 ^ f), ← Nat.mul_assoc, Nat.mul_comm k]]
      exact b
theorem stepS_range {n : Nat} (h : stepS n = true) : 2 ≤ n ∧ n ≤ 8192 := by
  obtain ⟨a, b⟩ := stepF_range 13 2 h
  exact ⟨a, by omega⟩
theorem stepS_is {n : Nat} (h0 : 2 ≤ n) (h1 : n ≤ 8192) : stepS n = decide ((n &&& (n - 1)) = 0) := by
  rw [stepRun_spec 8191 2 stepRun_all n h0 (by omega), beq_iff]; rfl
theorem stepS_out {n : Nat} (h : ¬ (2 ≤ n ∧ n ≤ 8192)) : stepS n = false := by
  cases e : stepS n
  · rfl
  · exact absurd (stepS_range e) h

theorem order_any (n : Nat) (w : World) (hn : n < 18446744073709551616) :
    Calls Tryd.prog 133 #[.int .u64 (n : Int)] w fun e w' => e = .returned (.bool (stepS n)) ∧ w = w' := by
  by_cases h0 : 2 ≤ n
  · by_cases h1 : n ≤ 8192
    · have H := Lib.hid (stepS_is h0 h1)
      have hb := bits_and_u64_nat n (n - 1) (by omega) (by omega)
      rw [show ((n - 1 : Nat) : Int) = (n : Int) - 1 by omega] at hb
      have HL := Lib.hid (show ((((n &&& (n - 1)) : Nat) : Int) == 0) = decide ((n &&& (n - 1)) = 0) by rw [show (0 : Int) = ((0 : Nat) : Int) from rfl]; exact eq_dec _ 0)
      generalize (n &&& (n - 1)) = q at *
      go_enter Tryd.func133, Tryd.ntmps133
      go_wp2_with (simp only [hb])
      go_ret
      exact ⟨congrArg Ending.returned (congrArg Value.bool (by rw [H.out]; exact HL.out)), rfl⟩
    · have H := Lib.hid (stepS_out (n := n) (by omega))
      go_enter Tryd.func133, Tryd.ntmps133
      go_wp2
      go_ret
      exact ⟨by rw [H.out]; rfl, rfl⟩
  · have H := Lib.hid (stepS_out (n := n) (by omega))
    go_enter Tryd.func133, Tryd.ntmps133
    go_wp2
    go_ret
    exact ⟨by rw [H.out]; rfl, rfl⟩
theorem rstep_any (n : Nat) (w : World) (hn : n < 18446744073709551616) :
    Calls Tryd.prog 108 #[.int .u64 (n : Int)] w fun e w' => e = .returned (.bool (stepS n)) ∧ w = w' := by
  go_enter Tryd.func108, Tryd.ntmps108
  go_wp2
  go_loop [3] (fun kv => ∃ f k : Nat, 2 ≤ k ∧ k ≤ 16384 ∧ kv = .int .u64 (k : Int) ∧ Hid (k * 2 ^ f = 16384) ∧ Hid (stepS n = stepF n f k)) (fun kv => 16384 - (intOf kv).toNat)
  case atStart => exact ⟨13, 2, by omega, by omega, rfl, Lib.hid (by decide), Lib.hid rfl⟩
  case round =>
    obtain ⟨f, k, hk0, hk1, rfl, hp, hs⟩ := hrel
    cases f with
    | zero =>
      have hk : k = 16384 := by have := hp.out; omega
      subst hk
      have HF := Lib.hid (show stepS n = false by rw [hs.out]; rfl)
      clear hk0 hk1
      go_wp2
      go_ret
      exact ⟨by rw [HF.out]; rfl, rfl⟩
    | succ f =>
      have hpp : 2 * k * 2 ^ f = 16384 := by rw [← hp.out, Nat.pow_succ, Nat.mul_comm (2 ^ f), ← Nat.mul_assoc, Nat.mul_comm k]
      have hk8 : k ≤ 8192 := by
        have h1 := Nat.two_pow_pos f
        have := Nat.mul_le_mul_left (2 * k) h1
        omega
      by_cases hnk : n = k
      · subst hnk
        have HF := Lib.hid (show stepS n = true by rw [hs.out, stepF, beq_iff, decide_eq_true rfl, cond_true])
        clear hpp
        go_wp2
        go_ret
        exact ⟨by rw [HF.out]; rfl, rfl⟩
      · have HF := Lib.hid (show stepS n = stepF n f (2 * k) by rw [hs.out, stepF, beq_iff, decide_eq_false hnk, cond_false])
        have hb : ((n : Int) == (k : Int)) = false := by simp only [beq_eq_false_iff_ne, ne_eq]; omega
        have HPP := Lib.hid hpp
        clear hpp hnk
        go_wp2
        exact ⟨⟨f, 2 * k, by omega, by omega, by go_num, HPP, HF⟩, by simp [intOf] <;> omega⟩
end Go.Proofs.YtpgcapobbmbchaaDoor
