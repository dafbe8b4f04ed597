/-
  Numbers for the reference's parts: a quotient bit by bit, digit by digit.
-/
import Derived.Test.YtcfbemjnkiepdaaRTimesW
namespace Go.Proofs.Ytcfbemjnkiepdaa
open Go.RowKit
set_option linter.unusedVariables false

theorem bit_step (d i : Nat) : d / 2 ^ i = 2 * (d / 2 ^ (i + 1)) + d / 2 ^ i % 2 := by
  rw [Nat.pow_succ, ← Nat.div_div_eq_div_mul]
  omega
/-- A digit's quotient so far: of the bits from j on. -/
def BitInv (Y Rh d j q R : Nat) : Prop := R < Y ∧ q < 2 ^ (16 - j) ∧ Y * q + R = Rh * 2 ^ (16 - j) + d / 2 ^ j
theorem bitInv_start {Y Rh d : Nat} (h : Rh < Y) (hd : d < 65536) : BitInv Y Rh d 16 0 Rh := by
  refine ⟨h, by decide, ?_⟩
  rw [show (2 : Nat) ^ 16 = 65536 by decide, Nat.div_eq_of_lt hd]
  simp
theorem BitInv.up {Y Rh d i q R : Nat} (h : BitInv Y Rh d (i + 1) q R) (hi : i < 16) (hv : Y ≤ R + R + d / 2 ^ i % 2) : BitInv Y Rh d i (2 * q + 1) (R + R + d / 2 ^ i % 2 - Y) := by
  obtain ⟨h1, h2, h3⟩ := h
  have e := bit_step d i
  have ep : (2 : Nat) ^ (16 - i) = 2 * 2 ^ (16 - (i + 1)) := by rw [show 16 - i = (16 - (i + 1)) + 1 by omega, Nat.pow_succ, Nat.mul_comm]
  have hm : d / 2 ^ i % 2 < 2 := Nat.mod_lt _ (by omega)
  refine ⟨by omega, by omega, ?_⟩
  rw [ep, Nat.mul_left_comm, Nat.mul_add, Nat.mul_one, Nat.mul_left_comm]
  generalize Y * q = u at *
  generalize Rh * 2 ^ (16 - (i + 1)) = v at *
  omega
theorem BitInv.stay {Y Rh d i q R : Nat} (h : BitInv Y Rh d (i + 1) q R) (hi : i < 16) (hv : R + R + d / 2 ^ i % 2 < Y) : BitInv Y Rh d i (2 * q) (R + R + d / 2 ^ i % 2) := by
  obtain ⟨h1, h2, h3⟩ := h
  have e := bit_step d i
  have ep : (2 : Nat) ^ (16 - i) = 2 * 2 ^ (16 - (i + 1)) := by rw [show 16 - i = (16 - (i + 1)) + 1 by omega, Nat.pow_succ, Nat.mul_comm]
  refine ⟨hv, by omega, ?_⟩
  rw [ep, Nat.mul_left_comm Rh, Nat.mul_left_comm Y]
  generalize Y * q = u at *
  generalize Rh * 2 ^ (16 - (i + 1)) = v at *
  omega
theorem BitInv.bound {Y Rh d j q R : Nat} (h : BitInv Y Rh d j q R) (hj : j ≤ 16) : q * 2 ^ j < 65536 := by
  have h2 := h.2.1
  have e : (2 : Nat) ^ (16 - j) * 2 ^ j = 65536 := by rw [← Nat.pow_add, show 16 - j + j = 16 by omega]
  have p : 0 < (2 : Nat) ^ j := Nat.pow_pos (by omega)
  have := (Nat.mul_lt_mul_right p).2 h2
  omega
theorem dig_up (q i : Nat) : q * 2 ^ (i + 1) = 2 * q * 2 ^ i := by rw [Nat.pow_succ, Nat.mul_comm 2 q, Nat.mul_assoc, Nat.mul_comm 2]
/-- A quotient so far: of the digits from k on. -/
def DivD (xs : List Nat) (Y n k : Nat) (hs : List Nat) (R : Nat) : Prop := hs.length + k = n ∧ (∀ x ∈ hs, x < 65536) ∧ R < Y ∧ vl 65536 (xs.drop k) = Y * vl 65536 hs + R
theorem divD_start {xs : List Nat} {Y n : Nat} (hY : 0 < Y) (hx : xs.length = n) : DivD xs Y n n [] 0 := by
  refine ⟨by simp, by simp, hY, ?_⟩
  rw [List.drop_of_length_le (by omega), vl_nil]
  simp
theorem DivD.step {xs hs : List Nat} {Y n k Rh d q R : Nat} (h : DivD xs Y n (k + 1) hs Rh) (hx : xs[k]? = some d) (t : BitInv Y Rh d 0 q R) : DivD xs Y n k (q :: hs) R := by
  obtain ⟨h1, h2, h3, h4⟩ := h
  have hb := t.bound (by omega)
  rw [Nat.pow_zero, Nat.mul_one] at hb
  obtain ⟨t1, t2, t3⟩ := t
  have hl := (List.getElem?_eq_some_iff.1 hx).1
  have e := (List.getElem?_eq_some_iff.1 hx).2
  refine ⟨by simp; omega, fun z hz => ?_, t1, ?_⟩
  · rcases List.mem_cons.1 hz with rfl | hz
    · exact hb
    · exact h2 z hz
  · rw [List.drop_eq_getElem_cons hl, e, vl_cons, vl_cons, h4, Nat.mul_add, Nat.mul_add, Nat.mul_left_comm]
    rw [show 16 - 0 = 16 by omega, show (2 : Nat) ^ 16 = 65536 by decide, Nat.pow_zero, Nat.div_one] at t3
    omega
theorem DivD.done {xs hs : List Nat} {Y n R : Nat} (h : DivD xs Y n 0 hs R) : vl 65536 hs = vl 65536 xs / Y ∧ R = vl 65536 xs % Y := by
  obtain ⟨h1, h2, h3, h4⟩ := h
  rw [List.drop_zero] at h4
  rw [h4]
  refine ⟨?_, ?_⟩
  · rw [Nat.mul_add_div (by omega), Nat.div_eq_of_lt h3, Nat.add_zero]
  · rw [Nat.mul_add_mod, Nat.mod_eq_of_lt h3]
end Go.Proofs.Ytcfbemjnkiepdaa
