/-
  Plain arithmetic of words: products and powers a bit at a time, the highest first or the lowest first; the greatest common divisor and inverses; centered and lifted numbers. No conditions but bounds on the numbers.
-/
import Derived.Test.YtdnjjpkajiehgaaWMath
namespace Go.Proofs.Ytdnjjpkajiehgaa
open Go.RowKit
set_option maxRecDepth 100000

/-- A product modulo m by b's first k bits. -/
def mulTo (a b m : Int) (k : Nat) : Int := a * (b / 2 ^ (64 - k)) % m
theorem mulTo_lt (a b m : Int) (k : Nat) (hm : 0 < m) : 0 ≤ mulTo a b m k ∧ mulTo a b m k < m := ⟨Int.emod_nonneg _ (by omega), Int.emod_lt_of_pos _ hm⟩
theorem mulTo_zero (a b m : Int) (h0 : 0 ≤ b) (h1 : b < 18446744073709551616) : mulTo a b m 0 = 0 := by
  unfold mulTo
  rw [show b / 2 ^ (64 - 0) = 0 from Int.ediv_eq_zero_of_lt h0 (by simpa using h1)]
  simp
theorem mulTo_done (a b m : Int) (hm : 0 < m) : mulTo a b m 64 = mulS a b m := by
  unfold mulTo
  rw [show b / 2 ^ (64 - 64) = b by simp, mulS_pos (by omega)]
theorem addS_emod {x y a b m : Int} (hm : 0 < m) (hx : x % m = a % m) (hy : y % m = b % m) : addS x y m = (a + b) % m := by
  rw [addS_pos (by omega), Int.add_emod, hx, hy, ← Int.add_emod]
theorem mulTo_not (a b m : Int) (k : Nat) (hk : k < 64) (hm : 0 < m) (hb : b / 2 ^ (63 - k) % 2 = 0) : addS (mulTo a b m k) (mulTo a b m k) m = mulTo a b m (k + 1) := by
  have e : mulTo a b m k % m = a * (b / 2 ^ (64 - k)) % m := Int.emod_emod _ _
  rw [addS_emod hm e e, bits_next b hk]
  unfold mulTo
  rw [show 64 - (k + 1) = 63 - k by omega]
  generalize b / 2 ^ (63 - k) = z at *
  rw [← Int.mul_add, show z / 2 + z / 2 = z by omega]
theorem mulTo_one (a b m : Int) (k : Nat) (hk : k < 64) (hm : 0 < m) (hb : b / 2 ^ (63 - k) % 2 = 1) : addS (addS (mulTo a b m k) (mulTo a b m k) m) a m = mulTo a b m (k + 1) := by
  have e : mulTo a b m k % m = a * (b / 2 ^ (64 - k)) % m := Int.emod_emod _ _
  rw [addS_emod hm e e, addS_emod hm (Int.emod_emod _ _) rfl, bits_next b hk]
  unfold mulTo
  rw [show 64 - (k + 1) = 63 - k by omega]
  generalize b / 2 ^ (63 - k) = z at *
  rw [← Int.mul_add]
  conv => lhs; arg 1; arg 2; rw [← Int.mul_one a]
  rw [← Int.mul_add, show z / 2 + z / 2 + 1 = z by omega]

theorem mulS_lt {a b m : Int} (h : 0 < m) : 0 ≤ mulS a b m ∧ mulS a b m < m := by
  rw [mulS_pos (by omega)]; exact ⟨Int.emod_nonneg _ (by omega), Int.emod_lt_of_pos _ h⟩
theorem subS_lt {a b m : Int} (h : 0 < m) : 0 ≤ subS a b m ∧ subS a b m < m := by
  rw [subS_pos (by omega)]; exact ⟨Int.emod_nonneg _ (by omega), Int.emod_lt_of_pos _ h⟩
theorem mulS_emod {x y a b m : Int} (hm : 0 < m) (hx : x % m = a % m) (hy : y % m = b % m) : mulS x y m = (a * b) % m := by
  rw [mulS_pos (by omega), Int.mul_emod, hx, hy, ← Int.mul_emod]
theorem mul_emod_both {x y a b m : Int} (hx : x % m = a % m) (hy : y % m = b % m) : (x * y) % m = (a * b) % m := by
  rw [Int.mul_emod, hx, hy, ← Int.mul_emod]
theorem pow_emod_both {x a m : Int} (k : Nat) (h : x % m = a % m) : x ^ k % m = a ^ k % m := by
  induction k with
  | zero => rw [Int.pow_zero, Int.pow_zero]
  | succ k ih => rw [Int.pow_succ, Int.pow_succ]; exact mul_emod_both ih h

/-- A power modulo m by n's first k bits. -/
def powTo (a n m : Int) (k : Nat) : Int := a ^ (n / 2 ^ (64 - k)).toNat % m
theorem powTo_lt (a n m : Int) (k : Nat) (hm : 0 < m) : 0 ≤ powTo a n m k ∧ powTo a n m k < m := ⟨Int.emod_nonneg _ (by omega), Int.emod_lt_of_pos _ hm⟩
theorem powTo_zero (a n m : Int) (h0 : 0 ≤ n) (h1 : n < 18446744073709551616) : powTo a n m 0 = 1 % m := by
  unfold powTo
  rw [show n / 2 ^ (64 - 0) = 0 from Int.ediv_eq_zero_of_lt h0 (by simpa using h1)]
  simp
theorem powTo_done (a n m : Int) (hm : 0 < m) : powTo a n m 64 = powS a n m := by
  unfold powTo
  rw [show n / 2 ^ (64 - 64) = n by simp, powS_pos (by omega)]
theorem powTo_not (a n m : Int) (k : Nat) (hk : k < 64) (hm : 0 < m) (n0 : 0 ≤ n) (hb : n / 2 ^ (63 - k) % 2 = 0) : mulS (powTo a n m k) (powTo a n m k) m = powTo a n m (k + 1) := by
  have e : powTo a n m k % m = a ^ (n / 2 ^ (64 - k)).toNat % m := Int.emod_emod _ _
  have z0 : 0 ≤ n / 2 ^ (63 - k) := Int.ediv_nonneg n0 (Int.le_of_lt (two_pow_pos _))
  rw [mulS_emod hm e e, bits_next n hk]
  unfold powTo
  rw [show 64 - (k + 1) = 63 - k by omega]
  generalize n / 2 ^ (63 - k) = z at *
  rw [← Int.pow_add, show (z / 2).toNat + (z / 2).toNat = z.toNat by omega]
theorem powTo_one (a n m : Int) (k : Nat) (hk : k < 64) (hm : 0 < m) (n0 : 0 ≤ n) (hb : n / 2 ^ (63 - k) % 2 = 1) : mulS (mulS (powTo a n m k) (powTo a n m k) m) a m = powTo a n m (k + 1) := by
  have e : powTo a n m k % m = a ^ (n / 2 ^ (64 - k)).toNat % m := Int.emod_emod _ _
  have z0 : 0 ≤ n / 2 ^ (63 - k) := Int.ediv_nonneg n0 (Int.le_of_lt (two_pow_pos _))
  rw [mulS_emod hm e e, mulS_emod hm (Int.emod_emod _ _) rfl, bits_next n hk]
  unfold powTo
  rw [show 64 - (k + 1) = 63 - k by omega]
  generalize n / 2 ^ (63 - k) = z at *
  rw [← Int.pow_add, ← Int.pow_succ, show ((z / 2).toNat + (z / 2).toNat).succ = z.toNat by omega]

/-- A power, the lowest bit first: what is done times what is left. -/
def PowInv (a n m N P S : Int) : Prop := (P * S ^ N.toNat) % m = a ^ n.toNat % m ∧ 0 ≤ N ∧ N < 18446744073709551616 ∧ 0 ≤ P ∧ P < m ∧ 0 ≤ S ∧ S < 18446744073709551616
theorem powInv_start (a n m : Int) (a0 : 0 ≤ a) (a1 : a < 18446744073709551616) (n0 : 0 ≤ n) (n1 : n < 18446744073709551616) (hm : 0 < m) : PowInv a n m n (1 % m) a := by
  refine ⟨?_, n0, n1, Int.emod_nonneg _ (by omega), Int.emod_lt_of_pos _ hm, a0, a1⟩
  rw [mul_emod_both (a := 1) (b := a ^ n.toNat) (Int.emod_emod _ _) rfl, Int.one_mul]
theorem PowInv.bounds {a n m N P S : Int} (h : PowInv a n m N P S) (m1 : m < 18446744073709551616) : 0 ≤ N ∧ N < 18446744073709551616 ∧ 0 ≤ P ∧ P < 18446744073709551616 ∧ 0 ≤ S ∧ S < 18446744073709551616 := by
  obtain ⟨_, a, b, c, d, e, f⟩ := h
  exact ⟨a, b, c, by omega, e, f⟩
theorem PowInv.half {a n m N P S : Int} (h : PowInv a n m N P S) (hm : 0 < m) (m1 : m < 18446744073709551616) : 0 ≤ N / 2 ∧ N / 2 < 18446744073709551616 ∧ 0 ≤ mulS S S m ∧ mulS S S m < 18446744073709551616 ∧
    (mulS S S m) ^ (N / 2).toNat % m = S ^ (2 * (N / 2).toNat) % m := by
  obtain ⟨_, a, b, c, d, e, f⟩ := h
  have q := mulS_lt (a := S) (b := S) hm
  refine ⟨by omega, by omega, q.1, by omega, ?_⟩
  rw [Int.pow_mul, show S ^ 2 = S * S by rw [Int.pow_succ, Int.pow_succ, Int.pow_zero, Int.one_mul]]
  exact pow_emod_both _ (by rw [mulS_pos (by omega), Int.emod_emod])
theorem PowInv.odd {a n m N P S : Int} (h : PowInv a n m N P S) (hm : 0 < m) (m1 : m < 18446744073709551616) (hb : N % 2 = 1) : PowInv a n m (N / 2) (mulS P S m) (mulS S S m) := by
  obtain ⟨x, y, z, u, v⟩ := h.half hm m1
  have q := mulS_lt (a := P) (b := S) hm
  obtain ⟨h, a, _⟩ := h
  refine ⟨?_, x, y, q.1, q.2, z, u⟩
  rw [mul_emod_both (a := P * S) (b := S ^ (2 * (N / 2).toNat)) (by rw [mulS_pos (by omega), Int.emod_emod]) v, Int.mul_assoc, ← Int.pow_succ', show 2 * (N / 2).toNat + 1 = N.toNat by omega]
  exact h
theorem PowInv.even {a n m N P S : Int} (h : PowInv a n m N P S) (hm : 0 < m) (m1 : m < 18446744073709551616) (hb : N % 2 = 0) : PowInv a n m (N / 2) P (mulS S S m) := by
  obtain ⟨x, y, z, u, v⟩ := h.half hm m1
  obtain ⟨h, a, _, p0, p1, _⟩ := h
  refine ⟨?_, x, y, p0, p1, z, u⟩
  rw [mul_emod_both (a := P) (b := S ^ (2 * (N / 2).toNat)) rfl v, show 2 * (N / 2).toNat = N.toNat by omega]
  exact h
theorem PowInv.done {a n m N P S : Int} (h : PowInv a n m N P S) (hm : 0 < m) (hN : N ≤ 0) : P = powS a n m := by
  obtain ⟨h, a0, _, p0, p1, _⟩ := h
  rw [powS_pos (by omega), ← h, show N.toNat = 0 by omega, Int.pow_zero, Int.mul_one]
  exact (emod_two p0 p1).symm
end Go.Proofs.Ytdnjjpkajiehgaa
