/-
  Plain arithmetic of words: what sums, differences, products, powers, centered numbers and lifted numbers are modulo a word, and that the long division by halves gives the rest. No conditions but bounds on the numbers.
-/
import Derived.WalkKit
import Derived.Deep.Draws
namespace Go.Proofs.Ytdnjjpkajiehgaa
open Go.RowKit
set_option maxRecDepth 100000

def addS (a b m : Int) : Int := if m = 0 then 0 else (a + b) % m
def subS (a b m : Int) : Int := if m = 0 then 0 else (a - b) % m
def mulS (a b m : Int) : Int := if m = 0 then 0 else (a * b) % m
def powS (a n m : Int) : Int := if m = 0 then 0 else (a ^ n.toNat) % m
def cenS (a m : Int) : Int := if m = 0 ∨ 4611686018427387904 < m then 0 else if m / 2 < a % m then a % m - m else a % m
def lifS (v m : Int) : Int := if m = 0 then 0 else v % m

theorem wrap64u (n : Int) : IntKind.u64.wrap n = n % 18446744073709551616 := by
  simp [IntKind.wrap, IntKind.bits, IntKind.signed]

theorem or64 (a b : Int) (h : 0 ≤ a) (hm : a % 4294967296 = 0) (h1 : a < 18446744073709551616) (g0 : 0 ≤ b) (g1 : b < 4294967296) :
    bits .or .u64 a b = a + b := by
  rw [u64_or a b h h1 g0 (by omega), nat_join 32 a.toNat b.toNat (by omega) (by omega)]
  omega

theorem joined_arith (a b : Int) :
    bits .or .u64 (IntKind.u64.wrap (a * 4294967296)) (b % 4294967296) = a % 4294967296 * 4294967296 + b % 4294967296 := by
  rw [wrap64u, or64 _ _ (by omega) (by omega) (by omega) (by omega) (by omega)]
  omega

theorem addS_lt {a b m : Int} (h : 0 < m) : 0 ≤ addS a b m ∧ addS a b m < m := by
  unfold addS; rw [if_neg (by omega)]; exact ⟨Int.emod_nonneg _ (by omega), Int.emod_lt_of_pos _ h⟩

theorem addS_pos {a b m : Int} (h : m ≠ 0) : addS a b m = (a + b) % m := by unfold addS; rw [if_neg h]
theorem subS_pos {a b m : Int} (h : m ≠ 0) : subS a b m = (a - b) % m := by unfold subS; rw [if_neg h]
theorem mulS_pos {a b m : Int} (h : m ≠ 0) : mulS a b m = (a * b) % m := by unfold mulS; rw [if_neg h]
theorem powS_pos {a b m : Int} (h : m ≠ 0) : powS a b m = (a ^ b.toNat) % m := by unfold powS; rw [if_neg h]
theorem addS_zero (a b : Int) : addS a b 0 = 0 := rfl
theorem subS_zero (a b : Int) : subS a b 0 = 0 := rfl
theorem mulS_zero (a b : Int) : mulS a b 0 = 0 := rfl
theorem powS_zero (a b : Int) : powS a b 0 = 0 := rfl

theorem emod_two {x m : Int} (h0 : 0 ≤ x) (h : x < m) : x % m = x := Int.emod_eq_of_lt h0 h

/-- A sum of two rests. -/
theorem add_hi {x y m : Int} (hm : 0 < m) (h : m - y % m ≤ x % m) : x % m - (m - y % m) = (x + y) % m := by
  have a := Int.emod_lt_of_pos x hm
  have b := Int.emod_lt_of_pos y hm
  rw [Int.add_emod, show x % m + y % m = x % m - (m - y % m) + m by omega, Int.add_emod_right]
  exact (emod_two (by omega) (by omega)).symm
theorem add_lo {x y m : Int} (hm : 0 < m) (h : x % m < m - y % m) : x % m + y % m = (x + y) % m := by
  have a := Int.emod_nonneg x (b := m) (by omega)
  have b := Int.emod_nonneg y (b := m) (by omega)
  rw [Int.add_emod]
  exact (emod_two (by omega) (by omega)).symm
theorem sub_hi {x y m : Int} (hm : 0 < m) (h : x % m < y % m) : m - (y % m - x % m) = (x - y) % m := by
  have a := Int.emod_nonneg x (b := m) (by omega)
  have b := Int.emod_lt_of_pos y hm
  rw [Int.sub_emod, show x % m - y % m = m - (y % m - x % m) - m by omega, Int.sub_emod_right]
  exact (emod_two (by omega) (by omega)).symm
theorem sub_lo {x y m : Int} (hm : 0 < m) (h : y % m ≤ x % m) : x % m - y % m = (x - y) % m := by
  have a := Int.emod_lt_of_pos x hm
  have b := Int.emod_nonneg y (b := m) (by omega)
  rw [Int.sub_emod]
  exact (emod_two (by omega) (by omega)).symm

/-- What a call answers that leaves memory alone and draws at most. -/
def Qt (v : Value) (w : World) (e : Ending) (w' : World) : Prop := e = .returned v ∧ ∃ n, w' = w.drewN n
theorem Qt.mk0 (v : Value) (w : World) : Qt v w (.returned v) w := ⟨rfl, 0, rfl⟩
theorem Qt.mkN (v : Value) (w : World) (n : Nat) : Qt v w (.returned v) (w.drewN n) := ⟨rfl, n, rfl⟩
theorem Qt.mk1 (v : Value) (w : World) : Qt v w (.returned v) w.drew := ⟨rfl, 1, rfl⟩
theorem Qt.eq0 {v u : Value} {w : World} (h : u = v) : Qt v w (.returned u) w := by rw [h]; exact Qt.mk0 v w
theorem Qt.eqN {v u : Value} {w : World} {n : Nat} (h : u = v) : Qt v w (.returned u) (w.drewN n) := by rw [h]; exact Qt.mkN v w n
theorem Qt.eq1 {v u : Value} {w : World} (h : u = v) : Qt v w (.returned u) w.drew := by rw [h]; exact Qt.mk1 v w
theorem u64_eq {a b : Int} (h : a = b) : Value.int .u64 a = Value.int .u64 b := by rw [h]
theorem tup2 {k l : IntKind} {a b c d : Int} (h : a = c) (g : b = d) : Value.tuple #[.int k a, .int l b] = Value.tuple #[.int k c, .int l d] := by rw [h, g]
theorem i64_eq {a b : Int} (h : a = b) : Value.int .i64 a = Value.int .i64 b := by rw [h]

/-- The whole product by halves. -/
theorem wide_arith (x y : Int) (hx0 : 0 ≤ x) (hx : x < 18446744073709551616) (hy0 : 0 ≤ y) (hy : y < 18446744073709551616) :
    ∃ A B C D : Int, A = x / 4294967296 * (y / 4294967296) ∧ B = x / 4294967296 * (y % 4294967296) ∧ C = x % 4294967296 * (y % 4294967296) ∧ D = x % 4294967296 * (y / 4294967296) ∧
      0 ≤ A ∧ A ≤ 18446744065119617025 ∧ 0 ≤ B ∧ B ≤ 18446744065119617025 ∧ 0 ≤ C ∧ C ≤ 18446744065119617025 ∧ 0 ≤ D ∧ D ≤ 18446744065119617025 ∧
      x * y = A * 18446744073709551616 + (B + D) * 4294967296 + C := by
  refine ⟨_, _, _, _, rfl, rfl, rfl, rfl, ?_⟩
  have pA := prod_bound (x / 4294967296) (y / 4294967296) (by omega) (by omega) (by omega) (by omega)
  have pB := prod_bound (x / 4294967296) (y % 4294967296) (by omega) (by omega) (by omega) (by omega)
  have pC := prod_bound (x % 4294967296) (y % 4294967296) (by omega) (by omega) (by omega) (by omega)
  have pD := prod_bound (x % 4294967296) (y / 4294967296) (by omega) (by omega) (by omega) (by omega)
  refine ⟨pA.1, pA.2, pB.1, pB.2, pC.1, pC.2, pD.1, pD.2, ?_⟩
  have h := split_mul (x / 4294967296) (x % 4294967296) (y / 4294967296) (y % 4294967296)
  rw [show x / 4294967296 * 4294967296 + x % 4294967296 = x by omega, show y / 4294967296 * 4294967296 + y % 4294967296 = y by omega] at h
  exact h

theorem two_pow_cast (k : Nat) : (2 : Int) ^ k = ((2 ^ k : Nat) : Int) := by simp
theorem two_pow_le {k : Nat} (hk : k ≤ 64) : (2 : Int) ^ k ≤ 18446744073709551616 := by
  have := Nat.pow_le_pow_right (show 0 < 2 by decide) hk
  rw [two_pow_cast]
  omega
theorem two_pow_pos (k : Nat) : (0 : Int) < 2 ^ k := by
  have := Nat.two_pow_pos k
  rw [two_pow_cast]
  omega
/-- Behind k bits, the highest first: high and low word are x times y's first k bits. -/
def WideInv (x y : Int) (k : Nat) (H L : Int) : Prop := H * 18446744073709551616 + L = x * (y / 2 ^ (64 - k)) ∧ 0 ≤ H ∧ H < 2 ^ k ∧ 0 ≤ L ∧ L < 18446744073709551616
theorem wideInv_zero (x y : Int) (h0 : 0 ≤ y) (h1 : y < 18446744073709551616) : WideInv x y 0 0 0 := by
  refine ⟨?_, by omega, by decide, by omega, by omega⟩
  rw [show y / 2 ^ (64 - 0) = 0 from Int.ediv_eq_zero_of_lt h0 (by simpa using h1)]
  simp
theorem two_pow_le63 {k : Nat} (hk : k < 64) : (2 : Int) ^ k ≤ 9223372036854775808 := by
  have := Nat.pow_le_pow_right (show 0 < 2 by decide) (show k ≤ 63 by omega)
  rw [two_pow_cast]
  omega
theorem WideInv.bounds {x y : Int} {k : Nat} {H L : Int} (h : WideInv x y k H L) (hk : k < 64) : 0 ≤ H ∧ H < 9223372036854775808 ∧ 0 ≤ L ∧ L < 18446744073709551616 := by
  obtain ⟨_, a, b, c, d⟩ := h
  have := two_pow_le63 hk
  exact ⟨a, by omega, c, d⟩
/-- A word's first bits, and the next one. -/
theorem bits_next (y : Int) {k : Nat} (hk : k < 64) : y / 2 ^ (64 - k) = y / 2 ^ (63 - k) / 2 := by
  rw [Int.ediv_ediv_of_nonneg (Int.le_of_lt (two_pow_pos _)), show 64 - k = (63 - k) + 1 by omega, Int.pow_succ]
theorem bits_first_lt {y : Int} (h0 : 0 ≤ y) (h1 : y < 18446744073709551616) {k : Nat} (hk : k < 64) : 0 ≤ y / 2 ^ (63 - k) ∧ y / 2 ^ (63 - k) < 2 ^ (k + 1) := by
  refine ⟨Int.ediv_nonneg h0 (Int.le_of_lt (two_pow_pos _)), Int.ediv_lt_of_lt_mul (two_pow_pos _) ?_⟩
  rw [← Int.pow_add, show k + 1 + (63 - k) = 64 by omega]
  exact h1
theorem bits_first_word {y : Int} (h0 : 0 ≤ y) (h1 : y < 18446744073709551616) {k : Nat} (hk : k < 64) : 0 ≤ y / 2 ^ (63 - k) ∧ y / 2 ^ (63 - k) < 18446744073709551616 := by
  have a := bits_first_lt h0 h1 hk
  have b := two_pow_le (show k + 1 ≤ 64 by omega)
  omega
theorem and_one (z : Int) (h0 : 0 ≤ z) (h1 : z < 18446744073709551616) : bits .and .u64 z 1 = z % 2 := by
  rw [u64_and z 1 h0 h1 (by omega) (by omega), show (1 : Int).toNat = 1 from rfl, nat_mask1]
  omega
theorem or_one (a b : Int) (h : 0 ≤ a) (hm : a % 2 = 0) (h1 : a < 18446744073709551616) (g0 : 0 ≤ b) (g1 : b < 2) : bits .or .u64 a b = a + b := by
  rw [u64_or a b h h1 g0 (by omega), nat_join 1 a.toNat b.toNat (by omega) (by omega)]
  omega
theorem WideInv.step {x y : Int} {k : Nat} {H L : Int} (h : WideInv x y k H L) (hk : k < 64) (x0 : 0 ≤ x) (x1 : x < 18446744073709551616) (y0 : 0 ≤ y) (y1 : y < 18446744073709551616)
    {H' L' : Int} (e : H' * 18446744073709551616 + L' = 2 * (H * 18446744073709551616 + L) + x * (y / 2 ^ (63 - k) % 2)) (h0 : 0 ≤ H') (l0 : 0 ≤ L') (l1 : L' < 18446744073709551616) : WideInv x y (k + 1) H' L' := by
  obtain ⟨he, _, _, _, _⟩ := h
  have hz := bits_first_lt y0 y1 hk
  rw [bits_next y hk] at he
  have hq : H' * 18446744073709551616 + L' = x * (y / 2 ^ (64 - (k + 1))) := by
    rw [show 64 - (k + 1) = 63 - k by omega]
    generalize y / 2 ^ (63 - k) = z at *
    rw [e, he]
    have : z = 2 * (z / 2) + z % 2 := by omega
    conv => rhs; rw [this, Int.mul_add, Int.mul_left_comm]
  refine ⟨hq, h0, ?_, l0, l1⟩
  rw [show 64 - (k + 1) = 63 - k by omega] at hq
  generalize y / 2 ^ (63 - k) = z at *
  have p1 : x * z ≤ 18446744073709551615 * z := Int.mul_le_mul_of_nonneg_right (by omega) hz.1
  have p2 : (2 : Int) ^ (k + 1) > z := hz.2
  generalize (2 : Int) ^ (k + 1) = T at *
  generalize x * z = xz at *
  omega
theorem WideInv.room {x y : Int} {k : Nat} {H L : Int} (h : WideInv x y k H L) (hk : k < 64) (x0 : 0 ≤ x) (x1 : x < 18446744073709551616) (y0 : 0 ≤ y) (y1 : y < 18446744073709551616)
    (hb : y / 2 ^ (63 - k) % 2 = 1) : 2 * (H * 18446744073709551616 + L) + x < 340282366920938463463374607431768211456 := by
  obtain ⟨he, _, _, _, _⟩ := h
  have hz := bits_first_word y0 y1 hk
  rw [bits_next y hk] at he
  generalize y / 2 ^ (63 - k) = z at *
  have e : 2 * (H * 18446744073709551616 + L) + x = x * z := by
    have : z = 2 * (z / 2) + z % 2 := by omega
    conv => rhs; rw [this, Int.mul_add, Int.mul_left_comm, ← he, hb, Int.mul_one]
  have p1 : x * z ≤ 18446744073709551615 * 18446744073709551615 := Int.mul_le_mul (by omega) (by omega) hz.1 (by omega)
  omega
theorem WideInv.done {x y : Int} {H L : Int} (h : WideInv x y 64 H L) : H = x * y / 18446744073709551616 ∧ L = x * y % 18446744073709551616 := by
  obtain ⟨he, _, _, l0, l1⟩ := h
  rw [show y / 2 ^ (64 - 64) = y by simp] at he
  omega

/-- The guess of a division by halves is never too small, and what is left belongs to it. -/
def HalfInv (r n m G L : Int) : Prop := G * (m / 4294967296) + L = r ∧ (r * 4294967296 + n) / m ≤ G ∧ G ≤ 4294967297 ∧ 0 ≤ L ∧ L < 4294967296 ∧ 0 ≤ n ∧ n < 4294967296 ∧ 0 ≤ r
theorem half_guess (r m : Int) (r0 : 0 ≤ r) (r1 : r < m) (m0 : 9223372036854775808 ≤ m) (m1 : m < 18446744073709551616) :
    0 ≤ r / (m / 4294967296) ∧ r / (m / 4294967296) ≤ 4294967297 ∧ 0 ≤ r % (m / 4294967296) ∧ r % (m / 4294967296) < m / 4294967296 := by
  have t0 : 0 < m / 4294967296 := by omega
  refine ⟨Int.ediv_nonneg r0 (by omega), ?_, Int.emod_nonneg _ (by omega), Int.emod_lt_of_pos _ t0⟩
  have := Int.ediv_lt_of_lt_mul (a := r) (b := 4294967298) t0 (by omega)
  omega
theorem half_start (r n m : Int) (r0 : 0 ≤ r) (r1 : r < m) (n0 : 0 ≤ n) (n1 : n < 4294967296) (m0 : 9223372036854775808 ≤ m) (m1 : m < 18446744073709551616) :
    HalfInv r n m (r / (m / 4294967296)) (r % (m / 4294967296)) := by
  obtain ⟨a, b, c, d⟩ := half_guess r m r0 r1 m0 m1
  have t0 : 0 < m / 4294967296 := by omega
  refine ⟨?_, ?_, b, c, by omega, n0, n1, r0⟩
  · have := Int.mul_ediv_add_emod r (m / 4294967296)
    rw [Int.mul_comm]; exact this
  · refine Int.le_ediv_of_mul_le t0 ?_
    have h1 := Int.ediv_mul_le (r * 4294967296 + n) (show m ≠ 0 by omega)
    have q0 : 0 ≤ (r * 4294967296 + n) / m := Int.ediv_nonneg (by omega) (by omega)
    generalize (r * 4294967296 + n) / m = q at *
    have h2 : q * m = q * (m / 4294967296) * 4294967296 + q * (m % 4294967296) := by
      conv => lhs; rw [show m = m / 4294967296 * 4294967296 + m % 4294967296 by omega]
      rw [Int.mul_add, Int.mul_assoc]
    have h3 : 0 ≤ q * (m % 4294967296) := Int.mul_nonneg q0 (by omega)
    generalize q * (m / 4294967296) = A at *
    generalize q * (m % 4294967296) = B at *
    omega
theorem HalfInv.bounds {r n m G L : Int} (h : HalfInv r n m G L) (m0 : 9223372036854775808 ≤ m) (m1 : m < 18446744073709551616) :
    0 ≤ G ∧ G ≤ 4294967297 ∧ 0 ≤ L ∧ L < 4294967296 ∧ 0 ≤ G * (m % 4294967296) ∧ G * (m % 4294967296) ≤ 18446744073709551615 := by
  obtain ⟨_, b, c, d, e, f, _, g⟩ := h
  have q0 : 0 ≤ (r * 4294967296 + n) / m := Int.ediv_nonneg (by omega) (by omega)
  refine ⟨by omega, c, d, e, Int.mul_nonneg (by omega) (by omega), ?_⟩
  have h1 := Int.mul_le_mul c (show m % 4294967296 ≤ 4294967295 by omega) (by omega) (by omega)
  omega
theorem HalfInv.pos {r n m G L : Int} (h : HalfInv r n m G L) (hc : L * 4294967296 + n < G * (m % 4294967296)) : 1 ≤ G := by
  obtain ⟨_, _, _, d, _, f, _, _⟩ := h
  rcases Int.lt_or_le 0 G with h | h
  · omega
  · have := Int.mul_nonneg (show 0 ≤ -G by omega) (show 0 ≤ m % 4294967296 by omega)
    rw [Int.neg_mul] at this
    omega
/-- The guess fits if its product with the low half does not pass what is left. -/
theorem HalfInv.fits {r n m G L : Int} (h : HalfInv r n m G L) (m0 : 9223372036854775808 ≤ m) (hc : G * (m % 4294967296) ≤ L * 4294967296 + n) : G = (r * 4294967296 + n) / m := by
  obtain ⟨a, b, _⟩ := h
  have : G ≤ (r * 4294967296 + n) / m := by
    refine Int.le_ediv_of_mul_le (by omega) ?_
    have h2 : G * m = G * (m / 4294967296) * 4294967296 + G * (m % 4294967296) := by
      conv => lhs; rw [show m = m / 4294967296 * 4294967296 + m % 4294967296 by omega]
      rw [Int.mul_add, Int.mul_assoc]
    generalize G * (m / 4294967296) = A at *
    generalize G * (m % 4294967296) = B at *
    omega
  omega
/-- A guess that is too great: one less is never too small. -/
theorem HalfInv.less {r n m G L : Int} (h : HalfInv r n m G L) (m0 : 9223372036854775808 ≤ m) (hc : L * 4294967296 + n < G * (m % 4294967296)) :
    (G - 1) * (m / 4294967296) + (L + m / 4294967296) = r ∧ (r * 4294967296 + n) / m ≤ G - 1 := by
  obtain ⟨a, b, _⟩ := h
  refine ⟨by rw [Int.sub_mul]; omega, ?_⟩
  have : (r * 4294967296 + n) / m < G := by
    refine Int.ediv_lt_of_lt_mul (by omega) ?_
    have h2 : G * m = G * (m / 4294967296) * 4294967296 + G * (m % 4294967296) := by
      conv => lhs; rw [show m = m / 4294967296 * 4294967296 + m % 4294967296 by omega]
      rw [Int.mul_add, Int.mul_assoc]
    generalize G * (m / 4294967296) = A at *
    generalize G * (m % 4294967296) = B at *
    omega
  omega
theorem HalfInv.next {r n m G L : Int} (h : HalfInv r n m G L) (m0 : 9223372036854775808 ≤ m) (m1 : m < 18446744073709551616) (hc : L * 4294967296 + n < G * (m % 4294967296)) (hl : L + m / 4294967296 < 4294967296) :
    HalfInv r n m (G - 1) (L + m / 4294967296) := by
  obtain ⟨a, b⟩ := h.less m0 hc
  obtain ⟨_, _, c, d, _, f, g, k⟩ := h
  exact ⟨a, b, by omega, by omega, hl, f, g, k⟩
/-- What is left once the guess is one less and no longer a half fits. -/
theorem HalfInv.far {r n m G L : Int} (h : HalfInv r n m G L) (m0 : 9223372036854775808 ≤ m) (m1 : m < 18446744073709551616) (hc : L * 4294967296 + n < G * (m % 4294967296)) (hl : 4294967296 ≤ L + m / 4294967296) :
    G - 1 = (r * 4294967296 + n) / m := by
  obtain ⟨a, b⟩ := h.less m0 hc
  obtain ⟨_, _, c, d, _, f, g, k⟩ := h
  have : G - 1 ≤ (r * 4294967296 + n) / m := by
    refine Int.le_ediv_of_mul_le (by omega) ?_
    have h2 : (G - 1) * m = (G - 1) * (m / 4294967296) * 4294967296 + (G - 1) * (m % 4294967296) := by
      conv => lhs; rw [show m = m / 4294967296 * 4294967296 + m % 4294967296 by omega]
      rw [Int.mul_add, Int.mul_assoc]
    have q0 : 0 ≤ (r * 4294967296 + n) / m := Int.ediv_nonneg (by omega) (by omega)
    have h3 := Int.mul_le_mul (show G - 1 ≤ 4294967296 by omega) (show m % 4294967296 ≤ 4294967295 by omega) (by omega) (by omega)
    generalize (G - 1) * (m / 4294967296) = A at *
    generalize (G - 1) * (m % 4294967296) = B at *
    omega
  omega
theorem half_end {r n m G : Int} (m0 : 0 < m) (m1 : m < 18446744073709551616) (h : G = (r * 4294967296 + n) / m) (x y : Int)
    (hx : x % 18446744073709551616 = (r * 4294967296 + n) % 18446744073709551616) (hy : y % 18446744073709551616 = G * m % 18446744073709551616) : (x - y) % 18446744073709551616 = (r * 4294967296 + n) % m := by
  have h1 := Int.mul_ediv_add_emod (r * 4294967296 + n) m
  have h2 := Int.emod_lt_of_pos (r * 4294967296 + n) m0
  have h3 := Int.emod_nonneg (r * 4294967296 + n) (show m ≠ 0 by omega)
  rw [Int.mul_comm, ← h] at h1
  generalize G * m = A at *
  generalize (r * 4294967296 + n) % m = R at *
  omega

theorem emod_mul_add (a b c m : Int) : (a % m * b + c) % m = (a * b + c) % m := by
  rw [Int.add_emod, Int.mul_emod, Int.emod_emod, ← Int.mul_emod, ← Int.add_emod]
theorem or_shift (s : Nat) (a b : Int) (h : 0 ≤ a) (h1 : a * 2 ^ s < 18446744073709551616) (g0 : 0 ≤ b) (g1 : b < 2 ^ s) (s64 : s < 64) : bits .or .u64 (a * 2 ^ s) b = a * 2 ^ s + b := by
  have p := two_pow_pos s
  have q := two_pow_le63 s64
  have n0 : 0 ≤ a * 2 ^ s := Int.mul_nonneg h (Int.le_of_lt p)
  rw [u64_or _ b n0 h1 g0 (by omega)]
  obtain ⟨A, rfl⟩ := Int.eq_ofNat_of_zero_le h
  obtain ⟨B, rfl⟩ := Int.eq_ofNat_of_zero_le g0
  have e : ((A : Int) * 2 ^ s) = ((A * 2 ^ s : Nat) : Int) := by simp
  rw [two_pow_cast] at g1
  rw [e, Int.toNat_natCast, Int.toNat_natCast, nat_join s _ _ (Nat.mul_mod_left _ _) (by omega)]
  omega
theorem wide_bounds (x y : Int) (hx0 : 0 ≤ x) (hx : x < 18446744073709551616) (hy0 : 0 ≤ y) (hy : y < 18446744073709551616) :
    0 ≤ x * y / 18446744073709551616 ∧ x * y / 18446744073709551616 < 18446744073709551616 := by
  have p1 : x * y ≤ 18446744073709551615 * 18446744073709551615 := Int.mul_le_mul (by omega) (by omega) hy0 (by omega)
  have p0 := Int.mul_nonneg hx0 hy0
  omega
/-- A number of two words by a word: shifted, and by halves. -/
theorem rest_arith (h l m : Int) (s : Nat) (h0 : 0 ≤ h) (h1 : h < m) (l0 : 0 ≤ l) (l1 : l < 18446744073709551616) (m0 : 0 < m) (s64 : s < 64) (t1 : m * 2 ^ s < 18446744073709551616) :
    ∃ hi lo : Int, bits .or .u64 (IntKind.u64.wrap (h * 2 ^ s)) (l / 2 ^ (64 - s)) = hi ∧ IntKind.u64.wrap (l * 2 ^ s) = lo ∧ 0 ≤ hi ∧ hi < m * 2 ^ s ∧ 0 ≤ lo ∧ lo < 18446744073709551616 ∧
      0 ≤ (hi * 4294967296 + lo / 4294967296) % (m * 2 ^ s) ∧ (hi * 4294967296 + lo / 4294967296) % (m * 2 ^ s) < m * 2 ^ s ∧
      ((hi * 4294967296 + lo / 4294967296) % (m * 2 ^ s) * 4294967296 + lo % 4294967296) % (m * 2 ^ s) / 2 ^ s = (h * 18446744073709551616 + l) % m := by
  have p := two_pow_pos s
  have hM : (2 : Int) ^ s * 2 ^ (64 - s) = 18446744073709551616 := by rw [← Int.pow_add, show s + (64 - s) = 64 by omega]; rfl
  have hd : l / 2 ^ (64 - s) = l * 2 ^ s / 18446744073709551616 := by
    rw [← hM, Int.mul_comm l, Int.mul_ediv_mul_of_pos _ _ p]
  have hb : l / 2 ^ (64 - s) < 2 ^ s := Int.ediv_lt_of_lt_mul (two_pow_pos _) (by rw [hM]; exact l1)
  have hb0 : 0 ≤ l / 2 ^ (64 - s) := Int.ediv_nonneg l0 (Int.le_of_lt (two_pow_pos _))
  have mp : 0 < m * 2 ^ s := Int.mul_pos m0 p
  have hle : (h + 1) * 2 ^ s ≤ m * 2 ^ s := Int.mul_le_mul_of_nonneg_right (by omega) (Int.le_of_lt p)
  rw [Int.add_mul, Int.one_mul] at hle
  have hn : 0 ≤ h * 2 ^ s := Int.mul_nonneg h0 (Int.le_of_lt p)
  have hw : IntKind.u64.wrap (h * 2 ^ s) = h * 2 ^ s := by rw [wrap64u]; omega
  have ho := or_shift s h (l / 2 ^ (64 - s)) h0 (by omega) hb0 hb s64
  have key : (h * 18446744073709551616 + l) * 2 ^ s = ((h * 2 ^ s + l * 2 ^ s / 18446744073709551616) * 4294967296 + l * 2 ^ s % 18446744073709551616 / 4294967296) * 4294967296 + l * 2 ^ s % 18446744073709551616 % 4294967296 := by
    rw [Int.add_mul, Int.mul_right_comm]
    generalize h * 2 ^ s = A at *
    generalize l * 2 ^ s = B at *
    omega
  refine ⟨h * 2 ^ s + l / 2 ^ (64 - s), l * 2 ^ s % 18446744073709551616, by rw [hw, ho], wrap64u _, by omega, by omega, by omega, by omega, Int.emod_nonneg _ (by omega), Int.emod_lt_of_pos _ mp, ?_⟩
  rw [emod_mul_add, hd, ← key, Int.mul_comm _ (2 ^ s), Int.mul_comm m, Int.mul_emod_mul_of_pos _ _ p, Int.mul_ediv_cancel_left _ (by omega)]
theorem wrap_word (n : Int) : 0 ≤ IntKind.u64.wrap n ∧ IntKind.u64.wrap n < 18446744073709551616 := by rw [wrap64u]; omega
/-- Its quotient, by halves. -/
theorem quot_arith (h l m : Int) (s : Nat) (h0 : 0 ≤ h) (h1 : h < m) (l0 : 0 ≤ l) (l1 : l < 18446744073709551616) (m0 : 0 < m) (s64 : s < 64) (t0 : 9223372036854775808 ≤ m * 2 ^ s) (t1 : m * 2 ^ s < 18446744073709551616)
    (hi lo : Int) (e1 : bits .or .u64 (IntKind.u64.wrap (h * 2 ^ s)) (l / 2 ^ (64 - s)) = hi) (e2 : IntKind.u64.wrap (l * 2 ^ s) = lo) :
    0 ≤ (hi * 4294967296 + lo / 4294967296) / (m * 2 ^ s) ∧ (hi * 4294967296 + lo / 4294967296) / (m * 2 ^ s) < 4294967296 ∧
    0 ≤ ((hi * 4294967296 + lo / 4294967296) % (m * 2 ^ s) * 4294967296 + lo % 4294967296) / (m * 2 ^ s) ∧ ((hi * 4294967296 + lo / 4294967296) % (m * 2 ^ s) * 4294967296 + lo % 4294967296) / (m * 2 ^ s) < 4294967296 ∧
    (hi * 4294967296 + lo / 4294967296) / (m * 2 ^ s) * 4294967296 + ((hi * 4294967296 + lo / 4294967296) % (m * 2 ^ s) * 4294967296 + lo % 4294967296) / (m * 2 ^ s) = (h * 18446744073709551616 + l) / m := by
  obtain ⟨hi', lo', f1, f2, i0, i1, j0, j1, q0, q1, _⟩ := rest_arith h l m s h0 h1 l0 l1 m0 s64 t1
  rw [e1] at f1
  rw [e2] at f2
  subst f1 f2
  have p := two_pow_pos s
  have hM : (2 : Int) ^ s * 2 ^ (64 - s) = 18446744073709551616 := by rw [← Int.pow_add, show s + (64 - s) = 64 by omega]; rfl
  have hd : l / 2 ^ (64 - s) = l * 2 ^ s / 18446744073709551616 := by
    rw [← hM, Int.mul_comm l, Int.mul_ediv_mul_of_pos _ _ p]
  have hb : l / 2 ^ (64 - s) < 2 ^ s := Int.ediv_lt_of_lt_mul (two_pow_pos _) (by rw [hM]; exact l1)
  have hb0 : 0 ≤ l / 2 ^ (64 - s) := Int.ediv_nonneg l0 (Int.le_of_lt (two_pow_pos _))
  have hle : (h + 1) * 2 ^ s ≤ m * 2 ^ s := Int.mul_le_mul_of_nonneg_right (by omega) (Int.le_of_lt p)
  rw [Int.add_mul, Int.one_mul] at hle
  have hn : 0 ≤ h * 2 ^ s := Int.mul_nonneg h0 (Int.le_of_lt p)
  have hw : IntKind.u64.wrap (h * 2 ^ s) = h * 2 ^ s := by rw [wrap64u]; omega
  have ho := or_shift s h (l / 2 ^ (64 - s)) h0 (by omega) hb0 hb s64
  rw [hw, ho] at e1
  rw [wrap64u] at e2
  have key : (h * 18446744073709551616 + l) * 2 ^ s = (hi * 4294967296 + lo / 4294967296) * 4294967296 + lo % 4294967296 := by
    rw [Int.add_mul, Int.mul_right_comm]
    generalize h * 2 ^ s = A at *
    generalize l * 2 ^ s = B at *
    omega
  have fin : (h * 18446744073709551616 + l) / m = (h * 18446744073709551616 + l) * 2 ^ s / (m * 2 ^ s) := by
    rw [Int.mul_comm _ (2 ^ s), Int.mul_comm m, Int.mul_ediv_mul_of_pos _ _ p]
  rw [fin, key]
  generalize m * 2 ^ s = d at *
  have d0 : 0 < d := by omega
  have x1 := Int.mul_ediv_add_emod (hi * 4294967296 + lo / 4294967296) d
  generalize hX : hi * 4294967296 + lo / 4294967296 = X at *
  have x2 : X / d < 4294967296 := Int.ediv_lt_of_lt_mul d0 (by
    have := Int.mul_le_mul_of_nonneg_right (show hi + 1 ≤ d by omega) (show (0 : Int) ≤ 4294967296 by omega)
    omega)
  have x3 : 0 ≤ X / d := Int.ediv_nonneg (by omega) (by omega)
  have y2 : (X % d * 4294967296 + lo % 4294967296) / d < 4294967296 := Int.ediv_lt_of_lt_mul d0 (by
    have := Int.mul_le_mul_of_nonneg_right (show X % d + 1 ≤ d by omega) (show (0 : Int) ≤ 4294967296 by omega)
    omega)
  have y3 : 0 ≤ (X % d * 4294967296 + lo % 4294967296) / d := Int.ediv_nonneg (by omega) (by omega)
  refine ⟨x3, x2, y3, y2, ?_⟩
  rw [show X * 4294967296 + lo % 4294967296 = (X % d * 4294967296 + lo % 4294967296) + d * (X / d * 4294967296) by
    conv => lhs; rw [← x1]
    rw [Int.add_mul, Int.mul_assoc]
    omega, Int.add_mul_ediv_left _ _ (by omega)]
  omega
theorem sub_low (x c : Int) (h0 : -4294967296 < x) (h1 : x < 4294967296) (c0 : 0 ≤ c) (c1 : c ≤ 1) :
    (0 ≤ x - c ∧ (x % 18446744073709551616 - c) % 18446744073709551616 = x - c ∧ (x % 18446744073709551616 - c) % 18446744073709551616 / 9223372036854775808 = 0 ∧ (x % 18446744073709551616 - c) % 18446744073709551616 % 4294967296 = x - c) ∨
    (x - c < 0 ∧ (x % 18446744073709551616 - c) % 18446744073709551616 = x - c + 18446744073709551616 ∧ (x % 18446744073709551616 - c) % 18446744073709551616 / 9223372036854775808 = 1 ∧ (x % 18446744073709551616 - c) % 18446744073709551616 % 4294967296 = x - c + 4294967296) := by
  rcases Int.lt_or_le (x - c) 0 with h | h
  · right
    have e : (x % 18446744073709551616 - c) % 18446744073709551616 = x - c + 18446744073709551616 := by omega
    rw [e]
    omega
  · left
    have e : (x % 18446744073709551616 - c) % 18446744073709551616 = x - c := by omega
    rw [e]
    omega
theorem sub_arith (a b c : Int) (a0 : 0 ≤ a) (a1 : a < 18446744073709551616) (b0 : 0 ≤ b) (b1 : b < 18446744073709551616) (c0 : 0 ≤ c) (c1 : c ≤ 1) :
    IntKind.u64.wrap (IntKind.u64.wrap (a / 4294967296 - b / 4294967296) - IntKind.u64.wrap (IntKind.u64.wrap (a % 4294967296 - b % 4294967296) - c) / 9223372036854775808) % 4294967296 * 4294967296 +
      IntKind.u64.wrap (IntKind.u64.wrap (a % 4294967296 - b % 4294967296) - c) % 4294967296 = (a - b - c) % 18446744073709551616 ∧
    IntKind.u64.wrap (IntKind.u64.wrap (a / 4294967296 - b / 4294967296) - IntKind.u64.wrap (IntKind.u64.wrap (a % 4294967296 - b % 4294967296) - c) / 9223372036854775808) / 9223372036854775808 = -((a - b - c) / 18446744073709551616) := by
  simp only [wrap64u]
  rcases sub_low (a % 4294967296 - b % 4294967296) c (by omega) (by omega) c0 c1 with ⟨h, _, h2, h3⟩ | ⟨h, _, h2, h3⟩ <;> rw [h2, h3] <;> clear h2 h3
  · rcases sub_low (a / 4294967296 - b / 4294967296) 0 (by omega) (by omega) (by omega) (by omega) with ⟨g, _, g2, g3⟩ | ⟨g, _, g2, g3⟩ <;> rw [g2, g3] <;> clear g2 g3 <;> omega
  · rcases sub_low (a / 4294967296 - b / 4294967296) 1 (by omega) (by omega) (by omega) (by omega) with ⟨g, _, g2, g3⟩ | ⟨g, _, g2, g3⟩ <;> rw [g2, g3] <;> clear g2 g3 <;> omega
end Go.Proofs.Ytdnjjpkajiehgaa

/-
  Plain arithmetic of words: products and powers a bit at a time, the highest first or the lowest first; the greatest common divisor and inverses; centered and lifted numbers. No conditions but bounds on the numbers.
-/
namespace Go.Proofs.Ytdnjjpkajiehgaa
open Go.RowKit
set_option maxRecDepth 100000

/-- A product modulo m by b's first k bits. -/
def mulTo (a b m : Int) (k : Nat) : Int := a * (b / 2 ^ (64 - k)) % m
theorem mulTo_lt (a b m : Int) (k : Nat) (hm : 0 < m) : 0 ≤ mulTo a b m k ∧ mulTo a b m k < m := ⟨Int.emod_nonneg _ (by omega), Int.emod_lt_of_pos _ hm⟩
theorem mulTo_zero (a b m : Int) (h0 : 0 ≤ b) (h1 : b < 18446744073709551616) : mulTo a b m 0 = 0 := by
  unfold mulTo
  rw [show b / 2 ^ (64 - 0) = 0 from Int.ediv_eq_zero_of_lt h0 (by simpa using h1)]
  simp
theorem mulTo_done (a b m : Int) (hm : 0 < m) : mulTo a b m 64 = mulS a b m := by
  unfold mulTo
  rw [show b / 2 ^ (64 - 64) = b by simp, mulS_pos (by omega)]
theorem addS_emod {x y a b m : Int} (hm : 0 < m) (hx : x % m = a % m) (hy : y % m = b % m) : addS x y m = (a + b) % m := by
  rw [addS_pos (by omega), Int.add_emod, hx, hy, ← Int.add_emod]
theorem mulTo_not (a b m : Int) (k : Nat) (hk : k < 64) (hm : 0 < m) (hb : b / 2 ^ (63 - k) % 2 = 0) : addS (mulTo a b m k) (mulTo a b m k) m = mulTo a b m (k + 1) := by
  have e : mulTo a b m k % m = a * (b / 2 ^ (64 - k)) % m := Int.emod_emod _ _
  rw [addS_emod hm e e, bits_next b hk]
  unfold mulTo
  rw [show 64 - (k + 1) = 63 - k by omega]
  generalize b / 2 ^ (63 - k) = z at *
  rw [← Int.mul_add, show z / 2 + z / 2 = z by omega]
theorem mulTo_one (a b m : Int) (k : Nat) (hk : k < 64) (hm : 0 < m) (hb : b / 2 ^ (63 - k) % 2 = 1) : addS (addS (mulTo a b m k) (mulTo a b m k) m) a m = mulTo a b m (k + 1) := by
  have e : mulTo a b m k % m = a * (b / 2 ^ (64 - k)) % m := Int.emod_emod _ _
  rw [addS_emod hm e e, addS_emod hm (Int.emod_emod _ _) rfl, bits_next b hk]
  unfold mulTo
  rw [show 64 - (k + 1) = 63 - k by omega]
  generalize b / 2 ^ (63 - k) = z at *
  rw [← Int.mul_add]
  conv => lhs; arg 1; arg 2; rw [← Int.mul_one a]
  rw [← Int.mul_add, show z / 2 + z / 2 + 1 = z by omega]

theorem mulS_lt {a b m : Int} (h : 0 < m) : 0 ≤ mulS a b m ∧ mulS a b m < m := by
  rw [mulS_pos (by omega)]; exact ⟨Int.emod_nonneg _ (by omega), Int.emod_lt_of_pos _ h⟩
theorem subS_lt {a b m : Int} (h : 0 < m) : 0 ≤ subS a b m ∧ subS a b m < m := by
  rw [subS_pos (by omega)]; exact ⟨Int.emod_nonneg _ (by omega), Int.emod_lt_of_pos _ h⟩
theorem mulS_emod {x y a b m : Int} (hm : 0 < m) (hx : x % m = a % m) (hy : y % m = b % m) : mulS x y m = (a * b) % m := by
  rw [mulS_pos (by omega), Int.mul_emod, hx, hy, ← Int.mul_emod]
theorem mul_emod_both {x y a b m : Int} (hx : x % m = a % m) (hy : y % m = b % m) : (x * y) % m = (a * b) % m := by
  rw [Int.mul_emod, hx, hy, ← Int.mul_emod]
theorem pow_emod_both {x a m : Int} (k : Nat) (h : x % m = a % m) : x ^ k % m = a ^ k % m := by
  induction k with
  | zero => rw [Int.pow_zero, Int.pow_zero]
  | succ k ih => rw [Int.pow_succ, Int.pow_succ]; exact mul_emod_both ih h

/-- A power modulo m by n's first k bits. -/
def powTo (a n m : Int) (k : Nat) : Int := a ^ (n / 2 ^ (64 - k)).toNat % m
theorem powTo_lt (a n m : Int) (k : Nat) (hm : 0 < m) : 0 ≤ powTo a n m k ∧ powTo a n m k < m := ⟨Int.emod_nonneg _ (by omega), Int.emod_lt_of_pos _ hm⟩
theorem powTo_zero (a n m : Int) (h0 : 0 ≤ n) (h1 : n < 18446744073709551616) : powTo a n m 0 = 1 % m := by
  unfold powTo
  rw [show n / 2 ^ (64 - 0) = 0 from Int.ediv_eq_zero_of_lt h0 (by simpa using h1)]
  simp
theorem powTo_done (a n m : Int) (hm : 0 < m) : powTo a n m 64 = powS a n m := by
  unfold powTo
  rw [show n / 2 ^ (64 - 64) = n by simp, powS_pos (by omega)]
theorem powTo_not (a n m : Int) (k : Nat) (hk : k < 64) (hm : 0 < m) (n0 : 0 ≤ n) (hb : n / 2 ^ (63 - k) % 2 = 0) : mulS (powTo a n m k) (powTo a n m k) m = powTo a n m (k + 1) := by
  have e : powTo a n m k % m = a ^ (n / 2 ^ (64 - k)).toNat % m := Int.emod_emod _ _
  have z0 : 0 ≤ n / 2 ^ (63 - k) := Int.ediv_nonneg n0 (Int.le_of_lt (two_pow_pos _))
  rw [mulS_emod hm e e, bits_next n hk]
  unfold powTo
  rw [show 64 - (k + 1) = 63 - k by omega]
  generalize n / 2 ^ (63 - k) = z at *
  rw [← Int.pow_add, show (z / 2).toNat + (z / 2).toNat = z.toNat by omega]
theorem powTo_one (a n m : Int) (k : Nat) (hk : k < 64) (hm : 0 < m) (n0 : 0 ≤ n) (hb : n / 2 ^ (63 - k) % 2 = 1) : mulS (mulS (powTo a n m k) (powTo a n m k) m) a m = powTo a n m (k + 1) := by
  have e : powTo a n m k % m = a ^ (n / 2 ^ (64 - k)).toNat % m := Int.emod_emod _ _
  have z0 : 0 ≤ n / 2 ^ (63 - k) := Int.ediv_nonneg n0 (Int.le_of_lt (two_pow_pos _))
  rw [mulS_emod hm e e, mulS_emod hm (Int.emod_emod _ _) rfl, bits_next n hk]
  unfold powTo
  rw [show 64 - (k + 1) = 63 - k by omega]
  generalize n / 2 ^ (63 - k) = z at *
  rw [← Int.pow_add, ← Int.pow_succ, show ((z / 2).toNat + (z / 2).toNat).succ = z.toNat by omega]

/-- A power, the lowest bit first: what is done times what is left. -/
def PowInv (a n m N P S : Int) : Prop := (P * S ^ N.toNat) % m = a ^ n.toNat % m ∧ 0 ≤ N ∧ N < 18446744073709551616 ∧ 0 ≤ P ∧ P < m ∧ 0 ≤ S ∧ S < 18446744073709551616
theorem powInv_start (a n m : Int) (a0 : 0 ≤ a) (a1 : a < 18446744073709551616) (n0 : 0 ≤ n) (n1 : n < 18446744073709551616) (hm : 0 < m) : PowInv a n m n (1 % m) a := by
  refine ⟨?_, n0, n1, Int.emod_nonneg _ (by omega), Int.emod_lt_of_pos _ hm, a0, a1⟩
  rw [mul_emod_both (a := 1) (b := a ^ n.toNat) (Int.emod_emod _ _) rfl, Int.one_mul]
theorem PowInv.bounds {a n m N P S : Int} (h : PowInv a n m N P S) (m1 : m < 18446744073709551616) : 0 ≤ N ∧ N < 18446744073709551616 ∧ 0 ≤ P ∧ P < 18446744073709551616 ∧ 0 ≤ S ∧ S < 18446744073709551616 := by
  obtain ⟨_, a, b, c, d, e, f⟩ := h
  exact ⟨a, b, c, by omega, e, f⟩
theorem PowInv.half {a n m N P S : Int} (h : PowInv a n m N P S) (hm : 0 < m) (m1 : m < 18446744073709551616) : 0 ≤ N / 2 ∧ N / 2 < 18446744073709551616 ∧ 0 ≤ mulS S S m ∧ mulS S S m < 18446744073709551616 ∧
    (mulS S S m) ^ (N / 2).toNat % m = S ^ (2 * (N / 2).toNat) % m := by
  obtain ⟨_, a, b, c, d, e, f⟩ := h
  have q := mulS_lt (a := S) (b := S) hm
  refine ⟨by omega, by omega, q.1, by omega, ?_⟩
  rw [Int.pow_mul, show S ^ 2 = S * S by rw [Int.pow_succ, Int.pow_succ, Int.pow_zero, Int.one_mul]]
  exact pow_emod_both _ (by rw [mulS_pos (by omega), Int.emod_emod])
theorem PowInv.odd {a n m N P S : Int} (h : PowInv a n m N P S) (hm : 0 < m) (m1 : m < 18446744073709551616) (hb : N % 2 = 1) : PowInv a n m (N / 2) (mulS P S m) (mulS S S m) := by
  obtain ⟨x, y, z, u, v⟩ := h.half hm m1
  have q := mulS_lt (a := P) (b := S) hm
  obtain ⟨h, a, _⟩ := h
  refine ⟨?_, x, y, q.1, q.2, z, u⟩
  rw [mul_emod_both (a := P * S) (b := S ^ (2 * (N / 2).toNat)) (by rw [mulS_pos (by omega), Int.emod_emod]) v, Int.mul_assoc, ← Int.pow_succ', show 2 * (N / 2).toNat + 1 = N.toNat by omega]
  exact h
theorem PowInv.even {a n m N P S : Int} (h : PowInv a n m N P S) (hm : 0 < m) (m1 : m < 18446744073709551616) (hb : N % 2 = 0) : PowInv a n m (N / 2) P (mulS S S m) := by
  obtain ⟨x, y, z, u, v⟩ := h.half hm m1
  obtain ⟨h, a, _, p0, p1, _⟩ := h
  refine ⟨?_, x, y, p0, p1, z, u⟩
  rw [mul_emod_both (a := P) (b := S ^ (2 * (N / 2).toNat)) rfl v, show 2 * (N / 2).toNat = N.toNat by omega]
  exact h
theorem PowInv.done {a n m N P S : Int} (h : PowInv a n m N P S) (hm : 0 < m) (hN : N ≤ 0) : P = powS a n m := by
  obtain ⟨h, a0, _, p0, p1, _⟩ := h
  rw [powS_pos (by omega), ← h, show N.toNat = 0 by omega, Int.pow_zero, Int.mul_one]
  exact (emod_two p0 p1).symm
end Go.Proofs.Ytdnjjpkajiehgaa

/-
  Plain mathematics of tapes: the first draw that is good, numbers that are 0, 1 or -1, one behind the other; bits that are 1, counted as math/bits does.
-/
namespace Go.Proofs.Ytdnjjpkajiehgaa
open Go.RowKit
set_option linter.unusedVariables false
set_option maxRecDepth 100000

/-- The first draw that is good, and what is left behind it. -/
def firstS (g : Nat → Bool) : List Nat → Option Nat × List Nat
  | [] => (none, [])
  | x :: l => if g x = true then (some x, l) else firstS g l
theorem firstS_none {g : Nat → Bool} : ∀ {l r : List Nat}, firstS g l = (none, r) → r = []
  | [], r, h => by simp [firstS] at h; exact h
  | x :: l, r, h => by
    unfold firstS at h
    by_cases hg : g x = true
    · rw [if_pos hg] at h; cases h
    · rw [if_neg hg] at h; exact firstS_none h
theorem firstS_good {g : Nat → Bool} : ∀ {l r : List Nat} {x : Nat}, firstS g l = (some x, r) → g x = true ∧ r.length < l.length ∧ ∃ a, l = a ++ r
  | [], r, x, h => by simp [firstS] at h
  | y :: l, r, x, h => by
    unfold firstS at h
    by_cases hg : g y = true
    · rw [if_pos hg] at h
      injection h with h1 h2
      injection h1 with h1
      subst h1 h2
      exact ⟨hg, by simp, [y], rfl⟩
    · rw [if_neg hg] at h
      obtain ⟨h1, h2, a, h3⟩ := firstS_good h
      exact ⟨h1, by simp; omega, y :: a, by rw [h3]; rfl⟩
theorem firstS_mem {g : Nat → Bool} {l r : List Nat} {x : Nat} (h : firstS g l = (some x, r)) : x ∈ l := by
  induction l with
  | nil => simp [firstS] at h
  | cons y l ih =>
    unfold firstS at h
    by_cases hg : g y = true
    · rw [if_pos hg] at h
      injection h with h1 h2
      injection h1 with h1
      subst h1
      exact List.mem_cons_self
    · rw [if_neg hg] at h
      exact List.mem_cons_of_mem _ (ih h)
/-- Which draws tell 0, 1 or -1, and which of them. -/
def tgood (x : Nat) : Bool := !decide (x % 4 = 3)
def tval (x : Nat) : Int := if x % 4 = 2 then -1 else ((x % 4 : Nat) : Int)
theorem tval_le {x : Nat} (h : tgood x = true) : -1 ≤ tval x ∧ tval x ≤ 1 := by
  unfold tval
  simp [tgood] at h
  split <;> omega
/-- Which draws tell a number below q. -/
def bgood (q x : Nat) : Bool := decide (x ≤ 18446744073709551615 - (18446744073709551616 - q) % q)
/-- n numbers, one behind the other, and what is left. -/
def ternS (l : List Nat) : Nat → Option (List Int × List Nat)
  | 0 => some ([], l)
  | k + 1 => match ternS l k with
    | none => none
    | some (acc, r) => match firstS tgood r with
      | (none, _) => none
      | (some x, r') => some (acc ++ [tval x], r')
theorem ternS_next {l : List Nat} {k : Nat} {acc : List Int} {r r' : List Nat} {x : Nat} (h : ternS l k = some (acc, r)) (hf : firstS tgood r = (some x, r')) : ternS l (k + 1) = some (acc ++ [tval x], r') := by
  simp [ternS, h, hf]
theorem ternS_out {l : List Nat} {k : Nat} {acc : List Int} {r r' : List Nat} (h : ternS l k = some (acc, r)) (hf : firstS tgood r = (none, r')) : ternS l (k + 1) = none := by
  simp [ternS, h, hf]
theorem ternS_up {l : List Nat} {k : Nat} (h : ternS l k = none) : ∀ m, ternS l (k + m) = none
  | 0 => h
  | m + 1 => by rw [← Nat.add_assoc]; simp [ternS, ternS_up h m]
theorem ternS_less {l : List Nat} : ∀ {k : Nat} {acc : List Int} {r : List Nat}, ternS l k = some (acc, r) → r.length + k ≤ l.length ∧ acc.length = k ∧ ∃ a, l = a ++ r
  | 0, acc, r, h => by
    simp [ternS] at h
    obtain ⟨rfl, rfl⟩ := h
    exact ⟨by omega, rfl, [], rfl⟩
  | k + 1, acc, r, h => by
    unfold ternS at h
    cases h1 : ternS l k with
    | none => rw [h1] at h; cases h
    | some y =>
      obtain ⟨acc1, r1⟩ := y
      rw [h1] at h
      simp only at h
      obtain ⟨i1, i2, a, i3⟩ := ternS_less h1
      cases h2 : firstS tgood r1 with
      | mk o r2 =>
        rw [h2] at h
        cases o with
        | none => cases h
        | some x =>
          simp only [Option.some.injEq, Prod.mk.injEq] at h
          obtain ⟨rfl, rfl⟩ := h
          obtain ⟨_, j1, b, j2⟩ := firstS_good h2
          exact ⟨by omega, by simp; omega, a ++ b, by rw [i3, j2]; simp⟩
theorem ternS_over (l : List Nat) : ternS l (l.length + 1) = none := by
  cases h : ternS l (l.length + 1) with
  | none => rfl
  | some y =>
    obtain ⟨acc, r⟩ := y
    have := (ternS_less h).1
    omega

/-- Bits that are 1, counted in pairs, in fours, in bytes, and together. -/
def popA (x : Nat) : Nat := Nat.land (x / 2) 6148914691236517205 + Nat.land x 6148914691236517205
def popB (x : Nat) : Nat := Nat.land (x / 4) 3689348814741910323 + Nat.land x 3689348814741910323
def popC (x : Nat) : Nat := Nat.land (x / 16 + x) 1085102592571150095
def popD (x : Nat) : Nat := x + x / 256
def popE (x : Nat) : Nat := x + x / 65536
def popF (x : Nat) : Nat := x + x / 4294967296
def popS (x : Nat) : Nat := popF (popE (popD (popC (popB (popA x))))) % 128
theorem land_le (x m : Nat) : Nat.land x m ≤ x := Nat.and_le_left
theorem popA_le {x : Nat} (h : x < 65536) : popA x < 131072 := by
  unfold popA
  have h1 := land_le (x / 2) 6148914691236517205
  have h2 := land_le x 6148914691236517205
  omega
theorem popB_le {x : Nat} (h : x < 131072) : popB x < 262144 := by
  unfold popB
  have h1 := land_le (x / 4) 3689348814741910323
  have h2 := land_le x 3689348814741910323
  omega
theorem popC_le {x : Nat} (h : x < 262144) : popC x < 524288 := by
  unfold popC
  have h1 := land_le (x / 16 + x) 1085102592571150095
  omega
theorem popD_le {x : Nat} (h : x < 524288) : popD x < 1048576 := by unfold popD; omega
theorem popE_le {x : Nat} (h : x < 1048576) : popE x < 2097152 := by unfold popE; omega
theorem popF_le {x : Nat} (h : x < 2097152) : popF x < 4194304 := by unfold popF; omega
/-- So many numbers from n on have no more bits than they need. -/
def popRun : Nat → Nat → Bool
  | 0, _ => true
  | k + 1, n => cond (Nat.ble (2 ^ popS n) (n + 1)) (popRun k (n + 1)) false
theorem popRun_spec : ∀ k n, popRun k n = true → ∀ m, n ≤ m → m < n + k → 2 ^ popS m ≤ m + 1
  | 0, n, _, m, h0, h1 => by omega
  | k + 1, n, h, m, h0, h1 => by
    unfold popRun at h
    cases hb : Nat.ble (2 ^ popS n) (n + 1) with
    | false => rw [hb] at h; cases h
    | true =>
      rw [hb] at h
      by_cases e : m = n
      · subst e; exact Nat.le_of_ble_eq_true hb
      · exact popRun_spec k (n + 1) h m (by omega) (by omega)
set_option maxRecDepth 100000 in
theorem popRun_all : popRun 65536 0 = true := by decide +kernel
theorem popS_le {x w : Nat} (hw : w ≤ 16) (h : x < 2 ^ w) : popS x ≤ w := by
  have h1 : 2 ^ w ≤ 2 ^ 16 := Nat.pow_le_pow_right (by omega) hw
  have h2 := popRun_spec 65536 0 popRun_all x (by omega) (by omega)
  exact (Nat.pow_le_pow_iff_right (show 1 < 2 by omega)).1 (Nat.le_trans h2 h)
/-- An error: so many bits that are 1 of the lowest, less so many of those above them. -/
def errS (w x : Nat) : Int := (popS (x % 2 ^ w) : Int) - (popS (x / 2 ^ w % 2 ^ w) : Int)
theorem errS_le {w x : Nat} (hw : w ≤ 16) : -(w : Int) ≤ errS w x ∧ errS w x ≤ w := by
  have h0 : 0 < 2 ^ w := Nat.two_pow_pos w
  have h1 := popS_le hw (Nat.mod_lt x h0)
  have h2 := popS_le hw (Nat.mod_lt (x / 2 ^ w) h0)
  unfold errS
  omega
end Go.Proofs.Ytdnjjpkajiehgaa

/-
  Plain arithmetic of words: inverses by Euclid's steps; centered and lifted numbers. No conditions but bounds on the numbers.
-/
namespace Go.Proofs.Ytdnjjpkajiehgaa
open Go.RowKit
set_option maxRecDepth 100000

/-- What an inverse answers: one that is below m and times a is 1, or 0 and that there is none. -/
def InvOk (a m : Nat) (i : Int) (ok : Bool) : Prop :=
  (2 ≤ m ∧ Nat.gcd a m = 1 ∧ ok = true ∧ 0 ≤ i ∧ i < m ∧ (a * i) % (m : Int) = 1) ∨ ((m < 2 ∨ Nat.gcd a m ≠ 1) ∧ ok = false ∧ i = 0)
def InvPost (a m : Nat) (w : World) (e : Ending) (w' : World) : Prop := ∃ (i : Int) (ok : Bool) (n : Nat), InvOk a m i ok ∧ e = .returned (.tuple #[.int .u64 i, .bool ok]) ∧ w' = w.drewN n
theorem InvPost.small {a m : Nat} {w : World} (h : m < 2) : InvPost a m w (.returned (.tuple #[.int .u64 0, .bool false])) w := ⟨0, false, 0, .inr ⟨.inl h, rfl, rfl⟩, rfl, rfl⟩
/-- Euclid's steps: what is old and what is now are so many times a, and have a's and m's common divisor. -/
def InvInv (a m O N : Nat) (OT NT : Int) : Prop :=
  Nat.gcd O N = Nat.gcd a m ∧ (OT * a) % (m : Int) = O % (m : Int) ∧ (NT * a) % (m : Int) = N % (m : Int) ∧ O ≤ m ∧ N < m ∧ 0 ≤ OT ∧ OT < m ∧ 0 ≤ NT ∧ NT < m
theorem invInv_start (a m : Nat) (hm : 2 ≤ m) : InvInv a m m (a % m) 0 1 := by
  refine ⟨?_, by simp, ?_, by omega, Nat.mod_lt _ (by omega), by omega, by omega, by omega, by omega⟩
  · rw [Nat.gcd_comm m, ← Nat.gcd_rec, Nat.gcd_comm]
  · rw [Int.one_mul, Int.natCast_emod, Int.emod_emod]
theorem InvInv.bounds {a m O N : Nat} {OT NT : Int} (h : InvInv a m O N OT NT) (m1 : m < 18446744073709551616) : O < 18446744073709551616 ∧ N < 18446744073709551616 ∧ 0 ≤ OT ∧ OT < 18446744073709551616 ∧ 0 ≤ NT ∧ NT < 18446744073709551616 := by
  obtain ⟨_, _, _, a, b, c, d, e, f⟩ := h
  exact ⟨by omega, by omega, c, by omega, e, by omega⟩
theorem sub_emod_both {x y a b m : Int} (hx : x % m = a % m) (hy : y % m = b % m) : (x - y) % m = (a - b) % m := by
  rw [Int.sub_emod, hx, hy, ← Int.sub_emod]
theorem InvInv.next {a m O N : Nat} {OT NT : Int} (h : InvInv a m O N OT NT) (hN : 0 < N) (hm : 2 ≤ m) : InvInv a m N (O % N) NT (subS OT (mulS ((O : Int) / (N : Int)) NT m) m) := by
  rw [← Int.natCast_ediv]
  obtain ⟨g, p, q, a1, b1, c, d, e, f⟩ := h
  have s := subS_lt (a := OT) (b := mulS ((O / N : Nat) : Int) NT m) (m := m) (by omega)
  refine ⟨?_, q, ?_, by omega, Nat.lt_of_lt_of_le (Nat.mod_lt _ hN) (by omega), e, f, s.1, s.2⟩
  · rw [Nat.gcd_comm N, ← Nat.gcd_rec, Nat.gcd_comm]; exact g
  · rw [subS_pos (by omega), mulS_pos (by omega)]
    have h1 : (OT - ((O / N : Nat) : Int) * NT % m) % (m : Int) * a % (m : Int) = (OT * a - ((O / N : Nat) : Int) * (NT * a)) % (m : Int) := by
      rw [← Int.mul_assoc, ← Int.sub_mul]
      refine mul_emod_both ?_ rfl
      rw [Int.emod_emod]
      exact sub_emod_both rfl (Int.emod_emod _ _)
    rw [h1, sub_emod_both p (mul_emod_both rfl q)]
    congr 1
    have := Nat.div_add_mod O N
    have h2 : ((N * (O / N) + O % N : Nat) : Int) = (O : Int) := by rw [this]
    rw [Int.natCast_add, Int.natCast_mul, Int.mul_comm] at h2
    omega
theorem InvInv.done {a m O N : Nat} {OT NT : Int} {w : World} {c : Nat} (h : InvInv a m O N OT NT) (hN : N = 0) (hm : 2 ≤ m) :
    ((O : Int) = 1 → InvPost a m w (.returned (.tuple #[.int .u64 OT, .bool true])) (w.drewN c)) ∧ ((O : Int) ≠ 1 → InvPost a m w (.returned (.tuple #[.int .u64 0, .bool false])) (w.drewN c)) := by
  obtain ⟨g, p, q, a1, b1, c1, d, e, f⟩ := h
  subst hN
  rw [Nat.gcd_zero_right] at g
  refine ⟨fun h => ⟨OT, true, c, .inl ⟨hm, by omega, rfl, c1, d, ?_⟩, rfl, rfl⟩, fun h => ⟨0, false, c, .inr ⟨.inr (by omega), rfl, rfl⟩, rfl, rfl⟩⟩
  rw [Int.mul_comm, p, h]
  exact emod_two (by omega) (by omega)

theorem cenS_far (a m : Int) (h : 4611686018427387904 < m) : cenS a m = 0 := by unfold cenS; rw [if_pos (.inr h)]
theorem cenS_near (a m : Int) (h0 : 0 < m) (h : m ≤ 4611686018427387904) : cenS a m = if m / 2 < a % m then a % m - m else a % m := by unfold cenS; rw [if_neg (by omega)]
theorem lifS_pos (v m : Int) (h : m ≠ 0) : lifS v m = v % m := by unfold lifS; rw [if_neg h]
theorem lif_add (v m : Int) : addS v 0 m = lifS v m := by unfold addS lifS; rw [Int.add_zero]
theorem lif_sub (v m : Int) : subS 0 (-v) m = lifS v m := by unfold subS lifS; rw [Int.zero_sub, Int.neg_neg]
theorem neg_word (v : Int) (h : v < 0) (h1 : -9223372036854775808 ≤ v) : IntKind.u64.wrap (-IntKind.u64.wrap v) = -v := by rw [wrap64u, wrap64u]; omega

theorem inv37 (i : Int) (ok : Bool) (h : InvOk 3 7 i ok) : i = 5 ∧ ok = true := by
  rcases h with ⟨_, _, h1, h2, h3, h4⟩ | ⟨h1, _, _⟩
  · exact ⟨by omega, h1⟩
  · exfalso
    rcases h1 with h1 | h1
    · omega
    · exact h1 (by decide)
theorem mulfix : mulS 9223372036854775808 2 18446744073709551615 = 1 := by decide

theorem word_of {a : Int} (h : (Lit.int .u64 a).wf = true) : 0 ≤ a ∧ a < 18446744073709551616 := by
  have h1 : IntKind.u64.min = 0 := by decide
  have h2 : IntKind.u64.max = 18446744073709551615 := by decide
  simp only [Lit.wf, h1, h2, Bool.and_eq_true, decide_eq_true_eq] at h
  omega
theorem long_of {a : Int} (h : (Lit.int .i64 a).wf = true) : -9223372036854775808 ≤ a ∧ a < 9223372036854775808 := by
  have h1 : IntKind.i64.min = -9223372036854775808 := by decide
  have h2 : IntKind.i64.max = 9223372036854775807 := by decide
  simp only [Lit.wf, h1, h2, Bool.and_eq_true, decide_eq_true_eq] at h
  omega
theorem grown_drewN (w : World) (n : Nat) : Grown w (w.drewN n) := Grown.refl w

theorem below_word {x m : Int} (m0 : 0 ≤ m) (m1 : m < 18446744073709551616) : 0 ≤ (if m = 0 then 0 else x % m) ∧ (if m = 0 then 0 else x % m) < 18446744073709551616 := by
  by_cases h : m = 0
  · rw [if_pos h]; omega
  · rw [if_neg h]
    have a := Int.emod_nonneg x h
    have b := Int.emod_lt_of_pos x (show 0 < m by omega)
    omega
theorem addS_word {a b m : Int} (m0 : 0 ≤ m) (m1 : m < 18446744073709551616) : 0 ≤ addS a b m ∧ addS a b m < 18446744073709551616 := below_word m0 m1
theorem subS_word {a b m : Int} (m0 : 0 ≤ m) (m1 : m < 18446744073709551616) : 0 ≤ subS a b m ∧ subS a b m < 18446744073709551616 := below_word m0 m1
theorem mulS_word {a b m : Int} (m0 : 0 ≤ m) (m1 : m < 18446744073709551616) : 0 ≤ mulS a b m ∧ mulS a b m < 18446744073709551616 := below_word m0 m1
theorem powS_word {a b m : Int} (m0 : 0 ≤ m) (m1 : m < 18446744073709551616) : 0 ≤ powS a b m ∧ powS a b m < 18446744073709551616 := below_word m0 m1
theorem law_over (a b c m : Int) : mulS a (addS b c m) m = addS (mulS a b m) (mulS a c m) m := by
  by_cases h : m = 0
  · subst h; rfl
  · rw [mulS_pos h, addS_pos h, mulS_pos h, mulS_pos h, addS_pos h, mul_emod_both (a := a) (b := b + c) rfl (Int.emod_emod _ _), Int.mul_add, ← Int.add_emod]
theorem law_pow (a n k m : Int) (n0 : 0 ≤ n) (k0 : 0 ≤ k) : mulS (powS a n m) (powS a k m) m = powS a (n + k) m := by
  by_cases h : m = 0
  · subst h; rfl
  · rw [mulS_pos h, powS_pos h, powS_pos h, powS_pos h, ← Int.mul_emod, ← Int.pow_add, show (n + k).toNat = n.toNat + k.toNat by omega]
theorem law_back (a b m : Int) : addS (subS a b m) b m = addS a 0 m := by
  by_cases h : m = 0
  · subst h; rfl
  · rw [addS_pos h, addS_pos h, subS_pos h, Int.add_emod, Int.emod_emod, ← Int.add_emod, Int.sub_add_cancel, Int.add_zero]
theorem center_back (a m : Int) (h : m ≠ 0) (hb : m ≤ 4611686018427387904) (h0 : 0 ≤ m) : lifS (cenS a m) m = a % m := by
  rw [lifS_pos _ _ h, cenS_near a m (by omega) hb]
  split
  · rw [Int.sub_emod_right, Int.emod_emod]
  · rw [Int.emod_emod]
theorem cenS_long (a m : Int) (m0 : 0 ≤ m) : -9223372036854775808 ≤ cenS a m ∧ cenS a m < 9223372036854775808 := by
  unfold cenS
  split
  · omega
  · rename_i h
    have a1 := Int.emod_nonneg a (show m ≠ 0 by omega)
    have b1 := Int.emod_lt_of_pos a (show 0 < m by omega)
    split <;> omega
theorem inv_mul {a m : Nat} {i : Int} (h : 2 ≤ m) (e : (a * i) % (m : Int) = 1) : mulS (a : Int) i (m : Int) = 1 := by rw [mulS_pos (by omega)]; exact e
theorem quiet_more {P : Program} {f : FuncId} {args : Array Value} {w : World} {a n : Nat} {v : Value}
    (h : Calls P f args (w.drewN (a + n)) (Qt v (w.drewN (a + n)))) :
    Calls P f args (w.drewN (a + n)) fun e w'' => e = .returned v ∧ ∃ m, w'' = w.drewN (a + m) :=
  h.mono fun _ _ ⟨he, m, hm⟩ => ⟨he, n + m, by rw [hm, World.drewN_drewN, Nat.add_assoc]⟩
end Go.Proofs.Ytdnjjpkajiehgaa
