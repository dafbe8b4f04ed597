/-
  Plain arithmetic of words: what sums, differences, products, powers, centered numbers and lifted numbers are modulo a word, and that the long division by halves gives the rest. No conditions but bounds on the numbers.
-/
import Derived.WalkKit
import Derived.Deep.Draws
namespace Go.Proofs.Ytdnjjpkajiehgaa
open Go.RowKit
set_option maxRecDepth 100000

def addS (a b m : Int) : Int := if m = 0 then 0 else (a + b) % m
def subS (a b m : Int) : Int := if m = 0 then 0 else (a - b) % m
def mulS (a b m : Int) : Int := if m = 0 then 0 else (a * b) % m
def powS (a n m : Int) : Int := if m = 0 then 0 else (a ^ n.toNat) % m
def cenS (a m : Int) : Int := if m = 0 ∨ 4611686018427387904 < m then 0 else if m / 2 < a % m then a % m - m else a % m
def lifS (v m : Int) : Int := if m = 0 then 0 else v % m

theorem wrap64u (n : Int) : IntKind.u64.wrap n = n % 18446744073709551616 := by
  simp [IntKind.wrap, IntKind.bits, IntKind.signed]

theorem or64 (a b : Int) (h : 0 ≤ a) (hm : a % 4294967296 = 0) (h1 : a < 18446744073709551616) (g0 : 0 ≤ b) (g1 : b < 4294967296) :
    bits .or .u64 a b = a + b := by
  rw [u64_or a b h h1 g0 (by omega), nat_join 32 a.toNat b.toNat (by omega) (by omega)]
  omega

theorem joined_arith (a b : Int) :
    bits .or .u64 (IntKind.u64.wrap (a * 4294967296)) (b % 4294967296) = a % 4294967296 * 4294967296 + b % 4294967296 := by
  rw [wrap64u, or64 _ _ (by omega) (by omega) (by omega) (by omega) (by omega)]
  omega

theorem addS_lt {a b m : Int} (h : 0 < m) : 0 ≤ addS a b m ∧ addS a b m < m := by
  unfold addS; rw [if_neg (by omega)]; exact ⟨Int.emod_nonneg _ (by omega), Int.emod_lt_of_pos _ h⟩

theorem addS_pos {a b m : Int} (h : m ≠ 0) : addS a b m = (a + b) % m := by unfold addS; rw [if_neg h]
theorem subS_pos {a b m : Int} (h : m ≠ 0) : subS a b m = (a - b) % m := by unfold subS; rw [if_neg h]
theorem mulS_pos {a b m : Int} (h : m ≠ 0) : mulS a b m = (a * b) % m := by unfold mulS; rw [if_neg h]
theorem powS_pos {a b m : Int} (h : m ≠ 0) : powS a b m = (a ^ b.toNat) % m := by unfold powS; rw [if_neg h]
theorem addS_zero (a b : Int) : addS a b 0 = 0 := rfl
theorem subS_zero (a b : Int) : subS a b 0 = 0 := rfl
theorem mulS_zero (a b : Int) : mulS a b 0 = 0 := rfl
theorem powS_zero (a b : Int) : powS a b 0 = 0 := rfl

theorem emod_two {x m : Int} (h0 : 0 ≤ x) (h : x < m) : x % m = x := Int.emod_eq_of_lt h0 h

/-- A sum of two rests. -/
theorem add_hi {x y m : Int} (hm : 0 < m) (h : m - y % m ≤ x % m) : x % m - (m - y % m) = (x + y) % m := by
  have a := Int.emod_lt_of_pos x hm
  have b := Int.emod_lt_of_pos y hm
  rw [Int.add_emod, show x % m + y % m = x % m - (m - y % m) + m by omega, Int.add_emod_right]
  exact (emod_two (by omega) (by omega)).symm
theorem add_lo {x y m : Int} (hm : 0 < m) (h : x % m < m - y % m) : x % m + y % m = (x + y) % m := by
  have a := Int.emod_nonneg x (b := m) (by omega)
  have b := Int.emod_nonneg y (b := m) (by omega)
  rw [Int.add_emod]
  exact (emod_two (by omega) (by omega)).symm
theorem sub_hi {x y m : Int} (hm : 0 < m) (h : x % m < y % m) : m - (y % m - x % m) = (x - y) % m := by
  have a := Int.emod_nonneg x (b := m) (by omega)
  have b := Int.emod_lt_of_pos y hm
  rw [Int.sub_emod, show x % m - y % m = m - (y % m - x % m) - m by omega, Int.sub_emod_right]
  exact (emod_two (by omega) (by omega)).symm
theorem sub_lo {x y m : Int} (hm : 0 < m) (h : y % m ≤ x % m) : x % m - y % m = (x - y) % m := by
  have a := Int.emod_lt_of_pos x hm
  have b := Int.emod_nonneg y (b := m) (by omega)
  rw [Int.sub_emod]
  exact (emod_two (by omega) (by omega)).symm

/-- What a call answers that leaves memory alone and draws at most. -/
def Qt (v : Value) (w : World) (e : Ending) (w' : World) : Prop := e = .returned v ∧ ∃ n, w' = w.drewN n
theorem Qt.mk0 (v : Value) (w : World) : Qt v w (.returned v) w := ⟨rfl, 0, rfl⟩
theorem Qt.mkN (v : Value) (w : World) (n : Nat) : Qt v w (.returned v) (w.drewN n) := ⟨rfl, n, rfl⟩
theorem Qt.mk1 (v : Value) (w : World) : Qt v w (.returned v) w.drew := ⟨rfl, 1, rfl⟩
theorem Qt.eq0 {v u : Value} {w : World} (h : u = v) : Qt v w (.returned u) w := by rw [h]; exact Qt.mk0 v w
theorem Qt.eqN {v u : Value} {w : World} {n : Nat} (h : u = v) : Qt v w (.returned u) (w.drewN n) := by rw [h]; exact Qt.mkN v w n
theorem Qt.eq1 {v u : Value} {w : World} (h : u = v) : Qt v w (.returned u) w.drew := by rw [h]; exact Qt.mk1 v w
theorem u64_eq {a b : Int} (h : a = b) : Value.int .u64 a = Value.int .u64 b := by rw [h]
theorem tup2 {k l : IntKind} {a b c d : Int} (h : a = c) (g : b = d) : Value.tuple #[.int k a, .int l b] = Value.tuple #[.int k c, .int l d] := by rw [h, g]
theorem i64_eq {a b : Int} (h : a = b) : Value.int .i64 a = Value.int .i64 b := by rw [h]

/-- The whole product by halves. -/
theorem wide_arith (x y : Int) (hx0 : 0 ≤ x) (hx : x < 18446744073709551616) (hy0 : 0 ≤ y) (hy : y < 18446744073709551616) :
    ∃ A B C D : Int, A = x / 4294967296 * (y / 4294967296) ∧ B = x / 4294967296 * (y % 4294967296) ∧ C = x % 4294967296 * (y % 4294967296) ∧ D = x % 4294967296 * (y / 4294967296) ∧
      0 ≤ A ∧ A ≤ 18446744065119617025 ∧ 0 ≤ B ∧ B ≤ 18446744065119617025 ∧ 0 ≤ C ∧ C ≤ 18446744065119617025 ∧ 0 ≤ D ∧ D ≤ 18446744065119617025 ∧
      x * y = A * 18446744073709551616 + (B + D) * 4294967296 + C := by
  refine ⟨_, _, _, _, rfl, rfl, rfl, rfl, ?_⟩
  have pA := prod_bound (x / 4294967296) (y / 4294967296) (by omega) (by omega) (by omega) (by omega)
  have pB := prod_bound (x / 4294967296) (y % 4294967296) (by omega) (by omega) (by omega) (by omega)
  have pC := prod_bound (x % 4294967296) (y % 4294967296) (by omega) (by omega) (by omega) (by omega)
  have pD := prod_bound (x % 4294967296) (y / 4294967296) (by omega) (by omega) (by omega) (by omega)
  refine ⟨pA.1, pA.2, pB.1, pB.2, pC.1, pC.2, pD.1, pD.2, ?_⟩
  have h := split_mul (x / 4294967296) (x % 4294967296) (y / 4294967296) (y % 4294967296)
  rw [show x / 4294967296 * 4294967296 + x % 4294967296 = x by omega, show y / 4294967296 * 4294967296 + y % 4294967296 = y by omega] at h
  exact h

theorem two_pow_cast (k : Nat) : (2 : Int) ^ k = ((2 ^ k : Nat) : Int) := by simp
theorem two_pow_le {k : Nat} (hk : k ≤ 64) : (2 : Int) ^ k ≤ 18446744073709551616 := by
  have := Nat.pow_le_pow_right (show 0 < 2 by decide) hk
  rw [two_pow_cast]
  omega
theorem two_pow_pos (k : Nat) : (0 : Int) < 2 ^ k := by
  have := Nat.two_pow_pos k
  rw [two_pow_cast]
  omega
/-- Behind k bits, the highest first: high and low word are x times y's first k bits. -/
def WideInv (x y : Int) (k : Nat) (H L : Int) : Prop := H * 18446744073709551616 + L = x * (y / 2 ^ (64 - k)) ∧ 0 ≤ H ∧ H < 2 ^ k ∧ 0 ≤ L ∧ L < 18446744073709551616
theorem wideInv_zero (x y : Int) (h0 : 0 ≤ y) (h1 : y < 18446744073709551616) : WideInv x y 0 0 0 := by
  refine ⟨?_, by omega, by decide, by omega, by omega⟩
  rw [show y / 2 ^ (64 - 0) = 0 from Int.ediv_eq_zero_of_lt h0 (by simpa using h1)]
  simp
theorem two_pow_le63 {k : Nat} (hk : k < 64) : (2 : Int) ^ k ≤ 9223372036854775808 := by
  have := Nat.pow_le_pow_right (show 0 < 2 by decide) (show k ≤ 63 by omega)
  rw [two_pow_cast]
  omega
theorem WideInv.bounds {x y : Int} {k : Nat} {H L : Int} (h : WideInv x y k H L) (hk : k < 64) : 0 ≤ H ∧ H < 9223372036854775808 ∧ 0 ≤ L ∧ L < 18446744073709551616 := by
  obtain ⟨_, a, b, c, d⟩ := h
  have := two_pow_le63 hk
  exact ⟨a, by omega, c, d⟩
/-- A word's first bits, and the next one. -/
theorem bits_next (y : Int) {k : Nat} (hk : k < 64) : y / 2 ^ (64 - k) = y / 2 ^ (63 - k) / 2 := by
  rw [Int.ediv_ediv_of_nonneg (Int.le_of_lt (two_pow_pos _)), show 64 - k = (63 - k) + 1 by omega, Int.pow_succ]
theorem bits_first_lt {y : Int} (h0 : 0 ≤ y) (h1 : y < 18446744073709551616) {k : Nat} (hk : k < 64) : 0 ≤ y / 2 ^ (63 - k) ∧ y / 2 ^ (63 - k) < 2 ^ (k + 1) := by
  refine ⟨Int.ediv_nonneg h0 (Int.le_of_lt (two_pow_pos _)), Int.ediv_lt_of_lt_mul (two_pow_pos _) ?_⟩
  rw [← Int.pow_add, show k + 1 + (63 - k) = 64 by omega]
  exact h1
theorem bits_first_word {y : Int} (h0 : 0 ≤ y) (h1 : y < 18446744073709551616) {k : Nat} (hk : k < 64) : 0 ≤ y / 2 ^ (63 - k) ∧ y / 2 ^ (63 - k) < 18446744073709551616 := by
  have a := bits_first_lt h0 h1 hk
  have b := two_pow_le (show k + 1 ≤ 64 by omega)
  omega
theorem and_one (z : Int) (h0 : 0 ≤ z) (h1 : z < 18446744073709551616) : bits .and .u64 z 1 = z % 2 := by
  rw [u64_and z 1 h0 h1 (by omega) (by omega), show (1 : Int).toNat = 1 from rfl, nat_mask1]
  omega
theorem or_one (a b : Int) (h : 0 ≤ a) (hm : a % 2 = 0) (h1 : a < 18446744073709551616) (g0 : 0 ≤ b) (g1 : b < 2) : bits .or .u64 a b = a + b := by
  rw [u64_or a b h h1 g0 (by omega), nat_join 1 a.toNat b.toNat (by omega) (by omega)]
  omega
theorem WideInv.step {x y : Int} {k : Nat} {H L : Int} (h : WideInv x y k H L) (hk : k < 64) (x0 : 0 ≤ x) (x1 : x < 18446744073709551616) (y0 : 0 ≤ y) (y1 : y < 18446744073709551616)
    {H' L' : Int} (e : H' * 18446744073709551616 + L' = 2 * (H * 18446744073709551616 + L) + x * (y / 2 ^ (63 - k) % 2)) (h0 : 0 ≤ H') (l0 : 0 ≤ L') (l1 : L' < 18446744073709551616) : WideInv x y (k + 1) H' L' := by
  obtain ⟨he, _, _, _, _⟩ := h
  have hz := bits_first_lt y0 y1 hk
  rw [bits_next y hk] at he
  have hq : H' * 18446744073709551616 + L' = x * (y / 2 ^ (64 - (k + 1))) := by
    rw [show 64 - (k + 1) = 63 - k by omega]
    generalize y / 2 ^ (63 - k) = z at *
    rw [e, he]
    have : z = 2 * (z / 2) + z % 2 := by omega
    conv => rhs; rw [this, Int.mul_add, Int.mul_left_comm]
  refine ⟨hq, h0, ?_, l0, l1⟩
  rw [show 64 - (k + 1) = 63 - k by omega] at hq
  generalize y / 2 ^ (63 - k) = z at *
  have p1 : x * z ≤ 18446744073709551615 * z := Int.mul_le_mul_of_nonneg_right (by omega) hz.1
  have p2 : (2 : Int) ^ (k + 1) > z := hz.2
  generalize (2 : Int) ^ (k + 1) = T at *
  generalize x * z = xz at *
  omega
theorem WideInv.room {x y : Int} {k : Nat} {H L : Int} (h : WideInv x y k H L) (hk : k < 64) (x0 : 0 ≤ x) (x1 : x < 18446744073709551616) (y0 : 0 ≤ y) (y1 : y < 18446744073709551616)
    (hb : y / 2 ^ (63 - k) % 2 = 1) : 2 * (H * 18446744073709551616 + L) + x < 340282366920938463463374607431768211456 := by
  obtain ⟨he, _, _, _, _⟩ := h
  have hz := bits_first_word y0 y1 hk
  rw [bits_next y hk] at he
  generalize y / 2 ^ (63 - k) = z at *
  have e : 2 * (H * 18446744073709551616 + L) + x = x * z := by
    have : z = 2 * (z / 2) + z % 2 := by omega
    conv => rhs; rw [this, Int.mul_add, Int.mul_left_comm, ← he, hb, Int.mul_one]
  have p1 : x * z ≤ 18446744073709551615 * 18446744073709551615 := Int.mul_le_mul (by omega) (by omega) hz.1 (by omega)
  omega
theorem WideInv.done {x y : Int} {H L : Int} (h : WideInv x y 64 H L) : H = x * y / 18446744073709551616 ∧ L = x * y % 18446744073709551616 := by
  obtain ⟨he, _, _, l0, l1⟩ := h
  rw [show y / 2 ^ (64 - 64) = y by simp] at he
  omega

/-- The guess of a division by halves is never too small, and what is left belongs to it. -/
def HalfInv (r n m G L : Int) : Prop := G * (m / 4294967296) + L = r ∧ (r * 4294967296 + n) / m ≤ G ∧ G ≤ 4294967297 ∧ 0 ≤ L ∧ L < 4294967296 ∧ 0 ≤ n ∧ n < 4294967296 ∧ 0 ≤ r
theorem half_guess (r m : Int) (r0 : 0 ≤ r) (r1 : r < m) (m0 : 9223372036854775808 ≤ m) (m1 : m < 18446744073709551616) :
    0 ≤ r / (m / 4294967296) ∧ r / (m / 4294967296) ≤ 4294967297 ∧ 0 ≤ r % (m / 4294967296) ∧ r % (m / 4294967296) < m / 4294967296 := by
  have t0 : 0 < m / 4294967296 := by omega
  refine ⟨Int.ediv_nonneg r0 (by omega), ?_, Int.emod_nonneg _ (by omega), Int.emod_lt_of_pos _ t0⟩
  have := Int.ediv_lt_of_lt_mul (a := r) (b := 4294967298) t0 (by omega)
  omega
theorem half_start (r n m : Int) (r0 : 0 ≤ r) (r1 : r < m) (n0 : 0 ≤ n) (n1 : n < 4294967296) (m0 : 9223372036854775808 ≤ m) (m1 : m < 18446744073709551616) :
    HalfInv r n m (r / (m / 4294967296)) (r % (m / 4294967296)) := by
  obtain ⟨a, b, c, d⟩ := half_guess r m r0 r1 m0 m1
  have t0 : 0 < m / 4294967296 := by omega
  refine ⟨?_, ?_, b, c, by omega, n0, n1, r0⟩
  · have := Int.mul_ediv_add_emod r (m / 4294967296)
    rw [Int.mul_comm]; exact this
  · refine Int.le_ediv_of_mul_le t0 ?_
    have h1 := Int.ediv_mul_le (r * 4294967296 + n) (show m ≠ 0 by omega)
    have q0 : 0 ≤ (r * 4294967296 + n) / m := Int.ediv_nonneg (by omega) (by omega)
    generalize (r * 4294967296 + n) / m = q at *
    have h2 : q * m = q * (m / 4294967296) * 4294967296 + q * (m % 4294967296) := by
      conv => lhs; rw [show m = m / 4294967296 * 4294967296 + m % 4294967296 by omega]
      rw [Int.mul_add, Int.mul_assoc]
    have h3 : 0 ≤ q * (m % 4294967296) := Int.mul_nonneg q0 (by omega)
    generalize q * (m / 4294967296) = A at *
    generalize q * (m % 4294967296) = B at *
    omega
theorem HalfInv.bounds {r n m G L : Int} (h : HalfInv r n m G L) (m0 : 9223372036854775808 ≤ m) (m1 : m < 18446744073709551616) :
    0 ≤ G ∧ G ≤ 4294967297 ∧ 0 ≤ L ∧ L < 4294967296 ∧ 0 ≤ G * (m % 4294967296) ∧ G * (m % 4294967296) ≤ 18446744073709551615 := by
  obtain ⟨_, b, c, d, e, f, _, g⟩ := h
  have q0 : 0 ≤ (r * 4294967296 + n) / m := Int.ediv_nonneg (by omega) (by omega)
  refine ⟨by omega, c, d, e, Int.mul_nonneg (by omega) (by omega), ?_⟩
  have h1 := Int.mul_le_mul c (show m % 4294967296 ≤ 4294967295 by omega) (by omega) (by omega)
  omega
theorem HalfInv.pos {r n m G L : Int} (h : HalfInv r n m G L) (hc : L * 4294967296 + n < G * (m % 4294967296)) : 1 ≤ G := by
  obtain ⟨_, _, _, d, _, f, _, _⟩ := h
  rcases Int.lt_or_le 0 G with h | h
  · omega
  · have := Int.mul_nonneg (show 0 ≤ -G by omega) (show 0 ≤ m % 4294967296 by omega)
    rw [Int.neg_mul] at this
    omega
/-- The guess fits if its product with the low half does not pass what is left. -/
theorem HalfInv.fits {r n m G L : Int} (h : HalfInv r n m G L) (m0 : 9223372036854775808 ≤ m) (hc : G * (m % 4294967296) ≤ L * 4294967296 + n) : G = (r * 4294967296 + n) / m := by
  obtain ⟨a, b, _⟩ := h
  have : G ≤ (r * 4294967296 + n) / m := by
    refine Int.le_ediv_of_mul_le (by omega) ?_
    have h2 : G * m = G * (m / 4294967296) * 4294967296 + G * (m % 4294967296) := by
      conv => lhs; rw [show m = m / 4294967296 * 4294967296 + m % 4294967296 by omega]
      rw [Int.mul_add, Int.mul_assoc]
    generalize G * (m / 4294967296) = A at *
    generalize G * (m % 4294967296) = B at *
    omega
  omega
/-- A guess that is too great: one less is never too small. -/
theorem HalfInv.less {r n m G L : Int} (h : HalfInv r n m G L) (m0 : 9223372036854775808 ≤ m) (hc : L * 4294967296 + n < G * (m % 4294967296)) :
    (G - 1) * (m / 4294967296) + (L + m / 4294967296) = r ∧ (r * 4294967296 + n) / m ≤ G - 1 := by
  obtain ⟨a, b, _⟩ := h
  refine ⟨by rw [Int.sub_mul]; omega, ?_⟩
  have : (r * 4294967296 + n) / m < G := by
    refine Int.ediv_lt_of_lt_mul (by omega) ?_
    have h2 : G * m = G * (m / 4294967296) * 4294967296 + G * (m % 4294967296) := by
      conv => lhs; rw [show m = m / 4294967296 * 4294967296 + m % 4294967296 by omega]
      rw [Int.mul_add, Int.mul_assoc]
    generalize G * (m / 4294967296) = A at *
    generalize G * (m % 4294967296) = B at *
    omega
  omega
theorem HalfInv.next {r n m G L : Int} (h : HalfInv r n m G L) (m0 : 9223372036854775808 ≤ m) (m1 : m < 18446744073709551616) (hc : L * 4294967296 + n < G * (m % 4294967296)) (hl : L + m / 4294967296 < 4294967296) :
    HalfInv r n m (G - 1) (L + m / 4294967296) := by
  obtain ⟨a, b⟩ := h.less m0 hc
  obtain ⟨_, _, c, d, _, f, g, k⟩ := h
  exact ⟨a, b, by omega, by omega, hl, f, g, k⟩
/-- What is left once the guess is one less and no longer a half fits. -/
theorem HalfInv.far {r n m G L : Int} (h : HalfInv r n m G L) (m0 : 9223372036854775808 ≤ m) (m1 : m < 18446744073709551616) (hc : L * 4294967296 + n < G * (m % 4294967296)) (hl : 4294967296 ≤ L + m / 4294967296) :
    G - 1 = (r * 4294967296 + n) / m := by
  obtain ⟨a, b⟩ := h.less m0 hc
  obtain ⟨_, _, c, d, _, f, g, k⟩ := h
  have : G - 1 ≤ (r * 4294967296 + n) / m := by
    refine Int.le_ediv_of_mul_le (by omega) ?_
    have h2 : (G - 1) * m = (G - 1) * (m / 4294967296) * 4294967296 + (G - 1) * (m % 4294967296) := by
      conv => lhs; rw [show m = m / 4294967296 * 4294967296 + m % 4294967296 by omega]
      rw [Int.mul_add, Int.mul_assoc]
    have q0 : 0 ≤ (r * 4294967296 + n) / m := Int.ediv_nonneg (by omega) (by omega)
    have h3 := Int.mul_le_mul (show G - 1 ≤ 4294967296 by omega) (show m % 4294967296 ≤ 4294967295 by omega) (by omega) (by omega)
    generalize (G - 1) * (m / 4294967296) = A at *
    generalize (G - 1) * (m % 4294967296) = B at *
    omega
  omega
theorem half_end {r n m G : Int} (m0 : 0 < m) (m1 : m < 18446744073709551616) (h : G = (r * 4294967296 + n) / m) (x y : Int)
    (hx : x % 18446744073709551616 = (r * 4294967296 + n) % 18446744073709551616) (hy : y % 18446744073709551616 = G * m % 18446744073709551616) : (x - y) % 18446744073709551616 = (r * 4294967296 + n) % m := by
  have h1 := Int.mul_ediv_add_emod (r * 4294967296 + n) m
  have h2 := Int.emod_lt_of_pos (r * 4294967296 + n) m0
  have h3 := Int.emod_nonneg (r * 4294967296 + n) (show m ≠ 0 by omega)
  rw [Int.mul_comm, ← h] at h1
  generalize G * m = A at *
  generalize (r * 4294967296 + n) % m = R at *
  omega

theorem emod_mul_add (a b c m : Int) : (a % m * b + c) % m = (a * b + c) % m := by
  rw [Int.add_emod, Int.mul_emod, Int.emod_emod, ← Int.mul_emod, ← Int.add_emod]
theorem or_shift (s : Nat) (a b : Int) (h : 0 ≤ a) (h1 : a * 2 ^ s < 18446744073709551616) (g0 : 0 ≤ b) (g1 : b < 2 ^ s) (s64 : s < 64) : bits .or .u64 (a * 2 ^ s) b = a * 2 ^ s + b := by
  have p := two_pow_pos s
  have q := two_pow_le63 s64
  have n0 : 0 ≤ a * 2 ^ s := Int.mul_nonneg h (Int.le_of_lt p)
  rw [u64_or _ b n0 h1 g0 (by omega)]
  obtain ⟨A, rfl⟩ := Int.eq_ofNat_of_zero_le h
  obtain ⟨B, rfl⟩ := Int.eq_ofNat_of_zero_le g0
  have e : ((A : Int) * 2 ^ s) = ((A * 2 ^ s : Nat) : Int) := by simp
  rw [two_pow_cast] at g1
  rw [e, Int.toNat_natCast, Int.toNat_natCast, nat_join s _ _ (Nat.mul_mod_left _ _) (by omega)]
  omega
theorem wide_bounds (x y : Int) (hx0 : 0 ≤ x) (hx : x < 18446744073709551616) (hy0 : 0 ≤ y) (hy : y < 18446744073709551616) :
    0 ≤ x * y / 18446744073709551616 ∧ x * y / 18446744073709551616 < 18446744073709551616 := by
  have p1 : x * y ≤ 18446744073709551615 * 18446744073709551615 := Int.mul_le_mul (by omega) (by omega) hy0 (by omega)
  have p0 := Int.mul_nonneg hx0 hy0
  omega
/-- A number of two words by a word: shifted, and by halves. -/
theorem rest_arith (h l m : Int) (s : Nat) (h0 : 0 ≤ h) (h1 : h < m) (l0 : 0 ≤ l) (l1 : l < 18446744073709551616) (m0 : 0 < m) (s64 : s < 64) (t1 : m * 2 ^ s < 18446744073709551616) :
    ∃ hi lo : Int, bits .or .u64 (IntKind.u64.wrap (h * 2 ^ s)) (l / 2 ^ (64 - s)) = hi ∧ IntKind.u64.wrap (l * 2 ^ s) = lo ∧ 0 ≤ hi ∧ hi < m * 2 ^ s ∧ 0 ≤ lo ∧ lo < 18446744073709551616 ∧
      0 ≤ (hi * 4294967296 + lo / 4294967296) % (m * 2 ^ s) ∧ (hi * 4294967296 + lo / 4294967296) % (m * 2 ^ s) < m * 2 ^ s ∧
      ((hi * 4294967296 + lo / 4294967296) % (m * 2 ^ s) * 4294967296 + lo % 4294967296) % (m * 2 ^ s) / 2 ^ s = (h * 18446744073709551616 + l) % m := by
  have p := two_pow_pos s
  have hM : (2 : Int) ^ s * 2 ^ (64 - s) = 18446744073709551616 := by rw [← Int.pow_add, show s + (64 - s) = 64 by omega]; rfl
  have hd : l / 2 ^ (64 - s) = l * 2 ^ s / 18446744073709551616 := by
    rw [← hM, Int.mul_comm l, Int.mul_ediv_mul_of_pos _ _ p]
  have hb : l / 2 ^ (64 - s) < 2 ^ s := Int.ediv_lt_of_lt_mul (two_pow_pos _) (by rw [hM]; exact l1)
  have hb0 : 0 ≤ l / 2 ^ (64 - s) := Int.ediv_nonneg l0 (Int.le_of_lt (two_pow_pos _))
  have mp : 0 < m * 2 ^ s := Int.mul_pos m0 p
  have hle : (h + 1) * 2 ^ s ≤ m * 2 ^ s := Int.mul_le_mul_of_nonneg_right (by omega) (Int.le_of_lt p)
  rw [Int.add_mul, Int.one_mul] at hle
  have hn : 0 ≤ h * 2 ^ s := Int.mul_nonneg h0 (Int.le_of_lt p)
  have hw : IntKind.u64.wrap (h * 2 ^ s) = h * 2 ^ s := by rw [wrap64u]; omega
  have ho := or_shift s h (l / 2 ^ (64 - s)) h0 (by omega) hb0 hb s64
  have key : (h * 18446744073709551616 + l) * 2 ^ s = ((h * 2 ^ s + l * 2 ^ s / 18446744073709551616) * 4294967296 + l * 2 ^ s % 18446744073709551616 / 4294967296) * 4294967296 + l * 2 ^ s % 18446744073709551616 % 4294967296 := by
    rw [Int.add_mul, Int.mul_right_comm]
    generalize h * 2 ^ s = A at *
    generalize l * 2 ^ s = B at *
    omega
  refine ⟨h * 2 ^ s + l / 2 ^ (64 - s), l * 2 ^ s % 18446744073709551616, by rw [hw, ho], wrap64u _, by omega, by omega, by omega, by omega, Int.emod_nonneg _ (by omega), Int.emod_lt_of_pos _ mp, ?_⟩
  rw [emod_mul_add, hd, ← key, Int.mul_comm _ (2 ^ s), Int.mul_comm m, Int.mul_emod_mul_of_pos _ _ p, Int.mul_ediv_cancel_left _ (by omega)]
theorem wrap_word (n : Int) : 0 ≤ IntKind.u64.wrap n ∧ IntKind.u64.wrap n < 18446744073709551616 := by rw [wrap64u]; omega
/-- Its quotient, by halves. -/
theorem quot_arith (h l m : Int) (s : Nat) (h0 : 0 ≤ h) (h1 : h < m) (l0 : 0 ≤ l) (l1 : l < 18446744073709551616) (m0 : 0 < m) (s64 : s < 64) (t0 : 9223372036854775808 ≤ m * 2 ^ s) (t1 : m * 2 ^ s < 18446744073709551616)
    (hi lo : Int) (e1 : bits .or .u64 (IntKind.u64.wrap (h * 2 ^ s)) (l / 2 ^ (64 - s)) = hi) (e2 : IntKind.u64.wrap (l * 2 ^ s) = lo) :
    0 ≤ (hi * 4294967296 + lo / 4294967296) / (m * 2 ^ s) ∧ (hi * 4294967296 + lo / 4294967296) / (m * 2 ^ s) < 4294967296 ∧
    0 ≤ ((hi * 4294967296 + lo / 4294967296) % (m * 2 ^ s) * 4294967296 + lo % 4294967296) / (m * 2 ^ s) ∧ ((hi * 4294967296 + lo / 4294967296) % (m * 2 ^ s) * 4294967296 + lo % 4294967296) / (m * 2 ^ s) < 4294967296 ∧
    (hi * 4294967296 + lo / 4294967296) / (m * 2 ^ s) * 4294967296 + ((hi * 4294967296 + lo / 4294967296) % (m * 2 ^ s) * 4294967296 + lo % 4294967296) / (m * 2 ^ s) = (h * 18446744073709551616 + l) / m := by
  obtain ⟨hi', lo', f1, f2, i0, i1, j0, j1, q0, q1, _⟩ := rest_arith h l m s h0 h1 l0 l1 m0 s64 t1
  rw [e1] at f1
  rw [e2] at f2
  subst f1 f2
  have p := two_pow_pos s
  have hM : (2 : Int) ^ s * 2 ^ (64 - s) = 18446744073709551616 := by rw [← Int.pow_add, show s + (64 - s) = 64 by omega]; rfl
  have hd : l / 2 ^ (64 - s) = l * 2 ^ s / 18446744073709551616 := by
    rw [← hM, Int.mul_comm l, Int.mul_ediv_mul_of_pos _ _ p]
  have hb : l / 2 ^ (64 - s) < 2 ^ s := Int.ediv_lt_of_lt_mul (two_pow_pos _) (by rw [hM]; exact l1)
  have hb0 : 0 ≤ l / 2 ^ (64 - s) := Int.ediv_nonneg l0 (Int.le_of_lt (two_pow_pos _))
  have hle : (h + 1) * 2 ^ s ≤ m * 2 ^ s := Int.mul_le_mul_of_nonneg_right (by omega) (Int.le_of_lt p)
  rw [Int.add_mul, Int.one_mul] at hle
  have hn : 0 ≤ h * 2 ^ s := Int.mul_nonneg h0 (Int.le_of_lt p)
  have hw : IntKind.u64.wrap (h * 2 ^ s) = h * 2 ^ s := by rw [wrap64u]; omega
  have ho := or_shift s h (l / 2 ^ (64 - s)) h0 (by omega) hb0 hb s64
  rw [hw, ho] at e1
  rw [wrap64u] at e2
  have key : (h * 18446744073709551616 + l) * 2 ^ s = (hi * 4294967296 + lo / 4294967296) * 4294967296 + lo % 4294967296 := by
    rw [Int.add_mul, Int.mul_right_comm]
    generalize h * 2 ^ s = A at *
    generalize l * 2 ^ s = B at *
    omega
  have fin : (h * 18446744073709551616 + l) / m = (h * 18446744073709551616 + l) * 2 ^ s / (m * 2 ^ s) := by
    rw [Int.mul_comm _ (2 ^ s), Int.mul_comm m, Int.mul_ediv_mul_of_pos _ _ p]
  rw [fin, key]
  generalize m * 2 ^ s = d at *
  have d0 : 0 < d := by omega
  have x1 := Int.mul_ediv_add_emod (hi * 4294967296 + lo / 4294967296) d
  generalize hX : hi * 4294967296 + lo / 4294967296 = X at *
  have x2 : X / d < 4294967296 := Int.ediv_lt_of_lt_mul d0 (by
    have := Int.mul_le_mul_of_nonneg_right (show hi + 1 ≤ d by omega) (show (0 : Int) ≤ 4294967296 by omega)
    omega)
  have x3 : 0 ≤ X / d := Int.ediv_nonneg (by omega) (by omega)
  have y2 : (X % d * 4294967296 + lo % 4294967296) / d < 4294967296 := Int.ediv_lt_of_lt_mul d0 (by
    have := Int.mul_le_mul_of_nonneg_right (show X % d + 1 ≤ d by omega) (show (0 : Int) ≤ 4294967296 by omega)
    omega)
  have y3 : 0 ≤ (X % d * 4294967296 + lo % 4294967296) / d := Int.ediv_nonneg (by omega) (by omega)
  refine ⟨x3, x2, y3, y2, ?_⟩
  rw [show X * 4294967296 + lo % 4294967296 = (X % d * 4294967296 + lo % 4294967296) + d * (X / d * 4294967296) by
    conv => lhs; rw [← x1]
    rw [Int.add_mul, Int.mul_assoc]
    omega, Int.add_mul_ediv_left _ _ (by omega)]
  omega
theorem sub_low (x c : Int) (h0 : -4294967296 < x) (h1 : x < 4294967296) (c0 : 0 ≤ c) (c1 : c ≤ 1) :
    (0 ≤ x - c ∧ (x % 18446744073709551616 - c) % 18446744073709551616 = x - c ∧ (x % 18446744073709551616 - c) % 18446744073709551616 / 9223372036854775808 = 0 ∧ (x % 18446744073709551616 - c) % 18446744073709551616 % 4294967296 = x - c) ∨
    (x - c < 0 ∧ (x % 18446744073709551616 - c) % 18446744073709551616 = x - c + 18446744073709551616 ∧ (x % 18446744073709551616 - c) % 18446744073709551616 / 9223372036854775808 = 1 ∧ (x % 18446744073709551616 - c) % 18446744073709551616 % 4294967296 = x - c + 4294967296) := by
  rcases Int.lt_or_le (x - c) 0 with h | h
  · right
    have e : (x % 18446744073709551616 - c) % 18446744073709551616 = x - c + 18446744073709551616 := by omega
    rw [e]
    omega
  · left
    have e : (x % 18446744073709551616 - c) % 18446744073709551616 = x - c := by omega
    rw [e]
    omega
theorem sub_arith (a b c : Int) (a0 : 0 ≤ a) (a1 : a < 18446744073709551616) (b0 : 0 ≤ b) (b1 : b < 18446744073709551616) (c0 : 0 ≤ c) (c1 : c ≤ 1) :
    IntKind.u64.wrap (IntKind.u64.wrap (a / 4294967296 - b / 4294967296) - IntKind.u64.wrap (IntKind.u64.wrap (a % 4294967296 - b % 4294967296) - c) / 9223372036854775808) % 4294967296 * 4294967296 +
      IntKind.u64.wrap (IntKind.u64.wrap (a % 4294967296 - b % 4294967296) - c) % 4294967296 = (a - b - c) % 18446744073709551616 ∧
    IntKind.u64.wrap (IntKind.u64.wrap (a / 4294967296 - b / 4294967296) - IntKind.u64.wrap (IntKind.u64.wrap (a % 4294967296 - b % 4294967296) - c) / 9223372036854775808) / 9223372036854775808 = -((a - b - c) / 18446744073709551616) := by
  simp only [wrap64u]
  rcases sub_low (a % 4294967296 - b % 4294967296) c (by omega) (by omega) c0 c1 with ⟨h, _, h2, h3⟩ | ⟨h, _, h2, h3⟩ <;> rw [h2, h3] <;> clear h2 h3
  · rcases sub_low (a / 4294967296 - b / 4294967296) 0 (by omega) (by omega) (by omega) (by omega) with ⟨g, _, g2, g3⟩ | ⟨g, _, g2, g3⟩ <;> rw [g2, g3] <;> clear g2 g3 <;> omega
  · rcases sub_low (a / 4294967296 - b / 4294967296) 1 (by omega) (by omega) (by omega) (by omega) with ⟨g, _, g2, g3⟩ | ⟨g, _, g2, g3⟩ <;> rw [g2, g3] <;> clear g2 g3 <;> omega
end Go.Proofs.Ytdnjjpkajiehgaa
