/-
  Plain arithmetic of polynomials modulo X^n + 1 by their values at the odd powers of a root of -1: back and forth, products.
-/
import Derived.Test.YtcnogmhkffohgaaGreatDoorRows
namespace Go.Proofs.YtcnogmhkffohgaaGreatDoor
set_option linter.unusedVariables false
set_option maxRecDepth 100000

/-- The sum of the first n. -/
def S : Nat → (Nat → Int) → Int
  | 0, _ => 0
  | n + 1, f => S n f + f n
/-- The same modulo q. -/
def M (q a b : Int) : Prop := a % q = b % q
theorem M.rfl {q a : Int} : M q a a := Eq.refl _
theorem M.symm {q a b : Int} (h : M q a b) : M q b a := Eq.symm h
theorem M.trans {q a b c : Int} (h : M q a b) (k : M q b c) : M q a c := Eq.trans h k
theorem M.of {q a b : Int} (h : a = b) : M q a b := by rw [h]; exact M.rfl
theorem M.add {q a b c d : Int} (h : M q a b) (k : M q c d) : M q (a + c) (b + d) := by
  unfold M at *; rw [Int.add_emod, h, k, ← Int.add_emod]
theorem M.mul {q a b c d : Int} (h : M q a b) (k : M q c d) : M q (a * c) (b * d) := by
  unfold M at *; rw [Int.mul_emod, h, k, ← Int.mul_emod]
theorem M.pow {q a b : Int} (h : M q a b) : ∀ n : Nat, M q (a ^ n) (b ^ n)
  | 0 => by rw [Int.pow_zero, Int.pow_zero]; exact M.rfl
  | n + 1 => by rw [Int.pow_succ, Int.pow_succ]; exact (M.pow h n).mul h
theorem S_congr {n : Nat} {f g : Nat → Int} (h : ∀ i, i < n → f i = g i) : S n f = S n g := by
  induction n with
  | zero => rfl
  | succ n ih => rw [S, S, ih (fun i hi => h i (by omega)), h n (by omega)]
theorem S_M {q : Int} {n : Nat} {f g : Nat → Int} (h : ∀ i, i < n → M q (f i) (g i)) : M q (S n f) (S n g) := by
  induction n with
  | zero => exact M.rfl
  | succ n ih => exact (ih (fun i hi => h i (by omega))).add (h n (by omega))
theorem S_mul (n : Nat) (c : Int) (f : Nat → Int) : c * S n f = S n (fun i => c * f i) := by
  induction n with
  | zero => simp [S]
  | succ n ih => rw [S, S, Int.mul_add, ih]
theorem S_add (n : Nat) (f g : Nat → Int) : S n f + S n g = S n (fun i => f i + g i) := by
  induction n with
  | zero => simp [S]
  | succ n ih => rw [S, S, S, ← ih]; omega
theorem S_zero (n : Nat) : S n (fun _ => 0) = 0 := by
  induction n with
  | zero => rfl
  | succ n ih => rw [S, ih]; rfl
theorem S_swap (n m : Nat) (f : Nat → Nat → Int) : S n (fun i => S m (fun j => f i j)) = S m (fun j => S n (fun i => f i j)) := by
  induction n with
  | zero => simp [S, S_zero]
  | succ n ih => rw [S, ih, S_add]; rfl
theorem S_const (n : Nat) (c : Int) : S n (fun _ => c) = n * c := by
  induction n with
  | zero => simp [S]
  | succ n ih => rw [S, ih, Int.natCast_add, Int.add_mul]; simp
theorem S_one {n k : Nat} (hk : k < n) (f : Nat → Int) (h : ∀ i, i < n → i ≠ k → f i = 0) : S n f = f k := by
  induction n with
  | zero => omega
  | succ n ih =>
    rw [S]
    rcases Nat.lt_or_eq_of_le (Nat.le_of_lt_succ hk) with g | g
    · rw [ih g (fun i hi hne => h i (by omega) hne), h n (by omega) (by omega), Int.add_zero]
    · subst g
      rw [S_congr (g := fun _ => 0) (fun i hi => h i (by omega) (by omega)), S_zero, Int.zero_add]
theorem S_split (n m : Nat) (f : Nat → Int) : S (n + m) f = S n f + S m (fun i => f (n + i)) := by
  induction m with
  | zero => simp [S]
  | succ m ih => rw [← Nat.add_assoc, S, S, ih]; omega
/-- Powers of x, of which there are 2^k, sum up to a product. -/
theorem geo_split (k : Nat) (x : Int) : S (2 ^ (k + 1)) (fun j => x ^ j) = (1 + x ^ (2 ^ k)) * S (2 ^ k) (fun j => x ^ j) := by
  rw [Nat.pow_succ, Nat.mul_two, S_split, Int.add_mul, Int.one_mul, S_mul]
  congr 1
  exact S_congr fun i _ => by rw [Int.pow_add]
theorem odd_minus {d : Nat} (h : d % 2 = 1) : (-1 : Int) ^ d = -1 := by
  obtain ⟨m, rfl⟩ : ∃ m, d = 2 * m + 1 := ⟨d / 2, by omega⟩
  rw [Int.pow_succ, Int.pow_mul]
  have : ((-1 : Int) ^ 2) = 1 := by decide
  rw [this, Int.one_pow]; rfl
/-- The powers of an even power of a root of -1 sum up to 0. -/
theorem geo_zero (q : Int) : ∀ (k : Nat) (u : Int) (d : Nat), M q (u ^ (2 ^ k)) (-1) → 0 < d → d < 2 ^ k → M q (S (2 ^ k) (fun j => (u ^ (2 * d)) ^ j)) 0
  | 0, u, d, _, h0, h1 => by simp at h1; omega
  | k + 1, u, d, hu, h0, h1 => by
    rw [geo_split]
    by_cases hd : d % 2 = 1
    · have h2 : M q ((u ^ (2 * d)) ^ (2 ^ k)) (-1) := by
        rw [← Int.pow_mul, show 2 * d * 2 ^ k = 2 ^ (k + 1) * d by rw [Nat.pow_succ, Nat.mul_comm (2 ^ k) 2, Nat.mul_assoc, Nat.mul_comm d, ← Nat.mul_assoc], Int.pow_mul]
        exact (hu.pow d).trans (M.of (odd_minus hd))
      have h3 : M q (1 + (u ^ (2 * d)) ^ (2 ^ k)) 0 := M.rfl.add h2
      have := h3.mul (M.rfl (a := S (2 ^ k) (fun j => (u ^ (2 * d)) ^ j)))
      rwa [Int.zero_mul] at this
    · obtain ⟨d', rfl⟩ : ∃ d', d = 2 * d' := ⟨d / 2, by omega⟩
      have ih := geo_zero q k (u ^ 2) d' (by rw [← Int.pow_mul, Nat.mul_comm, ← Nat.pow_succ]; exact hu) (by omega) (by rw [Nat.pow_succ] at h1; omega)
      have e : (u ^ 2) ^ (2 * d') = u ^ (2 * (2 * d')) := by rw [← Int.pow_mul]
      rw [e] at ih
      have := (M.rfl (q := q) (a := 1 + (u ^ (2 * (2 * d'))) ^ 2 ^ k)).mul ih
      rwa [Int.mul_zero] at this
theorem row_pow (x : Int) (j d : Nat) : x ^ ((2 * j + 1) * d) = x ^ d * (x ^ (2 * d)) ^ j := by
  rw [← Int.pow_mul, ← Int.pow_add]
  congr 1
  rw [Nat.add_mul, Nat.one_mul, Nat.add_comm, Nat.mul_assoc, Nat.mul_comm j, ← Nat.mul_assoc]
theorem cancel {q w v : Int} (hwv : M q (w * v) 1) (m : Nat) : M q (w ^ m * v ^ m) 1 := by
  have := hwv.pow m
  rwa [Int.one_pow, Int.mul_pow] at this
theorem mul_four (a b c : Int) : a * c * b = a * b * c := by rw [Int.mul_assoc, Int.mul_comm c b, ← Int.mul_assoc]
/-- A sum of rows whose exponents differ by d. -/
theorem apart_d {q w v : Int} {k i d : Nat} (hw : M q (w ^ (2 ^ k)) (-1)) (hwv : M q (w * v) 1) (hd : 0 < d) (hi : i + d < 2 ^ k) :
    M q (S (2 ^ k) (fun j => w ^ ((2 * j + 1) * (i + d)) * v ^ ((2 * j + 1) * i))) 0 := by
  have h1 : M q (S (2 ^ k) (fun j => w ^ ((2 * j + 1) * (i + d)) * v ^ ((2 * j + 1) * i))) (S (2 ^ k) (fun j => w ^ d * (w ^ (2 * d)) ^ j)) := by
    refine S_M fun j _ => ?_
    rw [Nat.mul_add, Int.pow_add, row_pow w j d, mul_four]
    have := (cancel hwv ((2 * j + 1) * i)).mul (M.rfl (a := w ^ d * (w ^ (2 * d)) ^ j))
    rwa [Int.one_mul] at this
  rw [← S_mul] at h1
  have := (M.rfl (q := q) (a := w ^ d)).mul (geo_zero q k w d hw hd (by omega))
  rw [Int.mul_zero] at this
  exact h1.trans this
theorem apart_same {q w v : Int} (hwv : M q (w * v) 1) (n i : Nat) : M q (S n (fun j => w ^ ((2 * j + 1) * i) * v ^ ((2 * j + 1) * i))) (n : Int) := by
  refine (S_M (g := fun _ => 1) fun j _ => cancel hwv _).trans (M.of ?_)
  rw [S_const, Int.mul_one]
/-- Rows of odd powers of a root and of its inverse are apart. -/
theorem apart {q w v : Int} {k i i' : Nat} (hw : M q (w ^ (2 ^ k)) (-1)) (hv : M q (v ^ (2 ^ k)) (-1)) (hwv : M q (w * v) 1) (hi : i < 2 ^ k) (hi' : i' < 2 ^ k) (hne : i ≠ i') :
    M q (S (2 ^ k) (fun j => w ^ ((2 * j + 1) * i) * v ^ ((2 * j + 1) * i'))) 0 := by
  rcases Nat.lt_or_gt_of_ne hne with g | g
  · obtain ⟨d, rfl⟩ : ∃ d, i' = i + d := ⟨i' - i, by omega⟩
    have := apart_d (q := q) (w := v) (v := w) (k := k) (i := i) (d := d) hv (by rw [Int.mul_comm]; exact hwv) (by omega) hi'
    refine (M.of (S_congr fun j _ => ?_)).trans this
    exact Int.mul_comm _ _
  · obtain ⟨d, rfl⟩ : ∃ d, i = i' + d := ⟨i - i', by omega⟩
    exact apart_d hw hwv (by omega) hi
/-- Sums over the first exponent, for two odd numbers that differ. -/
theorem across_d {q w v : Int} {k j d : Nat} (hw : M q (w ^ (2 ^ k)) (-1)) (hwv : M q (w * v) 1) (hd : 0 < d) (hj : j + d < 2 ^ k) :
    M q (S (2 ^ k) (fun i => w ^ ((2 * (j + d) + 1) * i) * v ^ ((2 * j + 1) * i))) 0 := by
  have h1 : M q (S (2 ^ k) (fun i => w ^ ((2 * (j + d) + 1) * i) * v ^ ((2 * j + 1) * i))) (S (2 ^ k) (fun i => (w ^ (2 * d)) ^ i)) := by
    refine S_M fun i _ => ?_
    rw [show (2 * (j + d) + 1) * i = (2 * j + 1) * i + 2 * d * i by rw [← Nat.add_mul]; congr 1; omega, Int.pow_add, mul_four, show w ^ (2 * d * i) = (w ^ (2 * d)) ^ i from Int.pow_mul]
    have := (cancel hwv ((2 * j + 1) * i)).mul (M.rfl (a := (w ^ (2 * d)) ^ i))
    rwa [Int.one_mul] at this
  exact h1.trans (geo_zero q k w d hw hd (by omega))
theorem across {q w v : Int} {k j j' : Nat} (hw : M q (w ^ (2 ^ k)) (-1)) (hv : M q (v ^ (2 ^ k)) (-1)) (hwv : M q (w * v) 1) (hj : j < 2 ^ k) (hj' : j' < 2 ^ k) (hne : j ≠ j') :
    M q (S (2 ^ k) (fun i => w ^ ((2 * j + 1) * i) * v ^ ((2 * j' + 1) * i))) 0 := by
  rcases Nat.lt_or_gt_of_ne hne with g | g
  · obtain ⟨d, rfl⟩ : ∃ d, j' = j + d := ⟨j' - j, by omega⟩
    have := across_d (q := q) (w := v) (v := w) (k := k) (j := j) (d := d) hv (by rw [Int.mul_comm]; exact hwv) (by omega) hj'
    exact (M.of (S_congr fun i _ => Int.mul_comm _ _)).trans this
  · obtain ⟨d, rfl⟩ : ∃ d, j = j' + d := ⟨j - j', by omega⟩
    exact across_d hw hwv (by omega) hj
theorem across_same {q w v : Int} (hwv : M q (w * v) 1) (n j : Nat) : M q (S n (fun i => w ^ ((2 * j + 1) * i) * v ^ ((2 * j + 1) * i))) (n : Int) := by
  refine (S_M (g := fun _ => 1) fun i _ => cancel hwv _).trans (M.of ?_)
  rw [S_const, Int.mul_one]

/-- A polynomial's values at the odd powers of w; and the sums that lead back, by v. -/
def vals (w : Int) (n : Nat) (a : Nat → Int) (j : Nat) : Int := S n (fun i => a i * w ^ ((2 * j + 1) * i))
def back (v : Int) (n : Nat) (b : Nat → Int) (i : Nat) : Int := S n (fun j => b j * v ^ ((2 * j + 1) * i))
theorem S_pick {q : Int} {n k : Nat} (hk : k < n) {f : Nat → Int} {c : Int} (h : ∀ i, i < n → i ≠ k → M q (f i) 0) (hc : M q (f k) c) : M q (S n f) c := by
  have h1 : M q (S n f) (S n (fun i => if i = k then f k else 0)) := S_M fun i hi => by
    by_cases e : i = k
    · subst e; rw [if_pos rfl]; exact M.rfl
    · rw [if_neg e]; exact h i hi e
  have h2 : S n (fun i => if i = k then f k else 0) = f k := by
    rw [S_one hk _ (fun i _ hne => if_neg hne), if_pos rfl]
  rw [h2] at h1
  exact h1.trans hc
/-- Back of values: so many times the polynomial. -/
theorem back_vals {q w v : Int} {k : Nat} (hw : M q (w ^ (2 ^ k)) (-1)) (hv : M q (v ^ (2 ^ k)) (-1)) (hwv : M q (w * v) 1) (a : Nat → Int) {i' : Nat} (hi' : i' < 2 ^ k) :
    M q (back v (2 ^ k) (vals w (2 ^ k) a) i') (((2 ^ k : Nat) : Int) * a i') := by
  have e : back v (2 ^ k) (vals w (2 ^ k) a) i' = S (2 ^ k) (fun i => a i * S (2 ^ k) (fun j => w ^ ((2 * j + 1) * i) * v ^ ((2 * j + 1) * i'))) := by
    unfold back vals
    rw [S_congr (g := fun j => S (2 ^ k) (fun i => a i * (w ^ ((2 * j + 1) * i) * v ^ ((2 * j + 1) * i')))) (fun j _ => by
      rw [Int.mul_comm, S_mul]
      exact S_congr fun i _ => by rw [Int.mul_comm, Int.mul_assoc])]
    rw [S_swap]
    exact S_congr fun i _ => (S_mul _ _ _).symm
  rw [e]
  refine S_pick hi' (fun i hi hne => ?_) ?_
  · have := (M.rfl (q := q) (a := a i)).mul (apart hw hv hwv hi hi' hne)
    rwa [Int.mul_zero] at this
  · have := (M.rfl (q := q) (a := a i')).mul (apart_same (q := q) hwv (2 ^ k) i')
    rwa [Int.mul_comm (a i') (((2 ^ k : Nat)) : Int)] at this
/-- Values of what leads back: so many times the values. -/
theorem vals_back {q w v : Int} {k : Nat} (hw : M q (w ^ (2 ^ k)) (-1)) (hv : M q (v ^ (2 ^ k)) (-1)) (hwv : M q (w * v) 1) (b : Nat → Int) {j' : Nat} (hj' : j' < 2 ^ k) :
    M q (vals w (2 ^ k) (back v (2 ^ k) b) j') (((2 ^ k : Nat) : Int) * b j') := by
  have e : vals w (2 ^ k) (back v (2 ^ k) b) j' = S (2 ^ k) (fun j => b j * S (2 ^ k) (fun i => w ^ ((2 * j' + 1) * i) * v ^ ((2 * j + 1) * i))) := by
    unfold back vals
    rw [S_congr (g := fun i => S (2 ^ k) (fun j => b j * (w ^ ((2 * j' + 1) * i) * v ^ ((2 * j + 1) * i)))) (fun i _ => by
      rw [Int.mul_comm, S_mul]
      exact S_congr fun j _ => by rw [Int.mul_comm, Int.mul_assoc, Int.mul_comm (v ^ ((2 * j + 1) * i))])]
    rw [S_swap]
    exact S_congr fun j _ => (S_mul _ _ _).symm
  rw [e]
  refine S_pick hj' (fun j hj hne => ?_) ?_
  · have := (M.rfl (q := q) (a := b j)).mul (across hw hv hwv hj' hj (Ne.symm hne))
    rwa [Int.mul_zero] at this
  · have := (M.rfl (q := q) (a := b j')).mul (across_same (q := q) hwv (2 ^ k) j')
    rwa [Int.mul_comm (b j') (((2 ^ k : Nat)) : Int)] at this

/-- The product modulo X^n + 1. -/
def nega (n : Nat) (a b : Nat → Int) (m : Nat) : Int := S n (fun i => S n (fun l => if i + l = m then a i * b l else if i + l = m + n then -(a i * b l) else 0))
theorem S_mul_right (n : Nat) (c : Int) (f : Nat → Int) : S n f * c = S n (fun i => f i * c) := by
  rw [Int.mul_comm, S_mul]
  exact S_congr fun i _ => Int.mul_comm _ _
theorem pick_pow {q x : Int} {n i l : Nat} (hx : M q (x ^ n) (-1)) (hi : i < n) (hl : l < n) (c : Int) :
    M q (S n (fun m => (if i + l = m then c else if i + l = m + n then -c else 0) * x ^ m)) (c * x ^ (i + l)) := by
  by_cases h : i + l < n
  · refine S_pick h (fun m hm hne => ?_) ?_
    · rw [if_neg (Ne.symm hne), if_neg (by omega), Int.zero_mul]; exact M.rfl
    · rw [if_pos rfl]; exact M.rfl
  · refine S_pick (k := i + l - n) (by omega) (fun m hm hne => ?_) ?_
    · rw [if_neg (by omega), if_neg (by omega), Int.zero_mul]; exact M.rfl
    · rw [if_neg (by omega), if_pos (by omega)]
      have e : c * x ^ (i + l) = c * x ^ (i + l - n) * x ^ n := by
        rw [Int.mul_assoc, ← Int.pow_add]; congr 2; omega
      rw [e]
      have := (M.rfl (q := q) (a := c * x ^ (i + l - n))).mul hx
      rw [Int.mul_neg, Int.mul_one] at this
      rw [Int.neg_mul]
      exact this.symm
/-- The values of a product are the products of the values. -/
theorem eval_nega {q x : Int} {n : Nat} (hx : M q (x ^ n) (-1)) (a b : Nat → Int) :
    M q (S n (fun m => nega n a b m * x ^ m)) (S n (fun i => a i * x ^ i) * S n (fun l => b l * x ^ l)) := by
  have e1 : S n (fun m => nega n a b m * x ^ m) = S n (fun i => S n (fun l => S n (fun m => (if i + l = m then a i * b l else if i + l = m + n then -(a i * b l) else 0) * x ^ m))) := by
    unfold nega
    rw [S_congr (g := fun m => S n (fun i => S n (fun l => (if i + l = m then a i * b l else if i + l = m + n then -(a i * b l) else 0) * x ^ m))) (fun m _ => by
      rw [S_mul_right]
      exact S_congr fun i _ => S_mul_right _ _ _)]
    rw [S_swap]
    exact S_congr fun i _ => S_swap _ _ _
  have e2 : S n (fun i => a i * x ^ i) * S n (fun l => b l * x ^ l) = S n (fun i => S n (fun l => a i * b l * x ^ (i + l))) := by
    rw [S_mul_right]
    refine S_congr fun i _ => ?_
    rw [S_mul]
    refine S_congr fun l _ => ?_
    rw [Int.pow_add, Int.mul_assoc, Int.mul_assoc, ← Int.mul_assoc (x ^ i), Int.mul_comm (x ^ i) (b l), Int.mul_assoc]
  rw [e1, e2]
  exact S_M fun i hi => S_M fun l hl => pick_pow hx hi hl _
theorem vals_nega {q w : Int} {n : Nat} (hw : M q (w ^ n) (-1)) (a b : Nat → Int) (j : Nat) : M q (vals w n (nega n a b) j) (vals w n a j * vals w n b j) := by
  have hx : M q ((w ^ (2 * j + 1)) ^ n) (-1) := by
    rw [← Int.pow_mul, Nat.mul_comm, Int.pow_mul]
    exact (hw.pow (2 * j + 1)).trans (M.of (odd_minus (by omega)))
  have := eval_nega hx a b
  unfold vals
  rw [S_congr (g := fun m => nega n a b m * (w ^ (2 * j + 1)) ^ m) (fun m _ => by rw [Int.pow_mul]), S_congr (f := fun i => a i * w ^ ((2 * j + 1) * i)) (g := fun i => a i * (w ^ (2 * j + 1)) ^ i) (fun m _ => by rw [Int.pow_mul]), S_congr (f := fun i => b i * w ^ ((2 * j + 1) * i)) (g := fun i => b i * (w ^ (2 * j + 1)) ^ i) (fun m _ => by rw [Int.pow_mul])]
  exact this
/-- What has the same values, is the same. -/
theorem vals_inj {q w v r : Int} {k : Nat} (hw : M q (w ^ (2 ^ k)) (-1)) (hv : M q (v ^ (2 ^ k)) (-1)) (hwv : M q (w * v) 1) (hr : M q (((2 ^ k : Nat) : Int) * r) 1) {a b : Nat → Int}
    (h : ∀ j, j < 2 ^ k → M q (vals w (2 ^ k) a j) (vals w (2 ^ k) b j)) {i : Nat} (hi : i < 2 ^ k) : M q (a i) (b i) := by
  have h1 := (back_vals hw hv hwv a hi).symm
  have h2 := back_vals hw hv hwv b hi
  have h3 : M q (back v (2 ^ k) (vals w (2 ^ k) a) i) (back v (2 ^ k) (vals w (2 ^ k) b) i) := S_M fun j hj => (h j hj).mul M.rfl
  have h4 := (h1.trans (h3.trans h2)).mul (M.rfl (a := r))
  have one : ∀ x : Int, M q (((2 ^ k : Nat) : Int) * x * r) x := fun x => by
    rw [mul_four]
    have := hr.mul (M.rfl (a := x))
    rwa [Int.one_mul] at this
  exact (one (a i)).symm.trans (h4.trans (one (b i)))
end Go.Proofs.YtcnogmhkffohgaaGreatDoor

/-
  Plain arithmetic of slots: where the odd powers of 3 stand among a polynomial's values, sums over all places slot by slot, values of a turned polynomial.
-/
namespace Go.Proofs.YtcnogmhkffohgaaGreatDoor
set_option linter.unusedVariables false
set_option maxRecDepth 100000

/-- The rings of the laws. -/
def Sml (n : Nat) : Prop := n = 8 ∨ n = 16 ∨ n = 32 ∨ n = 64
/-- The power of the root whose value is a slot's. -/
def pw3 (n i : Nat) : Nat := 3 ^ i % (2 * n)
/-- Where it stands. -/
def atB (n i : Nat) : Nat := (pw3 n i - 1) / 2
/-- The slot of a place. -/
def slB (n j : Nat) : Nat := ((List.range (n / 2)).find? fun i => Nat.beq (atB n i) j || Nat.beq (n - 1 - atB n i) j).getD 0
theorem pw3_odd (n i : Nat) : pw3 n i % 2 = 1 := by
  unfold pw3
  rw [Nat.mod_mul_right_mod]
  induction i with
  | zero => rfl
  | succ i ih => rw [Nat.pow_succ, Nat.mul_mod, ih]
theorem pw3_at (n i : Nat) : pw3 n i = 2 * atB n i + 1 := by
  have := pw3_odd n i
  unfold atB
  omega
theorem at_lt {n : Nat} (hn : 0 < n) (i : Nat) : atB n i < n := by
  have h := pw3_at n i
  have : pw3 n i < 2 * n := Nat.mod_lt _ (by omega)
  omega
theorem pw3_next (n i : Nat) : pw3 n (i + 1) = pw3 n i * 3 % (2 * n) := by
  unfold pw3
  rw [Nat.pow_succ, Nat.mod_mul_mod]
theorem sl_all8 : ∀ i, i < 4 → ∀ j, j < 8 → (slB 8 j = i ↔ (j = atB 8 i ∨ j = 8 - 1 - atB 8 i)) := by decide +kernel
theorem sl_all16 : ∀ i, i < 8 → ∀ j, j < 16 → (slB 16 j = i ↔ (j = atB 16 i ∨ j = 16 - 1 - atB 16 i)) := by decide +kernel
theorem sl_all32 : ∀ i, i < 16 → ∀ j, j < 32 → (slB 32 j = i ↔ (j = atB 32 i ∨ j = 32 - 1 - atB 32 i)) := by decide +kernel
theorem sl_all64 : ∀ i, i < 32 → ∀ j, j < 64 → (slB 64 j = i ↔ (j = atB 64 i ∨ j = 64 - 1 - atB 64 i)) := by decide +kernel
theorem sl_iff {n : Nat} (h : Sml n) {i j : Nat} (hi : i < n / 2) (hj : j < n) : slB n j = i ↔ (j = atB n i ∨ j = n - 1 - atB n i) := by
  rcases h with rfl | rfl | rfl | rfl
  · exact sl_all8 i hi j hj
  · exact sl_all16 i hi j hj
  · exact sl_all32 i hi j hj
  · exact sl_all64 i hi j hj
theorem sl_at {n : Nat} (h : Sml n) {i : Nat} (hi : i < n / 2) : slB n (atB n i) = i := (sl_iff h hi (at_lt (by omega) i)).2 (.inl rfl)
/-- Sums over a list. -/
def LS (l : List Nat) (f : Nat → Int) : Int := l.foldr (fun a b => f a + b) 0
theorem LS_append (l l' : List Nat) (f : Nat → Int) : LS (l ++ l') f = LS l f + LS l' f := by
  induction l with
  | nil => simp [LS]
  | cons a l ih => simp only [List.cons_append, LS, List.foldr_cons] at ih ⊢; rw [ih]; omega
theorem S_list (n : Nat) (f : Nat → Int) : S n f = LS (List.range n) f := by
  induction n with
  | zero => rfl
  | succ n ih => rw [List.range_succ, LS_append, S, ih]; simp [LS]
theorem LS_perm {l l' : List Nat} (h : l.Perm l') (f : Nat → Int) : LS l f = LS l' f := by
  induction h with
  | nil => rfl
  | cons a _ ih => simp only [LS, List.foldr_cons] at ih ⊢; rw [ih]
  | swap a b l => simp only [LS, List.foldr_cons]; omega
  | trans _ _ h1 h2 => rw [h1, h2]
theorem LS_flat (l : List Nat) (g h : Nat → Nat) (f : Nat → Int) : LS (l.flatMap fun i => [g i, h i]) f = LS l (fun i => f (g i) + f (h i)) := by
  induction l with
  | nil => rfl
  | cons a l ih => rw [List.flatMap_cons, LS_append, ih]; simp only [LS, List.foldr_cons, List.foldr_nil]; omega
theorem perm_of {l l' : List Nat} (h : l.isPerm l' = true) : l.Perm l' := List.isPerm_iff.1 h
theorem places_perm {n : Nat} (h : Sml n) : (List.range n).Perm ((List.range (n / 2)).flatMap fun i => [atB n i, n - 1 - atB n i]) := by
  rcases h with rfl | rfl | rfl | rfl <;> exact perm_of (by decide +kernel)
/-- A sum over all places, slot by slot. -/
theorem S_slots {n : Nat} (h : Sml n) (f : Nat → Int) : S n f = S (n / 2) (fun i => f (atB n i) + f (n - 1 - atB n i)) := by
  rw [S_list, LS_perm (places_perm h), LS_flat, ← S_list]
theorem pw3_half {n : Nat} (h : Sml n) : pw3 n (n / 2) = 1 := by
  rcases h with rfl | rfl | rfl | rfl <;> decide +kernel
theorem pw3_add (n i k : Nat) : pw3 n (i + k) = pw3 n i * pw3 n k % (2 * n) := by
  unfold pw3
  rw [Nat.pow_add, ← Nat.mul_mod]
/-- Slots moved by a step. -/
theorem pw3_mod {n : Nat} (h : Sml n) (i : Nat) : pw3 n (i % (n / 2)) = pw3 n i := by
  have e := Nat.div_add_mod i (n / 2)
  generalize i / (n / 2) = d at e
  generalize i % (n / 2) = r at e
  subst e
  have hz : ∀ d, pw3 n (n / 2 * d + r) = pw3 n r := fun d => by
    induction d with
    | zero => rw [Nat.mul_zero, Nat.zero_add]
    | succ d ih =>
      rw [Nat.mul_succ, Nat.add_right_comm, pw3_add, pw3_half h, ih, Nat.mul_one]
      exact Nat.mod_mod _ _
  exact (hz d).symm
/-- X to the power n is -1: powers come again, the sign turned. -/
theorem pow_wrap {q x : Int} {n : Nat} (hx : M q (x ^ n) (-1)) (e : Nat) : M q (x ^ (2 * n * e)) 1 := by
  rw [Int.pow_mul, Nat.mul_comm 2 n, Int.pow_mul]
  refine ((hx.pow 2).pow e).trans (M.of ?_)
  rw [show ((-1 : Int) ^ 2) = 1 by decide, Int.one_pow]
theorem pow_modn {q x : Int} {n : Nat} (hx : M q (x ^ n) (-1)) (e : Nat) : M q (x ^ e) (x ^ (e % (2 * n))) := by
  have h := Nat.div_add_mod e (2 * n)
  have h1 : x ^ e = x ^ (2 * n * (e / (2 * n))) * x ^ (e % (2 * n)) := by rw [← Int.pow_add, h]
  rw [h1]
  have := (pow_wrap hx (e / (2 * n))).mul (M.rfl (a := x ^ (e % (2 * n))))
  rwa [Int.one_mul] at this
theorem S_put {n p : Nat} (hp : p < n) (g c : Nat → Int) (v : Int) (h0 : g p = 0) : S n (fun j => (if j = p then v else g j) * c j) = S n (fun j => g j * c j) + v * c p := by
  have h1 : S n (fun j => (if j = p then v else g j) * c j) = S n (fun j => g j * c j) + S n (fun j => if j = p then v * c p else 0) := by
    rw [S_add]
    refine S_congr fun j _ => ?_
    by_cases e : j = p
    · subst e; rw [if_pos rfl, if_pos rfl, h0]; omega
    · rw [if_neg e, if_neg e]; omega
  rw [h1, S_one hp _ (fun i _ hne => if_neg hne), if_pos rfl]
end Go.Proofs.YtcnogmhkffohgaaGreatDoor
