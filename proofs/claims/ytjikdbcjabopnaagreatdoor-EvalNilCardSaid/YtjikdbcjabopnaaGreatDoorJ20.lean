import Derived.Test.YtjikdbcjabopnaaGreatDoorRows
namespace Go.Proofs.YtjikdbcjabopnaaGreatDoor
set_option linter.unusedVariables false
set_option maxRecDepth 100000
def S : Nat → (Nat → Int) → Int
 | 0, _ => 0
 | n + 1, f => S n f + f n
def M (q a b : Int) : Prop := a % q = b % q
theorem M.rfl {q a : Int} : M q a a := Eq.refl _
theorem M.symm {q a b : Int} (h : M q a b) : M q b a := Eq.symm h
theorem M.trans {q a b c : Int} (h : M q a b) (k : M q b c) : M q a c := Eq.trans h k
theorem M.of {q a b : Int} (h : a = b) : M q a b := by rw [h]; exact M.rfl
theorem M.add {q a b c d : Int} (h : M q a b) (k : M q c d) : M q (a + c) (b + d) := by
 unfold M at *; rw [Int.add_emod, h, k, ← Int.add_emod]
theorem M.mul {q a b c d : Int} (h : M q a b) (k : M q c d) : M q (a * c) (b * d) := by
 unfold M at *; rw [Int.mul_emod, h, k, ← Int.mul_emod]
theorem M.pow {q a b : Int} (h : M q a b) : ∀ n : Nat, M q (a ^ n) (b ^ n)
 | 0 => by rw [Int.pow_zero, Int.pow_zero]; exact M.rfl
 | n + 1 => by rw [Int.pow_succ, Int.pow_succ]; exact (M.pow h n).mul h
theorem S_congr {n : Nat} {f g : Nat → Int} (h : ∀ i, i < n → f i = g i) : S n f = S n g := by
 induction n with
 | zero => rfl
 | succ n ih => rw [S, S, ih (fun i hi => h i (by omega)), h n (by omega)]
theorem S_M {q : Int} {n : Nat} {f g : Nat → Int} (h : ∀ i, i < n → M q (f i) (g i)) : M q (S n f) (S n g) := by
 induction n with
 | zero => exact M.rfl
 | succ n ih => exact (ih (fun i hi => h i (by omega))).add (h n (by omega))
theorem S_mul (n : Nat) (c : Int) (f : Nat → Int) : c * S n f = S n (fun i => c * f i) := by
 induction n with
 | zero => simp [S]
 | succ n ih => rw [S, S, Int.mul_add, ih]
theorem odd_minus {d : Nat} (h : d % 2 = 1) : (-1 : Int) ^ d = -1 := by
 obtain ⟨m, rfl⟩ : ∃ m, d = 2 * m + 1 := ⟨d / 2, by omega⟩
 rw [Int.pow_succ, Int.pow_mul]
 have : ((-1 : Int) ^ 2) = 1 := by decide
 rw [this, Int.one_pow]; rfl
theorem cancel {q w v : Int} (hwv : M q (w * v) 1) (m : Nat) : M q (w ^ m * v ^ m) 1 := by
 have := hwv.pow m
 rwa [Int.one_pow, Int.mul_pow] at this
def Sml (n : Nat) : Prop := n = 8 ∨ n = 16 ∨ n = 32 ∨ n = 64
def pw3 (n i : Nat) : Nat := 3 ^ i % (2 * n)
def atB (n i : Nat) : Nat := (pw3 n i - 1) / 2
theorem pw3_odd (n i : Nat) : pw3 n i % 2 = 1 := by
 unfold pw3
 rw [Nat.mod_mul_right_mod]
 induction i with
 | zero => rfl
 | succ i ih => rw [Nat.pow_succ, Nat.mul_mod, ih]
theorem pw3_at (n i : Nat) : pw3 n i = 2 * atB n i + 1 := by
 have := pw3_odd n i
 unfold atB
 omega
theorem at_lt {n : Nat} (hn : 0 < n) (i : Nat) : atB n i < n := by
 have h := pw3_at n i
 have : pw3 n i < 2 * n := Nat.mod_lt _ (by omega)
 omega
theorem pw3_next (n i : Nat) : pw3 n (i + 1) = pw3 n i * 3 % (2 * n) := by
 unfold pw3
 rw [Nat.pow_succ, Nat.mod_mul_mod]
end Go.Proofs.YtjikdbcjabopnaaGreatDoor
