import Derived.Test.YtkbcobjhlpjieaaGreatDoorRows
namespace Go.Proofs.YtkbcobjhlpjieaaGreatDoor
set_option linter.unusedVariables false
set_option maxRecDepth 100000
def S : Nat → (Nat → Int) → Int
 | 0, _ => 0
 | n + 1, f => S n f + f n
def M (q a b : Int) : Prop := a % q = b % q
theorem M.rfl {q a : Int} : M q a a := Eq.refl _
theorem M.symm {q a b : Int} (h : M q a b) : M q b a := Eq.symm h
theorem M.trans {q a b c : Int} (h : M q a b) (k : M q b c) : M q a c := Eq.trans h k
theorem M.of {q a b : Int} (h : a = b) : M q a b := by rw [h]; exact M.rfl
theorem M.add {q a b c d : Int} (h : M q a b) (k : M q c d) : M q (a + c) (b + d) := by
 unfold M at *; rw [Int.add_emod, h, k, ← Int.add_emod]
theorem M.mul {q a b c d : Int} (h : M q a b) (k : M q c d) : M q (a * c) (b * d) := by
 unfold M at *; rw [Int.mul_emod, h, k, ← Int.mul_emod]
theorem M.pow {q a b : Int} (h : M q a b) : ∀ n : Nat, M q (a ^ n) (b ^ n)
 | 0 => by rw [Int.pow_zero, Int.pow_zero]; exact M.rfl
 | n + 1 => by rw [Int.pow_succ, Int.pow_succ]; exact (M.pow h n).mul h
theorem S_congr {n : Nat} {f g : Nat → Int} (h : ∀ i, i < n → f i = g i) : S n f = S n g := by
 induction n with
 | zero => rfl
 | succ n ih => rw [S, S, ih (fun i hi => h i (by omega)), h n (by omega)]
theorem S_M {q : Int} {n : Nat} {f g : Nat → Int} (h : ∀ i, i < n → M q (f i) (g i)) : M q (S n f) (S n g) := by
 induction n with
 | zero => exact M.rfl
 | succ n ih => exact (ih (fun i hi => h i (by omega))).add (h n (by omega))
theorem S_mul (n : Nat) (c : Int) (f : Nat → Int) : c * S n f = S n (fun i => c * f i) := by
 induction n with
 | zero => simp [S]
 | succ n ih => rw [S, S, Int.mul_add, ih]
end Go.Proofs.YtkbcobjhlpjieaaGreatDoor
