/-
  Plain arithmetic of digits: what a list of digits is worth, the digits of a number, and that digits without noughts at the end are the digits of what they are worth. Any base from 2 on.
-/
import Derived.WalkKit
import Derived.Lib.Hide
import Derived.Deep.Draws
namespace Go.Proofs.Ytdnjjpkajiehgaa
open Go.RowKit
set_option maxRecDepth 100000

/-- What digits are worth, the lowest first. -/
def vl (b : Nat) : List Nat → Nat
  | [] => 0
  | x :: xs => x + b * vl b xs
/-- The digits of a number, by so many steps. -/
def dgF (b : Nat) : Nat → Nat → List Nat
  | 0, _ => []
  | f + 1, n => if n = 0 then [] else n % b :: dgF b f (n / b)
def dg (b n : Nat) : List Nat := dgF b n n

theorem vl_nil (b : Nat) : vl b [] = 0 := rfl
theorem vl_cons (b x : Nat) (xs : List Nat) : vl b (x :: xs) = x + b * vl b xs := rfl
theorem vl_append (b : Nat) (xs ys : List Nat) : vl b (xs ++ ys) = vl b xs + b ^ xs.length * vl b ys := by
  induction xs with
  | nil => simp [vl_nil]
  | cons x xs ih => rw [List.cons_append, vl_cons, vl_cons, ih, List.length_cons, Nat.pow_succ, Nat.mul_add, Nat.add_assoc, ← Nat.mul_assoc, Nat.mul_comm b (b ^ _)]
theorem vl_snoc (b : Nat) (xs : List Nat) (y : Nat) : vl b (xs ++ [y]) = vl b xs + b ^ xs.length * y := by
  rw [vl_append, vl_cons, vl_nil]; simp
theorem vl_lt {b : Nat} {xs : List Nat} (h : ∀ x ∈ xs, x < b) : vl b xs < b ^ xs.length := by
  induction xs with
  | nil => simp [vl_nil]
  | cons x xs ih =>
    have h1 := h x List.mem_cons_self
    have h2 := ih fun y hy => h y (List.mem_cons_of_mem _ hy)
    rw [vl_cons, List.length_cons, Nat.pow_succ, Nat.mul_comm (b ^ _)]
    have h3 : b * vl b xs + b ≤ b * b ^ xs.length := by rw [← Nat.mul_succ]; exact Nat.mul_le_mul_left b h2
    omega
theorem vl_zeros {b : Nat} {xs : List Nat} (h : ∀ (j x : Nat), xs[j]? = some x → x = 0) : vl b xs = 0 := by
  induction xs with
  | nil => rfl
  | cons x xs ih =>
    rw [vl_cons, h 0 x rfl, ih fun j y hy => h (j + 1) y hy]
    simp
theorem dgF_fuel {b : Nat} (hb : 2 ≤ b) : ∀ (f n g : Nat), n ≤ f → n ≤ g → dgF b f n = dgF b g n := by
  intro f
  induction f with
  | zero => intro n g h _; obtain rfl : n = 0 := by omega
            cases g <;> simp [dgF]
  | succ f ih =>
    intro n g h1 h2
    cases g with
    | zero => obtain rfl : n = 0 := by omega
              simp [dgF]
    | succ g =>
      simp only [dgF]
      split
      · rfl
      · have hd : n / b < n := Nat.div_lt_self (by omega) (by omega)
        rw [ih (n / b) g (by omega) (by omega)]
theorem dg_zero (b : Nat) : dg b 0 = [] := rfl
theorem dg_pos {b n : Nat} (hb : 2 ≤ b) (hn : 0 < n) : dg b n = n % b :: dg b (n / b) := by
  have hd : n / b < n := Nat.div_lt_self (by omega) (by omega)
  unfold dg
  cases n with
  | zero => omega
  | succ m =>
    simp only [dgF]
    rw [if_neg (by omega), dgF_fuel hb m _ ((m + 1) / b) (by omega) (by omega)]
theorem vl_dg {b : Nat} (hb : 2 ≤ b) (n : Nat) : vl b (dg b n) = n := by
  induction n using Nat.strongRecOn with
  | _ n ih =>
    rcases Nat.eq_zero_or_pos n with h | h
    · subst h; rfl
    · rw [dg_pos hb h, vl_cons, ih (n / b) (Nat.div_lt_self h (by omega))]
      exact Nat.mod_add_div n b
theorem dg_lt {b : Nat} (hb : 2 ≤ b) (n : Nat) : ∀ x ∈ dg b n, x < b := by
  induction n using Nat.strongRecOn with
  | _ n ih =>
    rcases Nat.eq_zero_or_pos n with h | h
    · subst h; simp [dg_zero]
    · rw [dg_pos hb h]
      intro x hx
      rcases List.mem_cons.1 hx with rfl | hx
      · exact Nat.mod_lt _ (by omega)
      · exact ih (n / b) (Nat.div_lt_self h (by omega)) x hx
theorem dg_nil {b n : Nat} (hb : 2 ≤ b) (h : dg b n = []) : n = 0 := by
  have := vl_dg hb n
  rw [h, vl_nil] at this
  exact this.symm
/-- What is left of digits when the noughts at their end are cut off. -/
theorem take_dg {b : Nat} (hb : 2 ≤ b) : ∀ (xs : List Nat) (n : Nat), (∀ x ∈ xs, x < b) → n ≤ xs.length → (∀ (j x : Nat), n ≤ j → xs[j]? = some x → x = 0) → (n = 0 ∨ xs[n - 1]? ≠ some 0) → xs.take n = dg b (vl b xs) := by
  intro xs
  induction xs with
  | nil => intro n _ _ _ _; simp [vl_nil, dg_zero]
  | cons x xs ih =>
    intro n hlt hn hz hl
    cases n with
    | zero => rw [vl_zeros fun j y hy => hz j y (Nat.zero_le _) hy]; rfl
    | succ n =>
      have h1 := hlt x List.mem_cons_self
      have ih' := ih n (fun y hy => hlt y (List.mem_cons_of_mem _ hy)) (by simpa using hn) (fun j y hj hy => hz (j + 1) y (by omega) hy) (by
        cases n with
        | zero => exact .inl rfl
        | succ n => rcases hl with hl | hl
                    · omega
                    · right; simpa using hl)
      have hpos : 0 < x + b * vl b xs := by
        cases n with
        | zero =>
          rcases hl with hl | hl
          · omega
          · have : x ≠ 0 := by intro h; subst h; exact hl rfl
            omega
        | succ n =>
          have : vl b xs ≠ 0 := by
            intro h
            rw [h, dg_zero] at ih'
            have h5 := congrArg List.length ih'
            rw [List.length_take, List.length_nil] at h5
            rw [List.length_cons] at hn
            omega
          have := Nat.mul_le_mul_left b (show 1 ≤ vl b xs by omega)
          omega
      rw [List.take_succ_cons, ih', vl_cons, dg_pos hb hpos, Nat.add_mul_mod_self_left, Nat.mod_eq_of_lt h1, Nat.add_mul_div_left _ _ (by omega), Nat.div_eq_of_lt h1, Nat.zero_add]
theorem dg_unique {b : Nat} (hb : 2 ≤ b) (xs : List Nat) (h : ∀ x ∈ xs, x < b) (hl : xs.length = 0 ∨ xs[xs.length - 1]? ≠ some 0) : xs = dg b (vl b xs) := by
  have := take_dg hb xs xs.length h (Nat.le_refl _) (fun j x hj hx => by have := (List.getElem?_eq_some_iff.1 hx).1; omega) hl
  rwa [List.take_length] at this
theorem dg_len {b : Nat} (hb : 2 ≤ b) (n : Nat) (hn : 0 < n) : 0 < (dg b n).length ∧ b ^ ((dg b n).length - 1) ≤ n ∧ n < b ^ (dg b n).length := by
  induction n using Nat.strongRecOn with
  | _ n ih =>
    rw [dg_pos hb hn, List.length_cons, Nat.add_sub_cancel]
    have hm := Nat.mod_add_div n b
    have hr := Nat.mod_lt n (show 0 < b by omega)
    rcases Nat.eq_zero_or_pos (n / b) with h0 | h0
    · rw [h0] at hm ⊢
      simp [dg_zero]
      omega
    · obtain ⟨h1, h2, h3⟩ := ih (n / b) (Nat.div_lt_self hn (by omega)) h0
      have e : b ^ (dg b (n / b)).length = b * b ^ ((dg b (n / b)).length - 1) := by
        conv => lhs; rw [show (dg b (n / b)).length = ((dg b (n / b)).length - 1) + 1 by omega, Nat.pow_succ, Nat.mul_comm]
      refine ⟨by omega, ?_, ?_⟩
      · rw [e]
        have := Nat.mul_le_mul_left b h2
        omega
      · rw [Nat.pow_succ, Nat.mul_comm]
        have := Nat.mul_le_mul_left b (show n / b + 1 ≤ _ from h3)
        rw [Nat.mul_add] at this
        omega
/-- So many digits are enough. -/
theorem dg_len_le {b : Nat} (hb : 2 ≤ b) {n k : Nat} (h : n < b ^ k) : (dg b n).length ≤ k := by
  rcases Nat.eq_zero_or_pos n with h0 | h0
  · subst h0; simp [dg_zero]
  · obtain ⟨h1, h2, _⟩ := dg_len hb n h0
    have h3 : b ^ ((dg b n).length - 1) < b ^ k := by omega
    have := (Nat.pow_lt_pow_iff_right (show 1 < b by omega)).1 h3
    omega
/-- The number with more digits is the greater one. -/
theorem dg_len_lt {b : Nat} (hb : 2 ≤ b) {n m : Nat} (h : (dg b n).length < (dg b m).length) : n < m := by
  rcases Nat.lt_or_ge n m with h0 | h0
  · exact h0
  · exfalso
    rcases Nat.eq_zero_or_pos n with h1 | h1
    · have : m = 0 := by omega
      subst this; simp [dg_zero] at h
    · obtain ⟨_, _, h3⟩ := dg_len hb n h1
      have := dg_len_le hb (show m < b ^ (dg b n).length by omega)
      omega
end Go.Proofs.Ytdnjjpkajiehgaa
