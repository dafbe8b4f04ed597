/-
  Plain arithmetic of digits: what a list of digits is worth, the digits of a number, and that digits without noughts at the end are the digits of what they are worth. Any base from 2 on.
-/
import Derived.WalkKit
import Derived.Lib.Hide
import Derived.Deep.Draws
namespace Go.Proofs.Ytdnjjpkajiehgaa
open Go.RowKit
set_option maxRecDepth 100000

/-- What digits are worth, the lowest first. -/
def vl (b : Nat) : List Nat → Nat
  | [] => 0
  | x :: xs => x + b * vl b xs
/-- The digits of a number, by so many steps. -/
def dgF (b : Nat) : Nat → Nat → List Nat
  | 0, _ => []
  | f + 1, n => if n = 0 then [] else n % b :: dgF b f (n / b)
def dg (b n : Nat) : List Nat := dgF b n n

theorem vl_nil (b : Nat) : vl b [] = 0 := rfl
theorem vl_cons (b x : Nat) (xs : List Nat) : vl b (x :: xs) = x + b * vl b xs := rfl
theorem vl_append (b : Nat) (xs ys : List Nat) : vl b (xs ++ ys) = vl b xs + b ^ xs.length * vl b ys := by
  induction xs with
  | nil => simp [vl_nil]
  | cons x xs ih => rw [List.cons_append, vl_cons, vl_cons, ih, List.length_cons, Nat.pow_succ, Nat.mul_add, Nat.add_assoc, ← Nat.mul_assoc, Nat.mul_comm b (b ^ _)]
theorem vl_snoc (b : Nat) (xs : List Nat) (y : Nat) : vl b (xs ++ [y]) = vl b xs + b ^ xs.length * y := by
  rw [vl_append, vl_cons, vl_nil]; simp
theorem vl_lt {b : Nat} {xs : List Nat} (h : ∀ x ∈ xs, x < b) : vl b xs < b ^ xs.length := by
  induction xs with
  | nil => simp [vl_nil]
  | cons x xs ih =>
    have h1 := h x List.mem_cons_self
    have h2 := ih fun y hy => h y (List.mem_cons_of_mem _ hy)
    rw [vl_cons, List.length_cons, Nat.pow_succ, Nat.mul_comm (b ^ _)]
    have h3 : b * vl b xs + b ≤ b * b ^ xs.length := by rw [← Nat.mul_succ]; exact Nat.mul_le_mul_left b h2
    omega
theorem vl_zeros {b : Nat} {xs : List Nat} (h : ∀ (j x : Nat), xs[j]? = some x → x = 0) : vl b xs = 0 := by
  induction xs with
  | nil => rfl
  | cons x xs ih =>
    rw [vl_cons, h 0 x rfl, ih fun j y hy => h (j + 1) y hy]
    simp
theorem dgF_fuel {b : Nat} (hb : 2 ≤ b) : ∀ (f n g : Nat), n ≤ f → n ≤ g → dgF b f n = dgF b g n := by
  intro f
  induction f with
  | zero => intro n g h _; obtain rfl : n = 0 := by omega
            cases g <;> simp [dgF]
  | succ f ih =>
    intro n g h1 h2
    cases g with
    | zero => obtain rfl : n = 0 := by omega
              simp [dgF]
    | succ g =>
      simp only [dgF]
      split
      · rfl
      · have hd : n / b < n := Nat.div_lt_self (by omega) (by omega)
        rw [ih (n / b) g (by omega) (by omega)]
theorem dg_zero (b : Nat) : dg b 0 = [] := rfl
theorem dg_pos {b n : Nat} (hb : 2 ≤ b) (hn : 0 < n) : dg b n = n % b :: dg b (n / b) := by
  have hd : n / b < n := Nat.div_lt_self (by omega) (by omega)
  unfold dg
  cases n with
  | zero => omega
  | succ m =>
    simp only [dgF]
    rw [if_neg (by omega), dgF_fuel hb m _ ((m + 1) / b) (by omega) (by omega)]
theorem vl_dg {b : Nat} (hb : 2 ≤ b) (n : Nat) : vl b (dg b n) = n := by
  induction n using Nat.strongRecOn with
  | _ n ih =>
    rcases Nat.eq_zero_or_pos n with h | h
    · subst h; rfl
    · rw [dg_pos hb h, vl_cons, ih (n / b) (Nat.div_lt_self h (by omega))]
      exact Nat.mod_add_div n b
theorem dg_lt {b : Nat} (hb : 2 ≤ b) (n : Nat) : ∀ x ∈ dg b n, x < b := by
  induction n using Nat.strongRecOn with
  | _ n ih =>
    rcases Nat.eq_zero_or_pos n with h | h
    · subst h; simp [dg_zero]
    · rw [dg_pos hb h]
      intro x hx
      rcases List.mem_cons.1 hx with rfl | hx
      · exact Nat.mod_lt _ (by omega)
      · exact ih (n / b) (Nat.div_lt_self h (by omega)) x hx
theorem dg_nil {b n : Nat} (hb : 2 ≤ b) (h : dg b n = []) : n = 0 := by
  have := vl_dg hb n
  rw [h, vl_nil] at this
  exact this.symm
/-- What is left of digits when the noughts at their end are cut off. -/
theorem take_dg {b : Nat} (hb : 2 ≤ b) : ∀ (xs : List Nat) (n : Nat), (∀ x ∈ xs, x < b) → n ≤ xs.length → (∀ (j x : Nat), n ≤ j → xs[j]? = some x → x = 0) → (n = 0 ∨ xs[n - 1]? ≠ some 0) → xs.take n = dg b (vl b xs) := by
  intro xs
  induction xs with
  | nil => intro n _ _ _ _; simp [vl_nil, dg_zero]
  | cons x xs ih =>
    intro n hlt hn hz hl
    cases n with
    | zero => rw [vl_zeros fun j y hy => hz j y (Nat.zero_le _) hy]; rfl
    | succ n =>
      have h1 := hlt x List.mem_cons_self
      have ih' := ih n (fun y hy => hlt y (List.mem_cons_of_mem _ hy)) (by simpa using hn) (fun j y hj hy => hz (j + 1) y (by omega) hy) (by
        cases n with
        | zero => exact .inl rfl
        | succ n => rcases hl with hl | hl
                    · omega
                    · right; simpa using hl)
      have hpos : 0 < x + b * vl b xs := by
        cases n with
        | zero =>
          rcases hl with hl | hl
          · omega
          · have : x ≠ 0 := by intro h; subst h; exact hl rfl
            omega
        | succ n =>
          have : vl b xs ≠ 0 := by
            intro h
            rw [h, dg_zero] at ih'
            have h5 := congrArg List.length ih'
            rw [List.length_take, List.length_nil] at h5
            rw [List.length_cons] at hn
            omega
          have := Nat.mul_le_mul_left b (show 1 ≤ vl b xs by omega)
          omega
      rw [List.take_succ_cons, ih', vl_cons, dg_pos hb hpos, Nat.add_mul_mod_self_left, Nat.mod_eq_of_lt h1, Nat.add_mul_div_left _ _ (by omega), Nat.div_eq_of_lt h1, Nat.zero_add]
theorem dg_unique {b : Nat} (hb : 2 ≤ b) (xs : List Nat) (h : ∀ x ∈ xs, x < b) (hl : xs.length = 0 ∨ xs[xs.length - 1]? ≠ some 0) : xs = dg b (vl b xs) := by
  have := take_dg hb xs xs.length h (Nat.le_refl _) (fun j x hj hx => by have := (List.getElem?_eq_some_iff.1 hx).1; omega) hl
  rwa [List.take_length] at this
theorem dg_len {b : Nat} (hb : 2 ≤ b) (n : Nat) (hn : 0 < n) : 0 < (dg b n).length ∧ b ^ ((dg b n).length - 1) ≤ n ∧ n < b ^ (dg b n).length := by
  induction n using Nat.strongRecOn with
  | _ n ih =>
    rw [dg_pos hb hn, List.length_cons, Nat.add_sub_cancel]
    have hm := Nat.mod_add_div n b
    have hr := Nat.mod_lt n (show 0 < b by omega)
    rcases Nat.eq_zero_or_pos (n / b) with h0 | h0
    · rw [h0] at hm ⊢
      simp [dg_zero]
      omega
    · obtain ⟨h1, h2, h3⟩ := ih (n / b) (Nat.div_lt_self hn (by omega)) h0
      have e : b ^ (dg b (n / b)).length = b * b ^ ((dg b (n / b)).length - 1) := by
        conv => lhs; rw [show (dg b (n / b)).length = ((dg b (n / b)).length - 1) + 1 by omega, Nat.pow_succ, Nat.mul_comm]
      refine ⟨by omega, ?_, ?_⟩
      · rw [e]
        have := Nat.mul_le_mul_left b h2
        omega
      · rw [Nat.pow_succ, Nat.mul_comm]
        have := Nat.mul_le_mul_left b (show n / b + 1 ≤ _ from h3)
        rw [Nat.mul_add] at this
        omega
/-- So many digits are enough. -/
theorem dg_len_le {b : Nat} (hb : 2 ≤ b) {n k : Nat} (h : n < b ^ k) : (dg b n).length ≤ k := by
  rcases Nat.eq_zero_or_pos n with h0 | h0
  · subst h0; simp [dg_zero]
  · obtain ⟨h1, h2, _⟩ := dg_len hb n h0
    have h3 : b ^ ((dg b n).length - 1) < b ^ k := by omega
    have := (Nat.pow_lt_pow_iff_right (show 1 < b by omega)).1 h3
    omega
/-- The number with more digits is the greater one. -/
theorem dg_len_lt {b : Nat} (hb : 2 ≤ b) {n m : Nat} (h : (dg b n).length < (dg b m).length) : n < m := by
  rcases Nat.lt_or_ge n m with h0 | h0
  · exact h0
  · exfalso
    rcases Nat.eq_zero_or_pos n with h1 | h1
    · have : m = 0 := by omega
      subst this; simp [dg_zero] at h
    · obtain ⟨_, _, h3⟩ := dg_len hb n h1
      have := dg_len_le hb (show m < b ^ (dg b n).length by omega)
      omega
end Go.Proofs.Ytdnjjpkajiehgaa

/-
  Plain arithmetic of digits: sums and differences a digit at a time.
-/
namespace Go.Proofs.Ytdnjjpkajiehgaa
set_option maxRecDepth 100000

/-- A difference's first k digits, and what is borrowed of the next. -/
def SubInv (b : Nat) (xs ys : List Nat) (k : Nat) (zs : List Nat) (C : Nat) : Prop :=
  zs.length = k ∧ (∀ x ∈ zs, x < b) ∧ C ≤ 1 ∧ vl b zs + vl b (ys.take k) = vl b (xs.take k) + b ^ k * C ∧ (∀ x ∈ xs, x < b) ∧ (∀ y ∈ ys, y < b)
theorem take_next {xs : List Nat} {k x : Nat} (h : xs[k]? = some x) : xs.take (k + 1) = xs.take k ++ [x] := by
  rw [List.take_add_one, h]; rfl
theorem take_over {xs : List Nat} {k : Nat} (h : xs[k]? = none) : xs.take (k + 1) = xs.take k := by
  rw [List.take_add_one, h]; simp
/-- What k + 1 digits are worth, the last one 0 if there is none. -/
theorem vl_take_next (b : Nat) (xs : List Nat) (k : Nat) : vl b (xs.take (k + 1)) = vl b (xs.take k) + b ^ k * xs[k]?.getD 0 := by
  rcases h : xs[k]? with _ | x
  · rw [take_over h]; simp
  · rw [take_next h, vl_snoc]
    have := (List.getElem?_eq_some_iff.1 h).1
    rw [List.length_take, Nat.min_eq_left (by omega)]
    rfl
theorem getD_lt {b : Nat} {xs : List Nat} (hb : 0 < b) (h : ∀ x ∈ xs, x < b) (k : Nat) : xs[k]?.getD 0 < b := by
  rcases e : xs[k]? with _ | x
  · exact hb
  · exact h x (List.mem_of_getElem? e)
theorem snoc_lt {b z : Nat} {zs : List Nat} (h : ∀ x ∈ zs, x < b) (hz : z < b) : ∀ x ∈ zs ++ [z], x < b := by
  intro x hx
  rcases List.mem_append.1 hx with hx | hx
  · exact h x hx
  · rw [List.mem_singleton.1 hx]; exact hz

/-- A digit of a difference, and what is borrowed: by words. -/
def sbW (x y c : Nat) : Nat := (x + (18446744073709551616 - y) - c) % 18446744073709551616
def sbC (x y c : Nat) : Nat := if x < y + c then 1 else 0
theorem sb_eq {x y c : Nat} (hx : x < 18446744073709551616) (hy : y < 18446744073709551616) (hc : c ≤ 1) :
    sbW x y c + y + c = x + 18446744073709551616 * sbC x y c ∧ sbW x y c < 18446744073709551616 ∧ sbC x y c ≤ 1 := by
  unfold sbW sbC
  split <;> omega
theorem sb_int {x y c : Nat} (hx : x < 18446744073709551616) (hy : y < 18446744073709551616) (hc : c ≤ 1) :
    ((x : Int) - y - c) % 18446744073709551616 = (sbW x y c : Nat) ∧ -(((x : Int) - y - c) / 18446744073709551616) = (sbC x y c : Nat) := by
  have := sb_eq hx hy hc
  omega
theorem subInv_zero {b : Nat} {xs ys : List Nat} (hx : ∀ x ∈ xs, x < b) (hy : ∀ y ∈ ys, y < b) : SubInv b xs ys 0 [] 0 := by
  refine ⟨rfl, by simp, by omega, by simp [vl_nil], hx, hy⟩
theorem SubInv.step {b : Nat} {xs ys zs : List Nat} {k C : Nat} (h : SubInv b xs ys k zs C) {x z C' : Nat} (hx : xs[k]? = some x) (e : z + ys[k]?.getD 0 + C = x + b * C') (hz : z < b) (hC : C' ≤ 1) : SubInv b xs ys (k + 1) (zs ++ [z]) C' := by
  obtain ⟨h1, h2, h3, h4, h5, h6⟩ := h
  refine ⟨by simp [h1], snoc_lt h2 hz, hC, ?_, h5, h6⟩
  rw [vl_snoc, h1, vl_take_next b ys, vl_take_next b xs, hx, Nat.pow_succ, Nat.mul_assoc]
  have : b ^ k * (z + ys[k]?.getD 0 + C) = b ^ k * (x + b * C') := by rw [e]
  rw [Nat.mul_add, Nat.mul_add, Nat.mul_add] at this
  simp only [Option.getD_some]
  omega
theorem SubInv.done {b : Nat} {xs ys zs : List Nat} {k C : Nat} (h : SubInv b xs ys k zs C) (hx : xs.length = k) (hy : ys.length ≤ k) (hv : vl b ys ≤ vl b xs) : vl b zs = vl b xs - vl b ys ∧ (∀ x ∈ zs, x < b) := by
  obtain ⟨h1, h2, h3, h4, h5, h6⟩ := h
  rw [List.take_of_length_le (by omega), List.take_of_length_le (by omega)] at h4
  have h7 := vl_lt h2
  rw [h1] at h7
  refine ⟨?_, h2⟩
  rcases Nat.eq_zero_or_pos C with h0 | h0
  · subst h0; omega
  · obtain rfl : C = 1 := by omega
    omega

/-- A sum's first k digits, and what is carried to the next. -/
def AddInv (b : Nat) (xs ys : List Nat) (k : Nat) (zs : List Nat) (C : Nat) : Prop :=
  zs.length = k ∧ (∀ x ∈ zs, x < b) ∧ C ≤ 1 ∧ vl b zs + b ^ k * C = vl b (xs.take k) + vl b (ys.take k)
theorem addInv_zero {b : Nat} {xs ys : List Nat} : AddInv b xs ys 0 [] 0 := ⟨rfl, by simp, by omega, by simp [vl_nil]⟩
theorem AddInv.step {b : Nat} {xs ys zs : List Nat} {k C : Nat} (h : AddInv b xs ys k zs C) {z C' : Nat} (e : z + b * C' = xs[k]?.getD 0 + ys[k]?.getD 0 + C) (hz : z < b) (hC : C' ≤ 1) : AddInv b xs ys (k + 1) (zs ++ [z]) C' := by
  obtain ⟨h1, h2, h3, h4⟩ := h
  refine ⟨by simp [h1], snoc_lt h2 hz, hC, ?_⟩
  rw [vl_snoc, h1, vl_take_next b ys, vl_take_next b xs, Nat.pow_succ, Nat.mul_assoc]
  have : b ^ k * (z + b * C') = b ^ k * (xs[k]?.getD 0 + ys[k]?.getD 0 + C) := by rw [e]
  rw [Nat.mul_add, Nat.mul_add, Nat.mul_add] at this
  omega
theorem AddInv.done {b : Nat} {xs ys zs : List Nat} {k C : Nat} (h : AddInv b xs ys k zs C) (hx : xs.length ≤ k) (hy : ys.length ≤ k) (hb : 2 ≤ b) : vl b (zs ++ [C]) = vl b xs + vl b ys ∧ (∀ x ∈ zs ++ [C], x < b) := by
  obtain ⟨h1, h2, h3, h4⟩ := h
  rw [List.take_of_length_le (by omega), List.take_of_length_le (by omega)] at h4
  exact ⟨by rw [vl_snoc, h1]; exact h4, snoc_lt h2 (by omega)⟩
theorem ad_int (x y c : Nat) : ((x : Int) + y + c) % 18446744073709551616 = ((x + y + c) % 18446744073709551616 : Nat) ∧ ((x : Int) + y + c) / 18446744073709551616 = ((x + y + c) / 18446744073709551616 : Nat) := by
  omega

/-- How two numbers are held against each other. -/
def cmpS (m n : Nat) : Int := if m < n then -1 else if n < m then 1 else 0
theorem cmpS_lt {m n : Nat} (h : m < n) : cmpS m n = -1 := by unfold cmpS; rw [if_pos h]
theorem cmpS_gt {m n : Nat} (h : n < m) : cmpS m n = 1 := by unfold cmpS; rw [if_neg (by omega), if_pos h]
theorem cmpS_eq {m n : Nat} (h : m = n) : cmpS m n = 0 := by unfold cmpS; rw [if_neg (by omega), if_neg (by omega)]
theorem vl_split (b : Nat) (xs : List Nat) {j x : Nat} (h : xs[j]? = some x) : vl b xs = vl b (xs.take j) + b ^ j * x + b ^ (j + 1) * vl b (xs.drop (j + 1)) := by
  conv => lhs; rw [← List.take_append_drop (j + 1) xs]
  have hl := (List.getElem?_eq_some_iff.1 h).1
  rw [vl_append, vl_take_next, h, List.length_take, Nat.min_eq_left (by omega)]
  rfl
/-- The highest digit that is another one decides. -/
theorem cmp_at {b : Nat} {xs ys : List Nat} {j x y : Nat} (hx : xs[j]? = some x) (hy : ys[j]? = some y) (hlt : ∀ z ∈ xs, z < b) (hup : ∀ i, j < i → xs[i]? = ys[i]?) (h : x < y) : vl b xs < vl b ys := by
  rw [vl_split b xs hx, vl_split b ys hy]
  have e : xs.drop (j + 1) = ys.drop (j + 1) := by
    apply List.ext_getElem?
    intro i
    rw [List.getElem?_drop, List.getElem?_drop]
    exact hup _ (by omega)
  rw [e]
  have h1 := vl_lt (b := b) (xs := xs.take j) (fun z hz => hlt z (List.mem_of_mem_take hz))
  have hl := (List.getElem?_eq_some_iff.1 hx).1
  rw [List.length_take, Nat.min_eq_left (by omega)] at h1
  have h2 := Nat.mul_le_mul_left (b ^ j) h
  rw [Nat.mul_succ] at h2
  omega
theorem eq_of_up {xs ys : List Nat} (h : ∀ i, 0 ≤ i → xs[i]? = ys[i]?) : xs = ys := List.ext_getElem? fun i => h i (Nat.zero_le _)
theorem drop_next {xs : List Nat} {k : Nat} (h : k < xs.length) : ∃ x, xs[k]? = some x ∧ xs.drop k = x :: xs.drop (k + 1) :=
  ⟨xs[k], List.getElem?_eq_getElem h, List.drop_eq_getElem_cons h⟩

/-- A digit of a sum, and what is carried: by words. -/
def adW (x y c : Nat) : Nat := (x + y + c) % 18446744073709551616
def adC (x y c : Nat) : Nat := (x + y + c) / 18446744073709551616
theorem ad_eq {x y c : Nat} (hx : x < 18446744073709551616) (hy : y < 18446744073709551616) (hc : c ≤ 1) :
    adW x y c + 18446744073709551616 * adC x y c = x + y + c ∧ adW x y c < 18446744073709551616 ∧ adC x y c ≤ 1 := by
  unfold adW adC; omega
theorem adW_int (x y c : Nat) : ((x : Int) + y + c) % 18446744073709551616 = (adW x y c : Nat) ∧ ((x : Int) + y + c) / 18446744073709551616 = (adC x y c : Nat) := by
  unfold adW adC; omega
/-- A digit of a product with two numbers more, and what is carried: by words. -/
def muW (x y m c : Nat) : Nat := (x * y + m + c) % 18446744073709551616
def muC (x y m c : Nat) : Nat := (x * y + m + c) / 18446744073709551616
theorem mu_eq {x y m c : Nat} (hx : x < 18446744073709551616) (hy : y < 18446744073709551616) (hm : m < 18446744073709551616) (hc : c < 18446744073709551616) :
    muW x y m c + 18446744073709551616 * muC x y m c = x * y + m + c ∧ muW x y m c < 18446744073709551616 ∧ muC x y m c < 18446744073709551616 := by
  unfold muW muC
  have h : x * y ≤ 18446744073709551615 * 18446744073709551615 := Nat.mul_le_mul (by omega) (by omega)
  omega
theorem muW_int (x y m c : Nat) : ((x : Int) * y + m + c) % 18446744073709551616 = (muW x y m c : Nat) ∧ ((x : Int) * y + m + c) / 18446744073709551616 = (muC x y m c : Nat) := by
  have e : ((x : Int) * y + m + c) = ((x * y + m + c : Nat) : Int) := by simp
  rw [e]
  unfold muW muC
  omega
theorem AddInv.full {b : Nat} {xs ys zs : List Nat} {k C : Nat} (h : AddInv b xs ys k zs C) (hx : xs.length ≤ k) (hy : ys.length ≤ k) : vl b zs + b ^ k * C = vl b xs + vl b ys := by
  obtain ⟨h1, h2, h3, h4⟩ := h
  rwa [List.take_of_length_le hx, List.take_of_length_le hy] at h4

/-- So many times a number taken off, a digit at a time: ns stands where xs stood; Q is what is carried, C what is borrowed. -/
def TakeInv (b : Nat) (xs ds : List Nat) (q k : Nat) (ns : List Nat) (Q C : Nat) : Prop :=
  ns.length = k ∧ (∀ x ∈ ns, x < b) ∧ C ≤ 1 ∧ Q < b ∧ vl b ns + q * vl b (ds.take k) = vl b (xs.take k) + b ^ k * (Q + C)
theorem takeInv_zero {b : Nat} {xs ds : List Nat} {q : Nat} (hb : 0 < b) : TakeInv b xs ds q 0 [] 0 0 := ⟨rfl, by simp, by omega, hb, by simp [vl_nil]⟩
theorem TakeInv.step {b : Nat} {xs ds ns : List Nat} {q k Q C : Nat} (h : TakeInv b xs ds q k ns Q C) {t Q' z C' : Nat} (e1 : t + b * Q' = ds[k]?.getD 0 * q + Q) (e2 : z + t + C = xs[k]?.getD 0 + b * C') (hz : z < b) (hQ : Q' < b) (hC : C' ≤ 1) : TakeInv b xs ds q (k + 1) (ns ++ [z]) Q' C' := by
  obtain ⟨h1, h2, h3, h4, h5⟩ := h
  refine ⟨by simp [h1], snoc_lt h2 hz, hC, hQ, ?_⟩
  rw [vl_snoc, h1, vl_take_next b ds, vl_take_next b xs, Nat.pow_succ, Nat.mul_assoc, Nat.mul_add q, Nat.mul_left_comm q]
  have a1 : b ^ k * (t + b * Q') = b ^ k * (ds[k]?.getD 0 * q + Q) := by rw [e1]
  have a2 : b ^ k * (z + t + C) = b ^ k * (xs[k]?.getD 0 + b * C') := by rw [e2]
  rw [Nat.mul_comm q (ds[k]?.getD 0)]
  simp only [Nat.mul_add] at a1 a2 h5 ⊢
  omega
/-- So many times a number added, a digit at a time. -/
def TimesInv (b : Nat) (xs ds : List Nat) (q k : Nat) (ns : List Nat) (Q : Nat) : Prop :=
  ns.length = k ∧ (∀ x ∈ ns, x < b) ∧ Q < b ∧ vl b ns + b ^ k * Q = vl b (xs.take k) + q * vl b (ds.take k)
theorem timesInv_zero {b : Nat} {xs ds : List Nat} {q : Nat} (hb : 0 < b) : TimesInv b xs ds q 0 [] 0 := ⟨rfl, by simp, hb, by simp [vl_nil]⟩
theorem TimesInv.step {b : Nat} {xs ds ns : List Nat} {q k Q : Nat} (h : TimesInv b xs ds q k ns Q) {z Q' : Nat} (e1 : z + b * Q' = ds[k]?.getD 0 * q + xs[k]?.getD 0 + Q) (hz : z < b) (hQ : Q' < b) : TimesInv b xs ds q (k + 1) (ns ++ [z]) Q' := by
  obtain ⟨h1, h2, h4, h5⟩ := h
  refine ⟨by simp [h1], snoc_lt h2 hz, hQ, ?_⟩
  rw [vl_snoc, h1, vl_take_next b ds, vl_take_next b xs, Nat.pow_succ, Nat.mul_assoc, Nat.mul_add q, Nat.mul_left_comm q]
  have a1 : b ^ k * (z + b * Q') = b ^ k * (ds[k]?.getD 0 * q + xs[k]?.getD 0 + Q) := by rw [e1]
  rw [Nat.mul_comm q (ds[k]?.getD 0)]
  simp only [Nat.mul_add] at a1 h5 ⊢
  omega
end Go.Proofs.Ytdnjjpkajiehgaa
