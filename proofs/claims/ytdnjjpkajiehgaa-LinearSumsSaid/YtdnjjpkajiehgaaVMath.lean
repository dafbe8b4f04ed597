/-
  Plain mathematics of tapes: the first draw that is good, numbers that are 0, 1 or -1, one behind the other; bits that are 1, counted as math/bits does.
-/
import Derived.WalkKit
import Derived.Deep.Draws
namespace Go.Proofs.Ytdnjjpkajiehgaa
open Go.RowKit
set_option linter.unusedVariables false
set_option maxRecDepth 100000

/-- The first draw that is good, and what is left behind it. -/
def firstS (g : Nat → Bool) : List Nat → Option Nat × List Nat
  | [] => (none, [])
  | x :: l => if g x = true then (some x, l) else firstS g l
theorem firstS_none {g : Nat → Bool} : ∀ {l r : List Nat}, firstS g l = (none, r) → r = []
  | [], r, h => by simp [firstS] at h; exact h
  | x :: l, r, h => by
    unfold firstS at h
    by_cases hg : g x = true
    · rw [if_pos hg] at h; cases h
    · rw [if_neg hg] at h; exact firstS_none h
theorem firstS_good {g : Nat → Bool} : ∀ {l r : List Nat} {x : Nat}, firstS g l = (some x, r) → g x = true ∧ r.length < l.length ∧ ∃ a, l = a ++ r
  | [], r, x, h => by simp [firstS] at h
  | y :: l, r, x, h => by
    unfold firstS at h
    by_cases hg : g y = true
    · rw [if_pos hg] at h
      injection h with h1 h2
      injection h1 with h1
      subst h1 h2
      exact ⟨hg, by simp, [y], rfl⟩
    · rw [if_neg hg] at h
      obtain ⟨h1, h2, a, h3⟩ := firstS_good h
      exact ⟨h1, by simp; omega, y :: a, by rw [h3]; rfl⟩
theorem firstS_mem {g : Nat → Bool} {l r : List Nat} {x : Nat} (h : firstS g l = (some x, r)) : x ∈ l := by
  induction l with
  | nil => simp [firstS] at h
  | cons y l ih =>
    unfold firstS at h
    by_cases hg : g y = true
    · rw [if_pos hg] at h
      injection h with h1 h2
      injection h1 with h1
      subst h1
      exact List.mem_cons_self
    · rw [if_neg hg] at h
      exact List.mem_cons_of_mem _ (ih h)
/-- Which draws tell 0, 1 or -1, and which of them. -/
def tgood (x : Nat) : Bool := !decide (x % 4 = 3)
def tval (x : Nat) : Int := if x % 4 = 2 then -1 else ((x % 4 : Nat) : Int)
theorem tval_le {x : Nat} (h : tgood x = true) : -1 ≤ tval x ∧ tval x ≤ 1 := by
  unfold tval
  simp [tgood] at h
  split <;> omega
/-- Which draws tell a number below q. -/
def bgood (q x : Nat) : Bool := decide (x ≤ 18446744073709551615 - (18446744073709551616 - q) % q)
/-- n numbers, one behind the other, and what is left. -/
def ternS (l : List Nat) : Nat → Option (List Int × List Nat)
  | 0 => some ([], l)
  | k + 1 => match ternS l k with
    | none => none
    | some (acc, r) => match firstS tgood r with
      | (none, _) => none
      | (some x, r') => some (acc ++ [tval x], r')
theorem ternS_next {l : List Nat} {k : Nat} {acc : List Int} {r r' : List Nat} {x : Nat} (h : ternS l k = some (acc, r)) (hf : firstS tgood r = (some x, r')) : ternS l (k + 1) = some (acc ++ [tval x], r') := by
  simp [ternS, h, hf]
theorem ternS_out {l : List Nat} {k : Nat} {acc : List Int} {r r' : List Nat} (h : ternS l k = some (acc, r)) (hf : firstS tgood r = (none, r')) : ternS l (k + 1) = none := by
  simp [ternS, h, hf]
theorem ternS_up {l : List Nat} {k : Nat} (h : ternS l k = none) : ∀ m, ternS l (k + m) = none
  | 0 => h
  | m + 1 => by rw [← Nat.add_assoc]; simp [ternS, ternS_up h m]
theorem ternS_less {l : List Nat} : ∀ {k : Nat} {acc : List Int} {r : List Nat}, ternS l k = some (acc, r) → r.length + k ≤ l.length ∧ acc.length = k ∧ ∃ a, l = a ++ r
  | 0, acc, r, h => by
    simp [ternS] at h
    obtain ⟨rfl, rfl⟩ := h
    exact ⟨by omega, rfl, [], rfl⟩
  | k + 1, acc, r, h => by
    unfold ternS at h
    cases h1 : ternS l k with
    | none => rw [h1] at h; cases h
    | some y =>
      obtain ⟨acc1, r1⟩ := y
      rw [h1] at h
      simp only at h
      obtain ⟨i1, i2, a, i3⟩ := ternS_less h1
      cases h2 : firstS tgood r1 with
      | mk o r2 =>
        rw [h2] at h
        cases o with
        | none => cases h
        | some x =>
          simp only [Option.some.injEq, Prod.mk.injEq] at h
          obtain ⟨rfl, rfl⟩ := h
          obtain ⟨_, j1, b, j2⟩ := firstS_good h2
          exact ⟨by omega, by simp; omega, a ++ b, by rw [i3, j2]; simp⟩
theorem ternS_over (l : List Nat) : ternS l (l.length + 1) = none := by
  cases h : ternS l (l.length + 1) with
  | none => rfl
  | some y =>
    obtain ⟨acc, r⟩ := y
    have := (ternS_less h).1
    omega

/-- Bits that are 1, counted in pairs, in fours, in bytes, and together. -/
def popA (x : Nat) : Nat := Nat.land (x / 2) 6148914691236517205 + Nat.land x 6148914691236517205
def popB (x : Nat) : Nat := Nat.land (x / 4) 3689348814741910323 + Nat.land x 3689348814741910323
def popC (x : Nat) : Nat := Nat.land (x / 16 + x) 1085102592571150095
def popD (x : Nat) : Nat := x + x / 256
def popE (x : Nat) : Nat := x + x / 65536
def popF (x : Nat) : Nat := x + x / 4294967296
def popS (x : Nat) : Nat := popF (popE (popD (popC (popB (popA x))))) % 128
theorem land_le (x m : Nat) : Nat.land x m ≤ x := Nat.and_le_left
theorem popA_le {x : Nat} (h : x < 65536) : popA x < 131072 := by
  unfold popA
  have h1 := land_le (x / 2) 6148914691236517205
  have h2 := land_le x 6148914691236517205
  omega
theorem popB_le {x : Nat} (h : x < 131072) : popB x < 262144 := by
  unfold popB
  have h1 := land_le (x / 4) 3689348814741910323
  have h2 := land_le x 3689348814741910323
  omega
theorem popC_le {x : Nat} (h : x < 262144) : popC x < 524288 := by
  unfold popC
  have h1 := land_le (x / 16 + x) 1085102592571150095
  omega
theorem popD_le {x : Nat} (h : x < 524288) : popD x < 1048576 := by unfold popD; omega
theorem popE_le {x : Nat} (h : x < 1048576) : popE x < 2097152 := by unfold popE; omega
theorem popF_le {x : Nat} (h : x < 2097152) : popF x < 4194304 := by unfold popF; omega
/-- So many numbers from n on have no more bits than they need. -/
def popRun : Nat → Nat → Bool
  | 0, _ => true
  | k + 1, n => cond (Nat.ble (2 ^ popS n) (n + 1)) (popRun k (n + 1)) false
theorem popRun_spec : ∀ k n, popRun k n = true → ∀ m, n ≤ m → m < n + k → 2 ^ popS m ≤ m + 1
  | 0, n, _, m, h0, h1 => by omega
  | k + 1, n, h, m, h0, h1 => by
    unfold popRun at h
    cases hb : Nat.ble (2 ^ popS n) (n + 1) with
    | false => rw [hb] at h; cases h
    | true =>
      rw [hb] at h
      by_cases e : m = n
      · subst e; exact Nat.le_of_ble_eq_true hb
      · exact popRun_spec k (n + 1) h m (by omega) (by omega)
set_option maxRecDepth 100000 in
theorem popRun_all : popRun 65536 0 = true := by decide +kernel
theorem popS_le {x w : Nat} (hw : w ≤ 16) (h : x < 2 ^ w) : popS x ≤ w := by
  have h1 : 2 ^ w ≤ 2 ^ 16 := Nat.pow_le_pow_right (by omega) hw
  have h2 := popRun_spec 65536 0 popRun_all x (by omega) (by omega)
  exact (Nat.pow_le_pow_iff_right (show 1 < 2 by omega)).1 (Nat.le_trans h2 h)
/-- An error: so many bits that are 1 of the lowest, less so many of those above them. -/
def errS (w x : Nat) : Int := (popS (x % 2 ^ w) : Int) - (popS (x / 2 ^ w % 2 ^ w) : Int)
theorem errS_le {w x : Nat} (hw : w ≤ 16) : -(w : Int) ≤ errS w x ∧ errS w x ≤ w := by
  have h0 : 0 < 2 ^ w := Nat.two_pow_pos w
  have h1 := popS_le hw (Nat.mod_lt x h0)
  have h2 := popS_le hw (Nat.mod_lt (x / 2 ^ w) h0)
  unfold errS
  omega
end Go.Proofs.Ytdnjjpkajiehgaa
