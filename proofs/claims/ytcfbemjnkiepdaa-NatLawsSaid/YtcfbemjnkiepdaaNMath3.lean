/-
  Plain arithmetic of words: shifted naturals, and the guess of a quotient's word.
-/
import Derived.Test.YtcfbemjnkiepdaaNMath2
import Derived.Test.YtcfbemjnkiepdaaNRead
import Derived.Test.YtcfbemjnkiepdaaWMath
namespace Go.Proofs.Ytcfbemjnkiepdaa
open Go.RowKit
set_option linter.unusedVariables false

theorem pow_split (s : Nat) (h : s ≤ 64) : 2 ^ (64 - s) * 2 ^ s = 18446744073709551616 := by
  rw [← Nat.pow_add, show 64 - s + s = 64 by omega]
/-- A word shifted up, what came from below laid in; and what goes to the next one. -/
def shW (s x C : Nat) : Nat := x % 2 ^ (64 - s) * 2 ^ s + C
def shC (s x : Nat) : Nat := x / 2 ^ (64 - s)
theorem sh_eq {s x C : Nat} (hs : s < 64) (hx : x < 18446744073709551616) (hC : C < 2 ^ s) :
    shW s x C + 18446744073709551616 * shC s x = x * 2 ^ s + C ∧ shW s x C < 18446744073709551616 ∧ shC s x < 2 ^ s := by
  have hp := pow_split s (by omega)
  have p1 := Nat.two_pow_pos s
  have p2 := Nat.two_pow_pos (64 - s)
  unfold shW shC
  have h1 := Nat.mod_add_div x (2 ^ (64 - s))
  have h2 := Nat.mod_lt x p2
  refine ⟨?_, ?_, ?_⟩
  · conv => rhs; rw [← h1, Nat.add_mul, Nat.mul_right_comm, hp]
    omega
  · have := Nat.mul_le_mul_right (2 ^ s) (show x % 2 ^ (64 - s) + 1 ≤ 2 ^ (64 - s) by omega)
    rw [Nat.add_mul, hp] at this
    omega
  · refine Nat.div_lt_of_lt_mul ?_
    rw [hp]; exact hx
theorem sh_int {s x C : Nat} (hs : s < 64) (hx : x < 18446744073709551616) (hC : C < 2 ^ s) :
    bits .or .u64 (IntKind.u64.wrap ((x : Int) * 2 ^ s)) (C : Int) = (shW s x C : Nat) ∧ (x : Int) / 2 ^ (64 - s) = (shC s x : Nat) := by
  have hp := pow_split s (by omega)
  have p1 := Nat.two_pow_pos s
  have p2 := Nat.two_pow_pos (64 - s)
  have e1 : IntKind.u64.wrap ((x : Int) * 2 ^ s) = ((x % 2 ^ (64 - s) : Nat) : Int) * 2 ^ s := by
    rw [wrap64u, two_pow_cast, ← Int.natCast_mul, ← Int.natCast_mul]
    have h1 := Nat.mod_add_div x (2 ^ (64 - s))
    have e : x * 2 ^ s = x % 2 ^ (64 - s) * 2 ^ s + 18446744073709551616 * (x / 2 ^ (64 - s)) := by
      conv => lhs; rw [← h1, Nat.add_mul, Nat.mul_right_comm, hp]
    have l := Nat.mul_le_mul_right (2 ^ s) (show x % 2 ^ (64 - s) + 1 ≤ 2 ^ (64 - s) by have := Nat.mod_lt x p2; omega)
    rw [Nat.add_mul, hp] at l
    omega
  have l := Nat.mul_le_mul_right (2 ^ s) (show x % 2 ^ (64 - s) + 1 ≤ 2 ^ (64 - s) by have := Nat.mod_lt x p2; omega)
  rw [Nat.add_mul, hp] at l
  refine ⟨?_, ?_⟩
  · rw [e1, or_shift s _ _ (by omega) (by rw [two_pow_cast, ← Int.natCast_mul]; omega) (by omega) (by rw [two_pow_cast]; omega) hs, two_pow_cast, ← Int.natCast_mul, ← Int.natCast_add]
    rfl
  · rw [two_pow_cast, ← Int.natCast_ediv]; rfl
def ShInv (s : Nat) (xs : List Nat) (k : Nat) (zs : List Nat) (C : Nat) : Prop :=
  zs.length = k ∧ (∀ x ∈ zs, x < W64) ∧ C < 2 ^ s ∧ nv zs + W64 ^ k * C = nv (xs.take k) * 2 ^ s
theorem shInv_zero {s : Nat} {xs : List Nat} : ShInv s xs 0 [] 0 := ⟨rfl, by simp, Nat.two_pow_pos s, by simp [vl_nil]⟩
theorem ShInv.step {s : Nat} {xs zs : List Nat} {k C : Nat} (h : ShInv s xs k zs C) {x : Nat} (hx : xs[k]? = some x) (hs : s < 64) (hxb : x < 18446744073709551616) : ShInv s xs (k + 1) (zs ++ [shW s x C]) (shC s x) := by
  obtain ⟨h1, h2, h3, h4⟩ := h
  obtain ⟨e1, e2, e3⟩ := sh_eq hs hxb h3
  refine ⟨by simp [h1], snoc_lt h2 (by rw [W64_eq]; exact e2), e3, ?_⟩
  show vl W64 _ + _ = vl W64 _ * _
  rw [vl_snoc, h1, vl_take_next W64 xs, hx, Nat.pow_succ, Nat.mul_assoc, Option.getD_some, Nat.add_mul]
  have a : W64 ^ k * (shW s x C + W64 * shC s x) = W64 ^ k * (x * 2 ^ s + C) := by rw [W64_eq, e1]
  simp only [Nat.mul_add] at a
  rw [Nat.mul_assoc (W64 ^ k) x]
  have h4' : vl W64 zs + W64 ^ k * C = vl W64 (xs.take k) * 2 ^ s := h4
  omega
theorem ShInv.done {s : Nat} {xs zs : List Nat} {k C : Nat} (h : ShInv s xs k zs C) (hs : s < 64) (hk : xs.length = k) : nv (zs ++ [C]) = nv xs * 2 ^ s ∧ (∀ x ∈ zs ++ [C], x < W64) := by
  obtain ⟨h1, h2, h3, h4⟩ := h
  have hp := pow_split s (by omega)
  have p2 := Nat.two_pow_pos (64 - s)
  have : 2 ^ s ≤ 18446744073709551616 := by
    rw [← hp]; exact Nat.le_mul_of_pos_left _ p2
  refine ⟨?_, snoc_lt h2 (by rw [W64_eq]; omega)⟩
  show vl W64 _ = vl W64 _ * _
  rw [vl_snoc, h1]
  rwa [List.take_of_length_le (by omega)] at h4

/-- A word shifted down, what comes from above laid in. -/
def sdW (s x y : Nat) : Nat := x / 2 ^ s + y % 2 ^ s * 2 ^ (64 - s)
theorem sd_eq {s x y : Nat} (hs : s < 64) (hx : x < 18446744073709551616) : sdW s x y * 2 ^ s + x % 2 ^ s = x + 18446744073709551616 * (y % 2 ^ s) ∧ sdW s x y < 18446744073709551616 := by
  have hp := pow_split s (by omega)
  have p1 := Nat.two_pow_pos s
  have p2 := Nat.two_pow_pos (64 - s)
  unfold sdW
  have h1 := Nat.mod_add_div x (2 ^ s)
  have h2 : x / 2 ^ s < 2 ^ (64 - s) := Nat.div_lt_of_lt_mul (by rw [Nat.mul_comm, hp]; exact hx)
  have h3 := Nat.mul_le_mul_right (2 ^ (64 - s)) (show y % 2 ^ s + 1 ≤ 2 ^ s by have := Nat.mod_lt y p1; omega)
  rw [Nat.add_mul, Nat.mul_comm (2 ^ s), hp] at h3
  refine ⟨?_, by omega⟩
  rw [Nat.add_mul, Nat.mul_assoc, hp, Nat.mul_comm (x / 2 ^ s)]
  omega
theorem sd_int {s x y : Nat} (hs : s < 64) (hx : x < 18446744073709551616) :
    bits .or .u64 ((x : Int) / 2 ^ s) (IntKind.u64.wrap ((y : Int) * 2 ^ (64 - s))) = (sdW s x y : Nat) := by
  have hp := pow_split s (by omega)
  have p1 := Nat.two_pow_pos s
  have p2 := Nat.two_pow_pos (64 - s)
  have h2 : x / 2 ^ s < 2 ^ (64 - s) := Nat.div_lt_of_lt_mul (by rw [Nat.mul_comm, hp]; exact hx)
  have h3 := Nat.mul_le_mul_right (2 ^ (64 - s)) (show y % 2 ^ s + 1 ≤ 2 ^ s by have := Nat.mod_lt y p1; omega)
  rw [Nat.add_mul, Nat.mul_comm (2 ^ s), hp] at h3
  have e1 : IntKind.u64.wrap ((y : Int) * 2 ^ (64 - s)) = ((y % 2 ^ s * 2 ^ (64 - s) : Nat) : Int) := by
    rw [wrap64u, two_pow_cast, ← Int.natCast_mul]
    have h1 := Nat.mod_add_div y (2 ^ s)
    have e : y * 2 ^ (64 - s) = y % 2 ^ s * 2 ^ (64 - s) + 18446744073709551616 * (y / 2 ^ s) := by
      conv => lhs; rw [← h1, Nat.add_mul, Nat.mul_right_comm, Nat.mul_comm (2 ^ s), hp]
    omega
  have e2 : (x : Int) / 2 ^ s = ((x / 2 ^ s : Nat) : Int) := by rw [two_pow_cast, ← Int.natCast_ediv]
  rw [e1, e2, u64_or_nat _ _ (by omega) (by omega), Nat.or_comm, nat_join (64 - s) _ _ (Nat.mul_mod_left _ _) h2, Nat.add_comm]
  rfl
def SdInv (s : Nat) (xs : List Nat) (k : Nat) (zs : List Nat) : Prop :=
  zs.length = k ∧ (∀ x ∈ zs, x < W64) ∧ nv zs * 2 ^ s + xs[0]?.getD 0 % 2 ^ s = nv (xs.take k) + W64 ^ k * (xs[k]?.getD 0 % 2 ^ s)
theorem sdInv_zero {s : Nat} {xs : List Nat} : SdInv s xs 0 [] := ⟨rfl, by simp, by simp [vl_nil]⟩
theorem SdInv.step {s : Nat} {xs zs : List Nat} {k : Nat} (h : SdInv s xs k zs) {x : Nat} (hx : xs[k]? = some x) (hs : s < 64) (hxb : x < 18446744073709551616) : SdInv s xs (k + 1) (zs ++ [sdW s x (xs[k + 1]?.getD 0)]) := by
  obtain ⟨h1, h2, h4⟩ := h
  obtain ⟨e1, e2⟩ := sd_eq (y := xs[k + 1]?.getD 0) hs hxb
  refine ⟨by simp [h1], snoc_lt h2 (by rw [W64_eq]; exact e2), ?_⟩
  show vl W64 _ * _ + _ = vl W64 _ + _
  rw [vl_snoc, h1, vl_take_next W64 xs, hx, Nat.pow_succ, Nat.mul_assoc, Option.getD_some, Nat.add_mul]
  rw [hx, Option.getD_some] at h4
  have h4' : vl W64 zs * 2 ^ s + xs[0]?.getD 0 % 2 ^ s = vl W64 (xs.take k) + W64 ^ k * (x % 2 ^ s) := h4
  have a : W64 ^ k * (sdW s x (xs[k + 1]?.getD 0) * 2 ^ s + x % 2 ^ s) = W64 ^ k * (x + W64 * (xs[k + 1]?.getD 0 % 2 ^ s)) := by rw [W64_eq, e1]
  simp only [Nat.mul_add] at a
  rw [Nat.mul_assoc (W64 ^ k)]
  omega
theorem SdInv.done {s : Nat} {xs zs : List Nat} {k : Nat} (h : SdInv s xs k zs) (hk : xs.length = k) : nv zs = nv xs / 2 ^ s ∧ (∀ x ∈ zs, x < W64) := by
  obtain ⟨h1, h2, h4⟩ := h
  rw [List.take_of_length_le (by omega), List.getElem?_eq_none (i := k) (by omega)] at h4
  simp at h4
  refine ⟨?_, h2⟩
  have := Nat.mod_lt (xs[0]?.getD 0) (Nat.two_pow_pos s)
  rw [← h4, Nat.mul_comm, Nat.mul_add_div (Nat.two_pow_pos s), Nat.div_eq_of_lt this, Nat.add_zero]

/-- The guess by the highest words is never too small. -/
theorem guess_big {ps ds : List Nat} {n p0 p1 t : Nat} (hn : 0 < n) (hp : ps.length = n + 1) (hps : ∀ x ∈ ps, x < W64) (h0 : ps[n - 1]? = some p0) (h1 : ps[n]? = some p1) (ht : ds[n - 1]? = some t) (ht0 : 0 < t) :
    nv ps < ((p1 * W64 + p0) / t + 1) * nv ds := by
  have hl := vl_lt (b := W64) (xs := ps.take (n - 1)) (fun z hz => hps z (List.mem_of_mem_take hz))
  rw [List.length_take, Nat.min_eq_left (by omega)] at hl
  have e1 := vl_take_next W64 ps n
  rw [List.take_of_length_le (by omega), h1, Option.getD_some] at e1
  have e2 := vl_take_next W64 ps (n - 1)
  rw [show n - 1 + 1 = n by omega, h0, Option.getD_some] at e2
  have e3 := vl_split W64 ds ht
  have e4 : W64 ^ n = W64 ^ (n - 1) * W64 := by
    conv => lhs; rw [show n = (n - 1) + 1 by omega, Nat.pow_succ]
  have d1 : p1 * W64 + p0 + 1 ≤ ((p1 * W64 + p0) / t + 1) * t := by
    have := Nat.mod_add_div (p1 * W64 + p0) t
    have := Nat.mod_lt (p1 * W64 + p0) ht0
    rw [Nat.add_mul, Nat.mul_comm ((p1 * W64 + p0) / t)]
    omega
  generalize (p1 * W64 + p0) / t + 1 = G at *
  have d2 := Nat.mul_le_mul_left (W64 ^ (n - 1)) d1
  have d3 : G * (W64 ^ (n - 1) * t) ≤ G * vl W64 ds := Nat.mul_le_mul_left G (by omega)
  rw [Nat.mul_left_comm] at d3
  show vl W64 ps < G * vl W64 ds
  rw [e1, e2, e4, Nat.mul_assoc]
  rw [Nat.mul_add, Nat.mul_add, Nat.mul_comm p1] at d2
  omega
end Go.Proofs.Ytcfbemjnkiepdaa
