/-
  Plain arithmetic of words: inverses by Euclid's steps; centered and lifted numbers. No conditions but bounds on the numbers.
-/
import Derived.Test.YtdnjjpkajiehgaaWMath2
namespace Go.Proofs.Ytdnjjpkajiehgaa
open Go.RowKit
set_option maxRecDepth 100000

/-- What an inverse answers: one that is below m and times a is 1, or 0 and that there is none. -/
def InvOk (a m : Nat) (i : Int) (ok : Bool) : Prop :=
  (2 ≤ m ∧ Nat.gcd a m = 1 ∧ ok = true ∧ 0 ≤ i ∧ i < m ∧ (a * i) % (m : Int) = 1) ∨ ((m < 2 ∨ Nat.gcd a m ≠ 1) ∧ ok = false ∧ i = 0)
def InvPost (a m : Nat) (w : World) (e : Ending) (w' : World) : Prop := ∃ (i : Int) (ok : Bool) (n : Nat), InvOk a m i ok ∧ e = .returned (.tuple #[.int .u64 i, .bool ok]) ∧ w' = w.drewN n
theorem InvPost.small {a m : Nat} {w : World} (h : m < 2) : InvPost a m w (.returned (.tuple #[.int .u64 0, .bool false])) w := ⟨0, false, 0, .inr ⟨.inl h, rfl, rfl⟩, rfl, rfl⟩
/-- Euclid's steps: what is old and what is now are so many times a, and have a's and m's common divisor. -/
def InvInv (a m O N : Nat) (OT NT : Int) : Prop :=
  Nat.gcd O N = Nat.gcd a m ∧ (OT * a) % (m : Int) = O % (m : Int) ∧ (NT * a) % (m : Int) = N % (m : Int) ∧ O ≤ m ∧ N < m ∧ 0 ≤ OT ∧ OT < m ∧ 0 ≤ NT ∧ NT < m
theorem invInv_start (a m : Nat) (hm : 2 ≤ m) : InvInv a m m (a % m) 0 1 := by
  refine ⟨?_, by simp, ?_, by omega, Nat.mod_lt _ (by omega), by omega, by omega, by omega, by omega⟩
  · rw [Nat.gcd_comm m, ← Nat.gcd_rec, Nat.gcd_comm]
  · rw [Int.one_mul, Int.natCast_emod, Int.emod_emod]
theorem InvInv.bounds {a m O N : Nat} {OT NT : Int} (h : InvInv a m O N OT NT) (m1 : m < 18446744073709551616) : O < 18446744073709551616 ∧ N < 18446744073709551616 ∧ 0 ≤ OT ∧ OT < 18446744073709551616 ∧ 0 ≤ NT ∧ NT < 18446744073709551616 := by
  obtain ⟨_, _, _, a, b, c, d, e, f⟩ := h
  exact ⟨by omega, by omega, c, by omega, e, by omega⟩
theorem sub_emod_both {x y a b m : Int} (hx : x % m = a % m) (hy : y % m = b % m) : (x - y) % m = (a - b) % m := by
  rw [Int.sub_emod, hx, hy, ← Int.sub_emod]
theorem InvInv.next {a m O N : Nat} {OT NT : Int} (h : InvInv a m O N OT NT) (hN : 0 < N) (hm : 2 ≤ m) : InvInv a m N (O % N) NT (subS OT (mulS ((O : Int) / (N : Int)) NT m) m) := by
  rw [← Int.natCast_ediv]
  obtain ⟨g, p, q, a1, b1, c, d, e, f⟩ := h
  have s := subS_lt (a := OT) (b := mulS ((O / N : Nat) : Int) NT m) (m := m) (by omega)
  refine ⟨?_, q, ?_, by omega, Nat.lt_of_lt_of_le (Nat.mod_lt _ hN) (by omega), e, f, s.1, s.2⟩
  · rw [Nat.gcd_comm N, ← Nat.gcd_rec, Nat.gcd_comm]; exact g
  · rw [subS_pos (by omega), mulS_pos (by omega)]
    have h1 : (OT - ((O / N : Nat) : Int) * NT % m) % (m : Int) * a % (m : Int) = (OT * a - ((O / N : Nat) : Int) * (NT * a)) % (m : Int) := by
      rw [← Int.mul_assoc, ← Int.sub_mul]
      refine mul_emod_both ?_ rfl
      rw [Int.emod_emod]
      exact sub_emod_both rfl (Int.emod_emod _ _)
    rw [h1, sub_emod_both p (mul_emod_both rfl q)]
    congr 1
    have := Nat.div_add_mod O N
    have h2 : ((N * (O / N) + O % N : Nat) : Int) = (O : Int) := by rw [this]
    rw [Int.natCast_add, Int.natCast_mul, Int.mul_comm] at h2
    omega
theorem InvInv.done {a m O N : Nat} {OT NT : Int} {w : World} {c : Nat} (h : InvInv a m O N OT NT) (hN : N = 0) (hm : 2 ≤ m) :
    ((O : Int) = 1 → InvPost a m w (.returned (.tuple #[.int .u64 OT, .bool true])) (w.drewN c)) ∧ ((O : Int) ≠ 1 → InvPost a m w (.returned (.tuple #[.int .u64 0, .bool false])) (w.drewN c)) := by
  obtain ⟨g, p, q, a1, b1, c1, d, e, f⟩ := h
  subst hN
  rw [Nat.gcd_zero_right] at g
  refine ⟨fun h => ⟨OT, true, c, .inl ⟨hm, by omega, rfl, c1, d, ?_⟩, rfl, rfl⟩, fun h => ⟨0, false, c, .inr ⟨.inr (by omega), rfl, rfl⟩, rfl, rfl⟩⟩
  rw [Int.mul_comm, p, h]
  exact emod_two (by omega) (by omega)

theorem cenS_far (a m : Int) (h : 4611686018427387904 < m) : cenS a m = 0 := by unfold cenS; rw [if_pos (.inr h)]
theorem cenS_near (a m : Int) (h0 : 0 < m) (h : m ≤ 4611686018427387904) : cenS a m = if m / 2 < a % m then a % m - m else a % m := by unfold cenS; rw [if_neg (by omega)]
theorem lifS_pos (v m : Int) (h : m ≠ 0) : lifS v m = v % m := by unfold lifS; rw [if_neg h]
theorem lif_add (v m : Int) : addS v 0 m = lifS v m := by unfold addS lifS; rw [Int.add_zero]
theorem lif_sub (v m : Int) : subS 0 (-v) m = lifS v m := by unfold subS lifS; rw [Int.zero_sub, Int.neg_neg]
theorem neg_word (v : Int) (h : v < 0) (h1 : -9223372036854775808 ≤ v) : IntKind.u64.wrap (-IntKind.u64.wrap v) = -v := by rw [wrap64u, wrap64u]; omega

theorem inv37 (i : Int) (ok : Bool) (h : InvOk 3 7 i ok) : i = 5 ∧ ok = true := by
  rcases h with ⟨_, _, h1, h2, h3, h4⟩ | ⟨h1, _, _⟩
  · exact ⟨by omega, h1⟩
  · exfalso
    rcases h1 with h1 | h1
    · omega
    · exact h1 (by decide)
theorem mulfix : mulS 9223372036854775808 2 18446744073709551615 = 1 := by decide

theorem word_of {a : Int} (h : (Lit.int .u64 a).wf = true) : 0 ≤ a ∧ a < 18446744073709551616 := by
  have h1 : IntKind.u64.min = 0 := by decide
  have h2 : IntKind.u64.max = 18446744073709551615 := by decide
  simp only [Lit.wf, h1, h2, Bool.and_eq_true, decide_eq_true_eq] at h
  omega
theorem long_of {a : Int} (h : (Lit.int .i64 a).wf = true) : -9223372036854775808 ≤ a ∧ a < 9223372036854775808 := by
  have h1 : IntKind.i64.min = -9223372036854775808 := by decide
  have h2 : IntKind.i64.max = 9223372036854775807 := by decide
  simp only [Lit.wf, h1, h2, Bool.and_eq_true, decide_eq_true_eq] at h
  omega
theorem grown_drewN (w : World) (n : Nat) : Grown w (w.drewN n) := Grown.refl w

theorem below_word {x m : Int} (m0 : 0 ≤ m) (m1 : m < 18446744073709551616) : 0 ≤ (if m = 0 then 0 else x % m) ∧ (if m = 0 then 0 else x % m) < 18446744073709551616 := by
  by_cases h : m = 0
  · rw [if_pos h]; omega
  · rw [if_neg h]
    have a := Int.emod_nonneg x h
    have b := Int.emod_lt_of_pos x (show 0 < m by omega)
    omega
theorem addS_word {a b m : Int} (m0 : 0 ≤ m) (m1 : m < 18446744073709551616) : 0 ≤ addS a b m ∧ addS a b m < 18446744073709551616 := below_word m0 m1
theorem subS_word {a b m : Int} (m0 : 0 ≤ m) (m1 : m < 18446744073709551616) : 0 ≤ subS a b m ∧ subS a b m < 18446744073709551616 := below_word m0 m1
theorem mulS_word {a b m : Int} (m0 : 0 ≤ m) (m1 : m < 18446744073709551616) : 0 ≤ mulS a b m ∧ mulS a b m < 18446744073709551616 := below_word m0 m1
theorem powS_word {a b m : Int} (m0 : 0 ≤ m) (m1 : m < 18446744073709551616) : 0 ≤ powS a b m ∧ powS a b m < 18446744073709551616 := below_word m0 m1
theorem law_over (a b c m : Int) : mulS a (addS b c m) m = addS (mulS a b m) (mulS a c m) m := by
  by_cases h : m = 0
  · subst h; rfl
  · rw [mulS_pos h, addS_pos h, mulS_pos h, mulS_pos h, addS_pos h, mul_emod_both (a := a) (b := b + c) rfl (Int.emod_emod _ _), Int.mul_add, ← Int.add_emod]
theorem law_pow (a n k m : Int) (n0 : 0 ≤ n) (k0 : 0 ≤ k) : mulS (powS a n m) (powS a k m) m = powS a (n + k) m := by
  by_cases h : m = 0
  · subst h; rfl
  · rw [mulS_pos h, powS_pos h, powS_pos h, powS_pos h, ← Int.mul_emod, ← Int.pow_add, show (n + k).toNat = n.toNat + k.toNat by omega]
theorem law_back (a b m : Int) : addS (subS a b m) b m = addS a 0 m := by
  by_cases h : m = 0
  · subst h; rfl
  · rw [addS_pos h, addS_pos h, subS_pos h, Int.add_emod, Int.emod_emod, ← Int.add_emod, Int.sub_add_cancel, Int.add_zero]
theorem center_back (a m : Int) (h : m ≠ 0) (hb : m ≤ 4611686018427387904) (h0 : 0 ≤ m) : lifS (cenS a m) m = a % m := by
  rw [lifS_pos _ _ h, cenS_near a m (by omega) hb]
  split
  · rw [Int.sub_emod_right, Int.emod_emod]
  · rw [Int.emod_emod]
theorem cenS_long (a m : Int) (m0 : 0 ≤ m) : -9223372036854775808 ≤ cenS a m ∧ cenS a m < 9223372036854775808 := by
  unfold cenS
  split
  · omega
  · rename_i h
    have a1 := Int.emod_nonneg a (show m ≠ 0 by omega)
    have b1 := Int.emod_lt_of_pos a (show 0 < m by omega)
    split <;> omega
theorem inv_mul {a m : Nat} {i : Int} (h : 2 ≤ m) (e : (a * i) % (m : Int) = 1) : mulS (a : Int) i (m : Int) = 1 := by rw [mulS_pos (by omega)]; exact e
theorem quiet_more {P : Program} {f : FuncId} {args : Array Value} {w : World} {a n : Nat} {v : Value}
    (h : Calls P f args (w.drewN (a + n)) (Qt v (w.drewN (a + n)))) :
    Calls P f args (w.drewN (a + n)) fun e w'' => e = .returned v ∧ ∃ m, w'' = w.drewN (a + m) :=
  h.mono fun _ _ ⟨he, m, hm⟩ => ⟨he, n + m, by rw [hm, World.drewN_drewN, Nat.add_assoc]⟩
end Go.Proofs.Ytdnjjpkajiehgaa
