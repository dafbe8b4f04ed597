/-
  What Search of package prime answers.
-/
import Derived.Test.YtpgcapobbmbchaaDoorPStep
namespace Go.Proofs.YtpgcapobbmbchaaDoor
open Go.RowKit
set_option linter.unusedVariables false

/-- The numbers that are 1 modulo a step, falling. -/
def num (b q k : Nat) : Nat := (q - k) * b + 1
/-- Those of the first k of them that pass. -/
def filt (b q : Nat) : Nat → List Nat
  | 0 => []
  | k + 1 => filt b q k ++ (if isS (num b q k) = true then [num b q k] else [])
theorem filt_yes {b q k : Nat} (h : isS (num b q k) = true) : filt b q (k + 1) = filt b q k ++ [num b q k] := by rw [filt, if_pos h]
theorem filt_no {b q k : Nat} (h : isS (num b q k) = false) : filt b q (k + 1) = filt b q k := by rw [filt, if_neg (by rw [h]; decide), List.append_nil]
theorem filt_mono {b q : Nat} {j k : Nat} (h : j ≤ k) : (filt b q j).length ≤ (filt b q k).length := by
  induction k with
  | zero => rw [show j = 0 by omega]; exact Nat.le_refl _
  | succ k ih =>
    rcases Nat.lt_or_eq_of_le h with g | g
    · have := ih (by omega)
      rw [filt, List.length_append]; omega
    · rw [g]; exact Nat.le_refl _
theorem num_next {b q k lo : Nat} (hk : k ≤ q) (hb : 2 ≤ b) (hlo : 1 ≤ lo) (h : lo < num b q k) : k + 1 ≤ q ∧ b < num b q k ∧ num b q k - b = num b q (k + 1) := by
  unfold num at *
  rcases Nat.eq_zero_or_pos (q - k) with h0 | h0
  · rw [h0, Nat.zero_mul] at h; omega
  · obtain ⟨m, hm⟩ : ∃ m, q - k = m + 1 := ⟨q - k - 1, by omega⟩
    rw [hm, Nat.add_mul, Nat.one_mul] at h
    rw [show q - (k + 1) = m by omega, hm, Nat.add_mul, Nat.one_mul]
    refine ⟨by omega, by omega, by omega⟩
/-- Which arguments are refused. -/
def BadS (z : Int) (b : Nat) (c : Int) : Prop := z < 4 ∨ 61 < z ∨ stepS b = false ∨ c < 1 ∨ 16 < c
/-- The search has gone over k numbers, all of them above the least one, and not found enough before. -/
def Gone (lo b q c k : Nat) : Prop := k ≤ q ∧ ∀ j, j < k → lo < num b q j ∧ (filt b q j).length < c
/-- What a search answers. -/
def SPost (z : Int) (b : Nat) (c : Int) (w : World) (e : Ending) (w' : World) : Prop :=
  (BadS z b c ∧ e = .returned (.tuple #[.slice none 0 0, .int .i64 1]) ∧ Ext w w') ∨
  (¬ BadS z b c ∧ ∃ k, Gone (2 ^ (z.toNat - 1)) b ((2 ^ z.toNat - 2) / b) c.toNat k ∧
    ((num b ((2 ^ z.toNat - 2) / b) k ≤ 2 ^ (z.toNat - 1) ∧ (filt b ((2 ^ z.toNat - 2) / b) k).length < c.toNat ∧ e = .returned (.tuple #[.slice none 0 0, .int .i64 7]) ∧ Ext w w') ∨
     ((filt b ((2 ^ z.toNat - 2) / b) k).length = c.toNat ∧ ∃ A n cp, e = .returned (.tuple #[.slice A n cp, .int .i64 0]) ∧ NX w' A n cp (filt b ((2 ^ z.toNat - 2) / b) k) ∧ Ext w w')))

theorem info_u64 : (Tryd.prog.info? 79).map (fun i => (i.zero, i.size, i.bytes)) = some (some (.int .u64 0), 1, 8) := by kernel_rfl
/-- A row of words that a call is making, from nothing on. -/
def URow (B : Nat) (w0 w : World) (v : Value) (n : Nat) (zs : List Nat) : Prop := w.ownsRow B 79 1 v n (u64s zs) ∧ Below B w0 w ∧ (∀ x ∈ zs, x < W64)
theorem URow.nil (w : World) : URow w.heap.size w w (.slice none 0 0) 0 [] := ⟨World.ownsRow_nil _ _ _ _, Below.refl _ _, by simp⟩
theorem URow.push {B : Nat} {w0 w w1 : World} {v v' : Value} {n : Nat} {zs : List Nat} {z : Nat} {o : Obj} (h : URow B w0 w v n zs) (hB : B ≤ w.heap.size) (hz : z < W64)
    (h1 : w1.ownsRow B 79 1 v' (n + 1) (u64s zs ++ [Value.int .u64 (z : Int)])) (hg : (w.alloc o).grownBy w1 v.ownBlock) : URow B w0 w1 v' (n + 1) (zs ++ [z]) := by
  rw [u64s_snoc] at h1
  exact ⟨h1, (h.2.1.alloc hB o).grown hg (by simp; omega) (fun k e => (h.1.lt k e).1), snoc_lt h.2.2 hz⟩
theorem URow.ext {B : Nat} {w0 w w1 : World} {v : Value} {n : Nat} {zs : List Nat} (h : URow B w0 w v n zs) (hB : B ≤ w.heap.size) (k : Ext w w1) : URow B w0 w1 v n zs := by
  refine ⟨h.1.kept (row := none) ⟨k.os, k.tape, k.output, k.size, fun i hi _ => k.block i hi⟩ ?_, h.2.1.trans (Below.mono k hB), h.2.2⟩
  cases e : v.ownBlock
  · exact .inl rfl
  · exact .inr (by simp)

end Go.Proofs.YtpgcapobbmbchaaDoor
