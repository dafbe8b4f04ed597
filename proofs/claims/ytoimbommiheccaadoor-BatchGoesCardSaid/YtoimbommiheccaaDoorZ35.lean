/-
  What Modulus and Step of package param answer; the document's Product, Check, Modulus and Step.
-/
import Derived.Test.YtoimbommiheccaaDoorZ32
import Derived.Test.YtoimbommiheccaaDoorZ34
import Derived.Test.YtoimbommiheccaaDoorZTOpen
import Derived.Test.YtoimbommiheccaaDoorZ26
namespace Go.Proofs.YtoimbommiheccaaDoor
open Go.RowKit
set_option linter.unusedVariables false
set_option maxRecDepth 100000

theorem prodF_lt {f : Nat → Nat} : ∀ k, (∀ j, j < k → f j < 18446744073709551616) → prodF f k < W64 ^ (k + 1)
  | 0, _ => by rw [prodF, Nat.zero_add, Nat.pow_one, W64_eq]; omega
  | k + 1, h => by
    have ih := prodF_lt k (fun j hj => h j (by omega))
    rw [prodF, Nat.pow_succ W64 (k + 1), Nat.mul_comm (W64 ^ (k + 1))]
    exact Nat.mul_lt_mul'' (by rw [W64_eq]; exact h k (by omega)) ih
theorem prodF_pos {f : Nat → Nat} : ∀ k, (∀ j, j < k → 0 < f j) → 0 < prodF f k
  | 0, _ => by rw [prodF]; omega
  | k + 1, h => by
    rw [prodF]
    exact Nat.mul_pos (h k (by omega)) (prodF_pos k (fun j hj => h j (by omega)))
theorem NX.len_le {w : World} {A : Option Addr} {n c X k : Nat} (h : NX w A n c (nw X)) (hX : X < W64 ^ k) : n ≤ k := by
  have h1 := h.len
  have h2 := dg_len_le W64_two hX
  rw [← h1]; exact h2
/-- What Modulus answers. -/
def ModPost (w : World) (P : Prop) (L : Nat) (l : Int) (f : Nat → Nat) (ee : Ending) (w' : World) : Prop :=
  (¬ P ∧ ee = .returned (.tuple #[.slice none 0 0, .int .i64 8]) ∧ Ext w w') ∨
  (P ∧ ¬ (0 ≤ l ∧ l < L) ∧ ee = .returned (.tuple #[.slice none 0 0, .int .i64 10]) ∧ Ext w w') ∨
  (P ∧ (0 ≤ l ∧ l < L) ∧ ∃ A n c, ee = .returned (.tuple #[.slice A n c, .int .i64 0]) ∧ n ≤ 9 ∧ NX w' A n c (nw (prodF f (l.toNat + 1))) ∧ Ext w w')
/-- What Step answers. -/
def StepPost (w : World) (P : Prop) (T L : Nat) (l : Int) (f : Nat → Nat) (ee : Ending) (w' : World) : Prop :=
  (¬ P ∧ ee = .returned (.tuple #[.slice none 0 0, .int .u64 0, .int .i64 8]) ∧ Ext w w') ∨
  (P ∧ ¬ (0 ≤ l ∧ l < L) ∧ ee = .returned (.tuple #[.slice none 0 0, .int .u64 0, .int .i64 10]) ∧ Ext w w') ∨
  (P ∧ (0 ≤ l ∧ l < L) ∧ ∃ A n c, ∃ r : Nat, Hid (r = prodF f (l.toNat + 1) % T) ∧ r < T ∧ ee = .returned (.tuple #[.slice A n c, .int .u64 (r : Int), .int .i64 0]) ∧ n ≤ 10 ∧ NX w' A n c (nw (prodF f (l.toNat + 1) / T)) ∧ Ext w w')
theorem ParP.T2 {N : Int} {T L : Nat} {f : Nat → Nat} {W : Int} (h : ParP N T L f W) : 2 ≤ T := isS_ge (h 2 (by omega)).2.2
end Go.Proofs.YtoimbommiheccaaDoor

/-
  How parameters that are handed in read.
-/
namespace Go.Proofs.YtoimbommiheccaaDoor
open Go.ChangeShapes Go.WideShapes Go.ChangeAt Go.RowKit Go.Joins
set_option linter.unusedVariables false
set_option maxRecDepth 100000

/-- Parameters that are handed in. -/
structure PA (W : World) (N : Int) (T : Nat) (A : Option Addr) (L c : Nat) (Wd : Int) (f : Nat → Nat) : Prop where
  n0 : -9223372036854775808 ≤ N
  n1 : N < 9223372036854775808
  t1 : T < 18446744073709551616
  w0 : -9223372036854775808 ≤ Wd
  w1 : Wd < 9223372036854775808
  fx : FX W A L c f
  len : L ≤ 9223372036854775807
  words : ∀ j, j < L → f j < 18446744073709551616
theorem PA.ext {w w' : World} {N : Int} {T : Nat} {A : Option Addr} {L c : Nat} {Wd : Int} {f : Nat → Nat} (h : PA w N T A L c Wd f) (k : Ext w w') : PA w' N T A L c Wd f := ⟨h.n0, h.n1, h.t1, h.w0, h.w1, h.fx.ext k, h.len, h.words⟩
section
variable {H : Type} {enc : TypeId × Value → H}
theorem c_par : Tryd.prog.cellsOf 25 = 4 := by kernel_rfl
theorem params_open {W : World} {r : Reach} {b0 : Nat} {v : Value} {d : DataW H} {p : List MemPlace} (hv : Value.okWide Tryd.prog W r b0 25 v) (h : DataW.Trod enc Tryd.prog W 0 (fun _ => true) true 25 v d p) :
    ∃ N T A L c Wd f, v = .agg #[.int .i64 N, .int .u64 (T : Nat), .slice A L c, .int .i64 Wd] ∧ PA W N T A L c Wd f := by
  obtain ⟨cs, rfl, hsz⟩ := okWide_struct Tryd.underlying25 hv
  obtain ⟨fuel, hf⟩ := h
  obtain ⟨xs, n, _, _, hl, hlen, hx⟩ := DataW.trod_struct Tryd.underlying25 hf
  have hs := hsz.trans c_par
  obtain ⟨c0, c1, c2, c3, rfl⟩ : ∃ c0 c1 c2 c3, cs = #[c0, c1, c2, c3] := by
    match cs, hs with
    | ⟨[c0, c1, c2, c3]⟩, _ => exact ⟨c0, c1, c2, c3, rfl⟩
  have ei : Tryd.prog.cellsOf 3 = 1 := by kernel_rfl
  have eu : Tryd.prog.cellsOf 22 = 1 := by kernel_rfl
  have es : Tryd.prog.cellsOf 23 = 1 := by kernel_rfl
  match xs, hlen with
  | [y0, y1, y2, y3], _ =>
    have h0 : DataW.trod enc Tryd.prog W 0 (fun _ => true) true n 3 [c0] = some y0 := by
      have h1 := hx 0 _ rfl
      simpa [Value.cells, ei, eu, es] using h1
    have h1 : DataW.trod enc Tryd.prog W 0 (fun _ => true) true n 22 [c1] = some y1 := by
      have h1 := hx 1 _ rfl
      simpa [Value.cells, ei, eu, es] using h1
    have h2 : DataW.trod enc Tryd.prog W 0 (fun _ => true) true n 23 [c2] = some y2 := by
      have h1 := hx 2 _ rfl
      simpa [Value.cells, ei, eu, es] using h1
    have h3 : DataW.trod enc Tryd.prog W 0 (fun _ => true) true n 3 [c3] = some y3 := by
      have h1 := hx 3 _ rfl
      simpa [Value.cells, ei, eu, es] using h1
    obtain ⟨N, e0, _, w0⟩ := DataW.trod_int Tryd.underlying3 h0
    obtain ⟨T, e1, _, w1⟩ := DataW.trod_int Tryd.underlying22 h1
    obtain ⟨Wd, e3, _, w3⟩ := DataW.trod_int Tryd.underlying3 h3
    obtain ⟨A, L, c, f, e2, hfx, hm, hw⟩ := words_cells h2
    simp at e0 e1 e2 e3
    subst e0 e1 e2 e3
    obtain ⟨a0, a1⟩ := long_of w0
    obtain ⟨t0, t1⟩ := word_of w1
    obtain ⟨b0, b1⟩ := long_of w3
    obtain ⟨T, rfl⟩ := Int.eq_ofNat_of_zero_le t0
    exact ⟨N, T, A, L, c, Wd, f, rfl, a0, a1, by omega, b0, b1, hfx, by have : maxLen = 9223372036854775807 := by decide
                                                                        omega, hw⟩
end
end Go.Proofs.YtoimbommiheccaaDoor

/-
  How rows of numbers that are handed in read.
-/
namespace Go.Proofs.YtoimbommiheccaaDoor
open Go.ChangeShapes Go.WideShapes Go.ChangeAt Go.RowKit Go.Joins
set_option linter.unusedVariables false
set_option maxRecDepth 100000

section
variable {H : Type} {enc : TypeId × Value → H}
theorem c_int : Tryd.prog.cellsOf 3 = 1 := by kernel_rfl
/-- Numbers that are handed in. -/
theorem ints_open {W : World} {v : Value} {d : DataW H} {p : List MemPlace} (h : DataW.Trod enc Tryd.prog W 0 (fun _ => true) true 26 v d p) :
    ∃ A n c z, v.cells.toList = [.slice A n c] ∧ VX W A n c z ∧ n ≤ maxLen ∧ ∀ i, i < n → -9223372036854775808 ≤ z i ∧ z i < 9223372036854775808 := by
  obtain ⟨fuel, hf⟩ := h
  rcases ChangeShapes.open_ints Tryd.underlying26 Tryd.underlying3 c_int hf with ⟨e, _⟩ | ⟨a, len, cap, zs, e, _, hl, hm, hz, _, hcell, hwz⟩
  · exact ⟨none, 0, 0, fun _ => 0, e, ⟨Nat.le_refl _, fun h => absurd h (by omega)⟩, Nat.zero_le _, fun i hi => absurd hi (by omega)⟩
  · simp only [if_true] at hz
    refine ⟨some a, len, cap, fun j => zs.getD j 0, e, ⟨hl, fun hn => ⟨a, rfl, fun j hj => hcell j (by omega)⟩⟩, by omega, fun j hj => ?_⟩
    have hl2 : j < zs.length := by omega
    have h1 := long_of (hwz _ (List.getElem_mem hl2))
    show -9223372036854775808 ≤ zs.getD j 0 ∧ zs.getD j 0 < 9223372036854775808
    rw [List.getD_eq_getElem?_getD, List.getElem?_eq_getElem hl2, Option.getD_some]
    omega
end
end Go.Proofs.YtoimbommiheccaaDoor

/-
  What the document says of parameters: Product, Check, Modulus, Step.
-/
namespace Go.Proofs.YtoimbommiheccaaDoor
open Go.RowKit
set_option linter.unusedVariables false
set_option maxRecDepth 100000

theorem row_size {N : Int} (h : rowS N ≠ 0) : SizeP N := by
  have key : N = 8 ∨ N = 16 ∨ N = 32 ∨ N = 64 ∨ N = 128 ∨ N = 256 ∨ N = 1024 ∨ N = 2048 ∨ N = 4096 := by
    unfold rowS at h
    by_cases h0 : N = 8 ∨ N = 16 ∨ N = 32 ∨ N = 64 ∨ N = 128 ∨ N = 256
    · omega
    · rw [if_neg h0] at h
      by_cases h1 : N = 1024
      · omega
      · rw [if_neg h1] at h
        by_cases h2 : N = 2048
        · omega
        · rw [if_neg h2] at h
          by_cases h3 : N = 4096
          · omega
          · rw [if_neg h3] at h; exact absurd rfl h
  rcases key with rfl | rfl | rfl | rfl | rfl | rfl | rfl | rfl | rfl <;> exact ⟨by decide, by decide, by decide +kernel⟩
theorem bl_pos {v : Nat} (h : 0 < v) : 0 < Go.bitLen v := by rw [bits_half h]; omega
theorem no_row {N : Int} {T L : Nat} {f : Nat → Nat} {W : Int} (h : rowS N = 0) : ¬ ParP N T L f W := fun hp => by
  have h5 : Go.bitLen (prodF f L) ≤ rowS N := hp 5 (by omega)
  have h4 : PrsP N.toNat T L f := hp 4 (by omega)
  have := bl_pos (prodF_pos (f := f) L fun j hj => by have := isS_ge (h4 j hj).2.2.2.2; omega)
  omega
end Go.Proofs.YtoimbommiheccaaDoor

/-
  The calls of layer 8 whose answers the document fixes.
-/
namespace Go.Proofs.YtoimbommiheccaaDoor
open Go.RowKit
set_option linter.unusedVariables false
set_option maxRecDepth 100000

def fixQ (i : Nat) : Nat := if i = 0 then 97 else 193
theorem par_fix : ParP 8 17 2 fixQ 2 := fun k hk => by
  rcases (show k = 0 ∨ k = 1 ∨ k = 2 ∨ k = 3 ∨ k = 4 ∨ k = 5 by omega) with rfl | rfl | rfl | rfl | rfl | rfl
  · exact ⟨by decide, by decide, by decide +kernel⟩
  · exact ⟨by decide, by decide⟩
  · exact ⟨by decide, by decide +kernel, by decide +kernel⟩
  · exact ⟨by decide, by decide⟩
  · intro j hj
    rcases (show j = 0 ∨ j = 1 by omega) with rfl | rfl
    · exact ⟨by decide, by decide, fun i hi => by omega, by decide +kernel, by decide +kernel⟩
    · exact ⟨by decide, by decide, fun i hi => by obtain rfl : i = 0 := by omega
                                                  decide, by decide +kernel, by decide +kernel⟩
  · show Go.bitLen (prodF fixQ 2) ≤ rowS 8
    rw [show prodF fixQ 2 = 18721 by decide, show rowS 8 = 420 by decide]
    decide +kernel
theorem par_none (f : Nat → Nat) : ¬ ParP 0 0 0 f 0 := fun h => by have h0 : (8 : Int) ≤ 0 := (h 0 (by omega)).1; omega
theorem mod_yes {w w' : World} {P : Prop} {L : Nat} {l : Int} {f : Nat → Nat} {ee : Ending} (h : ModPost w P L l f ee w') (hP : P) (hl : 0 ≤ l ∧ l < L) : ∃ A n c, ee = .returned (.tuple #[.slice A n c, .int .i64 0]) ∧ n ≤ 9 ∧ NX w' A n c (nw (prodF f (l.toNat + 1))) ∧ Ext w w' := by
  rcases h with ⟨h, _⟩ | ⟨_, h, _⟩ | ⟨_, _, h⟩
  · exact absurd hP h
  · exact absurd hl h
  · exact h
theorem step_yes {w w' : World} {P : Prop} {T L : Nat} {l : Int} {f : Nat → Nat} {ee : Ending} (h : StepPost w P T L l f ee w') (hP : P) (hl : 0 ≤ l ∧ l < L) : ∃ A n c, ∃ r : Nat, Hid (r = prodF f (l.toNat + 1) % T) ∧ r < T ∧ ee = .returned (.tuple #[.slice A n c, .int .u64 (r : Int), .int .i64 0]) ∧ n ≤ 10 ∧ NX w' A n c (nw (prodF f (l.toNat + 1) / T)) ∧ Ext w w' := by
  rcases h with ⟨h, _⟩ | ⟨_, h, _⟩ | ⟨_, _, h⟩
  · exact absurd hP h
  · exact absurd hl h
  · exact h
theorem fx_none (w : World) (f : Nat → Nat) : FX w none 0 0 f := ⟨Nat.le_refl _, fun h => absurd h (by omega)⟩
/-- A word's natural in one cell. -/
theorem nx_one (w : World) (g : Nat) (hg : g = w.heap.size) (x : Nat) (h0 : 0 < x) (hx : x < 18446744073709551616) : NX (w.alloc (.cells #[.int .u64 (x : Int)] 22)) (some ⟨g, 0, none⟩) 1 1 (nw x) := by
  rw [nw_one h0 hx]; exact NXN.one w g hg (x : Int) x rfl hx
end Go.Proofs.YtoimbommiheccaaDoor

/-
  The law ParamChecks walked.
-/
namespace Go.Proofs.YtoimbommiheccaaDoor
open Go.RowKit
set_option linter.unusedVariables false
set_option maxRecDepth 100000

/-- The error's number. -/
def ErrZ (P : Prop) (z : Nat) : Prop := (P ∧ z = 0) ∨ (¬ P ∧ z = 8)
theorem errZ (P : Prop) : ∃ z, ErrZ P z := by
  by_cases h : P
  · exact ⟨0, .inl ⟨h, rfl⟩⟩
  · exact ⟨8, .inr ⟨h, rfl⟩⟩
theorem Chk8.z {w w' : World} {P : Prop} {z : Nat} {e : Ending} (h : Chk8 w P e w') (hz : ErrZ P z) : e = .returned (.int .i64 (z : Int)) ∧ Ext w w' := by
  rcases h with ⟨h, he, hw⟩ | ⟨h, he, hw⟩
  · rcases hz with ⟨_, rfl⟩ | ⟨h', _⟩
    · exact ⟨he, hw⟩
    · exact absurd h h'
  · rcases hz with ⟨h', _⟩ | ⟨_, rfl⟩
    · exact absurd h' h
    · exact ⟨he, hw⟩
theorem checkZ {N : Int} {T : Nat} {Wd : Int} {A : Option Addr} {L c : Nat} {f : Nat → Nat} {z : Nat} {w : World} (hP : PA w N T A L c Wd f) (hL : L ≤ 100) (hT : Tabs w) (hz : Hid (ErrZ (ParP N T L f Wd) z)) :
    Calls Tryd.prog 19 #[.agg #[.int .i64 N, .int .u64 (T : Int), .slice A L c, .int .i64 Wd]] w fun e w' => e = .returned (.int .i64 (z : Int)) ∧ Ext w w' :=
  (check_any N T Wd A L c f w hP.n0 hP.n1 hP.t1 (by omega) hP.fx (Lib.hid hP.words) hT).mono fun e w' h => h.z hz.out
end Go.Proofs.YtoimbommiheccaaDoor
