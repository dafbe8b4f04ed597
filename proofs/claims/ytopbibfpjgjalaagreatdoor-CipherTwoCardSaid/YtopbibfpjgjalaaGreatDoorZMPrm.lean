import Derived.Test.YtopbibfpjgjalaaGreatDoorZ26
import Derived.Test.YtopbibfpjgjalaaGreatDoorZ9
import Derived.Test.YtopbibfpjgjalaaGreatDoorZ31
namespace Go.Proofs.YtopbibfpjgjalaaGreatDoor
open Go.RowKit
set_option linter.unusedVariables false
set_option maxRecDepth 100000
theorem zmq {b q j k : Nat} (h : j ≤ k) : num b q k ≤ num b q j := by
 unfold num
 have := Nat.mul_le_mul_right b (show q - k ≤ q - j by omega)
 omega
theorem zrw {z b K : Nat} {l : List Nat} (hz : 4 ≤ z) (hq : (2 ^ z - 2) / b * b + 1 < 18446744073709551616) (hlow : 2 ^ (z - 1) < num b ((2 ^ z - 2) / b) K) (e : filtP b ((2 ^ z - 2) / b) K = l) : filt b ((2 ^ z - 2) / b) K = l := by
 rw [zm0 hq _ (fun j hj => ?_)]
 ·exact e
 ·have h1 := zmq (b := b) (q := (2 ^ z - 2) / b) (show j ≤ K by omega)
  have h2 : 2 ^ 3 ≤ 2 ^ (z - 1) := Nat.pow_le_pow_right (by omega) (by omega)
  have h3 : (2 : Nat) ^ 3 = 8 := rfl
  omega
theorem zna {z b c K : Nat} {l : List Nat} {w : World} (hz : 4 ≤ z ∧ z ≤ 61) (hb : stepS b = true) (hc0 : 1 ≤ c) (hc : c ≤ l.length) (hl : l.length ≤ 16) (hf : filt b ((2 ^ z - 2) / b) K = l) (hlow : 2 ^ (z - 1) < num b ((2 ^ z - 2) / b) K) (hT : Tabs w) :
    Calls Tryz.prog 32 #[.int .i64 (z : Int), .int .u64 (b : Int), .int .i64 (c : Int)] w fun e w' => ∃ A n cp, e = .returned (.tuple #[.slice A n cp, .int .i64 0]) ∧ NX w' A n cp (l.take c) ∧ Ext w w' := by
 have hb2 : b < 18446744073709551616 := by have := (zbq hb).2; omega
 refine (zfw (z : Int) b (c : Int) w (by omega) (by omega) hb2 (by omega) (by omega) hT).mono ?_
 rintro e w' (⟨hbad, _⟩ | ⟨_, k, ⟨hkq, hgone⟩, h⟩)
 ·exfalso
  rcases hbad with h | h | h | h | h
  ·omega
  ·omega
  ·rw [hb] at h; cases h
  ·omega
  ·omega
 ·have ez : ((z : Int)).toNat = z := Int.toNat_natCast z
  have ec : ((c : Int)).toNat = c := Int.toNat_natCast c
  rw [ez] at h hgone hkq
  rw [ec] at h hgone
  have hkK : k ≤ K := by
   rcases Nat.lt_or_ge K k with g | g
   ·have := (hgone _ g).2
    rw [hf] at this
    omega
   ·exact g
  rcases h with ⟨hlo, _, _, _⟩ | ⟨hl2, A, n, cp, rfl, hx, hk⟩
  ·have := zmq (b := b) (q := (2 ^ z - 2) / b) hkK
   omega
  ·refine ⟨A, n, cp, rfl, ?_, hk⟩
   have := zjq (b := b) (q := (2 ^ z - 2) / b) hkK
   rw [hl2, hf] at this
   rw [← this]
   exact hx
theorem zky {w : World} (hT : Tabs w) :
    Calls Tryz.prog 32 #[.int .i64 7, .int .u64 64, .int .i64 1] w fun e w' => e = .returned (.tuple #[.slice none 0 0, .int .i64 7]) ∧ Ext w w' := by
 refine (zfw 7 64 1 w (by omega) (by omega) (by omega) (by omega) (by omega) hT).mono ?_
 have e0 : filt 64 1 0 = [] := rfl
 have e1 : filt 64 1 1 = [] := by
  rw [zro]
  ·rfl
  ·rw [zji (by decide) (by decide)]; decide +kernel
 rintro e w' (⟨hbad, _⟩ | ⟨_, k, ⟨hkq, hgone⟩, h⟩)
 ·exfalso
  have hs : stepS 64 = true := by decide +kernel
  rcases hbad with h | h | h | h | h
  ·omega
  ·omega
  ·rw [hs] at h; cases h
  ·omega
  ·omega
 ·rw [show ((2 : Nat) ^ (7 : Int).toNat - 2) / 64 = 1 by decide] at h hkq
  rw [show (1 : Int).toNat = 1 by rfl] at h
  rcases h with ⟨_, _, he, hk⟩ | ⟨hl2, A, n, cp, _, _, _⟩
  ·exact ⟨he, hk⟩
  ·exfalso
   rcases (show k = 0 ∨ k = 1 by omega) with rfl | rfl
   ·rw [e0] at hl2; cases hl2
   ·rw [e1] at hl2; cases hl2
def mB (s : Nat) : Nat := if s = 0 then 16 else if s = 1 then 32 else 64
def mZ (i : Nat) : Nat := if i = 0 then 25 else if i = 1 then 30 else if i = 2 then 36 else 49
def mY (i : Nat) : Nat := if i = 0 then 7 else if i = 1 then 9 else if i = 2 then 12 else 16
def mL (s i : Nat) : List Nat :=
 if s = 0 then (if i = 0 then [33554273, 33553969, 33553697, 33553649, 33553633] else if i = 1 then [1073741441, 1073741329, 1073740609, 1073740529, 1073740177] else if i = 2 then [68719476577, 68719476433, 68719476257, 68719476209, 68719475809] else [562949953421201, 562949953420609, 562949953420369, 562949953420097, 562949953419793])
 else if s = 1 then (if i = 0 then [33554273, 33553697, 33553633, 33553537, 33553313] else if i = 1 then [1073741441, 1073740609, 1073739937, 1073739649, 1073739617] else if i = 2 then [68719476577, 68719476257, 68719475809, 68719474849, 68719474529] else [562949953420609, 562949953420097, 562949953418689, 562949953418401, 562949953417729])
 else (if i = 0 then [33553537, 33553153, 33552641, 33551873, 33551041] else if i = 1 then [1073741441, 1073740609, 1073739649, 1073738753, 1073737537] else if i = 2 then [68719474049, 68719473793, 68719473281, 68719473217, 68719473089] else [562949953420609, 562949953420097, 562949953418689, 562949953417729, 562949953416001])
def mK (s i : Nat) : Nat :=
 if s = 0 then (if i = 0 then 50 else if i = 1 then 103 else if i = 2 then 58 else 95)
 else if s = 1 then (if i = 0 then 35 else if i = 1 then 69 else if i = 2 then 69 else 112)
 else (if i = 0 then 53 else if i = 1 then 67 else if i = 2 then 57 else 83)
def mT (s i : Nat) : Nat :=
 if s = 0 then (if i = 0 then 113 else if i = 1 then 449 else if i = 2 then 4049 else 65521)
 else if s = 1 then (if i = 0 then 97 else if i = 1 then 449 else if i = 2 then 4001 else 65089)
 else (if i = 0 then 193 else if i = 1 then 449 else if i = 2 then 3457 else 65089)
def mKT (s i : Nat) : Nat :=
 if s = 0 then (if i = 0 then 1 else if i = 1 then 4 else if i = 2 then 3 else 1)
 else if s = 1 then (if i = 0 then 1 else if i = 1 then 2 else if i = 2 then 3 else 14)
 else (if i = 1 then 1 else if i = 2 then 10 else 7)
theorem zc9 {i : Nat} (h : i < 4) : i = 0 ∨ i = 1 ∨ i = 2 ∨ i = 3 := by omega
theorem za5 {i : Nat} (h : i < 3) : i = 0 ∨ i = 1 ∨ i = 2 := by omega
theorem z2g : ∀ s, s < 3 → ∀ i, i < 4 → filtP (mB s) ((2 ^ mZ i - 2) / mB s) (mK s i) = mL s i ∧ 2 ^ (mZ i - 1) < num (mB s) ((2 ^ mZ i - 2) / mB s) (mK s i) ∧ (2 ^ mZ i - 2) / mB s * mB s + 1 < 18446744073709551616 := by decide +kernel
theorem z2j : ∀ s, s < 3 → ∀ i, i < 4 → ¬ (s = 2 ∧ i = 0) → filtP (mB s) ((2 ^ mY i - 2) / mB s) (mKT s i) = [mT s i] ∧ 2 ^ (mY i - 1) < num (mB s) ((2 ^ mY i - 2) / mB s) (mKT s i) ∧ (2 ^ mY i - 2) / mB s * mB s + 1 < 18446744073709551616 := by decide +kernel
theorem zlu : ∀ s, s < 3 → ∀ i, i < 4 → (mL s i).length = 5 := by decide
theorem zlf : ∀ s, s < 3 → stepS (mB s) = true ∧ mB s = 2 * (8 * 2 ^ s) := by decide +kernel
theorem zgg {s i c : Nat} {w : World} (hs : s < 3) (hi : i < 4) (hc0 : 1 ≤ c) (hc : c ≤ 5) (hT : Tabs w) :
    Calls Tryz.prog 32 #[.int .i64 (mZ i : Int), .int .u64 (mB s : Int), .int .i64 (c : Int)] w fun e w' => ∃ A n cp, e = .returned (.tuple #[.slice A n cp, .int .i64 0]) ∧ NX w' A n cp ((mL s i).take c) ∧ Ext w w' := by
 obtain ⟨h1, h2, h3⟩ := z2g s hs i hi
 have hz : 4 ≤ mZ i ∧ mZ i ≤ 61 := by rcases zc9 hi with rfl | rfl | rfl | rfl <;> decide
 have hl := zlu s hs i hi
 exact zna hz (zlf s hs).1 hc0 (by omega) (by omega) (zrw hz.1 h3 h2 h1) h2 hT
theorem zkp {s i : Nat} {w : World} (hs : s < 3) (hi : i < 4) (hne : ¬ (s = 2 ∧ i = 0)) (hT : Tabs w) :
    Calls Tryz.prog 32 #[.int .i64 (mY i : Int), .int .u64 (mB s : Int), .int .i64 1] w fun e w' => ∃ A n cp, e = .returned (.tuple #[.slice A n cp, .int .i64 0]) ∧ NX w' A n cp [mT s i] ∧ Ext w w' := by
 obtain ⟨h1, h2, h3⟩ := z2j s hs i hi hne
 have hz : 4 ≤ mY i ∧ mY i ≤ 61 := by rcases zc9 hi with rfl | rfl | rfl | rfl <;> decide
 exact zna (c := 1) hz (zlf s hs).1 (by omega) (by simp) (by simp) (zrw hz.1 h3 h2 h1) h2 hT
def zqw (q : Nat) : Bool := [2, 3, 5, 7, 11, 13, 17, 19, 23, 29, 31, 37].any fun y => Nat.beq (pm q y 64 ((q - 1) / 2)) (q - 1)
theorem zxs {q : Nat} (h0 : 60 < q) (h : q < 18446744073709551616) (e : zqw q = true) : ∃ x, x < q ∧ noSq q x = true := by
 unfold zqw at e
 obtain ⟨y, hy, he⟩ := List.any_eq_true.1 e
 have : ∀ y ∈ [2, 3, 5, 7, 11, 13, 17, 19, 23, 29, 31, 37], y < 60 := by decide
 exact ⟨y, by have := this y hy; omega, zxy h he⟩
def mF (s i j : Nat) : Nat := (mL s i).getD j 0
theorem zfo : ∀ s, s < 3 → ∀ i, i < 4 → ∀ j, j < 5 → mF s i j < 1125899906842624 ∧ 16777216 < mF s i j ∧ (∀ k, k < j → mF s i k ≠ mF s i j) ∧ mF s i j % mB s = 1 ∧ isP (mF s i j) = true ∧ zqw (mF s i j) = true := by decide +kernel
theorem mT_ok : ∀ s, s < 3 → ∀ i, i < 4 → mT s i < 65536 ∧ 97 ≤ mT s i ∧ mT s i % mB s = 1 ∧ isP (mT s i) = true := by decide +kernel
theorem z2m : ∀ s, s < 3 → ∀ i, i < 4 → ∀ L, L < 6 → Go.bitLen (prodF (mF s i) L) ≤ 420 := by decide +kernel
theorem par_m {s t i L : Nat} {Wd : Int} (hs : s < 3) (ht : t < 4) (hi : i < 4) (hL0 : 1 ≤ L) (hL : L ≤ 5) (hW : 1 ≤ Wd ∧ Wd ≤ 16) : ParP ((8 * 2 ^ s : Nat) : Int) (mT s t) L (mF s i) Wd := fun k hk => by
 obtain ⟨t1, t2, t3, t4⟩ := mT_ok s hs t ht
 have hB := (zlf s hs).2
 have hN : (((8 * 2 ^ s : Nat) : Int)).toNat = 8 * 2 ^ s := Int.toNat_natCast _
 rcases (show k = 0 ∨ k = 1 ∨ k = 2 ∨ k = 3 ∨ k = 4 ∨ k = 5 by omega) with rfl | rfl | rfl | rfl | rfl | rfl
 ·rcases za5 hs with rfl | rfl | rfl
  ·exact ⟨by decide, by decide, by decide +kernel⟩
  ·exact ⟨by decide, by decide, by decide +kernel⟩
  ·exact ⟨by decide, by decide, by decide +kernel⟩
 ·exact hW
 ·show zd9 _ _
  rw [hN]
  exact ⟨by omega, by rw [← hB]; exact t3, by rw [zji (by omega) (by omega)]; exact t4⟩
 ·exact ⟨hL0, by omega⟩
 ·show PrsP _ _ _ _
  rw [hN]
  intro j hj
  obtain ⟨q1, q2, q3, q4, q5, _⟩ := zfo s hs i hi j (by omega)
  exact ⟨q1, by omega, q3, by rw [← hB]; exact q4, by rw [zji (by omega) (by omega)]; exact q5⟩
 ·have h := z2m s hs i hi L (by omega)
  have e : rowS ((8 * 2 ^ s : Nat) : Int) = 420 := by rcases za5 hs with rfl | rfl | rfl <;> decide
  show Go.bitLen _ ≤ rowS _
  rw [e]
  exact h
theorem sq_m {s i j : Nat} (hs : s < 3) (hi : i < 4) (hj : j < 5) : ∃ x, x < mF s i j ∧ noSq (mF s i j) x = true := by
 obtain ⟨q1, q2, q3, q4, q5, q6⟩ := zfo s hs i hi j hj
 exact zxs (by omega) (by omega) q6
end Go.Proofs.YtopbibfpjgjalaaGreatDoor
