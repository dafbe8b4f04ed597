/-
  The sum over all diagonals is what the rows make.
-/
import Derived.Test.YtdnjjpkajiehgaaLMath
namespace Go.Proofs.Ytdnjjpkajiehgaa
open Go.RowKit
set_option linter.unusedVariables false
set_option maxRecDepth 100000

def sumN (g : Nat → Int) : Nat → Int
  | 0 => 0
  | k + 1 => sumN g k + g k
theorem sumN_congr {g h : Nat → Int} : ∀ n, (∀ k, k < n → g k = h k) → sumN g n = sumN h n
  | 0, _ => rfl
  | n + 1, e => by rw [sumN, sumN, sumN_congr n (fun k hk => e k (by omega)), e n (by omega)]
theorem sumN_zero : ∀ n, sumN (fun _ => 0) n = 0
  | 0 => rfl
  | n + 1 => by rw [sumN, sumN_zero n]; rfl
theorem sumN_add {g h : Nat → Int} : ∀ n, sumN (fun k => g k + h k) n = sumN g n + sumN h n
  | 0 => rfl
  | n + 1 => by rw [sumN, sumN, sumN, sumN_add n]; omega
theorem sumN_mul {g : Nat → Int} {c : Int} : ∀ n, sumN g n * c = sumN (fun k => g k * c) n
  | 0 => by simp [sumN]
  | n + 1 => by rw [sumN, sumN, ← sumN_mul n, Int.add_mul]
theorem sumN_swap {g : Nat → Nat → Int} (m : Nat) : ∀ n, sumN (fun k => sumN (g k) m) n = sumN (fun o => sumN (fun k => g k o) n) m
  | 0 => by
    show (0 : Int) = _
    rw [show (fun o => sumN (fun k => g k o) 0) = fun _ => 0 from rfl, sumN_zero]
  | n + 1 => by
    rw [sumN, sumN_swap m n, ← sumN_add]
    rfl
theorem sumN_single {g : Nat → Int} {j : Nat} : ∀ n, j < n → (∀ k, k < n → k ≠ j → g k = 0) → sumN g n = g j
  | 0, h, _ => absurd h (by omega)
  | n + 1, h, e => by
    rw [sumN]
    by_cases hj : j = n
    · subst hj
      rw [sumN_congr j (h := fun _ => 0) (fun k hk => e k (by omega) (by omega)), sumN_zero]
      omega
    · rw [sumN_single n (by omega) (fun k hk hne => e k (by omega) hne), e n (by omega) (fun x => hj x.symm)]
      omega
theorem rowS_sum (D : Dg) (d s o : Nat) : ∀ k, D.rowS d s o k = sumN (fun i => if D.hit d s o i then D.wt o i else 0) k
  | 0 => rfl
  | k + 1 => by rw [Dg.rowS, sumN, rowS_sum D d s o k]
theorem allS_sum (D : Dg) (d s : Nat) : ∀ o, D.allS d s o = sumN (fun o => sumN (fun i => if D.hit d s o i then D.wt o i else 0) D.fr.length) o
  | 0 => rfl
  | o + 1 => by rw [Dg.allS, sumN, allS_sum D d s o, rowS_sum]
/-- What a slot gathers of the first diagonals. -/
def Dg.gat (D : Dg) (X : Nat → Int) (s : Nat) (k : Nat) : Int := sumN (fun k => D.val k s * X ((s + k) % D.n)) k
/-- What a number gathers of its first entries. -/
def Dg.mak (D : Dg) (X : Nat → Int) (o i : Nat) : Int := sumN (fun i => D.wt o i * X (D.fr.getD i 0).toNat) i
/-- What the rows make of the first numbers at a slot. -/
def Dg.wan (D : Dg) (X : Nat → Int) (s : Nat) (o : Nat) : Int := sumN (fun o => if D.tt[o]? = some (s : Int) then D.mak X o D.fr.length else 0) o
theorem gat_wan {D : Dg} (ok : D.Ok) (X : Nat → Int) {s : Nat} (hs : s < D.n) : D.gat X s D.n = D.wan X s D.tt.length := by
  unfold Dg.gat Dg.wan
  rw [sumN_congr D.n (h := fun k => sumN (fun o => sumN (fun i => (if D.hit k s o i then D.wt o i else 0) * X ((s + k) % D.n)) D.fr.length) D.tt.length) (fun k _ => by
    show D.val k s * _ = _
    rw [Dg.val, allS_sum, sumN_mul]
    exact sumN_congr _ fun o _ => sumN_mul _)]
  rw [sumN_swap]
  refine sumN_congr _ fun o ho => ?_
  rw [sumN_swap]
  by_cases ht : D.tt[o]? = some (s : Int)
  · rw [if_pos ht]
    unfold Dg.mak
    refine sumN_congr _ fun i hi => ?_
    obtain ⟨f, hf⟩ : ∃ f, D.fr[i]? = some f := ⟨_, List.getElem?_eq_getElem hi⟩
    obtain ⟨f0, f1⟩ := ok.fr.1 i f hf
    obtain ⟨f, rfl⟩ := Int.eq_ofNat_of_zero_le f0
    have hpos := ok.pos
    rw [sumN_single (j := (f + D.n - s) % D.n) D.n (Nat.mod_lt _ hpos) (fun k hk hne => by
      rw [if_neg, Int.zero_mul]
      intro hh
      have h2 := ((hit_iff hpos hk hs ht hf (by omega) (by omega) f0 f1).1 hh).1
      apply hne
      rw [show (f : Int) - s + D.n = ((f + D.n - s : Nat) : Int) by omega, ← Int.natCast_emod] at h2
      omega)]
    have hh : D.hit ((f + D.n - s) % D.n) s o i := (hit_iff hpos (Nat.mod_lt _ hpos) hs ht hf (by omega) (by omega) f0 f1).2 ⟨by rw [show (f : Int) - s + D.n = ((f + D.n - s : Nat) : Int) by omega, ← Int.natCast_emod], rfl⟩
    have h3 := hh.2
    rw [hf] at h3
    injection h3 with h3
    rw [if_pos hh, show (s + (f + D.n - s) % D.n) % D.n = f by omega, show D.fr.getD i 0 = (f : Int) by simp [List.getD, hf], Int.toNat_natCast]
  · rw [if_neg ht]
    rw [sumN_congr _ (h := fun _ => 0) (fun i _ => ?_), sumN_zero]
    rw [sumN_congr _ (h := fun _ => 0) (fun k _ => ?_), sumN_zero]
    rw [if_neg (fun h => ht h.1), Int.zero_mul]
end Go.Proofs.Ytdnjjpkajiehgaa
