import Derived.Test.YtjikdbcjabopnaaGreatDoorJ31
import Derived.Test.YtjikdbcjabopnaaGreatDoorJ32
import Derived.Test.YtjikdbcjabopnaaGreatDoorJ13
import Derived.Test.YtjikdbcjabopnaaGreatDoorJPLaid
import Derived.Test.YtjikdbcjabopnaaGreatDoorJ25
namespace Go.Proofs.YtjikdbcjabopnaaGreatDoor
open Go.RowKit
set_option linter.unusedVariables false
set_option maxRecDepth 100000
theorem ParP.T2 {N : Int} {T L : Nat} {f : Nat → Nat} {W : Int} (h : ParP N T L f W) : 2 ≤ T := isS_ge (h 2 (by omega)).2.2
open Go.ChangeShapes Go.WideShapes Go.ChangeAt Go.RowKit Go.Joins
structure PA (W : World) (N : Int) (T : Nat) (A : Option Addr) (L c : Nat) (Wd : Int) (f : Nat → Nat) : Prop where
 n0 : -9223372036854775808 ≤ N
 n1 : N < 9223372036854775808
 t1 : T < 18446744073709551616
 w0 : -9223372036854775808 ≤ Wd
 w1 : Wd < 9223372036854775808
 fx : FX W A L c f
 len : L ≤ 9223372036854775807
 words : ∀ j, j < L → f j < 18446744073709551616
theorem PA.ext {w w' : World} {N : Int} {T : Nat} {A : Option Addr} {L c : Nat} {Wd : Int} {f : Nat → Nat} (h : PA w N T A L c Wd f) (k : Ext w w') : PA w' N T A L c Wd f := ⟨h.n0, h.n1, h.t1, h.w0, h.w1, h.fx.ext k, h.len, h.words⟩
section
variable {H : Type} {enc : TypeId × Value → H}
end
def fixQ (i : Nat) : Nat := if i = 0 then 97 else 193
theorem par_fix : ParP 8 17 2 fixQ 2 := fun k hk => by
 rcases (show k = 0 ∨ k = 1 ∨ k = 2 ∨ k = 3 ∨ k = 4 ∨ k = 5 by omega) with rfl | rfl | rfl | rfl | rfl | rfl
 ·exact ⟨by decide, by decide, by decide +kernel⟩
 ·exact ⟨by decide, by decide⟩
 ·exact ⟨by decide, by decide +kernel, by decide +kernel⟩
 ·exact ⟨by decide, by decide⟩
 ·intro j hj
  rcases (show j = 0 ∨ j = 1 by omega) with rfl | rfl
  ·exact ⟨by decide, by decide, fun i hi => by omega, by decide +kernel, by decide +kernel⟩
  ·exact ⟨by decide, by decide, fun i hi => by (obtain rfl : i = 0 := by omega); decide, by decide +kernel, by decide +kernel⟩
 ·show Go.bitLen (prodF fixQ 2) ≤ rowS 8
  rw [show prodF fixQ 2 = 18721 by decide, show rowS 8 = 420 by decide]
  decide +kernel
def ErrZ (P : Prop) (z : Nat) : Prop := (P ∧ z = 0) ∨ (¬ P ∧ z = 8)
theorem Chk8.z {w w' : World} {P : Prop} {z : Nat} {e : Ending} (h : Chk8 w P e w') (hz : ErrZ P z) : e = .returned (.int .i64 (z : Int)) ∧ Ext w w' := by
 rcases h with ⟨h, he, hw⟩ | ⟨h, he, hw⟩
 ·rcases hz with ⟨_, rfl⟩ | ⟨h', _⟩
  ·exact ⟨he, hw⟩
  ·exact absurd h h'
 ·rcases hz with ⟨h', _⟩ | ⟨_, rfl⟩
  ·exact absurd h' h
  ·exact ⟨he, hw⟩
theorem checkZ {N : Int} {T : Nat} {Wd : Int} {A : Option Addr} {L c : Nat} {f : Nat → Nat} {z : Nat} {w : World} (hP : PA w N T A L c Wd f) (hL : L ≤ 100) (hT : Tabs w) (hz : Hid (ErrZ (ParP N T L f Wd) z)) :
    Calls Tryz.prog 107 #[.agg #[.int .i64 N, .int .u64 (T : Int), .slice A L c, .int .i64 Wd]] w fun e w' => e = .returned (.int .i64 (z : Int)) ∧ Ext w w' :=
 (check_any N T Wd A L c f w hP.n0 hP.n1 hP.t1 (by omega) hP.fx (Lib.hid hP.words) hT).mono fun e w' h => h.z hz.out
theorem step_threeY : ∀ n, n < 33 → 8 ≤ n → stepS n = true → n = 8 ∨ n = 16 ∨ n = 32 := by decide +kernel
theorem par_rowY {N : Int} {T L : Nat} {q : Nat → Nat} {Wd : Int} (h : ParP N T L q Wd) (hN : N ≤ 32) : RowP N L q ∧ (N = 8 ∨ N = 16 ∨ N = 32) ∧ 1 ≤ L ∧ L ≤ 8 := by
 have hs : SizeP N := h 0 (by omega)
 have hc : CountP L := h 3 (by omega)
 have hp : PrsP N.toNat T L q := h 4 (by omega)
 obtain ⟨n, rfl⟩ := Int.eq_ofNat_of_zero_le (show 0 ≤ N by have := hs.1; omega)
 have h3 : ((n : Int)).toNat = n := Int.toNat_natCast n
 rw [h3] at hp
 have hs2 : stepS n = true := by have := hs.2.2; rwa [h3] at this
 have hn8 : 8 ≤ n := by have := hs.1; omega
 have hst : stepS (2 * n) = true := by rw [step_two n (by omega) (by omega)]; exact hs2
 have h8 := step_threeY n (by omega) hn8 hs2
 refine ⟨⟨by have := hc.1; omega, by have := hc.2; omega, fun j hj => ⟨?_, (hp j hj).2.2.1⟩⟩, by omega, hc.1, hc.2⟩
 unfold FitP
 rw [h3]
 exact ⟨by omega, by have := (hp j hj).1; omega, hst, (hp j hj).2.2.2.1, (hp j hj).2.2.2.2⟩
def TellsS (w : World) (P : Prop) (ee : Ending) (w' : World) : Prop := (P ∧ ee = .returned (.bool true) ∧ w = w') ∨ (¬ P ∧ ee = .returned (.bool false) ∧ w = w')
theorem TellsS.yes {w w' : World} {P : Prop} {ee : Ending} (h : TellsS w P ee w') (hp : P) : ee = .returned (.bool true) ∧ w = w' := by
 rcases h with ⟨_, h⟩ | ⟨h0, _⟩
 ·exact h
 ·exact absurd hp h0
theorem TellsS.no {w w' : World} {P : Prop} {ee : Ending} (h : TellsS w P ee w') (hp : ¬ P) : ee = .returned (.bool false) ∧ w = w' := by
 rcases h with ⟨h0, _⟩ | ⟨_, h⟩
 ·exact absurd h0 hp
 ·exact h
def TellsXU (w : World) (P : Prop) (ee : Ending) (w' : World) : Prop := ((P ∧ ee = .returned (.bool true)) ∨ (¬ P ∧ ee = .returned (.bool false))) ∧ Ext w w'
def TellsXI (w : World) (P : Prop) (ee : Ending) (w' : World) : Prop := ((P ∧ ee = .returned (.bool true)) ∨ (¬ P ∧ ee = .returned (.bool false))) ∧ Ext w w'
end Go.Proofs.YtjikdbcjabopnaaGreatDoor
