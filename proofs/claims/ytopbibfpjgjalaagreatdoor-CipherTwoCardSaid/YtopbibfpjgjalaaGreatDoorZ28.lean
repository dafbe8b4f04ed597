import Derived.Test.YtopbibfpjgjalaaGreatDoorZ26
import Derived.Test.YtopbibfpjgjalaaGreatDoorZTShifts
import Derived.Deep.Upon
import Derived.Lib.SliceRun
import Derived.Test.YtopbibfpjgjalaaGreatDoorZTOpen
import Derived.Deep.Matrix
namespace Go.Proofs.YtopbibfpjgjalaaGreatDoor
open Go.RowKit
set_option linter.unusedVariables false
set_option maxRecDepth 100000
def q2 (i : Nat) : Nat := if i = 0 then 5 else 13
def OkQ (x : Nat) : Prop := 3 ≤ x ∧ x < 2305843009213693952 ∧ isS x = true
def RowC (L : Nat) (q : Nat → Nat) : Prop := 0 < L ∧ L ≤ 24 ∧ ∀ j, j < L → OkQ (q j) ∧ ∀ i, i < j → q i ≠ q j
set_option maxHeartbeats 4000000 in
theorem zju (A : Option Addr) (L c : Nat) (q : Nat → Nat) (w : World) (hL : L ≤ 100000) (hX : FX w A L c q) (hq : Hid (∀ j, j < L → q j < 18446744073709551616)) (hT : Tabs w) :
    Calls Tryz.prog 182 #[.slice A L c] w (Tells w (RowC L q)) := by
 have HT := Lib.hid hT
 have HX := Lib.hid hX
 clear hT hX
 by_cases g0 : L = 0
 ·subst g0
  have HN := Lib.hid (show ¬ RowC 0 q from fun h => by have := h.1; omega)
  go_enter Tryz.func182, Tryz.ntmps182
  go_wp2
  go_ret
  exact Tells.no HN.out (Ext.refl _)
 have g0b : ((L : Int) == 0) = false := by simp; omega
 by_cases g1 : 24 < L
 ·have HN := Lib.hid (show ¬ RowC L q from fun h => by have := h.2.1; omega)
  go_enter Tryz.func182, Tryz.ntmps182
  go_wp2
  go_ret
  exact Tells.no HN.out (Ext.refl _)
 go_enter Tryz.func182, Tryz.ntmps182
 go_wp2
 go_loopw [15] (fun i wr => ∃ k : Nat, k ≤ L ∧ i = .int .i64 (k : Int) ∧ Hid (∀ j, j < k → OkQ (q j) ∧ ∀ i, i < j → q i ≠ q j) ∧ Ext w wr) (fun i _ => L - (intOf i).toNat)
 case atStart => exact ⟨0, by omega, rfl, Lib.hid fun j hj => by omega, Ext.refl _⟩
 case round =>
  obtain ⟨k, hk, rfl, hall, kr⟩ := hrel
  by_cases hlt : k < L
  ·have hx := HX.out.ext kr
   obtain ⟨ad, rfl, hc⟩ := hx.cells (by omega)
   have hcell := hc k hlt
   have hql := hq.out k hlt
   have hroom := hx.room
   clear hc
   have HXk := Lib.hid (hx.cut (m := k) (by omega))
   clear hx
   have i0 : (0 : Int) ≤ (k : Int) := by omega
   have i1 : (k : Int) ≤ (L : Int) := by omega
   have i2 : (k : Int) ≤ (c : Int) := by omega
   by_cases h3 : q k < 3
   ·have HN := Lib.hid (show ¬ RowC L q from fun h => by have := (h.2.2 k hlt).1.1; omega)
    go_wp2
    go_ret
    exact Tells.no HN.out kr
   by_cases h4 : 2305843009213693952 ≤ q k
   ·have HN := Lib.hid (show ¬ RowC L q from fun h => by have := (h.2.2 k hlt).1.2.1; omega)
    have h5 : (2305843009213693952 ≤ (q k : Int)) = True := by simp; omega
    go_wp2
    go_ret
    exact Tells.no HN.out kr
   have h5 : (2305843009213693952 ≤ (q k : Int)) = False := by simp; omega
   have h6 : ((q k : Int) < 3) = False := by simp; omega
   have h7 : decide (2305843009213693952 ≤ (q k : Int)) = false := by simp; omega
   have h8 : decide ((q k : Int) < 3) = false := by simp; omega
   have H34 := Lib.hid (And.intro h3 h4)
   clear h3 h4
   go_wp2_with fail
   refine (zbz _ k c (q k) q wr HXk.out (by omega)).mono ?_
   rintro ee w1 ⟨b, hb, rfl, rfl⟩
   cases b
   case true =>
    have HN := Lib.hid (show ¬ RowC L q from fun h => by
     obtain ⟨i, hi, he⟩ := hb.out.1 rfl
     exact (h.2.2 k hlt).2 i hi he)
    go_wp2
    go_ret
    exact Tells.no HN.out kr
   have HB := Lib.hid (show ∀ i, i < k → q i ≠ q k from fun i hi he => by
    have := hb.out.2 ⟨i, hi, he⟩; cases this)
   clear hb
   go_wp2_with fail
   refine (zrh (q k) wr hql (HT.out.ext kr)).mono ?_
   cases hi : isS (q k)
   ·rintro ee w2 ⟨rfl, k2⟩
    have HN := Lib.hid (show ¬ RowC L q from fun h => by have := (h.2.2 k hlt).1.2.2; rw [hi] at this; cases this)
    clear hi
    go_wp2
    go_ret
    exact Tells.no HN.out (kr.trans k2)
   ·rintro ee w2 ⟨rfl, k2⟩
    have HALL := Lib.hid (show ∀ j, j < k + 1 → OkQ (q j) ∧ ∀ i, i < j → q i ≠ q j from fun j hj => by
     by_cases hjk : j = k
     ·subst hjk; exact ⟨⟨by have := H34.out.1; omega, by have := H34.out.2; omega, hi⟩, HB.out⟩
     ·exact hall.out j (by omega))
    clear hi
    go_wp2
    exact ⟨⟨k + 1, by omega, by go_num, HALL, kr.trans k2⟩, by simp [intOf]; omega⟩
  ·have HP := Lib.hid (show RowC L q from ⟨by omega, by omega, fun j hj => hall.out j (by omega)⟩)
   go_wp2
   go_ret
   exact Tells.yes HP.out kr
theorem zbi (ad : Addr) (j : Nat) : (ad.add j).block = ad.block := by unfold Addr.add; split <;> rfl
end Go.Proofs.YtopbibfpjgjalaaGreatDoor
