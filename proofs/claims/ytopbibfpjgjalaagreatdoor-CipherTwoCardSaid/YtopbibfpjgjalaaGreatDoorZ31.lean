import Derived.Test.YtopbibfpjgjalaaGreatDoorZ30
import Derived.Test.YtopbibfpjgjalaaGreatDoorZ9
import Derived.Test.YtopbibfpjgjalaaGreatDoorZ8
import Derived.Test.YtopbibfpjgjalaaGreatDoorZ19
import Derived.Test.YtopbibfpjgjalaaGreatDoorZ24
import Derived.Test.YtopbibfpjgjalaaGreatDoorZ28
namespace Go.Proofs.YtopbibfpjgjalaaGreatDoor
open Go.RowKit
set_option linter.unusedVariables false
set_option maxRecDepth 100000
theorem ze6 (a b : Nat) (ha : a < 4611686018427387904) (hb : b < 4611686018427387904) : bits .and .i64 (a : Int) (b : Int) = ((a &&& b : Nat) : Int) := by
 have hx : a &&& b < 2 ^ 62 := Nat.and_lt_two_pow _ (by omega)
 have h1 : (BitVec.ofInt 64 (a : Int)).toNat = a := by
  rw [BitVec.ofInt_natCast, BitVec.toNat_ofNat]; exact Nat.mod_eq_of_lt (by omega)
 have h2 : (BitVec.ofInt 64 (b : Int)).toNat = b := by
  rw [BitVec.ofInt_natCast, BitVec.toNat_ofNat]; exact Nat.mod_eq_of_lt (by omega)
 show IntKind.i64.wrap ((BitVec.ofInt 64 (a : Int) &&& BitVec.ofInt 64 (b : Int)).toNat : Int) = _
 rw [BitVec.toNat_and, h1, h2, IntKind.wrap_i64]
 omega
def rowS (N : Int) : Nat := if N = 8 ∨ N = 16 ∨ N = 32 ∨ N = 64 ∨ N = 128 ∨ N = 256 then 420 else if N = 1024 then 27 else if N = 2048 then 54 else if N = 4096 then 109 else 0
theorem zyi (N : Int) (w : World) :
    Calls Tryz.prog 221 #[.int .i64 N] w fun e w' => e = .returned (.int .i64 (rowS N : Int)) ∧ w = w' := by
 have key : ∀ m : Nat, rowS N = m → (N = 8 ∨ N = 16 ∨ N = 32 ∨ N = 64 ∨ N = 128 ∨ N = 256 ∨ N = 1024 ∨ N = 2048 ∨ N = 4096 ∨ (N ≠ 8 ∧ N ≠ 16 ∧ N ≠ 32 ∧ N ≠ 64 ∧ N ≠ 128 ∧ N ≠ 256 ∧ N ≠ 1024 ∧ N ≠ 2048 ∧ N ≠ 4096 ∧ m = 0)) := fun m hm => by
  unfold rowS at hm
  by_cases h : N = 8 ∨ N = 16 ∨ N = 32 ∨ N = 64 ∨ N = 128 ∨ N = 256
  ·omega
  ·rw [if_neg h] at hm
   by_cases h1 : N = 1024
   ·omega
   ·rw [if_neg h1] at hm
    by_cases h2 : N = 2048
    ·omega
    ·rw [if_neg h2] at hm
     by_cases h3 : N = 4096
     ·omega
     ·rw [if_neg h3] at hm; omega
 obtain ⟨m, hm⟩ : ∃ m, rowS N = m := ⟨_, rfl⟩
 have hk := key m hm
 clear key
 rcases hk with rfl | rfl | rfl | rfl | rfl | rfl | rfl | rfl | rfl | ⟨h1, h2, h3, h4, h5, h6, h7, h8, h9, rfl⟩
 case inr.inr.inr.inr.inr.inr.inr.inr.inr =>
  have e1 : (N == 8) = false := by simp; omega
  have e2 : (N == 16) = false := by simp; omega
  have e3 : (N == 32) = false := by simp; omega
  have e4 : (N == 64) = false := by simp; omega
  have e5 : (N == 128) = false := by simp; omega
  have e6 : (N == 256) = false := by simp; omega
  have e7 : (N == 1024) = false := by simp; omega
  have e8 : (N == 2048) = false := by simp; omega
  have e9 : (N == 4096) = false := by simp; omega
  rw [hm]
  go_enter Tryz.func221, Tryz.ntmps221
  go_wp2
  go_ret
  exact ⟨rfl, rfl⟩
 all_goals
  clear hm
  go_enter Tryz.func221, Tryz.ntmps221
  go_wp2
  go_ret
  exact ⟨rfl, rfl⟩
def SizeP (N : Int) : Prop := 8 ≤ N ∧ N ≤ 4096 ∧ stepS N.toNat = true
theorem zet (N T W : Int) (A : Option Addr) (L c : Nat) (w : World) (hL : L ≤ 1000000000000000) :
    Calls Tryz.prog 53 #[.agg #[.int .i64 N, .int .u64 T, .slice A L c, .int .i64 W]] w fun e w' => e = .returned (.int .i64 ((L : Int) - 1)) ∧ Ext w w' := by
 go_enter Tryz.func53, Tryz.ntmps53
 go_wp2
 go_ret
 exact ⟨by go_simp, (Ext.refl w).alloc _⟩
set_option maxHeartbeats 1000000 in
theorem zli (N T W : Int) (A : Option Addr) (L c : Nat) (w : World) (n0 : -9223372036854775808 ≤ N) (n1 : N < 9223372036854775808) :
    Calls Tryz.prog 155 #[.agg #[.int .i64 N, .int .u64 T, .slice A L c, .int .i64 W]] w (Tells w (SizeP N)) := by
 by_cases h0 : 8 ≤ N
 ·by_cases h1 : N ≤ 4096
  ·obtain ⟨n, rfl⟩ := Int.eq_ofNat_of_zero_le (show 0 ≤ N by omega)
   have H := Lib.hid (show SizeP (n : Int) ↔ (n &&& (n - 1)) = 0 by
    unfold SizeP
    rw [Int.toNat_natCast, zmy (by omega) (by omega)]
    constructor
    ·rintro ⟨_, _, h⟩; exact of_decide_eq_true h
    ·intro h; exact ⟨h0, h1, decide_eq_true h⟩)
   have hb := ze6 n (n - 1) (by omega) (by omega)
   rw [show ((n - 1 : Nat) : Int) = (n : Int) - 1 by omega] at hb
   generalize (n &&& (n - 1)) = q at *
   by_cases hq : q = 0
   ·subst hq
    go_enter Tryz.func155, Tryz.ntmps155
    go_wp2
    go_ret
    exact Tells.yes (H.out.2 trivial) ((Ext.refl w).alloc _)
   ·have hq2 : ((q : Int) == 0) = false := by simp; omega
    go_enter Tryz.func155, Tryz.ntmps155
    go_wp2
    go_ret
    exact Tells.no (fun h => hq (H.out.1 h)) ((Ext.refl w).alloc _)
  ·have H := Lib.hid (show ¬ SizeP N from fun h => h1 h.2.1)
   go_enter Tryz.func155, Tryz.ntmps155
   go_wp2
   go_ret
   exact Tells.no H.out ((Ext.refl w).alloc _)
 ·have H := Lib.hid (show ¬ SizeP N from fun h => h0 h.1)
  go_enter Tryz.func155, Tryz.ntmps155
  go_wp2
  go_ret
  exact Tells.no H.out ((Ext.refl w).alloc _)
theorem zix (N T W : Int) (A : Option Addr) (L c : Nat) (w : World) :
    Calls Tryz.prog 156 #[.agg #[.int .i64 N, .int .u64 T, .slice A L c, .int .i64 W]] w (Tells w (1 ≤ W ∧ W ≤ 16)) := by
 by_cases h0 : 1 ≤ W
 ·by_cases h1 : W ≤ 16
  ·go_enter Tryz.func156, Tryz.ntmps156
   go_wp2
   go_ret
   exact Tells.yes ⟨h0, h1⟩ ((Ext.refl w).alloc _)
  ·go_enter Tryz.func156, Tryz.ntmps156
   go_wp2
   go_ret
   exact Tells.no (fun h => by omega) ((Ext.refl w).alloc _)
 ·go_enter Tryz.func156, Tryz.ntmps156
  go_wp2
  go_ret
  exact Tells.no (fun h => by omega) ((Ext.refl w).alloc _)
def zhf (L : Nat) : Prop := 1 ≤ L ∧ L ≤ 8
theorem ziu (N T W : Int) (A : Option Addr) (L c : Nat) (w : World) (hL : L ≤ 1000000000000000) :
    Calls Tryz.prog 158 #[.agg #[.int .i64 N, .int .u64 T, .slice A L c, .int .i64 W]] w (Tells w (zhf L)) := by
 by_cases h0 : 1 ≤ L
 ·have e0 : decide (1 ≤ (L : Int)) = true := by simp; omega
  by_cases h1 : L ≤ 8
  ·have e1 : decide ((L : Int) ≤ 8) = true := by simp; omega
   have H := Lib.hid (show zhf L from ⟨h0, h1⟩)
   clear h0 h1
   go_enter Tryz.func158, Tryz.ntmps158
   go_wp2
   go_ret
   exact Tells.yes H.out ((Ext.refl w).alloc _)
  ·have e1 : decide ((L : Int) ≤ 8) = false := by simp; omega
   have H := Lib.hid (show ¬ zhf L from fun h => h1 h.2)
   clear h0 h1
   go_enter Tryz.func158, Tryz.ntmps158
   go_wp2
   go_ret
   exact Tells.no H.out ((Ext.refl w).alloc _)
 ·obtain rfl : L = 0 := by omega
  have H := Lib.hid (show ¬ zhf 0 from fun h => h0 h.1)
  go_enter Tryz.func158, Tryz.ntmps158
  go_wp2
  go_ret
  exact Tells.no H.out ((Ext.refl w).alloc _)
def FrP (n q : Nat) : Prop := q % (2 * n) = 1 ∧ isS q = true
theorem zdl (n q : Nat) (T W : Int) (A : Option Addr) (L c : Nat) (w : World) (hn0 : 8 ≤ n) (hn1 : n ≤ 4096) (hq : q < 18446744073709551616) (hT : Tabs w) :
    Calls Tryz.prog 219 #[.agg #[.int .i64 (n : Int), .int .u64 T, .slice A L c, .int .i64 W], .int .u64 (q : Int)] w (Tells w (FrP n q)) := by
 have HT := Lib.hid hT
 clear hT
 have kV : Ext w (w.alloc (.cells #[.int .i64 (n : Int), .int .u64 T, .slice A L c, .int .i64 W] 171)) := (Ext.refl w).alloc _
 have hz : ((2 * (n : Int)) == 0) = false := by simp; omega
 have hz2 : ¬ (2 * (n : Int)) = 0 := by omega
 by_cases h1 : q % (2 * n) = 1
 ·have e : ((q : Int) % (2 * (n : Int)) == 1) = true := by
     have : (q : Int) % (2 * (n : Int)) = 1 := by rw [show 2 * (n : Int) = ((2 * n : Nat) : Int) by omega, ← Int.natCast_emod, h1]; rfl
     rw [this]; rfl
  go_enter Tryz.func219, Tryz.ntmps219
  go_wp2_with fail
  refine (zrh q _ hq (HT.out.ext kV)).mono ?_
  cases hi : isS q
  ·rintro ee w2 ⟨rfl, k2⟩
   have HN := Lib.hid (show ¬ FrP n q from fun h => by rw [h.2] at hi; cases hi)
   clear hi
   go_wp2
   go_ret
   exact Tells.no HN.out (kV.trans k2)
  ·rintro ee w2 ⟨rfl, k2⟩
   have HN := Lib.hid (show FrP n q from ⟨h1, hi⟩)
   clear hi
   go_wp2
   go_ret
   exact Tells.yes HN.out (kV.trans k2)
 ·have e : ((q : Int) % (2 * (n : Int)) == 1) = false := by
     have : ¬ (q : Int) % (2 * (n : Int)) = 1 := by rw [show 2 * (n : Int) = ((2 * n : Nat) : Int) by omega, ← Int.natCast_emod]; omega
     simpa using this
  have HN := Lib.hid (show ¬ FrP n q from fun h => h1 h.1)
  clear h1
  go_enter Tryz.func219, Tryz.ntmps219
  go_wp2
  go_ret
  exact Tells.no HN.out kV
def zd9 (n T : Nat) : Prop := T < 1073741824 ∧ FrP n T
theorem zjh (n T : Nat) (W : Int) (A : Option Addr) (L c : Nat) (w : World) (hn0 : 8 ≤ n) (hn1 : n ≤ 4096) (hq : T < 18446744073709551616) (hT : Tabs w) :
    Calls Tryz.prog 157 #[.agg #[.int .i64 (n : Int), .int .u64 (T : Int), .slice A L c, .int .i64 W]] w (Tells w (zd9 n T)) := by
 have HT := Lib.hid hT
 clear hT
 have kV : Ext w (w.alloc (.cells #[.int .i64 (n : Int), .int .u64 (T : Int), .slice A L c, .int .i64 W] 171)) := (Ext.refl w).alloc _
 by_cases h1 : T < 1073741824
 ·have e1 : decide ((T : Int) < 1073741824) = true := by simp; omega
  have H1 := Lib.hid h1
  clear h1
  go_enter Tryz.func157, Tryz.ntmps157
  go_wp2_with fail
  refine (zdl n T (T : Int) W A L c _ hn0 hn1 hq (HT.out.ext kV)).mono ?_
  rintro ee w2 (⟨hy, rfl, k2⟩ | ⟨hy, rfl, k2⟩)
  ·have HN := Lib.hid (show zd9 n T from ⟨H1.out, hy⟩)
   clear hy
   go_wp2
   go_ret
   exact Tells.yes HN.out (kV.trans k2)
  ·have HN := Lib.hid (show ¬ zd9 n T from fun h => hy h.2)
   clear hy
   go_wp2
   go_ret
   exact Tells.no HN.out (kV.trans k2)
 ·have e1 : decide ((T : Int) < 1073741824) = false := by simp; omega
  have HN := Lib.hid (show ¬ zd9 n T from fun h => h1 h.1)
  clear h1
  go_enter Tryz.func157, Tryz.ntmps157
  go_wp2
  go_ret
  exact Tells.no HN.out kV
def PrsP (n T L : Nat) (f : Nat → Nat) : Prop := ∀ j, j < L → f j < 1125899906842624 ∧ f j ≠ T ∧ (∀ i, i < j → f i ≠ f j) ∧ FrP n (f j)
theorem za6 (w : World) (x0 x1 x2 x3 : Value) (t : TypeId) : (w.alloc (.cells #[x0, x1, x2, x3] t)).cell? ⟨w.heap.size, 0, none⟩ = some x0 ∧ (w.alloc (.cells #[x0, x1, x2, x3] t)).cell? ⟨w.heap.size, 1, none⟩ = some x1 ∧ (w.alloc (.cells #[x0, x1, x2, x3] t)).cell? ⟨w.heap.size, 2, none⟩ = some x2 ∧ (w.alloc (.cells #[x0, x1, x2, x3] t)).cell? ⟨w.heap.size, 3, none⟩ = some x3 := by simp
set_option maxHeartbeats 4000000 in
theorem zhk (n T : Nat) (W : Int) (A : Option Addr) (L c : Nat) (f : Nat → Nat) (w : World) (hn0 : 8 ≤ n) (hn1 : n ≤ 4096) (hL : L ≤ 1000) (hTl : T < 18446744073709551616) (hX : FX w A L c f) (hf : Hid (∀ j, j < L → f j < 18446744073709551616)) (hT : Tabs w) :
    Calls Tryz.prog 159 #[.agg #[.int .i64 (n : Int), .int .u64 (T : Int), .slice A L c, .int .i64 W]] w (Tells w (PrsP n T L f)) := by
 have HT := Lib.hid hT
 have HX := Lib.hid hX
 have hroom := hX.room
 clear hT hX
 have kV : Ext w (w.alloc (.cells #[.int .i64 (n : Int), .int .u64 (T : Int), .slice A L c, .int .i64 W] 171)) := (Ext.refl w).alloc _
 obtain ⟨x0, x1, x2, x3⟩ := za6 w (.int .i64 (n : Int)) (.int .u64 (T : Int)) (.slice A L c) (.int .i64 W) 171
 go_enter Tryz.func159, Tryz.ntmps159
 go_wp2_with fail
 generalize w.alloc (.cells #[.int .i64 (n : Int), .int .u64 (T : Int), .slice A L c, .int .i64 W] 171) = V at *
 go_loopw [9] (fun i wr => ∃ k : Nat, k ≤ L ∧ i = .int .i64 (k : Int) ∧ Hid (∀ j, j < k → f j < 1125899906842624 ∧ f j ≠ T ∧ (∀ i, i < j → f i ≠ f j) ∧ FrP n (f j)) ∧ Ext V wr) (fun i _ => L - (intOf i).toNat)
 case atStart => exact ⟨0, by omega, rfl, Lib.hid fun j hj => by omega, Ext.refl _⟩
 case round =>
  obtain ⟨k, hk, rfl, hall, kr⟩ := hrel
  have y0 := cE kr x0
  have y1 := cE kr x1
  have y2 := cE kr x2
  have y3 := cE kr x3
  by_cases hlt : k < L
  ·have hx := HX.out.ext (kV.trans kr)
   obtain ⟨ad, rfl, hc⟩ := hx.cells (by omega)
   have hcell := hc k hlt
   have hql := hf.out k hlt
   clear hc
   have HXk := Lib.hid (hx.cut (m := k) (by omega))
   clear hx
   have i0 : (0 : Int) ≤ (k : Int) := by omega
   have i1 : (k : Int) ≤ (L : Int) := by omega
   have i2 : (k : Int) ≤ (c : Int) := by omega
   have i3 : (k : Int) < (L : Int) := by omega
   by_cases h4 : 1125899906842624 ≤ f k
   ·have HN := Lib.hid (show ¬ PrsP n T L f from fun h => by have := (h k hlt).1; omega)
    have h5 : (1125899906842624 ≤ (f k : Int)) = True := by simp; omega
    have h7 : decide (1125899906842624 ≤ (f k : Int)) = true := by simp; omega
    clear h4
    go_wp2
    go_ret
    exact Tells.no HN.out (kV.trans kr)
   have h5 : (1125899906842624 ≤ (f k : Int)) = False := by simp; omega
   have h7 : decide (1125899906842624 ≤ (f k : Int)) = false := by simp; omega
   have H4 := Lib.hid h4
   clear h4
   by_cases h8 : f k = T
   ·have HN := Lib.hid (show ¬ PrsP n T L f from fun h => (h k hlt).2.1 h8)
    have h9 : ((f k : Int) == (T : Int)) = true := by rw [h8]; simp
    clear h8
    go_wp2
    go_ret
    exact Tells.no HN.out (kV.trans kr)
   have h9 : ((f k : Int) == (T : Int)) = false := by simp; omega
   have H8 := Lib.hid h8
   clear h8
   go_wp2_with fail
   refine (zbz _ k c (f k) f wr HXk.out (by omega)).mono ?_
   rintro ee w1 ⟨b, hb, rfl, rfl⟩
   cases b
   case true =>
    have HN := Lib.hid (show ¬ PrsP n T L f from fun h => by
     obtain ⟨i, hi, he⟩ := hb.out.1 rfl
     exact (h k hlt).2.2.1 i hi he)
    go_wp2
    go_ret
    exact Tells.no HN.out (kV.trans kr)
   have HB := Lib.hid (show ∀ i, i < k → f i ≠ f k from fun i hi he => by
    have := hb.out.2 ⟨i, hi, he⟩; cases this)
   clear hb
   go_wp2_with fail
   refine (zdl n (f k) (T : Int) W (some ad) L c wr hn0 hn1 hql (HT.out.ext (kV.trans kr))).mono ?_
   rintro ee w2 (⟨hy, rfl, k2⟩ | ⟨hy, rfl, k2⟩)
   ·have HALL := Lib.hid (show ∀ j, j < k + 1 → f j < 1125899906842624 ∧ f j ≠ T ∧ (∀ i, i < j → f i ≠ f j) ∧ FrP n (f j) from fun j hj => by
       by_cases hjk : j = k
       ·subst hjk; exact ⟨by have := H4.out; omega, H8.out, HB.out, hy⟩
       ·exact hall.out j (by omega))
    clear hy
    go_wp2
    exact ⟨⟨k + 1, by omega, by go_num, HALL, kr.trans k2⟩, by simp [intOf]; omega⟩
   ·have HN := Lib.hid (show ¬ PrsP n T L f from fun h => hy (h k hlt).2.2.2)
    clear hy
    go_wp2
    go_ret
    exact Tells.no HN.out (kV.trans (kr.trans k2))
  ·have HP := Lib.hid (show PrsP n T L f from fun j hj => hall.out j (by omega))
   go_wp2
   go_ret
   exact Tells.yes HP.out (kV.trans kr)
theorem rowX (N : Int) (R : Nat) (w : World) (hR : Hid (R = rowS N)) : Calls Tryz.prog 221 #[.int .i64 N] w fun e w' => e = .returned (.int .i64 (R : Int)) ∧ Ext w w' :=
 (zyi N w).mono fun e w' ⟨he, hw⟩ => ⟨by rw [hR.out]; exact he, by rw [hw]; exact Ext.refl _⟩
theorem bitsX {A : Option Addr} {n c X B : Nat} {w : World} (h : NX w A n c (nw X)) (hn : n ≤ 1000) (hB : Hid (B = Go.bitLen X)) :
    Calls Tryz.prog 220 #[.slice A n c] w fun e w' => e = .returned (.int .i64 (B : Int)) ∧ Ext w w' :=
 (zlj A n c w.heap.size (nw X) w h (by omega)).mono fun e w' ⟨he, hw⟩ => ⟨by rw [hB.out, he, nv_nw], by rw [hw]; exact Ext.refl _⟩
def BitsP (N : Int) (X : Nat) : Prop := Go.bitLen X ≤ rowS N
set_option maxHeartbeats 4000000 in
theorem zgl (N T : Int) (W : Int) (A : Option Addr) (L c : Nat) (f : Nat → Nat) (w : World) (hL : L ≤ 100) (hX : FX w A L c f) (hf : Hid (∀ j, j < L → f j < 18446744073709551616)) :
    Calls Tryz.prog 160 #[.agg #[.int .i64 N, .int .u64 T, .slice A L c, .int .i64 W]] w (Tells w (BitsP N (prodF f L))) := by
 have HX := Lib.hid hX
 clear hX
 have kV : Ext w (w.alloc (.cells #[.int .i64 N, .int .u64 T, .slice A L c, .int .i64 W] 171)) := (Ext.refl w).alloc _
 obtain ⟨x0, x1, x2, x3⟩ := za6 w (.int .i64 N) (.int .u64 T) (.slice A L c) (.int .i64 W) 171
 obtain ⟨R, hR0⟩ : ∃ R, R = rowS N := ⟨_, rfl⟩
 obtain ⟨B, hB0⟩ : ∃ B, B = Go.bitLen (prodF f L) := ⟨_, rfl⟩
 have HP := Lib.hid (show BitsP N (prodF f L) ↔ B ≤ R by rw [hR0, hB0]; exact Iff.rfl)
 have HR := Lib.hid hR0
 have HB := Lib.hid hB0
 clear hR0 hB0
 go_enter Tryz.func160, Tryz.ntmps160
 go_wp2_with fail
 generalize w.alloc (.cells #[.int .i64 N, .int .u64 T, .slice A L c, .int .i64 W] 171) = V at *
 have kk : Ext V V := Ext.refl V
 go_region_held3 (fun w' => w'.cell? ⟨w.heap.size, 0, none⟩ = some (.int .i64 N) ∧ w'.cell? ⟨w.heap.size, 2, none⟩ = some (.slice A L c)) (go_keep)
  (first
   | (go_at_call 220; refine (bitsX (NX.ext HN.out (by first | exact kx | exact Ext.drew kx)) (by omega) HB).mono ?_; rintro e5 w5 ⟨rfl, k5⟩; (try replace kx := Ext.trans (by first | exact kx | exact Ext.drew kx) k5); replace kk : Ext V w5 := (by first | exact Ext.trans kk k5 | exact Ext.trans (Ext.drew kk) k5); have d0 := cE kk x0; have d2 := cE kk x2)
   | (go_at_call 187; refine (zft A L c f _ (by omega) (HX.out.ext (kV.trans (by first | exact kk | exact Ext.drew kk))) hf).mono ?_; rintro e4 w4 ⟨A2, n2, c2, rfl, hn2, hx2, k4⟩; have HN := Lib.hid hx2; clear hx2; have kx : Ext w4 w4 := Ext.refl w4; replace kk : Ext V w4 := (by first | exact Ext.trans kk k4 | exact Ext.trans (Ext.drew kk) k4); have d0 := cE kk x0; have d2 := cE kk x2)
   | (go_at_call 221; refine (rowX N R _ HR).mono ?_; rintro e6 w6 ⟨rfl, k6⟩; (try replace kx := Ext.trans (by first | exact kx | exact Ext.drew kx) k6); replace kk : Ext V w6 := (by first | exact Ext.trans kk k6 | exact Ext.trans (Ext.drew kk) k6); have d0 := cE kk x0; have d2 := cE kk x2)
   | fail)
 all_goals
  have kz := kV.trans kk
  by_cases h : B ≤ R
  ·have H := Lib.hid (HP.out.2 h)
   have e1 : decide (B ≤ R) = true := decide_eq_true h
   clear h
   go_wp2
   go_ret
   exact (show Tells w (BitsP N (prodF f L)) (.returned (.bool (decide (B ≤ R)))) _ by rw [e1]; exact Tells.yes H.out kz)
  ·have H := Lib.hid (fun h' => h (HP.out.1 h'))
   have e1 : decide (B ≤ R) = false := decide_eq_false h
   clear h
   go_wp2
   go_ret
   exact (show Tells w (BitsP N (prodF f L)) (.returned (.bool (decide (B ≤ R)))) _ by rw [e1]; exact Tells.no H.out kz)
def cnd (N : Int) (T L : Nat) (f : Nat → Nat) (W : Int) : Nat → Prop
 | 0 => SizeP N
 | 1 => 1 ≤ W ∧ W ≤ 16
 | 2 => zd9 N.toNat T
 | 3 => zhf L
 | 4 => PrsP N.toNat T L f
 | _ => BitsP N (prodF f L)
def ParP (N : Int) (T L : Nat) (f : Nat → Nat) (W : Int) : Prop := ∀ k, k < 6 → cnd N T L f W k
def Chk8 (w : World) (P : Prop) (ee : Ending) (w' : World) : Prop := (P ∧ ee = .returned (.int .i64 0) ∧ Ext w w') ∨ (¬ P ∧ ee = .returned (.int .i64 8) ∧ Ext w w')
theorem Chk8.yes {w w' : World} {P : Prop} (h : P) (k : Ext w w') : Chk8 w P (.returned (.int .i64 0)) w' := .inl ⟨h, rfl, k⟩
theorem Chk8.no {w w' : World} {P : Prop} (h : ¬ P) (k : Ext w w') : Chk8 w P (.returned (.int .i64 8)) w' := .inr ⟨h, rfl, k⟩
def cndF : Nat → Nat
 | 0 => 155
 | 1 => 156
 | 2 => 157
 | 3 => 158
 | 4 => 159
 | _ => 160
theorem zgp (N T W : Int) (A : Option Addr) (L c : Nat) (w : World) :
    Calls Tryz.prog 94 #[.agg #[.int .i64 N, .int .u64 T, .slice A L c, .int .i64 W]] w fun ee w' => ∃ g, ee = .returned (.slice (some ⟨g, 0, none⟩) 6 6) ∧ Hid (∀ k, k < 6 → w'.cell? ⟨g, k, none⟩ = some (.func (.func (cndF k)) #[.agg #[.int .i64 N, .int .u64 T, .slice A L c, .int .i64 W]] #[])) ∧ Ext w w' := by
 go_enter Tryz.func94, Tryz.ntmps94
 go_wp2
 go_ret
 refine ⟨_, rfl, Lib.hid fun k hk => ?_, ((Ext.refl w).alloc _).alloc _⟩
 rcases (show k = 0 ∨ k = 1 ∨ k = 2 ∨ k = 3 ∨ k = 4 ∨ k = 5 by omega) with rfl | rfl | rfl | rfl | rfl | rfl <;> simp [cndF]
theorem zd8 {N : Int} (h : SizeP N) : ∃ n : Nat, N = (n : Int) ∧ 8 ≤ n ∧ n ≤ 4096 := by
 obtain ⟨n, rfl⟩ := Int.eq_ofNat_of_zero_le (show 0 ≤ N by have := h.1; omega)
 exact ⟨n, rfl, by have := h.1; omega, by have := h.2.1; omega⟩
theorem zuf {N : Int} {T L : Nat} {f : Nat → Nat} {W : Int} {k : Nat} (h : ∀ j, j < k → cnd N T L f W j) (hy : cnd N T L f W k) : ∀ j, j < k + 1 → cnd N T L f W j := fun j hj => by
 rcases Nat.lt_or_eq_of_le (Nat.le_of_lt_succ hj) with g | g
 ·exact h j g
 ·rw [g]; exact hy
set_option maxHeartbeats 4000000 in
theorem zf6 (N : Int) (T : Nat) (W : Int) (A : Option Addr) (L c : Nat) (f : Nat → Nat) (w : World) (n0 : -9223372036854775808 ≤ N) (n1 : N < 9223372036854775808) (hTl : T < 18446744073709551616) (hL : L ≤ 1000000000000000) (hX : FX w A L c f) (hf : Hid (∀ j, j < L → f j < 18446744073709551616)) (hT : Tabs w) :
    Calls Tryz.prog 46 #[.agg #[.int .i64 N, .int .u64 (T : Int), .slice A L c, .int .i64 W]] w (Chk8 w (ParP N T L f W)) := by
 have HT := Lib.hid hT
 have HX := Lib.hid hX
 clear hT hX
 have kV : Ext w (w.alloc (.cells #[.int .i64 N, .int .u64 (T : Int), .slice A L c, .int .i64 W] 28)) := (Ext.refl w).alloc _
 obtain ⟨x0, x1, x2, x3⟩ := za6 w (.int .i64 N) (.int .u64 (T : Int)) (.slice A L c) (.int .i64 W) 28
 go_enter Tryz.func46, Tryz.ntmps46
 go_wp2_with fail
 generalize w.alloc (.cells #[.int .i64 N, .int .u64 (T : Int), .slice A L c, .int .i64 W] 28) = V at *
 refine (zgp N (T : Int) W A L c V).mono ?_
 rintro ee w1 ⟨g, rfl, hc, k1⟩
 clear x0 x1 x2 x3
 go_wp2
 go_loopw [9] (fun i wr => ∃ k : Nat, k ≤ 6 ∧ i = .int .i64 (k : Int) ∧ Hid (∀ j, j < k → cnd N T L f W j) ∧ Ext w1 wr) (fun i _ => 6 - (intOf i).toNat)
 case atStart => exact ⟨0, by omega, rfl, Lib.hid fun j hj => by omega, Ext.refl _⟩
 case round =>
  obtain ⟨k, hk, rfl, hall, kr⟩ := hrel
  have kw : Ext w wr := kV.trans (k1.trans kr)
  by_cases hlt : k < 6
  ·have hcell := cE kr (hc.out k hlt)
   have HY := Lib.hid (zuf (k := k) hall.out)
   have HN := Lib.hid (show ¬ cnd N T L f W k → ¬ ParP N T L f W from fun h h' => h (h' k hlt))
   have key : ∀ fn : Nat, fn = cndF k → True := fun _ _ => trivial
   clear key
   have e1 : (0 : Int) ≤ (k : Int) := by omega
   have e2 : (k : Int) < 6 := by omega
   rcases (show k = 0 ∨ k = 1 ∨ k = 2 ∨ k = 3 ∨ k = 4 ∨ k = 5 by omega) with rfl | rfl | rfl | rfl | rfl | rfl
   all_goals
    have HC := Lib.hid hcell
    clear hcell
    have hcell := HC.out
    simp only [cndF] at hcell
    clear HC
   ·go_wp2_with fail
    refine (zli N (T : Int) W A L c _ n0 n1).mono ?_
    rintro ee w2 (⟨hy, rfl, k2⟩ | ⟨hy, rfl, k2⟩)
    ·have H2 := Lib.hid (HY.out hy)
     clear hy
     go_wp2
     exact ⟨⟨1, by omega, by go_num, H2, kr.trans k2⟩, by simp [intOf]⟩
    ·have H2 := Lib.hid (HN.out hy)
     clear hy
     go_wp2
     go_ret
     exact Chk8.no H2.out (kw.trans k2)
   ·go_wp2_with fail
    refine (zix N (T : Int) W A L c _).mono ?_
    rintro ee w2 (⟨hy, rfl, k2⟩ | ⟨hy, rfl, k2⟩)
    ·have H2 := Lib.hid (HY.out hy)
     clear hy
     go_wp2
     exact ⟨⟨2, by omega, by go_num, H2, kr.trans k2⟩, by simp [intOf]⟩
    ·have H2 := Lib.hid (HN.out hy)
     clear hy
     go_wp2
     go_ret
     exact Chk8.no H2.out (kw.trans k2)
   ·obtain ⟨n, rfl, hn0, hn1⟩ := zd8 (hall.out 0 (by omega))
    go_wp2_with fail
    refine (zjh n T W A L c _ hn0 hn1 hTl (HT.out.ext kw)).mono ?_
    rintro ee w2 (⟨hy, rfl, k2⟩ | ⟨hy, rfl, k2⟩)
    ·have H2 := Lib.hid (HY.out hy)
     clear hy
     go_wp2
     exact ⟨⟨3, by omega, by go_num, H2, kr.trans k2⟩, by simp [intOf]⟩
    ·have H2 := Lib.hid (HN.out hy)
     clear hy
     go_wp2
     go_ret
     exact Chk8.no H2.out (kw.trans k2)
   ·obtain ⟨n, rfl, hn0, hn1⟩ := zd8 (hall.out 0 (by omega))
    go_wp2_with fail
    refine (ziu (n : Int) (T : Int) W A L c _ hL).mono ?_
    rintro ee w2 (⟨hy, rfl, k2⟩ | ⟨hy, rfl, k2⟩)
    ·have H2 := Lib.hid (HY.out hy)
     clear hy
     go_wp2
     exact ⟨⟨4, by omega, by go_num, H2, kr.trans k2⟩, by simp [intOf]⟩
    ·have H2 := Lib.hid (HN.out hy)
     clear hy
     go_wp2
     go_ret
     exact Chk8.no H2.out (kw.trans k2)
   ·obtain ⟨n, rfl, hn0, hn1⟩ := zd8 (hall.out 0 (by omega))
    have hL8 : L ≤ 100 := by have := (hall.out 3 (by omega)).2; omega
    go_wp2_with fail
    refine (zhk n T W A L c f _ hn0 hn1 (by omega) hTl (HX.out.ext kw) hf (HT.out.ext kw)).mono ?_
    rintro ee w2 (⟨hy, rfl, k2⟩ | ⟨hy, rfl, k2⟩)
    ·have H2 := Lib.hid (HY.out hy)
     clear hy
     go_wp2
     exact ⟨⟨5, by omega, by go_num, H2, kr.trans k2⟩, by simp [intOf]⟩
    ·have H2 := Lib.hid (HN.out hy)
     clear hy
     go_wp2
     go_ret
     exact Chk8.no H2.out (kw.trans k2)
   ·obtain ⟨n, rfl, hn0, hn1⟩ := zd8 (hall.out 0 (by omega))
    have hL8 : L ≤ 100 := by have := (hall.out 3 (by omega)).2; omega
    go_wp2_with fail
    refine (zgl (n : Int) (T : Int) W A L c f _ hL8 (HX.out.ext kw) hf).mono ?_
    rintro ee w2 (⟨hy, rfl, k2⟩ | ⟨hy, rfl, k2⟩)
    ·have H2 := Lib.hid (HY.out hy)
     clear hy
     go_wp2
     exact ⟨⟨6, by omega, by go_num, H2, kr.trans k2⟩, by simp [intOf]⟩
    ·have H2 := Lib.hid (HN.out hy)
     clear hy
     go_wp2
     go_ret
     exact Chk8.no H2.out (kw.trans k2)
  ·obtain rfl : k = 6 := by omega
   have HP := Lib.hid (show ParP N T L f W from hall.out)
   clear hlt hk
   go_wp2
   go_ret
   exact Chk8.yes HP.out kw
theorem znn : (Tryz.prog.info? 235).map (fun i => (i.zero, i.size, i.bytes)) = some (some (.agg #[.int .i64 0, .int .i64 0]), 2, 16) := by kernel_rfl
def zdu (c : Nat) : Array Value := ((List.range (c * 2)).map fun _ => Value.int .i64 0).toArray
theorem zla (w : World) (c : Nat) : RW (w.alloc (.cells (zdu c) 235)) w.heap.size 235 (c * 2) (fun _ => .int .i64 0) := heap_alloc_new w _
theorem zog (c : Nat) (hc : c ≤ 1000000) (w : World) :
    (Instr.makeSlice 218 (.int .i64 (c : Int)) (.int .i64 (c : Int))).run Tryz.prog w = .ok (.slice (some ⟨w.heap.size, 0, none⟩) c c) (w.alloc (.cells (zdu c) 235)) := by
 obtain ⟨i0, hi, hz0, hz1, hz2⟩ := info_parts znn
 have hr := run_make (P := Tryz.prog) w 218 235 i0 (.agg #[.int .i64 0, .int .i64 0]) Tryz.underlying218 hi hz0 .i64 .i64 (c : Int) (c : Int) (by omega) (by omega) (by rw [hz2]; omega) (by omega)
 rw [hz1] at hr
 simp only [Int.toNat_natCast] at hr
 rw [hr]
 have e : madeCells (Value.agg #[.int .i64 0, .int .i64 0]).cells (c * 2) = zdu c := by
  apply Array.toList_inj.1
  unfold zdu madeCells
  apply List.ext_getElem?
  intro j
  by_cases hj : j < c * 2
  ·rcases (show j % 2 = 0 ∨ j % 2 = 1 by omega) with h | h <;> simp [hj, Value.cells, h]
  ·simp [hj]
 rw [e]
def plN (n i : Nat) : Nat := if i % 2 = 0 then atB n (i / 2) else n - 1 - atB n (i / 2)
def plF (n i : Nat) : Value := .int .i64 (plN n i : Int)
theorem zk4 (x : Nat) (w : World) (h1 : 1 ≤ x) (hx : x ≤ 100000) : Calls Tryz.prog 208 #[.int .i64 (x : Int)] w fun e w' => e = .returned (.int .i64 (((x - 1) / 2 : Nat) : Int)) ∧ w = w' := by
 have ht : ((x : Int) - 1).tdiv 2 = (((x - 1) / 2 : Nat) : Int) := by
  rw [Int.tdiv_eq_ediv_of_nonneg (by omega)]; omega
 go_enter Tryz.func208, Tryz.ntmps208
 go_wp2
 go_ret
 exact ⟨by first | rfl | (simp only [ht]) | (congr 2; omega) | (congr 2), rfl⟩
set_option maxHeartbeats 4000000 in
theorem zjc (n : Nat) (w : World) (hn0 : 2 ≤ n) (hn : n ≤ 4096) (hev : n % 2 = 0) :
    Calls Tryz.prog 134 #[.int .i64 (n : Int)] w fun ee w' => ∃ g, ee = .returned (.slice (some ⟨g, 0, none⟩) (n / 2) (n / 2)) ∧ w.heap.size ≤ g ∧ RW w' g 235 (n / 2 * 2) (plF n) ∧ Ext w w' := by
 have hmk := zog (n / 2) (by omega)
 have hq : ((n / 2 : Nat) : Int) = (n : Int) / 2 := by omega
 have hq2 : (n : Int).tdiv 2 = ((n / 2 : Nat) : Int) := by rw [Int.tdiv_eq_ediv_of_nonneg (by omega)]; omega
 obtain ⟨h, hh⟩ : ∃ h, h = n / 2 := ⟨_, rfl⟩
 rw [← hh] at hmk hq2 ⊢
 have hhe : (h : Int) = (n : Int) / 2 := by omega
 rw [hhe] at hmk
 have hle1 : 2 * h ≤ n := by omega
 have hle2 : n ≤ 2 * h := by omega
 clear hhe hq2 hh
 clear hq
 go_enter Tryz.func134, Tryz.ntmps134
 go_wp2
 clear hmk
 have hr0 := zla w h
 have k0 : Ext w (w.alloc (.cells (zdu h) 235)) := (Ext.refl w).alloc _
 have hp0 : pw3 n 0 = 1 := by unfold pw3; rw [Nat.pow_zero]; exact Nat.mod_eq_of_lt (by omega)
 go_loopw [4, 12] (fun p i wr => ∃ k : Nat, k ≤ h ∧ i = .int .i64 (k : Int) ∧ p = .int .i64 (pw3 n k : Int) ∧ RW wr w.heap.size 235 (h * 2) (fun i => if i < k * 2 then plF n i else .int .i64 0) ∧ Ext w wr) (fun _ i _ => h - (intOf i).toNat)
 case atStart => exact ⟨0, by omega, rfl, by rw [hp0]; rfl, hr0.congr fun i _ => by rw [if_neg (by omega)], k0⟩
 case round =>
  obtain ⟨k, hk, rfl, rfl, hr, kr⟩ := hrel
  clear hr0 k0 hp0
  by_cases hlt : k < h
  ·have hpl : pw3 n k < 2 * n := Nat.mod_lt _ (by omega)
   have hpo : 2 * atB n k + 1 ≤ pw3 n k ∧ pw3 n k ≤ 2 * atB n k + 1 := by have := zwx n k; omega
   have hal := at_lt (n := n) (by omega) k
   have HNX := Lib.hid (zu5 n k)
   have HA := Lib.hid (show (pw3 n k - 1) / 2 = atB n k from rfl)
   obtain ⟨hpo1, hpo2⟩ := hpo
   generalize hx : pw3 n k = x at *
   clear hx
   go_wp2_with fail
   refine (zk4 x wr (by omega) (by omega)).mono ?_
   rw [HA.out]
   rintro ee w2 ⟨rfl, rfl⟩
   generalize hat : atB n k = a at *
   have c0 := hr.cell (i := k * 2) (by omega)
   have c1 := hr.cell (i := k * 2 + 1) (by omega)
   have z0 := hr.frozen (k * 2)
   have z1 := hr.frozen (k * 2 + 1)
   have sz := hr.lt
   have i0 : (0 : Int) ≤ (k : Int) := by omega
   have i1 : (k : Int) < (h : Int) := by omega
   have hz : ((2 * (n : Int)) == 0) = false := by simp; omega
   have hz2 : ¬ (2 * (n : Int)) = 0 := by omega
   have m1 : ((x : Int) * 3).tmod (2 * (n : Int)) = ((x * 3 % (2 * n) : Nat) : Int) := by
    rw [Int.tmod_eq_emod_of_nonneg (by omega), show 2 * (n : Int) = ((2 * n : Nat) : Int) by omega, show (x : Int) * 3 = ((x * 3 : Nat) : Int) by omega, ← Int.natCast_emod]
   have m2 : ((x : Int) * 3) % (2 * (n : Int)) = ((x * 3 % (2 * n) : Nat) : Int) := by
    rw [show 2 * (n : Int) = ((2 * n : Nat) : Int) by omega, show (x : Int) * 3 = ((x * 3 : Nat) : Int) by omega, ← Int.natCast_emod]
   rw [← HNX.out] at m1 m2
   have hpn : pw3 n (k + 1) < 2 * n := Nat.mod_lt _ (by omega)
   go_wp2
   have hset := ((hr.set (show k * 2 < h * 2 by omega) (.int .i64 (a : Int))).set (show k * 2 + 1 < h * 2 by omega) (.int .i64 ((n : Int) - 1 - (a : Int)))).congr (G := fun i => if i < (k + 1) * 2 then plF n i else .int .i64 0) fun i hi => by
    by_cases h1 : i = k * 2 + 1
    ·subst h1
     rw [if_pos rfl, if_pos (by omega), plF, plN, if_neg (by omega), show (k * 2 + 1) / 2 = k by omega, hat]
     congr 1; omega
    ·rw [if_neg h1]
     by_cases h2 : i = k * 2
     ·subst h2
      rw [if_pos rfl, if_pos (by omega), plF, plN, if_pos (by omega), show k * 2 / 2 = k by omega, hat]
     ·rw [if_neg h2]
      by_cases h3 : i < k * 2
      ·rw [if_pos h3, if_pos (by omega)]
      ·rw [if_neg h3, if_neg (by omega)]
   have kz := (kr.set (p := ⟨w.heap.size, k * 2, none⟩) (Nat.le_refl _) (.int .i64 (a : Int))).set (p := ⟨w.heap.size, k * 2 + 1, none⟩) (Nat.le_refl _) (.int .i64 ((n : Int) - 1 - (a : Int)))
   exact ⟨⟨k + 1, by omega, by go_num, by first | rfl | (congr 1; omega) | simp, hset, kz⟩, by simp [intOf]; omega⟩
  ·obtain rfl : k = h := by omega
   have hfin := hr.congr (G := plF n) fun i hi => by rw [if_pos hi]
   clear hr
   go_wp2
   go_ret
   exact ⟨_, rfl, Nat.le_refl _, hfin, kr⟩
structure Bt (w : World) (p n T k r v : Nat) : Prop where
 ex : ∃ g t, w.cell? ⟨p, 0, none⟩ = some (.int .u64 (T : Int)) ∧ w.cell? ⟨p, 1, none⟩ = some (.slice (some ⟨g, 0, none⟩) (n / 2) (n / 2)) ∧ w.cell? ⟨p, 2, none⟩ = some (.func (.func 135) #[.pointer (some ⟨t, 0, none⟩)] #[]) ∧ w.cell? ⟨p, 3, none⟩ = some (.func (.func 136) #[.pointer (some ⟨t, 0, none⟩)] #[]) ∧ RW w g 235 (n / 2 * 2) (plF n) ∧ Table w t n T k r v
theorem Bt.ext {w w' : World} {p n T k r v : Nat} (h : Bt w p n T k r v) (e : Ext w w') : Bt w' p n T k r v := by
 obtain ⟨g, t, h0, h1, h2, h3, h4, h5⟩ := h.ex
 exact ⟨g, t, cE e h0, cE e h1, cE e h2, cE e h3, h4.ext e, h5.ext e⟩
set_option maxHeartbeats 4000000 in
theorem zn7 (R I G L m d : Nat) (B : Option Addr) (q p r : Nat → Nat) (As : Nat → Option Addr) (ns cs : Nat → Nat) (w : World) (hL : L ≤ 24) (hg : RW w G 290 (L * 3) (stpF q p As ns cs)) (hm : m ≤ 25) (hB : NX w B m d (nw (prodF q L))) (hf : Hid (∀ j, j < L → (ns j ≤ 25 ∧ NX w (As j) (ns j) (cs j) (nw (prodF q j))) ∧ 2 ≤ q j ∧ q j < 2305843009213693952 ∧ p j < q j ∧ r j < q j)) (hX : jnF q p r 0 L < prodF q L) (hR : Hid (Reads 186 #[.pointer (some ⟨R, 0, none⟩), .pointer (some ⟨I, 0, none⟩)] w L r)) :
    Calls Tryz.prog 185 #[.agg #[.slice (some ⟨G, 0, none⟩) L L, .slice B m d], .func (.func 186) #[] #[.pointer (some ⟨R, 0, none⟩), .pointer (some ⟨I, 0, none⟩)]] w (Told w 1000 (cenB (jnF q p r 0 L) (prodF q L)) (cenN (jnF q p r 0 L) (prodF q L))) := by
 have HG := Lib.hid hg
 have HB := Lib.hid hB
 have HX := Lib.hid hX
 clear hg hB hX
 have hmk := zom L (by omega)
 go_enter Tryz.func185, Tryz.ntmps185
 go_wp2_with fail
 clear hmk
 have hs0 : RW (((w.alloc (.cells #[.slice (some ⟨G, 0, none⟩) L L, .slice B m d] 260)).alloc (.cells #[.bool false, .slice none 0 0] 144)).alloc (.cells (zbl L) 294)) (w.heap.size + 1 + 1) 294 (L * 4) zeroH := by
  have := zlg ((w.alloc (.cells #[.slice (some ⟨G, 0, none⟩) L L, .slice B m d] 260)).alloc (.cells #[.bool false, .slice none 0 0] 144)) L
  rwa [show ((w.alloc (.cells #[.slice (some ⟨G, 0, none⟩) L L, .slice B m d] 260)).alloc (.cells #[.bool false, .slice none 0 0] 144)).heap.size = w.heap.size + 1 + 1 by simp] at this
 have hr0 : RW (((w.alloc (.cells #[.slice (some ⟨G, 0, none⟩) L L, .slice B m d] 260)).alloc (.cells #[.bool false, .slice none 0 0] 144)).alloc (.cells (zbl L) 294)) (w.heap.size + 1) 144 2 (two (.bool false) (.slice none 0 0)) := by
  have : RW ((w.alloc (.cells #[.slice (some ⟨G, 0, none⟩) L L, .slice B m d] 260)).alloc (.cells #[.bool false, .slice none 0 0] 144)) (w.alloc (.cells #[.slice (some ⟨G, 0, none⟩) L L, .slice B m d] 260)).heap.size 144 2 (two (.bool false) (.slice none 0 0)) := heap_alloc_new _ _
  rw [show (w.alloc (.cells #[.slice (some ⟨G, 0, none⟩) L L, .slice B m d] 260)).heap.size = w.heap.size + 1 by simp] at this
  exact this.ext ((Ext.refl _).alloc _)
 have hp0 : RW (((w.alloc (.cells #[.slice (some ⟨G, 0, none⟩) L L, .slice B m d] 260)).alloc (.cells #[.bool false, .slice none 0 0] 144)).alloc (.cells (zbl L) 294)) w.heap.size 260 2 (two (.slice (some ⟨G, 0, none⟩) L L) (.slice B m d)) := by
  have : RW (w.alloc (.cells #[.slice (some ⟨G, 0, none⟩) L L, .slice B m d] 260)) w.heap.size 260 2 (two (.slice (some ⟨G, 0, none⟩) L L) (.slice B m d)) := heap_alloc_new _ _
  exact this.ext (((Ext.refl _).alloc _).alloc _)
 have kV : Ext w (((w.alloc (.cells #[.slice (some ⟨G, 0, none⟩) L L, .slice B m d] 260)).alloc (.cells #[.bool false, .slice none 0 0] 144)).alloc (.cells (zbl L) 294)) := (((Ext.refl w).alloc _).alloc _).alloc _
 generalize (((w.alloc (.cells #[.slice (some ⟨G, 0, none⟩) L L, .slice B m d] 260)).alloc (.cells #[.bool false, .slice none 0 0] 144)).alloc (.cells (zbl L) 294)) = V at *
 obtain ⟨S, hS⟩ : ∃ S, S = w.heap.size + 1 + 1 := ⟨_, rfl⟩
 rw [← hS] at hs0 ⊢
 have hSw : w.heap.size + 1 < S := by omega
 clear hS
 go_loopw [15] (fun i wr => ∃ k : Nat, k ≤ L ∧ i = .int .i64 (k : Int) ∧ RW wr S 294 (L * 4) (shrUp q p r As ns cs k) ∧ RW wr (w.heap.size + 1) 144 2 (two (.bool false) (.slice none 0 0)) ∧ RW wr w.heap.size 260 2 (two (.slice (some ⟨G, 0, none⟩) L L) (.slice B m d)) ∧ Ext w wr) (fun i _ => L - (intOf i).toNat)
 case atStart => exact ⟨0, by omega, rfl, hs0.congr fun i _ => by unfold shrUp; rw [if_neg (by omega)], hr0, hp0, kV⟩
 case round =>
  obtain ⟨k, hk, rfl, hs, hr, hp, kr⟩ := hrel
  clear hs0 hr0 hp0 kV
  by_cases hlt : k < L
  ·obtain ⟨b0, b1, b2⟩ := z27 (HG.out.ext kr) hlt
   have i0 : (0 : Int) ≤ (k : Int) := by omega
   have i1 : (k : Int) < (L : Int) := by omega
   go_wp2_with fail
   have kz : Ext wr (wr.alloc (.cells #[.int .u64 (q k : Int), .slice (As k) (ns k) (cs k), .int .u64 (p k : Int)] 290)) := (Ext.refl _).alloc _
   have hy : RW (wr.alloc (.cells #[.int .u64 (q k : Int), .slice (As k) (ns k) (cs k), .int .u64 (p k : Int)] 290)) wr.heap.size 290 3 (fun j => if j = 0 then .int .u64 (q k : Int) else if j = 1 then .slice (As k) (ns k) (cs k) else .int .u64 (p k : Int)) := heap_alloc_new _ _
   have hsV := hs.ext kz
   have hrV := hr.ext kz
   have hpV := hp.ext kz
   have krV := kr.trans kz
   clear kz hs hr hp b0 b1 b2
   generalize (wr.alloc (.cells #[.int .u64 (q k : Int), .slice (As k) (ns k) (cs k), .int .u64 (p k : Int)] 290)) = W at *
   generalize wr.heap.size = Y at *
   have x0 : W.cell? ⟨Y, 0, none⟩ = some (.int .u64 (q k : Int)) := hy.cell (i := 0) (by omega)
   have x1 : W.cell? ⟨Y, 1, none⟩ = some (.slice (As k) (ns k) (cs k)) := hy.cell (i := 1) (by omega)
   have x2 : W.cell? ⟨Y, 2, none⟩ = some (.int .u64 (p k : Int)) := hy.cell (i := 2) (by omega)
   have neY : Y ≠ S := hy.ne hsV (by decide)
   have ne1 : (Y = S) = False := by simp; exact neY
   have ne2 : (S = Y) = False := by simp; exact fun e => neY e.symm
   have kk : Ext W W := Ext.refl W
   go_region_held3 (fun w' => w'.cell? ⟨Y, 0, none⟩ = some (.int .u64 (q k : Int)) ∧ w'.cell? ⟨Y, 1, none⟩ = some (.slice (As k) (ns k) (cs k)) ∧ w'.cell? ⟨Y, 2, none⟩ = some (.int .u64 (p k : Int))) (go_keep)
    (first
     | (go_at_call 186; refine (hR.out k _ hlt (krV.trans (Ext.drew kk))).mono ?_; rintro e5 w5 ⟨rfl, k5⟩; replace kk : Ext W w5 := (Ext.trans (Ext.drew kk) k5); have y50 := cE kk x0; have y51 := cE kk x1; have y52 := cE kk x2; have r5 := hsV.ext kk; have c50 := r5.cell (i := k * 4) (by omega); have c51 := r5.cell (i := k * 4 + 1) (by omega); have c52 := r5.cell (i := k * 4 + 2) (by omega); have c53 := r5.cell (i := k * 4 + 3) (by omega); have z50 := r5.frozen (k * 4); have z51 := r5.frozen (k * 4 + 1); have z52 := r5.frozen (k * 4 + 2); have z53 := r5.frozen (k * 4 + 3); have s5 := r5.lt)
     | fail)
   have hw6 : (((w5.setCell ⟨S, k * 4, none⟩ (.int .u64 (q k : Int))).setCell ⟨S, k * 4 + 1, none⟩ (.slice (As k) (ns k) (cs k))).setCell ⟨S, k * 4 + 2, none⟩ (.int .u64 (p k : Int))).setCell ⟨S, k * 4 + 3, none⟩ (.int .u64 (r k : Int)) = set4 w5 S (k * 4) (.int .u64 (q k : Int)) (.slice (As k) (ns k) (cs k)) (.int .u64 (p k : Int)) (.int .u64 (r k : Int)) := rfl
   rw [hw6]
   have e1 := zx9 r5 hlt
   have e2 := (hrV.ext kk).keep4 (g := S) (by omega) (k * 4) (.int .u64 (q k : Int)) (.slice (As k) (ns k) (cs k)) (.int .u64 (p k : Int)) (.int .u64 (r k : Int))
   have e3 := (hpV.ext kk).keep4 (g := S) (by omega) (k * 4) (.int .u64 (q k : Int)) (.slice (As k) (ns k) (cs k)) (.int .u64 (p k : Int)) (.int .u64 (r k : Int))
   have e4 := (krV.trans kk).keep4 (g := S) (by omega) (k * 4) (.int .u64 (q k : Int)) (.slice (As k) (ns k) (cs k)) (.int .u64 (p k : Int)) (.int .u64 (r k : Int))
   generalize set4 w5 S (k * 4) (.int .u64 (q k : Int)) (.slice (As k) (ns k) (cs k)) (.int .u64 (p k : Int)) (.int .u64 (r k : Int)) = w6 at *
   go_wp2_with fail
   exact ⟨⟨k + 1, by omega, by go_num, e1, e2, e3, e4⟩, by simp [intOf]; omega⟩
  ·have hkL : k = L := by omega
   subst hkL
   have HS := Lib.hid (show RW wr S 294 (k * 4) (shrF q p r As ns cs) from hs.congr fun i hi => by unfold shrUp; rw [if_pos hi])
   clear hs
   have x0 : wr.cell? ⟨w.heap.size, 0, none⟩ = some (.slice (some ⟨G, 0, none⟩) k k) := hp.cell (i := 0) (by omega)
   have x1 : wr.cell? ⟨w.heap.size, 1, none⟩ = some (.slice B m d) := hp.cell (i := 1) (by omega)
   have kk : Ext wr wr := Ext.refl wr
   go_wp2_with fail
   go_region_held3 (fun w' => w'.cell? ⟨w.heap.size, 0, none⟩ = some (.slice (some ⟨G, 0, none⟩) k k) ∧ w'.cell? ⟨w.heap.size, 1, none⟩ = some (.slice B m d)) (go_keep)
    (first
     | (go_at_call 234; refine (zho (some ⟨G, 0, none⟩) A1 B k k n1 c1 m d _ _ _ (by omega) (by omega) (NX.ext HN1.out kx) (NX.ext HB.out (kr.trans kk)) HX.out).mono ?_; rintro e5 w5 ⟨A2, n2, c2, rfl, hn2, hx2, k5⟩; replace kk : Ext wr w5 := (Ext.trans kk k5); have y50 := cE kk x0; have y51 := cE kk x1; have r5 := hr.ext kk; have c50 := r5.cell (i := 0) (by omega); have c51 := r5.cell (i := 1) (by omega); have z50 := r5.frozen 0; have z51 := r5.frozen 1; have s5 := r5.lt)
     | (go_at_call 235; refine (zpn none 0 0 k S 0 q p r As ns cs _ (by omega) (by omega) (NX.nil6 _) (HS.out.ext (Ext.drew kk)) (Lib.hid fun j hj => ⟨⟨(hf.out j hj).1.1, NX.ext (hf.out j hj).1.2 (kr.trans (Ext.drew kk))⟩, (hf.out j hj).2⟩)).mono ?_; rintro e4 w4 ⟨A1, n1, c1, rfl, hn1, hx1, k4⟩; have HN1 := Lib.hid hx1; clear hx1; replace kk : Ext wr w4 := (Ext.trans (Ext.drew kk) k4); have kx : Ext w4 w4 := Ext.refl w4; have y40 := cE kk x0; have y41 := cE kk x1; have r4 := hr.ext kk; have c40 := r4.cell (i := 0) (by omega); have c41 := r4.cell (i := 1) (by omega); have z40 := r4.frozen 0; have z41 := r4.frozen 1; have s4 := r4.lt)
     | fail)
   go_wp2
   have hb := Lib.hid (rfl : cenB (jnF q p r 0 k) (prodF q k) = cenB (jnF q p r 0 k) (prodF q k))
   have d := zh3 r5 (.bool (cenB (jnF q p r 0 k) (prodF q k))) (.slice A2 n2 c2)
   have d0 : ((w5.setCell ⟨w.heap.size + 1, 0, none⟩ (.bool (cenB (jnF q p r 0 k) (prodF q k)))).setCell ⟨w.heap.size + 1, 1, none⟩ (.slice A2 n2 c2)).cell? ⟨w.heap.size + 1, 0, none⟩ = some (.bool (cenB (jnF q p r 0 k) (prodF q k))) := d.cell (i := 0) (by omega)
   have d1 : ((w5.setCell ⟨w.heap.size + 1, 0, none⟩ (.bool (cenB (jnF q p r 0 k) (prodF q k)))).setCell ⟨w.heap.size + 1, 1, none⟩ (.slice A2 n2 c2)).cell? ⟨w.heap.size + 1, 1, none⟩ = some (.slice A2 n2 c2) := d.cell (i := 1) (by omega)
   have d2 := zr6 (b' := (cenB (jnF q p r 0 k) (prodF q k))) (A2 := A2) (n2 := n2) (c2 := c2) r5 hx2
   have d3 := ((kr.trans kk).set (p := ⟨w.heap.size + 1, 0, none⟩) (by show w.heap.size ≤ w.heap.size + 1; omega) (.bool (cenB (jnF q p r 0 k) (prodF q k)))).set (p := ⟨w.heap.size + 1, 1, none⟩) (by show w.heap.size ≤ w.heap.size + 1; omega) (.slice A2 n2 c2)
   generalize (w5.setCell ⟨w.heap.size + 1, 0, none⟩ (.bool (cenB (jnF q p r 0 k) (prodF q k)))).setCell ⟨w.heap.size + 1, 1, none⟩ (.slice A2 n2 c2) = w9 at *
   exact bodyPost_ret (v := .agg #[.bool (cenB (jnF q p r 0 k) (prodF q k)), .slice A2 n2 c2]) (by simp [results, Tryz.results185, go_sem, d0, d1]) rfl ⟨A2, n2, c2, rfl, by omega, d2, d3⟩
def Lsts (n L : Nat) (ns : Nat → Nat) (f : Nat → Nat → Nat) (q : Nat → Nat) : Prop := ∀ j, j < L → ns j = n ∧ ∀ i, i < n → f j i < q j
theorem zqx (R I L c n i : Nat) (A : Option Addr) (As : Nat → Option Addr) (ns cs : Nat → Nat) (f : Nat → Nat → Nat) (w : World) (hR : w.cell? ⟨R, 0, none⟩ = some (.slice A L c)) (hI : w.cell? ⟨I, 0, none⟩ = some (.int .i64 (i : Int))) (hX : PX w A L c As ns cs f) (hn : ∀ j, j < L → ns j = n) (hi : i < n) (hn2 : n ≤ 100000) (hL : L ≤ 1000) :
    Reads 186 #[.pointer (some ⟨R, 0, none⟩), .pointer (some ⟨I, 0, none⟩)] w L (fun j => f j i) := fun j w1 hj k1 => by
 have hr := cE k1 hR
 have hii := cE k1 hI
 have hx := hX.ext k1
 obtain ⟨ad, rfl, hc⟩ := hx.cells (by omega)
 have hcj := hc j hj
 have hnj := hn j hj
 obtain ⟨ad2, e2, hc2⟩ := (hx.rows j hj).cells (by omega)
 have hcell := hc2 i (by omega)
 rw [e2, hnj] at hcj
 clear hc hc2 hx hX
 obtain ⟨y, hy⟩ : ∃ y, y = f j i := ⟨_, rfl⟩
 rw [← hy] at hcell
 have HY := Lib.hid hy
 clear hy
 have i0 : (0 : Int) ≤ (i : Int) := by omega
 have i1 : (i : Int) < (n : Int) := by omega
 have j0 : (0 : Int) ≤ (j : Int) := by omega
 have j1 : (j : Int) < (L : Int) := by omega
 show Calls Tryz.prog 186 #[.int .i64 (j : Int), .pointer (some ⟨R, 0, none⟩), .pointer (some ⟨I, 0, none⟩)] w1 _
 go_enter Tryz.func186, Tryz.ntmps186
 go_wp2
 go_quiet (fail)
 go_wp2
 go_ret
 exact ⟨by rw [← HY.out]; rfl, by first | exact (Ext.refl _).drewN _ | exact Ext.refl _⟩
theorem zi2 (R I L d j x q : Nat) (B : Option Addr) (Q : Nat → Nat) (w : World) (hR : w.cell? ⟨R, 0, none⟩ = some (.slice B L d)) (hI : w.cell? ⟨I, 0, none⟩ = some (.int .i64 (j : Int))) (hQ : FX w B L d Q) (hj : j < L) (hq : Q j = q) (hx : x < q) (hL : L ≤ 1000) :
    Calls Tryz.prog 232 #[.int .u64 (x : Int), .pointer (some ⟨R, 0, none⟩), .pointer (some ⟨I, 0, none⟩)] w fun ee w' => ee = .returned (.bool false) ∧ Ext w w' := by
 obtain ⟨ad, rfl, hc⟩ := hQ.cells (by omega)
 have hcj := hc j hj
 rw [hq] at hcj
 clear hc hQ hq
 have j0 : (0 : Int) ≤ (j : Int) := by omega
 have j1 : (j : Int) < (L : Int) := by omega
 have e1 : decide ((q : Int) ≤ (x : Int)) = false := decide_eq_false (by omega)
 go_enter Tryz.func232, Tryz.ntmps232
 go_wp2
 go_ret
 exact ⟨by simp; exact hx, Ext.refl _⟩
set_option maxHeartbeats 2000000 in
theorem zop (R I L d j q n c : Nat) (B A : Option Addr) (Q f : Nat → Nat) (w : World) (hR : w.cell? ⟨R, 0, none⟩ = some (.slice B L d)) (hI : w.cell? ⟨I, 0, none⟩ = some (.int .i64 (j : Int))) (hQ : FX w B L d Q) (hj : j < L) (hq : Q j = q) (hL : L ≤ 1000) (hX : FX w A n c f) (hn : n ≤ 100000) (hf : Hid (∀ i, i < n → f i < q)) :
    Calls Tryz.prog 228 #[.slice A n c, .func (.func 232) #[] #[.pointer (some ⟨R, 0, none⟩), .pointer (some ⟨I, 0, none⟩)]] w fun ee w' => ee = .returned (.int .i64 (-1)) ∧ Ext w w' := by
 have HX := Lib.hid hX
 have HQ := Lib.hid hQ
 clear hX hQ
 go_enter Tryz.func228, Tryz.ntmps228
 go_wp2
 go_loopw [8] (fun iv wr => ∃ m : Nat, m ≤ n ∧ iv = .int .i64 (m : Int) ∧ Ext w wr) (fun iv _ => n - (intOf iv).toNat)
 case atStart => exact ⟨0, by omega, rfl, Ext.refl _⟩
 case round =>
  obtain ⟨m, hm, rfl, kr⟩ := hrel
  by_cases hlt : m < n
  ·obtain ⟨ad, rfl, hc⟩ := (HX.out.ext kr).cells (by omega)
   have hcell := hc m hlt
   have hfl := hf.out m hlt
   clear hc
   generalize f m = y at *
   go_wp2_with fail
   refine (zi2 R I L d j y q B Q wr (cE kr hR) (cE kr hI) (HQ.out.ext kr) hj hq hfl hL).mono ?_
   rintro e w2 ⟨rfl, k2⟩
   go_wp2
   exact ⟨⟨m + 1, by omega, by go_num, kr.trans k2⟩, by simp [intOf]; omega⟩
  ·go_wp2
   go_ret
   exact ⟨rfl, kr⟩
theorem zlq (R I L d j q n c : Nat) (B A : Option Addr) (Q f : Nat → Nat) (w : World) (hR : w.cell? ⟨R, 0, none⟩ = some (.slice B L d)) (hI : w.cell? ⟨I, 0, none⟩ = some (.int .i64 (j : Int))) (hQ : FX w B L d Q) (hj : j < L) (hq : Q j = q) (hL : L ≤ 1000) (hX : FX w A n c f) (hn : n ≤ 100000) (hf : Hid (∀ i, i < n → f i < q)) :
    Calls Tryz.prog 171 #[.slice A n c, .func (.func 232) #[] #[.pointer (some ⟨R, 0, none⟩), .pointer (some ⟨I, 0, none⟩)]] w fun ee w' => ee = .returned (.bool false) ∧ Ext w w' := by
 have HI := Lib.hid (zop R I L d j q n c B A Q f w hR hI hQ hj hq hL hX hn hf)
 clear hR hI hQ hX
 go_enter Tryz.func171, Tryz.ntmps171
 go_wp2_with fail
 refine HI.out.mono ?_
 rintro e w2 ⟨rfl, k2⟩
 go_wp2
 go_ret
 exact ⟨rfl, k2⟩
set_option maxHeartbeats 4000000 in
theorem zjr (A B : Option Addr) (L c d n : Nat) (As : Nat → Option Addr) (ns cs : Nat → Nat) (f : Nat → Nat → Nat) (q : Nat → Nat) (w : World) (hX : PX w A L c As ns cs f) (hQ : FX w B L d q) (hL : L ≤ 1000) (hn : n ≤ 100000) (h : Hid (Lsts n L ns f q)) :
    Calls Tryz.prog 183 #[.slice A L c, .slice B L d] w fun ee w' => ee = .returned (.bool true) ∧ Ext w w' := by
 have kV : Ext w (w.alloc (.cells #[.slice B L d] 22)) := (Ext.refl w).alloc _
 have x0 := zam w (.slice B L d) 22
 have HX := Lib.hid (hX.ext kV)
 have HQ := Lib.hid (hQ.ext kV)
 have e0 : ((L : Int) != (L : Int)) = false := by simp
 have e1 : ((n : Int) != (n : Int)) = false := by simp
 clear hX hQ
 go_enter Tryz.func183, Tryz.ntmps183
 go_wp2_with fail
 generalize w.alloc (.cells #[.slice B L d] 22) = V at *
 go_loopw [15] (fun iv wr => ∃ m : Nat, m ≤ L ∧ iv = .int .i64 (m : Int) ∧ Ext V wr) (fun iv _ => L - (intOf iv).toNat)
 case atStart => exact ⟨0, by omega, rfl, Ext.refl _⟩
 case round =>
  obtain ⟨m, hm, rfl, kr⟩ := hrel
  by_cases hlt : m < L
  ·obtain ⟨ad, rfl, hc⟩ := (HX.out.ext kr).cells (by omega)
   have hcell := hc m hlt
   have hcell0 := hc 0 (by omega)
   have hrow := (HX.out.ext kr).rows m hlt
   rw [(h.out m hlt).1] at hcell hrow
   rw [(h.out 0 (by omega)).1] at hcell0
   have HF := Lib.hid (show ∀ i, i < n → f m i < q m from (h.out m hlt).2)
   have HR := Lib.hid hrow
   clear hc hrow
   have i0 : (0 : Int) ≤ (m : Int) := by omega
   have i1 : (m : Int) < (L : Int) := by omega
   have hcell0' : wr.cell? ad = some (.slice (As 0) n (cs 0)) := by simpa [Addr.add] using hcell0
   have x1 := cE kr x0
   have y0 := zam wr (.int .i64 (m : Int)) 3
   have ka : Ext wr (wr.alloc (.cells #[.int .i64 (m : Int)] 3)) := (Ext.refl wr).alloc _
   have c1 := cE ka hcell
   have c2 := cE ka hcell0
   have c3 := cE ka hcell0'
   have c4 := cE ka x1
   go_wp2_with fail
   refine (zlq w.heap.size wr.heap.size L d m (q m) n (cs m) B (As m) q (f m) _ c4 y0 (HQ.out.ext (kr.trans ka)) hlt rfl hL (HR.out.ext ka) hn HF).mono ?_
   rintro e w2 ⟨rfl, k2⟩
   go_wp2
   exact ⟨⟨m + 1, by omega, by go_num, kr.trans (ka.trans k2)⟩, by simp [intOf]; omega⟩
  ·go_wp2
   go_ret
   exact ⟨rfl, kV.trans kr⟩
theorem jn_lt {q p r : Nat → Nat} : ∀ L, (∀ j, j < L → 0 < q j ∧ p j < q j) → jnF q p r 0 L < prodF q L
 | 0, _ => by show 0 < prodF q 0; unfold prodF; omega
 | L + 1, h => by
  have ih := jn_lt (r := r) L (fun j hj => h j (by omega))
  obtain ⟨h1, h2⟩ := h L (by omega)
  rw [jnF, prodF]
  unfold crtF
  have h3 := Nat.mod_lt (dif (r L) (jnF q p r 0 L % q L) (q L) * p L) h1
  generalize dif (r L) (jnF q p r 0 L % q L) (q L) * p L % q L = c at *
  generalize jnF q p r 0 L = X at *
  generalize prodF q L = P at *
  have h4 : c * P ≤ (q L - 1) * P := Nat.mul_le_mul_right _ (by omega)
  have h5 : (q L - 1) * P + P = q L * P := by rw [← Nat.succ_mul]; congr 1; omega
  first
   | omega
   | (rw [Nat.mul_comm P (q L)]; omega)
theorem zng : (Tryz.prog.info? 144).map (fun i => (i.zero, i.size, i.bytes)) = some (some (.agg #[.bool false, .slice none 0 0]), 2, 32) := by kernel_rfl
def zeroV (i : Nat) : Value := if i % 2 = 0 then .bool false else .slice none 0 0
def zbk (c : Nat) : Array Value := ((List.range (c * 2)).map zeroV).toArray
theorem zf0 (w : World) (c : Nat) : RW (w.alloc (.cells (zbk c) 144)) w.heap.size 144 (c * 2) zeroV := heap_alloc_new w _
theorem zgx (c : Nat) (hc : c ≤ 1000000) (w : World) :
    (Instr.makeSlice 131 (.int .i64 (c : Int)) (.int .i64 (c : Int))).run Tryz.prog w = .ok (.slice (some ⟨w.heap.size, 0, none⟩) c c) (w.alloc (.cells (zbk c) 144)) := by
 obtain ⟨i0, hi, hz0, hz1, hz2⟩ := info_parts zng
 have hr := run_make (P := Tryz.prog) w 131 144 i0 (.agg #[.bool false, .slice none 0 0]) Tryz.underlying131 hi hz0 .i64 .i64 (c : Int) (c : Int) (by omega) (by omega) (by rw [hz2]; omega) (by omega)
 rw [hz1] at hr
 simp only [Int.toNat_natCast] at hr
 rw [hr]
 have e : madeCells (Value.agg #[.bool false, .slice none 0 0]).cells (c * 2) = zbk c := by
  apply Array.toList_inj.1
  unfold zbk madeCells zeroV
  apply List.ext_getElem?
  intro j
  by_cases hj : j < c * 2
  ·rcases (show j % 2 = 0 ∨ j % 2 = 1 by omega) with h | h <;> simp [hj, Value.cells, h]
  ·simp [hj]
 rw [e]
def wfF (b : Nat → Bool) (As : Nat → Option Addr) (ns cs : Nat → Nat) (i : Nat) : Value := if i % 2 = 0 then .bool (b (i / 2)) else .slice (As (i / 2)) (ns (i / 2)) (cs (i / 2))
def wfUp (b : Nat → Bool) (As : Nat → Option Addr) (ns cs : Nat → Nat) (k i : Nat) : Value := if i < k * 2 then wfF b As ns cs i else zeroV i
def WK (w : World) (g n k N : Nat) (b : Nat → Bool) (X : Nat → Nat) : Prop := ∃ (As : Nat → Option Addr) (ns cs : Nat → Nat), RW w g 144 (n * 2) (wfUp b As ns cs k) ∧ ∀ i, i < k → ns i ≤ N ∧ NX w (As i) (ns i) (cs i) (nw (X i))
theorem WK.new (w : World) (n N : Nat) (b : Nat → Bool) (X : Nat → Nat) : WK (w.alloc (.cells (zbk n) 144)) w.heap.size n 0 N b X :=
 ⟨fun _ => none, fun _ => 0, fun _ => 0, (zf0 w n).congr fun i _ => by unfold wfUp; rw [if_neg (by omega)], fun i hi => by omega⟩
theorem WK.ext {w w' : World} {g n k N : Nat} {b : Nat → Bool} {X : Nat → Nat} (h : WK w g n k N b X) (e : Ext w w') : WK w' g n k N b X := by
 obtain ⟨As, ns, cs, h1, h2⟩ := h
 exact ⟨As, ns, cs, h1.ext e, fun i hi => ⟨(h2 i hi).1, NX.ext (h2 i hi).2 e⟩⟩
def set2 (w : World) (g i : Nat) (a b : Value) : World := (w.setCell ⟨g, i, none⟩ a).setCell ⟨g, i + 1, none⟩ b
theorem zdt {b : Nat → Bool} {As : Nat → Option Addr} {ns cs : Nat → Nat} {k i : Nat} : ∀ x : Nat, wfUp b As ns cs k i ≠ .int .u64 (x : Int) := fun x => by
 unfold wfUp wfF zeroV
 split <;> split <;> (intro h; cases h)
theorem NX.set2 {w : World} {g m i : Nat} {F : Nat → Value} {A : Option Addr} {n c : Nat} {xs : List Nat} (hr : RW w g 144 m F) (hF : ∀ j (x : Nat), F j ≠ .int .u64 (x : Int)) (hi : i + 1 < m) (h : NX w A n c xs) (u v : Value) : NX (Go.Proofs.YtopbibfpjgjalaaGreatDoor.set2 w g i u v) A n c xs := by
 have h1 := NX.off h (hr.cell (i := i) (by omega)) (hF i) u
 have h2 : (w.setCell ⟨g, i, none⟩ u).cell? ⟨g, i + 1, none⟩ = some (F (i + 1)) := by
  rw [zdp (fun e => by simp at e)]
  exact hr.cell hi
 exact NX.off h1 h2 (hF (i + 1)) v
theorem RW.keep2 {w : World} {x m : Nat} {t : TypeId} {F : Nat → Value} (h : RW w x t m F) {g : Nat} (hg : x ≠ g) (i : Nat) (a b : Value) : RW (set2 w g i a b) x t m F :=
 RW.keep (RW.keep h (Below.heap_setCell _ _ _ _ (fun e => hg (by simpa using e)))) (Below.heap_setCell _ _ _ _ (fun e => hg (by simpa using e)))
theorem Ext.keep2 {a w : World} (h : Ext a w) {g : Nat} (hg : a.heap.size ≤ g) (i : Nat) (x y : Value) : Ext a (set2 w g i x y) :=
 (h.set (p := ⟨g, i, none⟩) hg x).set (p := ⟨g, i + 1, none⟩) hg y
theorem WK.put {w : World} {g n k N m c : Nat} {A : Option Addr} {b : Nat → Bool} {X : Nat → Nat} (h : WK w g n k N b X) (hk : k < n) (hm : m ≤ N) (hx : NX w A m c (nw (X k))) : WK (set2 w g (k * 2) (.bool (b k)) (.slice A m c)) g n (k + 1) N b X := by
 obtain ⟨As, ns, cs, h1, h2⟩ := h
 refine ⟨fun j => if j = k then A else As j, fun j => if j = k then m else ns j, fun j => if j = k then c else cs j, ?_, fun i hi => ?_⟩
 ·refine ((h1.set (show k * 2 < n * 2 by omega) _).set (show k * 2 + 1 < n * 2 by omega) _).congr fun i hi => ?_
  by_cases e1 : i = k * 2 + 1
  ·subst e1
   rw [if_pos rfl]
   unfold wfUp wfF
   dsimp only
   rw [if_pos (by omega), if_neg (by omega), show (k * 2 + 1) / 2 = k by omega, if_pos rfl, if_pos rfl, if_pos rfl]
  ·rw [if_neg e1]
   by_cases e2 : i = k * 2
   ·subst e2
    rw [if_pos rfl]
    unfold wfUp wfF
    rw [if_pos (by omega), if_pos (by omega), show k * 2 / 2 = k by omega]
   ·rw [if_neg e2]
    unfold wfUp wfF
    by_cases e3 : i < k * 2
    ·dsimp only
     rw [if_pos e3, if_pos (show i < (k + 1) * 2 by omega), if_neg (show ¬ i / 2 = k by omega), if_neg (show ¬ i / 2 = k by omega), if_neg (show ¬ i / 2 = k by omega)]
    ·rw [if_neg e3, if_neg (show ¬ i < (k + 1) * 2 by omega)]
 ·dsimp only
  by_cases e : i = k
  ·subst e
   rw [if_pos rfl, if_pos rfl, if_pos rfl]
   exact ⟨hm, NX.set2 h1 (fun _ => zdt) (by omega) hx _ _⟩
  ·rw [if_neg e, if_neg e, if_neg e]
   obtain ⟨h3, h4⟩ := h2 i (by omega)
   exact ⟨h3, NX.set2 h1 (fun _ => zdt) (by omega) h4 _ _⟩
theorem WK.at {w : World} {g n k N : Nat} {b : Nat → Bool} {X : Nat → Nat} (h : WK w g n k N b X) {i : Nat} (hi : i < k) (hk : k ≤ n) : ∃ A m c, w.cell? ⟨g, i * 2, none⟩ = some (.bool (b i)) ∧ w.cell? ⟨g, i * 2 + 1, none⟩ = some (.slice A m c) ∧ m ≤ N ∧ NX w A m c (nw (X i)) := by
 obtain ⟨As, ns, cs, h1, h2⟩ := h
 refine ⟨As i, ns i, cs i, ?_, ?_, h2 i hi⟩
 ·rw [h1.cell (by omega), wfUp, if_pos (by omega), wfF, if_pos (by omega), show i * 2 / 2 = i by omega]
 ·rw [h1.cell (by omega), wfUp, if_pos (by omega), wfF, if_neg (by omega), show (i * 2 + 1) / 2 = i by omega]
def Parts (L : Nat) (q p : Nat → Nat) : Prop := ∀ j, j < L → zd2 (prodF q j % q j) (q j) (p j)
set_option maxHeartbeats 8000000 in
theorem zo7 (A B : Option Addr) (L c d n : Nat) (As : Nat → Option Addr) (ns cs : Nat → Nat) (f : Nat → Nat → Nat) (q : Nat → Nat) (w : World) (hX : PX w A L c As ns cs f) (hB : FX w B L d q) (hq : Hid (∀ j, j < L → q j < 18446744073709551616)) (hT : Tabs w) (hR : RowC L q) (hC : Hid (Lsts n L ns f q)) (hn0 : 0 < n) (hn : n ≤ 1000) :
    Calls Tryz.prog 112 #[.agg #[.slice A L c], .slice B L d] w fun ee w' => ∃ (p : Nat → Nat) (g : Nat), Hid (Parts L q p) ∧ ee = .returned (.tuple #[.slice (some ⟨g, 0, none⟩) n n, .int .i64 0]) ∧ w.heap.size ≤ g ∧ WK w' g n n 1000 (fun i => cenB (jnF q p (fun j => f j i) 0 L) (prodF q L)) (fun i => cenN (jnF q p (fun j => f j i) 0 L) (prodF q L)) ∧ Ext w w' := by
 have kV : Ext w (w.alloc (.cells #[.slice A L c] 56)) := (Ext.refl w).alloc _
 have x0 := zam w (.slice A L c) 56
 have hXV := hX.ext kV
 have HX := Lib.hid hXV
 have HB := Lib.hid (hB.ext kV)
 have HT := Lib.hid (hT.ext kV)
 have HR := Lib.hid hR
 have hL0 := hR.1
 have hL := hR.2.1
 have HQ := Lib.hid (show ∀ j, j < L → 2 ≤ q j ∧ q j < 18446744073709551616 from fun j hj => by
  have := (hR.2.2 j hj).1
  have h1 := this.1
  have h2 := this.2.1
  omega)
 obtain ⟨ad, hA, hcc⟩ := hXV.cells hL0
 have c0 := hcc 0 hL0
 rw [(hC.out 0 hL0).1] at c0
 have c0' : (w.alloc (.cells #[.slice A L c] 56)).cell? ad = some (.slice (As 0) n (cs 0)) := by simpa [Addr.add] using c0
 subst hA
 have hmk := zgx n (by omega)
 clear hX hB hT hR hXV hcc
 have i00 : (0 : Int) < (L : Int) := by omega
 go_enter Tryz.func112, Tryz.ntmps112
 go_wp2_with fail
 generalize w.alloc (.cells #[.slice (some ad) L c] 56) = V at *
 refine (zju B L d q V (by omega) HB.out hq HT.out).mono ?_
 rintro e1 w1 h1
 obtain ⟨rfl, k1⟩ := ziz h1 HR.out
 clear h1
 have x1 := cE k1 x0
 go_wp2_with fail
 refine (zjr (some ad) B L c d n As ns cs f q w1 (HX.out.ext k1) (HB.out.ext k1) (by omega) (by omega) hC).mono ?_
 rintro e2 w2 ⟨rfl, k2⟩
 replace k2 := k1.trans k2
 go_wp2_with fail
 refine (zpg B L d q w2 hL (HB.out.ext k2) HQ).mono ?_
 rintro e3 w3 ⟨G, p, As3, ns3, cs3, A3, n3, c3, rfl, hg, hn3, hx3, hall, k3⟩
 have HG := Lib.hid hg
 have H3 := Lib.hid hx3
 have HPO := Lib.hid (show Parts L q p from fun j hj => (hall.out j hj).2.2)
 clear hg hx3
 replace k3 := k2.trans k3
 replace x1 := cE k3 x0
 replace c0 := cE k3 c0
 replace c0' := cE k3 c0'
 clear k1 k2
 have i0 : (0 : Int) ≤ (n : Int) := by omega
 have k4 : Ext w3 (w3.alloc (.cells #[.slice (some ⟨G, 0, none⟩) L L, .slice A3 n3 c3] 260)) := (Ext.refl w3).alloc _
 have d0 := cE k4 c0
 have d0' := cE k4 c0'
 have d1 := cE k4 x1
 go_wp2_with fail
 have hsz4 : (w3.alloc (.cells #[.slice (some ⟨G, 0, none⟩) L L, .slice A3 n3 c3] 260)).heap.size = w3.heap.size + 1 := by simp
 have hw4 := WK.new (w3.alloc (.cells #[.slice (some ⟨G, 0, none⟩) L L, .slice A3 n3 c3] 260)) n 1000 (fun i => cenB (jnF q p (fun j => f j i) 0 L) (prodF q L)) (fun i => cenN (jnF q p (fun j => f j i) 0 L) (prodF q L))
 have hp4 : RW (w3.alloc (.cells #[.slice (some ⟨G, 0, none⟩) L L, .slice A3 n3 c3] 260)) w3.heap.size 260 2 (two (.slice (some ⟨G, 0, none⟩) L L) (.slice A3 n3 c3)) := heap_alloc_new _ _
 rw [hsz4] at hw4
 have k5 : Ext w3 ((w3.alloc (.cells #[.slice (some ⟨G, 0, none⟩) L L, .slice A3 n3 c3] 260)).alloc (.cells (zbk n) 144)) := k4.alloc _
 replace hp4 := hp4.ext ((Ext.refl _).alloc (.cells (zbk n) 144))
 have k35 := k3.trans k5
 have hsV : V.heap.size ≤ w3.heap.size := k3.size
 clear hmk hsz4 d0 d0' d1 k4 c0 c0' x1
 generalize (w3.alloc (.cells #[.slice (some ⟨G, 0, none⟩) L L, .slice A3 n3 c3] 260)).alloc (.cells (zbk n) 144) = V5 at *
 have HALL := Lib.hid (show ∀ j, j < L → (ns3 j ≤ 25 ∧ NX w3 (As3 j) (ns3 j) (cs3 j) (nw (prodF q j))) ∧ 2 ≤ q j ∧ q j < 2305843009213693952 ∧ p j < q j from fun j hj => ⟨⟨(hall.out j hj).1, (hall.out j hj).2.1⟩, (HQ.out j hj).1, (HR.out.2.2 j hj).1.2.1, (hall.out j hj).2.2.1⟩)
 have HX3 := Lib.hid (HX.out.ext k3)
 have x3 := cE k3 x0
 have HJ := Lib.hid (show ∀ r : Nat → Nat, jnF q p r 0 L < prodF q L from fun r => jn_lt L fun j hj => ⟨by have := (HQ.out j hj).1; omega, (hall.out j hj).2.2.1⟩)
 have kw3 := kV.trans k3
 have hsw3 := kw3.size
 obtain ⟨b, hb⟩ : ∃ b : Nat → Bool, b = (fun i => cenB (jnF q p (fun j => f j i) 0 L) (prodF q L)) := ⟨_, rfl⟩
 obtain ⟨X, hXv⟩ : ∃ X : Nat → Nat, X = (fun i => cenN (jnF q p (fun j => f j i) 0 L) (prodF q L)) := ⟨_, rfl⟩
 rw [← hb, ← hXv] at hw4
 have HBV := Lib.hid hb
 have HXV := Lib.hid hXv
 clear hall x0 HX HB kV k3 k35 hb hXv HT
 obtain ⟨g5, hg5⟩ : ∃ g5, g5 = w3.heap.size + 1 := ⟨_, rfl⟩
 rw [← hg5] at hw4 ⊢
 have hg5' : w3.heap.size < g5 := by omega
 clear hg5
 go_loopw [27] (fun iv wr => ∃ k : Nat, k ≤ n ∧ iv = .int .i64 (k : Int) ∧ WK wr g5 n k 1000 b X ∧ RW wr w3.heap.size 260 2 (two (.slice (some ⟨G, 0, none⟩) L L) (.slice A3 n3 c3)) ∧ Ext w3 wr) (fun iv _ => n - (intOf iv).toNat)
 case atStart => exact ⟨0, by omega, rfl, hw4, hp4, k5⟩
 case round =>
  obtain ⟨k, hk, rfl, hwk, hp, kr⟩ := hrel
  clear hw4 hp4 k5
  by_cases hlt : k < n
  ·have i1 : (k : Int) < (n : Int) := by omega
   have i2 : (0 : Int) ≤ (k : Int) := by omega
   have ka : Ext wr (wr.alloc (.cells #[.int .i64 (k : Int)] 3)) := (Ext.refl wr).alloc _
   have y0 := zam wr (.int .i64 (k : Int)) 3
   have hy : RW (wr.alloc (.cells #[.int .i64 (k : Int)] 3)) wr.heap.size 3 1 (fun _ => .int .i64 (k : Int)) := heap_alloc_new _ _
   have hwa := hwk.ext ka
   have hpa := hp.ext ka
   have kra := kr.trans ka
   have hsr := kr.size
   obtain ⟨Bs, Ns, Cs, hrw, hxs⟩ := hwk
   have neY : wr.heap.size ≠ g5 := by have := hrw.lt; omega
   have neP : w3.heap.size ≠ g5 := by omega
   have hrwa := hrw.ext ka
   clear hwa hp kr
   go_wp2_with fail
   generalize wr.alloc (.cells #[.int .i64 (k : Int)] 3) = W at *
   obtain ⟨Y, hY⟩ : ∃ Y, Y = wr.heap.size := ⟨_, rfl⟩
   rw [← hY] at y0 hy neY ⊢
   clear hY hrw
   have p0 : W.cell? ⟨w3.heap.size, 0, none⟩ = some (.slice (some ⟨G, 0, none⟩) L L) := hpa.cell (i := 0) (by omega)
   have p1 : W.cell? ⟨w3.heap.size, 1, none⟩ = some (.slice A3 n3 c3) := hpa.cell (i := 1) (by omega)
   have ne1 : (Y = g5) = False := by simp; exact neY
   have ne2 : (g5 = Y) = False := by simp; exact fun e => neY e.symm
   have ne3 : (w3.heap.size = g5) = False := by simp; exact neP
   have ne4 : (g5 = w3.heap.size) = False := by simp; exact fun e => neP e.symm
   have HC := Lib.hid (show Lsts n L ns f q from hC.out)
   have kk : Ext W W := Ext.refl W
   go_region_held3 (fun w' => w'.cell? ⟨Y, 0, none⟩ = some (.int .i64 (k : Int)) ∧ w'.cell? ⟨w3.heap.size, 0, none⟩ = some (.slice (some ⟨G, 0, none⟩) L L) ∧ w'.cell? ⟨w3.heap.size, 1, none⟩ = some (.slice A3 n3 c3)) (go_keep)
    (first
     | (go_at_call 185; refine (zn7 w.heap.size Y G L n3 c3 A3 q p (fun j => f j k) As3 ns3 cs3 _ hL (HG.out.ext (kra.trans (Ext.drew kk))) hn3 (NX.ext H3.out (kra.trans (Ext.drew kk))) (Lib.hid fun j hj => ⟨⟨(HALL.out j hj).1.1, NX.ext (HALL.out j hj).1.2 (kra.trans (Ext.drew kk))⟩, (HALL.out j hj).2.1, (HALL.out j hj).2.2.1, (HALL.out j hj).2.2.2, (HC.out j hj).2 k hlt⟩) (HJ.out _) (Lib.hid (zqx w.heap.size Y L c n k (some ad) As ns cs f _ (cE (kra.trans (Ext.drew kk)) x3) (cE (Ext.drew kk) y0) (HX3.out.ext (kra.trans (Ext.drew kk))) (fun j hj => (HC.out j hj).1) hlt (by omega) (by omega)))).mono ?_; rintro e5 w5 ⟨A5, n5, c5, rfl, hn5, hx5, k5⟩; replace kk : Ext W w5 := (Ext.trans (Ext.drew kk) k5); have z0 := cE kk y0; have z1 := cE kk p0; have z2 := cE kk p1; have r5 := hrwa.ext kk; have c50 := r5.cell (i := k * 2) (by omega); have c51 := r5.cell (i := k * 2 + 1) (by omega); have f50 := r5.frozen (k * 2); have f51 := r5.frozen (k * 2 + 1); have s5 := r5.lt)
     | fail)
   all_goals
    have hw6 : (w5.setCell ⟨g5, k * 2, none⟩ (.bool (cenB (jnF q p (fun j => f j k) 0 L) (prodF q L)))).setCell ⟨g5, k * 2 + 1, none⟩ (.slice A5 n5 c5) = set2 w5 g5 (k * 2) (.bool (cenB (jnF q p (fun j => f j k) 0 L) (prodF q L))) (.slice A5 n5 c5) := rfl
    have hbk : cenB (jnF q p (fun j => f j k) 0 L) (prodF q L) = b k := by rw [HBV.out]
    rw [hw6, hbk]
    have kx := ka.trans kk
    have hput : WK (set2 w5 g5 (k * 2) (.bool (b k)) (.slice A5 n5 c5)) g5 n (k + 1) 1000 b X := WK.put ⟨Bs, Ns, Cs, r5, fun i hi => ⟨(hxs i hi).1, NX.ext (hxs i hi).2 kx⟩⟩ hlt hn5 (by rw [HXV.out]; exact hx5)
    have hp6 := (hpa.ext kk).keep2 neP (k * 2) (.bool (b k)) (.slice A5 n5 c5)
    have k6 := (kra.trans kk).keep2 (g := g5) (by omega) (k * 2) (.bool (b k)) (.slice A5 n5 c5)
    generalize set2 w5 g5 (k * 2) (.bool (b k)) (.slice A5 n5 c5) = w6 at *
    clear z0 z1 z2 c50 c51 f50 f51 s5 hw6 hbk r5 hxs hrwa hpa p0 p1 y0 hy
    go_wp2
    exact ⟨⟨k + 1, by omega, by go_num, hput, hp6, k6⟩, by simp [intOf]; omega⟩
  ·obtain rfl : k = n := by omega
   have HW := Lib.hid hwk
   clear hwk
   go_wp2
   go_ret2
   exact ⟨p, g5, HPO, rfl, by omega, by rw [← HBV.out, ← HXV.out]; exact HW.out, kw3.trans kr⟩
end Go.Proofs.YtopbibfpjgjalaaGreatDoor
