import Derived.Test.YtopbibfpjgjalaaGreatDoorZ31
import Derived.Test.YtopbibfpjgjalaaGreatDoorZ29
import Derived.Test.YtopbibfpjgjalaaGreatDoorZ3
import Derived.Deep.QuietTactic
import Derived.BigQuiet
import Derived.Carry
import Derived.ChangeSlices
import Derived.Lib.SmallJoins
import Derived.OpenShut
import Derived.Test.YtopbibfpjgjalaaGreatDoorZ1
import Derived.Test.YtopbibfpjgjalaaGreatDoorZTOpen
import Derived.Test.YtopbibfpjgjalaaGreatDoorZ24
import Derived.Test.YtopbibfpjgjalaaGreatDoorZ25
namespace Go.Proofs.YtopbibfpjgjalaaGreatDoor
open Go.RowKit
set_option linter.unusedVariables false
set_option maxRecDepth 100000
def z0j (w : World) (P : Prop) (L : Nat) (l : Int) (f : Nat → Nat) (ee : Ending) (w' : World) : Prop :=
 (¬ P ∧ ee = .returned (.tuple #[.slice none 0 0, .int .i64 8]) ∧ Ext w w') ∨
 (P ∧ ¬ (0 ≤ l ∧ l < L) ∧ ee = .returned (.tuple #[.slice none 0 0, .int .i64 10]) ∧ Ext w w') ∨
 (P ∧ (0 ≤ l ∧ l < L) ∧ ∃ A n c, ee = .returned (.tuple #[.slice A n c, .int .i64 0]) ∧ n ≤ 9 ∧ NX w' A n c (nw (prodF f (l.toNat + 1))) ∧ Ext w w')
set_option maxHeartbeats 4000000 in
theorem zgh (N : Int) (T : Nat) (W : Int) (A : Option Addr) (L c : Nat) (f : Nat → Nat) (l : Int) (w : World) (n0 : -9223372036854775808 ≤ N) (n1 : N < 9223372036854775808) (l0 : -9223372036854775808 ≤ l) (l1 : l < 9223372036854775808) (hTl : T < 18446744073709551616) (hL : L ≤ 1000000000000000) (hX : FX w A L c f) (hf : Hid (∀ j, j < L → f j < 18446744073709551616)) (hT : Tabs w) :
    Calls Tryz.prog 114 #[.agg #[.int .i64 N, .int .u64 (T : Int), .slice A L c, .int .i64 W], .int .i64 l] w (z0j w (ParP N T L f W) L l f) := by
 have HT := Lib.hid hT
 have HX := Lib.hid hX
 have hroom := hX.room
 clear hT hX
 have kV : Ext w (w.alloc (.cells #[.int .i64 N, .int .u64 (T : Int), .slice A L c, .int .i64 W] 28)) := (Ext.refl w).alloc _
 obtain ⟨x0, x1, x2, x3⟩ := za6 w (.int .i64 N) (.int .u64 (T : Int)) (.slice A L c) (.int .i64 W) 28
 go_enter Tryz.func114, Tryz.ntmps114
 go_wp2_with fail
 generalize w.alloc (.cells #[.int .i64 N, .int .u64 (T : Int), .slice A L c, .int .i64 W] 28) = V at *
 refine (zf6 N T W A L c f V n0 n1 hTl hL (HX.out.ext kV) hf (HT.out.ext kV)).mono ?_
 rintro ee w1 (⟨hy, rfl, k1⟩ | ⟨hy, rfl, k1⟩)
 case inr =>
  have H := Lib.hid hy
  clear hy
  go_wp2
  go_ret2
  exact .inl ⟨H.out, rfl, kV.trans k1⟩
 have HP := Lib.hid hy
 have hL8 : L ≤ 8 := (hy 3 (by omega)).2
 have hL1 : 1 ≤ L := (hy 3 (by omega)).1
 clear hy
 have kw := kV.trans k1
 have y0 := cE k1 x0
 have y1 := cE k1 x1
 have y2 := cE k1 x2
 have y3 := cE k1 x3
 clear x0 x1 x2 x3
 by_cases h0 : l < 0
 ·have e0 : decide (l < 0) = true := by simp; omega
  have HN := Lib.hid (show ¬ (0 ≤ l ∧ l < (L : Int)) by omega)
  clear h0
  go_wp2
  go_ret2
  exact .inr (.inl ⟨HP.out, HN.out, rfl, kw⟩)
 have e0 : decide (l < 0) = false := by simp; omega
 have e0b : (l < 0) = False := by simp; omega
 have H0 := Lib.hid h0
 clear h0
 go_wp2_with fail
 refine (zet N (T : Int) W A L c w1 (by omega)).mono ?_
 rintro ee w2 ⟨rfl, k2⟩
 have z2 := cE k2 y2
 by_cases h1 : (L : Int) - 1 < l
 ·have e1 : decide ((L : Int) - 1 < l) = true := by simp; omega
  have HN := Lib.hid (show ¬ (0 ≤ l ∧ l < (L : Int)) by omega)
  clear h1
  go_wp2
  go_ret2
  exact .inr (.inl ⟨HP.out, HN.out, rfl, kw.trans k2⟩)
 have e1 : decide ((L : Int) - 1 < l) = false := by simp; omega
 have HN := Lib.hid (show (0 ≤ l ∧ l < (L : Int)) by have := H0.out; omega)
 obtain ⟨m, rfl⟩ := Int.eq_ofNat_of_zero_le (show 0 ≤ l by have := H0.out; omega)
 have hm : m + 1 ≤ L := by omega
 clear h1
 have i0 : (0 : Int) ≤ (m : Int) + 1 := by omega
 have i1 : (m : Int) + 1 ≤ (c : Int) := by omega
 have i2 : (m : Int) + 1 ≤ (L : Int) := by omega
 have HXm := Lib.hid ((HX.out.ext (kw.trans k2)).cut hm)
 obtain ⟨ad, rfl, _⟩ := HXm.out.cells (by omega)
 go_wp2_with fail
 have hP := zft (some ad) (m + 1) c f w2 (by omega) HXm.out (Lib.hid fun j hj => hf.out j (by omega))
 refine hP.mono ?_
 rintro ee w3 ⟨A3, n3, c3, rfl, hn3, hx3, k3⟩
 have H3 := Lib.hid hx3
 clear hx3 hP
 go_wp2
 go_ret2
 exact .inr (.inr ⟨HP.out, HN.out, A3, n3, c3, rfl, by omega, H3.out, kw.trans (k2.trans k3)⟩)
def zv8 (w : World) (P : Prop) (T L : Nat) (l : Int) (f : Nat → Nat) (ee : Ending) (w' : World) : Prop :=
 (¬ P ∧ ee = .returned (.tuple #[.slice none 0 0, .int .u64 0, .int .i64 8]) ∧ Ext w w') ∨
 (P ∧ ¬ (0 ≤ l ∧ l < L) ∧ ee = .returned (.tuple #[.slice none 0 0, .int .u64 0, .int .i64 10]) ∧ Ext w w') ∨
 (P ∧ (0 ≤ l ∧ l < L) ∧ ∃ A n c, ∃ r : Nat, Hid (r = prodF f (l.toNat + 1) % T) ∧ r < T ∧ ee = .returned (.tuple #[.slice A n c, .int .u64 (r : Int), .int .i64 0]) ∧ n ≤ 10 ∧ NX w' A n c (nw (prodF f (l.toNat + 1) / T)) ∧ Ext w w')
theorem ParP.T2 {N : Int} {T L : Nat} {f : Nat → Nat} {W : Int} (h : ParP N T L f W) : 2 ≤ T := zgu (h 2 (by omega)).2.2
set_option maxHeartbeats 4000000 in
theorem zt9 (N : Int) (T : Nat) (W : Int) (A : Option Addr) (L c : Nat) (f : Nat → Nat) (l : Int) (w : World) (n0 : -9223372036854775808 ≤ N) (n1 : N < 9223372036854775808) (l0 : -9223372036854775808 ≤ l) (l1 : l < 9223372036854775808) (hTl : T < 18446744073709551616) (hL : L ≤ 1000000000000000) (hX : FX w A L c f) (hf : Hid (∀ j, j < L → f j < 18446744073709551616)) (hT : Tabs w) :
    Calls Tryz.prog 174 #[.agg #[.int .i64 N, .int .u64 (T : Int), .slice A L c, .int .i64 W], .int .i64 l] w (zv8 w (ParP N T L f W) T L l f) := by
 have HT := Lib.hid hT
 have HX := Lib.hid hX
 clear hT hX
 have kV : Ext w (w.alloc (.cells #[.int .i64 N, .int .u64 (T : Int), .slice A L c, .int .i64 W] 28)) := (Ext.refl w).alloc _
 obtain ⟨x0, x1, x2, x3⟩ := za6 w (.int .i64 N) (.int .u64 (T : Int)) (.slice A L c) (.int .i64 W) 28
 go_enter Tryz.func174, Tryz.ntmps174
 go_wp2_with fail
 generalize w.alloc (.cells #[.int .i64 N, .int .u64 (T : Int), .slice A L c, .int .i64 W] 28) = V at *
 refine (zgh N T W A L c f l V n0 n1 l0 l1 hTl hL (HX.out.ext kV) hf (HT.out.ext kV)).mono ?_
 rintro ee w1 (⟨hy, rfl, k1⟩ | ⟨hy, hl, rfl, k1⟩ | ⟨hy, hl, A1, n1', c1, rfl, hn1, hx1, k1⟩)
 ·have H := Lib.hid hy
  clear hy
  go_wp2
  go_ret3
  exact .inl ⟨H.out, rfl, kV.trans k1⟩
 ·have H := Lib.hid (And.intro hy hl)
  clear hy hl
  go_wp2
  go_ret3
  exact .inr (.inl ⟨H.out.1, H.out.2, rfl, kV.trans k1⟩)
 have hT2 := hy.T2
 have H := Lib.hid (And.intro hy hl)
 have H1 := Lib.hid hx1
 clear hy hl hx1
 have kw := kV.trans k1
 have y1 := cE k1 x1
 clear x0 x1 x2 x3
 go_wp2_with fail
 refine (zfe T w1 hTl).mono ?_
 rintro ee w2 ⟨A2, n2, c2, rfl, hn2, hx2, k2', _⟩
 have k2 : Ext w1 w2 := k2'
 have H2 := Lib.hid (show NX w2 A2 n2 c2 (nw T) from hx2)
 clear hx2 k2'
 go_wp2_with fail
 refine (divX (NX.ext H1.out k2) H2.out (by omega) (by omega)).mono ?_
 rw [nv_nw, nv_nw]
 rintro ee w3 (⟨h0, _⟩ | ⟨_, A3, n3, c3, A4, n4, c4, rfl, hn3, hn4, hx3, hx4, k3'⟩)
 ·omega
 have k3 : Ext w2 w3 := k3'
 have H3 := Lib.hid (show NX w3 A3 n3 c3 _ from hx3)
 clear hx3 hx4 k3'
 have z1 := cE (k2.trans k3) y1
 go_wp2_with fail
 refine (modM A1 n1' c1 T _ w3 (NX.ext H1.out (k2.trans k3)) (by omega) (by omega) hTl).mono ?_
 rw [nv_nw]
 rintro ee w4 ⟨r, hr, hrl, rfl, k4⟩
 go_wp2
 go_ret3
 exact .inr (.inr ⟨H.out.1, H.out.2, A3, n3, c3, r, hr, hrl, rfl, by omega, NX.ext H3.out k4, kw.trans (k2.trans (k3.trans k4))⟩)
open Go.ChangeShapes Go.WideShapes Go.ChangeAt Go.RowKit Go.Joins
structure PA (W : World) (N : Int) (T : Nat) (A : Option Addr) (L c : Nat) (Wd : Int) (f : Nat → Nat) : Prop where
 n0 : -9223372036854775808 ≤ N
 n1 : N < 9223372036854775808
 t1 : T < 18446744073709551616
 w0 : -9223372036854775808 ≤ Wd
 w1 : Wd < 9223372036854775808
 fx : FX W A L c f
 len : L ≤ 9223372036854775807
 words : ∀ j, j < L → f j < 18446744073709551616
theorem PA.ext {w w' : World} {N : Int} {T : Nat} {A : Option Addr} {L c : Nat} {Wd : Int} {f : Nat → Nat} (h : PA w N T A L c Wd f) (k : Ext w w') : PA w' N T A L c Wd f := ⟨h.n0, h.n1, h.t1, h.w0, h.w1, h.fx.ext k, h.len, h.words⟩
section
variable {H : Type} {enc : TypeId × Value → H}
end
theorem zvx (f : Nat → Nat) : ¬ ParP 0 0 0 f 0 := fun h => by have h0 : (8 : Int) ≤ 0 := (h 0 (by omega)).1; omega
def ErrZ (P : Prop) (z : Nat) : Prop := (P ∧ z = 0) ∨ (¬ P ∧ z = 8)
theorem Chk8.z {w w' : World} {P : Prop} {z : Nat} {e : Ending} (h : Chk8 w P e w') (hz : ErrZ P z) : e = .returned (.int .i64 (z : Int)) ∧ Ext w w' := by
 rcases h with ⟨h, he, hw⟩ | ⟨h, he, hw⟩
 ·rcases hz with ⟨_, rfl⟩ | ⟨h', _⟩
  ·exact ⟨he, hw⟩
  ·exact absurd h h'
 ·rcases hz with ⟨h', _⟩ | ⟨_, rfl⟩
  ·exact absurd h' h
  ·exact ⟨he, hw⟩
theorem zl0 {N : Int} {T : Nat} {Wd : Int} {A : Option Addr} {L c : Nat} {f : Nat → Nat} {z : Nat} {w : World} (hP : PA w N T A L c Wd f) (hL : L ≤ 100) (hT : Tabs w) (hz : Hid (ErrZ (ParP N T L f Wd) z)) :
    Calls Tryz.prog 46 #[.agg #[.int .i64 N, .int .u64 (T : Int), .slice A L c, .int .i64 Wd]] w fun e w' => e = .returned (.int .i64 (z : Int)) ∧ Ext w w' :=
 (zf6 N T Wd A L c f w hP.n0 hP.n1 hP.t1 (by omega) hP.fx (Lib.hid hP.words) hT).mono fun e w' h => h.z hz.out
theorem zkr : ∀ n, n < 33 → 8 ≤ n → stepS n = true → n = 8 ∨ n = 16 ∨ n = 32 := by decide +kernel
theorem zbx {N : Int} {T L : Nat} {q : Nat → Nat} {Wd : Int} (h : ParP N T L q Wd) (hN : N ≤ 32) : RowP N L q ∧ (N = 8 ∨ N = 16 ∨ N = 32) ∧ 1 ≤ L ∧ L ≤ 8 := by
 have hs : SizeP N := h 0 (by omega)
 have hc : zhf L := h 3 (by omega)
 have hp : PrsP N.toNat T L q := h 4 (by omega)
 obtain ⟨n, rfl⟩ := Int.eq_ofNat_of_zero_le (show 0 ≤ N by have := hs.1; omega)
 have h3 : ((n : Int)).toNat = n := Int.toNat_natCast n
 rw [h3] at hp
 have hs2 : stepS n = true := by have := hs.2.2; rwa [h3] at this
 have hn8 : 8 ≤ n := by have := hs.1; omega
 have hst : stepS (2 * n) = true := by rw [zvb n (by omega) (by omega)]; exact hs2
 have h8 := zkr n (by omega) hn8 hs2
 refine ⟨⟨by have := hc.1; omega, by have := hc.2; omega, fun j hj => ⟨?_, (hp j hj).2.2.1⟩⟩, by omega, hc.1, hc.2⟩
 unfold FitP
 rw [h3]
 exact ⟨by omega, by have := (hp j hj).1; omega, hst, (hp j hj).2.2.2.1, (hp j hj).2.2.2.2⟩
def Tern (n : Nat) (v : Nat → Int) : Prop := ∀ i, i < n → -1 ≤ v i ∧ v i ≤ 1
def SecP (N : Int) (n : Nat) (v : Nat → Int) : Prop := (n : Int) = N ∧ Tern n v
theorem zit (y : Int) (w : World) (h0 : -9223372036854775808 ≤ y) (h1 : y < 9223372036854775808) :
    Calls Tryz.prog 131 #[.int .i64 y] w fun ee w' => ee = .returned (.bool (decide (¬ (-1 ≤ y ∧ y ≤ 1)))) ∧ w = w' := by
 by_cases a : y < -1
 ·have e : decide (¬ (-1 ≤ y ∧ y ≤ 1)) = true := by simp; omega
  rw [e]
  go_enter Tryz.func131, Tryz.ntmps131
  go_wp2
  go_ret
  exact ⟨rfl, rfl⟩
 ·by_cases b : y > 1
  ·have e : decide (¬ (-1 ≤ y ∧ y ≤ 1)) = true := by simp; omega
   rw [e]
   go_enter Tryz.func131, Tryz.ntmps131
   go_wp2
   go_ret
   exact ⟨rfl, rfl⟩
  ·have e : decide (¬ (-1 ≤ y ∧ y ≤ 1)) = false := by simp; omega
   rw [e]
   go_enter Tryz.func131, Tryz.ntmps131
   go_wp2
   go_ret
   exact ⟨rfl, rfl⟩
def zzj (w : World) (n : Nat) (v : Nat → Int) (ee : Ending) (w' : World) : Prop := (Tern n v ∧ ee = .returned (.int .i64 (-1)) ∧ w = w') ∨ (¬ Tern n v ∧ ∃ k : Nat, ee = .returned (.int .i64 (k : Int)) ∧ w = w')
set_option maxHeartbeats 2000000 in
theorem zuv (n c : Nat) (A : Option Addr) (v : Nat → Int) (w : World) (hX : VX w A n c v) (hn : n ≤ 100000) (hv : Hid (∀ i, i < n → -9223372036854775808 ≤ v i ∧ v i < 9223372036854775808)) :
    Calls Tryz.prog 203 #[.slice A n c, .func (.func 131) #[] #[]] w (zzj w n v) := by
 have HX := Lib.hid hX
 clear hX
 go_enter Tryz.func203, Tryz.ntmps203
 go_wp2
 go_loop [8] (fun iv => ∃ m : Nat, m ≤ n ∧ iv = .int .i64 (m : Int) ∧ Tern m v) (fun iv => n - (intOf iv).toNat)
 case atStart => exact ⟨0, by omega, rfl, fun i hi => absurd hi (by omega)⟩
 case round =>
  obtain ⟨m, hm, rfl, ht⟩ := hrel
  have HTN := Lib.hid ht
  clear ht
  by_cases hlt : m < n
  ·obtain ⟨ad, rfl, hc⟩ := HX.out.cells (by omega)
   have hcell := hc m hlt
   obtain ⟨v0, v1⟩ := hv.out m hlt
   have HV := Lib.hid (show ∀ y, y = v m → (-1 ≤ y ∧ y ≤ 1) → Tern (m + 1) v from fun y hy h i hi => by
    rcases Nat.lt_or_ge i m with g | g
    ·exact HTN.out i g
    ·have : i = m := by omega
     subst this; rw [← hy]; exact h)
   have HW := Lib.hid (show ∀ y, y = v m → ¬ (-1 ≤ y ∧ y ≤ 1) → ¬ Tern n v from fun y hy h h2 => h (by rw [hy]; exact h2 m hlt))
   clear hc
   obtain ⟨y, hy⟩ : ∃ y, y = v m := ⟨_, rfl⟩
   rw [← hy] at hcell v0 v1
   have HY := Lib.hid hy
   clear hy
   by_cases ht : -1 ≤ y ∧ y ≤ 1
   ·have e : decide (¬ (-1 ≤ y ∧ y ≤ 1)) = false := by simp; omega
    have HC := Lib.hid (zit y w v0 v1)
    rw [e] at HC
    have HT2 := Lib.hid ht
    clear e ht
    go_wp2_with fail
    refine HC.out.mono ?_
    rintro e w2 ⟨rfl, rfl⟩
    go_wp2
    go_round
    case rel => exact ⟨m + 1, by omega, by go_num, HV.out y HY.out HT2.out⟩
    case measure => simp [intOf]; omega
   ·have e : decide (¬ (-1 ≤ y ∧ y ≤ 1)) = true := by simp; omega
    have HC := Lib.hid (zit y w v0 v1)
    rw [e] at HC
    have HT2 := Lib.hid ht
    clear e ht
    go_wp2_with fail
    refine HC.out.mono ?_
    rintro e w2 ⟨rfl, rfl⟩
    go_wp2
    go_ret
    exact .inr ⟨HW.out y HY.out HT2.out, m, rfl, rfl⟩
  ·obtain rfl : m = n := by omega
   go_wp2
   go_ret
   exact .inl ⟨HTN.out, rfl, rfl⟩
def zlw (w : World) (P : Prop) (ee : Ending) (w' : World) : Prop := (P ∧ ee = .returned (.bool true) ∧ w = w') ∨ (¬ P ∧ ee = .returned (.bool false) ∧ w = w')
theorem zwk (n c : Nat) (A : Option Addr) (v : Nat → Int) (w : World) (hX : VX w A n c v) (hn : n ≤ 100000) (hv : Hid (∀ i, i < n → -9223372036854775808 ≤ v i ∧ v i < 9223372036854775808)) :
    Calls Tryz.prog 130 #[.slice A n c, .func (.func 131) #[] #[]] w (zlw w (¬ Tern n v)) := by
 have HI := Lib.hid (zuv n c A v w hX hn hv)
 clear hX hv
 go_enter Tryz.func130, Tryz.ntmps130
 go_wp2_with fail
 refine HI.out.mono ?_
 rintro e w2 (⟨h, rfl, rfl⟩ | ⟨h, k, rfl, rfl⟩)
 ·have H := Lib.hid h
  clear h
  go_wp2
  go_ret
  exact .inr ⟨fun h => h H.out, rfl, rfl⟩
 ·have H := Lib.hid h
  clear h
  have k0 : (0 : Int) ≤ (k : Int) := by omega
  go_wp2
  go_ret
  exact .inl ⟨H.out, rfl, rfl⟩
set_option maxHeartbeats 1000000 in
theorem zjd (N : Int) (n c : Nat) (A : Option Addr) (v : Nat → Int) (w : World) (hX : VX w A n c v) (hn : n ≤ 100000) (hv : Hid (∀ i, i < n → -9223372036854775808 ≤ v i ∧ v i < 9223372036854775808)) :
    Calls Tryz.prog 76 #[.int .i64 N, .slice A n c] w (zlw w (SecP N n v)) := by
 have HI := Lib.hid (zwk n c A v w hX hn hv)
 clear hX hv
 by_cases hN : (n : Int) = N
 ·subst hN
  go_enter Tryz.func76, Tryz.ntmps76
  go_wp2_with fail
  refine HI.out.mono ?_
  rintro e w2 (⟨h, rfl, rfl⟩ | ⟨h, rfl, rfl⟩)
  ·have H := Lib.hid h
   clear h
   go_wp2
   go_ret
   exact .inr ⟨fun h => H.out h.2, rfl, rfl⟩
  ·have H := Lib.hid h
   clear h
   go_wp2
   go_ret
   exact .inl ⟨⟨rfl, Classical.not_not.1 H.out⟩, rfl, rfl⟩
 ·have b0 : ((n : Int) == N) = false := by simpa using hN
  have H := Lib.hid hN
  clear hN HI
  go_enter Tryz.func76, Tryz.ntmps76
  go_wp2
  go_ret
  exact .inr ⟨fun h => H.out h.1, rfl, rfl⟩
def AllU (n : Nat) (f : Nat → Nat) (lo hi : Nat) : Prop := ∀ i, i < n → lo ≤ f i ∧ f i ≤ hi
theorem zl7 (x lo hi : Nat) (b1 b2 : Nat) (w : World) (hx : x < 18446744073709551616) (h1 : w.cell? ⟨b1, 0, none⟩ = some (.int .u64 (lo : Int))) (h2 : w.cell? ⟨b2, 0, none⟩ = some (.int .u64 (hi : Int))) :
    Calls Tryz.prog 172 #[.int .u64 (x : Int), .pointer (some ⟨b1, 0, none⟩), .pointer (some ⟨b2, 0, none⟩)] w fun ee w' => ee = .returned (.bool (decide (¬ (lo ≤ x ∧ x ≤ hi)))) ∧ w = w' := by
 by_cases a : x < lo
 ·have e : decide (¬ (lo ≤ x ∧ x ≤ hi)) = true := by simp; omega
  rw [e]
  clear e
  go_enter Tryz.func172, Tryz.ntmps172
  go_wp2
  go_ret
  exact ⟨rfl, rfl⟩
 ·by_cases b : x > hi
  ·have e : decide (¬ (lo ≤ x ∧ x ≤ hi)) = true := by simp; omega
   rw [e]
   clear e
   go_enter Tryz.func172, Tryz.ntmps172
   go_wp2
   go_ret
   exact ⟨rfl, rfl⟩
  ·have e : decide (¬ (lo ≤ x ∧ x ≤ hi)) = false := by simp; omega
   rw [e]
   clear e
   go_enter Tryz.func172, Tryz.ntmps172
   go_wp2
   go_ret
   exact ⟨rfl, rfl⟩
def IdxU (w : World) (n : Nat) (f : Nat → Nat) (lo hi : Nat) (ee : Ending) (w' : World) : Prop := (AllU n f lo hi ∧ ee = .returned (.int .i64 (-1)) ∧ w = w') ∨ (¬ AllU n f lo hi ∧ ∃ k : Nat, ee = .returned (.int .i64 (k : Int)) ∧ w = w')
set_option maxHeartbeats 2000000 in
theorem zvk (n c : Nat) (A : Option Addr) (f : Nat → Nat) (lo hi : Nat) (b1 b2 : Nat) (w : World) (hX : FX w A n c f) (hn : n ≤ 100000) (hf : Hid (∀ i, i < n → f i < 18446744073709551616)) (h1 : w.cell? ⟨b1, 0, none⟩ = some (.int .u64 (lo : Int))) (h2 : w.cell? ⟨b2, 0, none⟩ = some (.int .u64 (hi : Int))) :
    Calls Tryz.prog 228 #[.slice A n c, .func (.func 172) #[] #[.pointer (some ⟨b1, 0, none⟩), .pointer (some ⟨b2, 0, none⟩)]] w (IdxU w n f lo hi) := by
 have HX := Lib.hid hX
 have H1 := Lib.hid h1
 have H2 := Lib.hid h2
 clear hX h1 h2
 go_enter Tryz.func228, Tryz.ntmps228
 go_wp2
 go_loop [8] (fun iv => ∃ m : Nat, m ≤ n ∧ iv = .int .i64 (m : Int) ∧ Hid (AllU m f lo hi)) (fun iv => n - (intOf iv).toNat)
 case atStart => exact ⟨0, by omega, rfl, Lib.hid fun i hi => absurd hi (by omega)⟩
 case round =>
  obtain ⟨m, hm, rfl, HTN⟩ := hrel
  by_cases hlt : m < n
  ·obtain ⟨ad, rfl, hc⟩ := HX.out.cells (by omega)
   have hcell := hc m hlt
   have v1 := hf.out m hlt
   have HV := Lib.hid (show ∀ y, y = f m → (lo ≤ y ∧ y ≤ hi) → AllU (m + 1) f lo hi from fun y hy h i hi => by
    rcases Nat.lt_or_ge i m with g | g
    ·exact HTN.out i g
    ·have : i = m := by omega
     subst this; rw [← hy]; exact h)
   have HW := Lib.hid (show ∀ y, y = f m → ¬ (lo ≤ y ∧ y ≤ hi) → ¬ AllU n f lo hi from fun y hy h h2 => h (by rw [hy]; exact h2 m hlt))
   clear hc
   obtain ⟨y, hy⟩ : ∃ y, y = f m := ⟨_, rfl⟩
   rw [← hy] at hcell v1
   have HY := Lib.hid hy
   clear hy
   by_cases ht : lo ≤ y ∧ y ≤ hi
   ·have e : decide (¬ (lo ≤ y ∧ y ≤ hi)) = false := by simp; omega
    have HC := Lib.hid (zl7 y lo hi b1 b2 w v1 H1.out H2.out)
    rw [e] at HC
    have HT2 := Lib.hid ht
    clear e ht
    go_wp2_with fail
    refine HC.out.mono ?_
    rintro e w2 ⟨rfl, rfl⟩
    go_wp2
    go_round
    case rel => exact ⟨m + 1, by omega, by go_num, Lib.hid (HV.out y HY.out HT2.out)⟩
    case measure => simp [intOf]; omega
   ·have e : decide (¬ (lo ≤ y ∧ y ≤ hi)) = true := by simp; omega
    have HC := Lib.hid (zl7 y lo hi b1 b2 w v1 H1.out H2.out)
    rw [e] at HC
    have HT2 := Lib.hid ht
    clear e ht
    go_wp2_with fail
    refine HC.out.mono ?_
    rintro e w2 ⟨rfl, rfl⟩
    go_wp2
    go_ret
    exact .inr ⟨HW.out y HY.out HT2.out, m, rfl, rfl⟩
  ·obtain rfl : m = n := by omega
   go_wp2
   go_ret
   exact .inl ⟨HTN.out, rfl, rfl⟩
theorem zuw (n c : Nat) (A : Option Addr) (f : Nat → Nat) (lo hi : Nat) (b1 b2 : Nat) (w : World) (hX : FX w A n c f) (hn : n ≤ 100000) (hf : Hid (∀ i, i < n → f i < 18446744073709551616)) (h1 : w.cell? ⟨b1, 0, none⟩ = some (.int .u64 (lo : Int))) (h2 : w.cell? ⟨b2, 0, none⟩ = some (.int .u64 (hi : Int))) :
    Calls Tryz.prog 171 #[.slice A n c, .func (.func 172) #[] #[.pointer (some ⟨b1, 0, none⟩), .pointer (some ⟨b2, 0, none⟩)]] w (zlw w (¬ AllU n f lo hi)) := by
 have HI := Lib.hid (zvk n c A f lo hi b1 b2 w hX hn hf h1 h2)
 clear hX hf h1 h2
 go_enter Tryz.func171, Tryz.ntmps171
 go_wp2_with fail
 refine HI.out.mono ?_
 rintro e w2 (⟨h, rfl, rfl⟩ | ⟨h, k, rfl, rfl⟩)
 ·have H := Lib.hid h
  clear h
  go_wp2
  go_ret
  exact .inr ⟨fun h => h H.out, rfl, rfl⟩
 ·have H := Lib.hid h
  clear h
  have k0 : (0 : Int) ≤ (k : Int) := by omega
  go_wp2
  go_ret
  exact .inl ⟨H.out, rfl, rfl⟩
def TellsXU (w : World) (P : Prop) (ee : Ending) (w' : World) : Prop := ((P ∧ ee = .returned (.bool true)) ∨ (¬ P ∧ ee = .returned (.bool false))) ∧ Ext w w'
set_option maxHeartbeats 1000000 in
theorem zk7 (n c : Nat) (N : Int) (A : Option Addr) (f : Nat → Nat) (lo hi : Nat) (w : World) (hX : FX w A n c f) (hn : n ≤ 100000) (hf : Hid (∀ i, i < n → f i < 18446744073709551616)) :
    Calls Tryz.prog 101 #[.slice A n c, .int .i64 N, .int .u64 (lo : Int), .int .u64 (hi : Int)] w (TellsXU w ((n : Int) = N ∧ AllU n f lo hi)) := by
 have HX := Lib.hid hX
 clear hX
 have k0 : Ext w ((w.alloc (.cells #[.int .u64 (lo : Int)] 26)).alloc (.cells #[.int .u64 (hi : Int)] 26)) := ((Ext.refl w).alloc _).alloc _
 have c1 : ((w.alloc (.cells #[.int .u64 (lo : Int)] 26)).alloc (.cells #[.int .u64 (hi : Int)] 26)).cell? ⟨w.heap.size, 0, none⟩ = some (.int .u64 (lo : Int)) := cE ((Ext.refl _).alloc _) (zam _ _ _)
 have c2 : ((w.alloc (.cells #[.int .u64 (lo : Int)] 26)).alloc (.cells #[.int .u64 (hi : Int)] 26)).cell? ⟨w.heap.size + 1, 0, none⟩ = some (.int .u64 (hi : Int)) := by
  have := zam (w.alloc (.cells #[.int .u64 (lo : Int)] 26)) (.int .u64 (hi : Int)) 26
  rwa [show (w.alloc (.cells #[.int .u64 (lo : Int)] 26)).heap.size = w.heap.size + 1 by simp] at this
 by_cases hN : (n : Int) = N
 ·subst hN
  go_enter Tryz.func101, Tryz.ntmps101
  go_wp2_with fail
  generalize (w.alloc (.cells #[.int .u64 (lo : Int)] 26)).alloc (.cells #[.int .u64 (hi : Int)] 26) = V at *
  refine (zuw n c A f lo hi w.heap.size (w.heap.size + 1) V (HX.out.ext k0) hn hf c1 c2).mono ?_
  rintro e w2 (⟨h, rfl, rfl⟩ | ⟨h, rfl, rfl⟩)
  ·have H := Lib.hid h
   clear h
   go_wp2
   go_ret
   exact ⟨.inr ⟨fun h => H.out h.2, rfl⟩, k0⟩
  ·have H := Lib.hid h
   clear h
   go_wp2
   go_ret
   exact ⟨.inl ⟨⟨by trivial, Classical.not_not.1 H.out⟩, rfl⟩, k0⟩
 ·have b0 : ((n : Int) == N) = false := by simpa using hN
  have H := Lib.hid hN
  clear hN
  go_enter Tryz.func101, Tryz.ntmps101
  go_wp2
  go_ret
  exact ⟨.inr ⟨fun h => H.out h.1, rfl⟩, k0⟩
def AllI (n : Nat) (f : Nat → Int) (lo hi : Int) : Prop := ∀ i, i < n → lo ≤ f i ∧ f i ≤ hi
theorem zl4 (x lo hi : Int) (b1 b2 : Nat) (w : World) (hx0 : -9223372036854775808 ≤ x) (hx1 : x < 9223372036854775808) (h1 : w.cell? ⟨b1, 0, none⟩ = some (.int .i64 lo)) (h2 : w.cell? ⟨b2, 0, none⟩ = some (.int .i64 hi)) :
    Calls Tryz.prog 230 #[.int .i64 x, .pointer (some ⟨b1, 0, none⟩), .pointer (some ⟨b2, 0, none⟩)] w fun ee w' => ee = .returned (.bool (decide (¬ (lo ≤ x ∧ x ≤ hi)))) ∧ w = w' := by
 by_cases a : x < lo
 ·have e : decide (¬ (lo ≤ x ∧ x ≤ hi)) = true := by simp; omega
  rw [e]
  clear e
  go_enter Tryz.func230, Tryz.ntmps230
  go_wp2
  go_ret
  exact ⟨rfl, rfl⟩
 ·by_cases b : x > hi
  ·have e : decide (¬ (lo ≤ x ∧ x ≤ hi)) = true := by simp; omega
   rw [e]
   clear e
   go_enter Tryz.func230, Tryz.ntmps230
   go_wp2
   go_ret
   exact ⟨rfl, rfl⟩
  ·have e : decide (¬ (lo ≤ x ∧ x ≤ hi)) = false := by simp; omega
   rw [e]
   clear e
   go_enter Tryz.func230, Tryz.ntmps230
   go_wp2
   go_ret
   exact ⟨rfl, rfl⟩
def IdxI (w : World) (n : Nat) (f : Nat → Int) (lo hi : Int) (ee : Ending) (w' : World) : Prop := (AllI n f lo hi ∧ ee = .returned (.int .i64 (-1)) ∧ w = w') ∨ (¬ AllI n f lo hi ∧ ∃ k : Nat, ee = .returned (.int .i64 (k : Int)) ∧ w = w')
set_option maxHeartbeats 2000000 in
theorem zu1 (n c : Nat) (A : Option Addr) (f : Nat → Int) (lo hi : Int) (b1 b2 : Nat) (w : World) (hX : VX w A n c f) (hn : n ≤ 100000) (hf : Hid (∀ i, i < n → -9223372036854775808 ≤ f i ∧ f i < 9223372036854775808)) (h1 : w.cell? ⟨b1, 0, none⟩ = some (.int .i64 lo)) (h2 : w.cell? ⟨b2, 0, none⟩ = some (.int .i64 hi)) :
    Calls Tryz.prog 203 #[.slice A n c, .func (.func 230) #[] #[.pointer (some ⟨b1, 0, none⟩), .pointer (some ⟨b2, 0, none⟩)]] w (IdxI w n f lo hi) := by
 have HX := Lib.hid hX
 have H1 := Lib.hid h1
 have H2 := Lib.hid h2
 clear hX h1 h2
 go_enter Tryz.func203, Tryz.ntmps203
 go_wp2
 go_loop [8] (fun iv => ∃ m : Nat, m ≤ n ∧ iv = .int .i64 (m : Int) ∧ Hid (AllI m f lo hi)) (fun iv => n - (intOf iv).toNat)
 case atStart => exact ⟨0, by omega, rfl, Lib.hid fun i hi => absurd hi (by omega)⟩
 case round =>
  obtain ⟨m, hm, rfl, HTN⟩ := hrel
  by_cases hlt : m < n
  ·obtain ⟨ad, rfl, hc⟩ := HX.out.cells (by omega)
   have hcell := hc m hlt
   obtain ⟨v0, v1⟩ := hf.out m hlt
   have HV := Lib.hid (show ∀ y, y = f m → (lo ≤ y ∧ y ≤ hi) → AllI (m + 1) f lo hi from fun y hy h i hi => by
    rcases Nat.lt_or_ge i m with g | g
    ·exact HTN.out i g
    ·have : i = m := by omega
     subst this; rw [← hy]; exact h)
   have HW := Lib.hid (show ∀ y, y = f m → ¬ (lo ≤ y ∧ y ≤ hi) → ¬ AllI n f lo hi from fun y hy h h2 => h (by rw [hy]; exact h2 m hlt))
   clear hc
   obtain ⟨y, hy⟩ : ∃ y, y = f m := ⟨_, rfl⟩
   rw [← hy] at hcell v0 v1
   have HY := Lib.hid hy
   clear hy
   by_cases ht : lo ≤ y ∧ y ≤ hi
   ·have e : decide (¬ (lo ≤ y ∧ y ≤ hi)) = false := by simp; omega
    have HC := Lib.hid (zl4 y lo hi b1 b2 w v0 v1 H1.out H2.out)
    rw [e] at HC
    have HT2 := Lib.hid ht
    clear e ht
    go_wp2_with fail
    refine HC.out.mono ?_
    rintro e w2 ⟨rfl, rfl⟩
    go_wp2
    go_round
    case rel => exact ⟨m + 1, by omega, by go_num, Lib.hid (HV.out y HY.out HT2.out)⟩
    case measure => simp [intOf]; omega
   ·have e : decide (¬ (lo ≤ y ∧ y ≤ hi)) = true := by simp; omega
    have HC := Lib.hid (zl4 y lo hi b1 b2 w v0 v1 H1.out H2.out)
    rw [e] at HC
    have HT2 := Lib.hid ht
    clear e ht
    go_wp2_with fail
    refine HC.out.mono ?_
    rintro e w2 ⟨rfl, rfl⟩
    go_wp2
    go_ret
    exact .inr ⟨HW.out y HY.out HT2.out, m, rfl, rfl⟩
  ·obtain rfl : m = n := by omega
   go_wp2
   go_ret
   exact .inl ⟨HTN.out, rfl, rfl⟩
theorem zvt (n c : Nat) (A : Option Addr) (f : Nat → Int) (lo hi : Int) (b1 b2 : Nat) (w : World) (hX : VX w A n c f) (hn : n ≤ 100000) (hf : Hid (∀ i, i < n → -9223372036854775808 ≤ f i ∧ f i < 9223372036854775808)) (h1 : w.cell? ⟨b1, 0, none⟩ = some (.int .i64 lo)) (h2 : w.cell? ⟨b2, 0, none⟩ = some (.int .i64 hi)) :
    Calls Tryz.prog 130 #[.slice A n c, .func (.func 230) #[] #[.pointer (some ⟨b1, 0, none⟩), .pointer (some ⟨b2, 0, none⟩)]] w (zlw w (¬ AllI n f lo hi)) := by
 have HI := Lib.hid (zu1 n c A f lo hi b1 b2 w hX hn hf h1 h2)
 clear hX hf h1 h2
 go_enter Tryz.func130, Tryz.ntmps130
 go_wp2_with fail
 refine HI.out.mono ?_
 rintro e w2 (⟨h, rfl, rfl⟩ | ⟨h, k, rfl, rfl⟩)
 ·have H := Lib.hid h
  clear h
  go_wp2
  go_ret
  exact .inr ⟨fun h => h H.out, rfl, rfl⟩
 ·have H := Lib.hid h
  clear h
  have k0 : (0 : Int) ≤ (k : Int) := by omega
  go_wp2
  go_ret
  exact .inl ⟨H.out, rfl, rfl⟩
def TellsXI (w : World) (P : Prop) (ee : Ending) (w' : World) : Prop := ((P ∧ ee = .returned (.bool true)) ∨ (¬ P ∧ ee = .returned (.bool false))) ∧ Ext w w'
set_option maxHeartbeats 1000000 in
theorem zlh (n c : Nat) (N : Int) (A : Option Addr) (f : Nat → Int) (lo hi : Int) (w : World) (hX : VX w A n c f) (hn : n ≤ 100000) (hf : Hid (∀ i, i < n → -9223372036854775808 ≤ f i ∧ f i < 9223372036854775808)) :
    Calls Tryz.prog 175 #[.slice A n c, .int .i64 N, .int .i64 lo, .int .i64 hi] w (TellsXI w ((n : Int) = N ∧ AllI n f lo hi)) := by
 have HX := Lib.hid hX
 clear hX
 have k0 : Ext w ((w.alloc (.cells #[.int .i64 lo] 2)).alloc (.cells #[.int .i64 hi] 2)) := ((Ext.refl w).alloc _).alloc _
 have c1 : ((w.alloc (.cells #[.int .i64 lo] 2)).alloc (.cells #[.int .i64 hi] 2)).cell? ⟨w.heap.size, 0, none⟩ = some (.int .i64 lo) := cE ((Ext.refl _).alloc _) (zam _ _ _)
 have c2 : ((w.alloc (.cells #[.int .i64 lo] 2)).alloc (.cells #[.int .i64 hi] 2)).cell? ⟨w.heap.size + 1, 0, none⟩ = some (.int .i64 hi) := by
  have := zam (w.alloc (.cells #[.int .i64 lo] 2)) (.int .i64 hi) 2
  rwa [show (w.alloc (.cells #[.int .i64 lo] 2)).heap.size = w.heap.size + 1 by simp] at this
 by_cases hN : (n : Int) = N
 ·subst hN
  go_enter Tryz.func175, Tryz.ntmps175
  go_wp2_with fail
  generalize (w.alloc (.cells #[.int .i64 lo] 2)).alloc (.cells #[.int .i64 hi] 2) = V at *
  refine (zvt n c A f lo hi w.heap.size (w.heap.size + 1) V (HX.out.ext k0) hn hf c1 c2).mono ?_
  rintro e w2 (⟨h, rfl, rfl⟩ | ⟨h, rfl, rfl⟩)
  ·have H := Lib.hid h
   clear h
   go_wp2
   go_ret
   exact ⟨.inr ⟨fun h => H.out h.2, rfl⟩, k0⟩
  ·have H := Lib.hid h
   clear h
   go_wp2
   go_ret
   exact ⟨.inl ⟨⟨by trivial, Classical.not_not.1 H.out⟩, rfl⟩, k0⟩
 ·have b0 : ((n : Int) == N) = false := by simpa using hN
  have H := Lib.hid hN
  clear hN
  go_enter Tryz.func175, Tryz.ntmps175
  go_wp2
  go_ret
  exact ⟨.inr ⟨fun h => H.out h.1, rfl⟩, k0⟩
end Go.Proofs.YtopbibfpjgjalaaGreatDoor
