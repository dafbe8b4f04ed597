import Derived.Test.YtjikdbcjabopnaaGreatDoorZ30
import Derived.Test.YtjikdbcjabopnaaGreatDoorZ6
import Derived.Test.YtjikdbcjabopnaaGreatDoorZVList
import Derived.Test.YtjikdbcjabopnaaGreatDoorZ37
namespace Go.Proofs.YtjikdbcjabopnaaGreatDoor
open Go.RowKit
set_option linter.unusedVariables false
set_option linter.unusedSimpArgs false
set_option maxRecDepth 100000
theorem newJ_rowX (w : World) (n : Nat) : RW (w.alloc (.cells (newJ n) 2)) w.heap.size 2 n (fun _ => .int .i64 0) := by
 have h := heap_alloc_new w (.cells (newJ n) 2 (0, 0))
 have e : newJ n = ((List.range n).map fun _ => Value.int .i64 0).toArray := by
  unfold newJ
  congr 1
  apply List.ext_getElem
  ·simp
  ·intro i h1 h2
   simp
 rw [e] at h ⊢
 exact h
theorem RW.vxX {w : World} {g n : Nat} {v : Nat → Int} (h : RW w g 2 n (fun i => .int .i64 (v i))) : VX w (some ⟨g, 0, none⟩) n n v :=
 ⟨Nat.le_refl _, fun _ => ⟨_, rfl, fun j hj => by rw [Addr.add_lit, Nat.zero_add]; exact h.cell hj⟩⟩
def cenX (f : Nat → Nat) (T : Nat) (i : Nat) : Int := cenS (f i : Int) (T : Int)
theorem cenX_near {f : Nat → Nat} {T : Nat} (hT0 : 2 ≤ T) (hT : T < 1073741824) (i : Nat) : (cenX f T i).natAbs ≤ 1073741824 := by
 unfold cenX
 rw [cenS_near _ _ (by omega) (by omega)]
 have h1 := Int.emod_nonneg (f i : Int) (b := (T : Int)) (by omega)
 have h2 := Int.emod_lt_of_pos (f i : Int) (b := (T : Int)) (by omega)
 split <;> omega
def szF (v : Nat → Int) : Nat → Nat
 | 0 => 0
 | k + 1 => szF v k + (v k).natAbs
theorem szF_le {v : Nat → Int} {n : Nat} (h : ∀ i, i < n → (v i).natAbs ≤ 1073741824) : ∀ k, k ≤ n → szF v k ≤ k * 1073741824
 | 0, _ => by simp [szF]
 | k + 1, hk => by
  have h1 := szF_le h k (by omega)
  have h2 := h k (by omega)
  rw [szF]
  omega
def AllB (n : Nat) (f : Nat → Nat) (T : Nat) : Prop := ∀ i, i < n → f i < T
theorem tc1_any (x T b : Nat) (w : World) (hx : x < 18446744073709551616) (h1 : w.cell? ⟨b, 1, none⟩ = some (.int .u64 (T : Int))) :
    Calls Tryz.prog 133 #[.int .u64 (x : Int), .pointer (some ⟨b, 0, none⟩)] w fun ee w' => ee = .returned (.bool (decide (¬ x < T))) ∧ w = w' := by
 by_cases a : x < T
 ·have e : decide (¬ x < T) = false := by simp; omega
  have e2 : ¬ (T : Int) ≤ (x : Int) := by omega
  rw [e]
  clear e
  go_enter Tryz.func133, Tryz.ntmps133
  go_wp2
  go_ret
  exact ⟨by first | rfl | simp, rfl⟩
 ·have e : decide (¬ x < T) = true := by simp; omega
  have e2 : (T : Int) ≤ (x : Int) := by omega
  rw [e]
  clear e
  go_enter Tryz.func133, Tryz.ntmps133
  go_wp2
  go_ret
  exact ⟨by first | rfl | simp, rfl⟩
def IdxB (w : World) (n : Nat) (f : Nat → Nat) (T : Nat) (ee : Ending) (w' : World) : Prop := (AllB n f T ∧ ee = .returned (.int .i64 (-1)) ∧ w = w') ∨ (¬ AllB n f T ∧ ∃ k : Nat, ee = .returned (.int .i64 (k : Int)) ∧ w = w')
set_option maxHeartbeats 2000000 in
theorem idxB_any (n c : Nat) (A : Option Addr) (f : Nat → Nat) (T b : Nat) (w : World) (hX : FX w A n c f) (hn : n ≤ 100000) (hf : Hid (∀ i, i < n → f i < 18446744073709551616)) (h1 : w.cell? ⟨b, 1, none⟩ = some (.int .u64 (T : Int))) :
    Calls Tryz.prog 194 #[.slice A n c, .func (.func 133) #[] #[.pointer (some ⟨b, 0, none⟩)]] w (IdxB w n f T) := by
 have HX := Lib.hid hX
 have H1 := Lib.hid h1
 clear hX h1
 go_enter Tryz.func194, Tryz.ntmps194
 go_wp2
 go_loop [8] (fun iv => ∃ m : Nat, m ≤ n ∧ iv = .int .i64 (m : Int) ∧ Hid (AllB m f T)) (fun iv => n - (intOf iv).toNat)
 case atStart => exact ⟨0, by omega, rfl, Lib.hid fun i hi => absurd hi (by omega)⟩
 case round =>
  obtain ⟨m, hm, rfl, HTN⟩ := hrel
  by_cases hlt : m < n
  ·obtain ⟨ad, rfl, hc⟩ := HX.out.cells (by omega)
   have hcell := hc m hlt
   have v1 := hf.out m hlt
   have HV := Lib.hid (show ∀ y, y = f m → y < T → AllB (m + 1) f T from fun y hy h i hi => by
    rcases Nat.lt_or_ge i m with g | g
    ·exact HTN.out i g
    ·have : i = m := by omega
     subst this; rw [← hy]; exact h)
   have HW := Lib.hid (show ∀ y, y = f m → ¬ y < T → ¬ AllB n f T from fun y hy h h2 => h (by rw [hy]; exact h2 m hlt))
   clear hc
   obtain ⟨y, hy⟩ : ∃ y, y = f m := ⟨_, rfl⟩
   rw [← hy] at hcell v1
   have HY := Lib.hid hy
   clear hy
   by_cases ht : y < T
   ·have e : decide (¬ y < T) = false := by simp; omega
    have HC := Lib.hid (tc1_any y T b w v1 H1.out)
    rw [e] at HC
    have HT2 := Lib.hid ht
    clear e ht
    go_wp2_with fail
    refine HC.out.mono ?_
    rintro e w2 ⟨rfl, rfl⟩
    go_wp2
    go_round
    case rel => exact ⟨m + 1, by omega, by go_num, Lib.hid (HV.out y HY.out HT2.out)⟩
    case measure => simp [intOf]; omega
   ·have e : decide (¬ y < T) = true := by simp; omega
    have HC := Lib.hid (tc1_any y T b w v1 H1.out)
    rw [e] at HC
    have HT2 := Lib.hid ht
    clear e ht
    go_wp2_with fail
    refine HC.out.mono ?_
    rintro e w2 ⟨rfl, rfl⟩
    go_wp2
    go_ret
    exact .inr ⟨HW.out y HY.out HT2.out, m, rfl, rfl⟩
  ·obtain rfl : m = n := by omega
   go_wp2
   go_ret
   exact .inl ⟨HTN.out, rfl, rfl⟩
theorem hasB_any (n c : Nat) (A : Option Addr) (f : Nat → Nat) (T b : Nat) (w : World) (hX : FX w A n c f) (hn : n ≤ 100000) (hf : Hid (∀ i, i < n → f i < 18446744073709551616)) (h1 : w.cell? ⟨b, 1, none⟩ = some (.int .u64 (T : Int))) :
    Calls Tryz.prog 134 #[.slice A n c, .func (.func 133) #[] #[.pointer (some ⟨b, 0, none⟩)]] w (TellsS w (¬ AllB n f T)) := by
 have HI := Lib.hid (idxB_any n c A f T b w hX hn hf h1)
 clear hX hf h1
 go_enter Tryz.func134, Tryz.ntmps134
 go_wp2_with fail
 refine HI.out.mono ?_
 rintro e w2 (⟨h, rfl, rfl⟩ | ⟨h, k, rfl, rfl⟩)
 ·have H := Lib.hid h
  clear h
  go_wp2
  go_ret
  exact .inr ⟨fun h => h H.out, rfl, rfl⟩
 ·have H := Lib.hid h
  clear h
  have k0 : (0 : Int) ≤ (k : Int) := by omega
  go_wp2
  go_ret
  exact .inl ⟨H.out, rfl, rfl⟩
def CenPost (w : World) (P : Prop) (n T : Nat) (f : Nat → Nat) (ee : Ending) (w' : World) : Prop :=
 (P ∧ ∃ g, ee = .returned (.tuple #[.slice (some ⟨g, 0, none⟩) n n, .int .i64 0]) ∧ Hid (VX w' (some ⟨g, 0, none⟩) n n (cenX f T)) ∧ Ext w w') ∨
 (¬ P ∧ ee = .returned (.tuple #[.slice none 0 0, .int .i64 3]) ∧ Ext w w')
set_option maxHeartbeats 4000000 in
theorem tcentered_any {N : Int} {T : Nat} {Wd : Int} {A B : Option Addr} {L c n cb : Nat} {f : Nat → Nat} {w : World} (hT : T < 18446744073709551616) (hX : FX w B n cb f) (hn : n ≤ 100000) (hf : Hid (∀ i, i < n → f i < 18446744073709551616)) :
    Calls Tryz.prog 67 #[.agg #[.int .i64 N, .int .u64 (T : Int), .slice A L c, .int .i64 Wd], .slice B n cb] w (CenPost w ((n : Int) = N ∧ AllB n f T) n T f) := by
 have kV : Ext w (w.alloc (.cells #[.int .i64 N, .int .u64 (T : Int), .slice A L c, .int .i64 Wd] 25)) := (Ext.refl w).alloc _
 obtain ⟨x0, x1, x2, x3⟩ := four_at w (.int .i64 N) (.int .u64 (T : Int)) (.slice A L c) (.int .i64 Wd) 25
 have HX := Lib.hid hX
 clear hX
 by_cases hnN : (n : Int) = N
 case neg =>
  have e1 : ((n : Int) != N) = true := by simp; omega
  have HNO := Lib.hid (show ¬ ((n : Int) = N ∧ AllB n f T) from fun h => hnN h.1)
  clear hnN
  go_enter Tryz.func67, Tryz.ntmps67
  go_wp2
  go_ret2
  exact .inr ⟨HNO.out, by first | rfl | simp, kV⟩
 subst hnN
 have hmk := make_i64V n (by omega)
 go_enter Tryz.func67, Tryz.ntmps67
 go_wp2_with fail
 generalize w.alloc (.cells #[.int .i64 (n : Int), .int .u64 (T : Int), .slice A L c, .int .i64 Wd] 25) = V at *
 refine (hasB_any n cb B f T w.heap.size V (HX.out.ext kV) hn hf x1).mono ?_
 rintro e w2 (⟨h, rfl, rfl⟩ | ⟨h, rfl, rfl⟩)
 ·have HNO := Lib.hid (show ¬ ((n : Int) = (n : Int) ∧ AllB n f T) from fun h2 => h h2.2)
  clear h hmk
  go_wp2
  go_ret2
  exact .inr ⟨HNO.out, by first | rfl | simp, kV⟩
 have HYE := Lib.hid (show ((n : Int) = (n : Int) ∧ AllB n f T) from ⟨rfl, Classical.not_not.1 h⟩)
 clear h
 go_wp2_with fail
 clear hmk
 have hw := newJ_rowX V n
 have kJ : Ext V (V.alloc (.cells (newJ n) 2)) := (Ext.refl V).alloc _
 obtain ⟨g, hg⟩ : ∃ g, g = V.heap.size := ⟨_, rfl⟩
 have hgV : V.heap.size ≤ g := by omega
 have hgw : w.heap.size ≤ g := by have := kV.size; omega
 rw [← hg] at hw
 simp only [← hg]
 clear hg
 generalize V.alloc (.cells (newJ n) 2) = V1 at *
 go_loopw [26] (fun iv wr => ∃ m : Nat, m ≤ n ∧ iv = .int .i64 (m : Int) ∧ RW wr g 2 n (fun i => .int .i64 (if i < m then cenX f T i else 0)) ∧ Ext V wr) (fun iv _ => n - (intOf iv).toNat)
 case atStart => exact ⟨0, by omega, rfl, hw.congr fun i _ => by rw [if_neg (by omega)], kJ⟩
 case round =>
  obtain ⟨m, hm, rfl, hwr, kr⟩ := hrel
  clear hw
  have kwr := kV.trans kr
  by_cases hlt : m < n
  ·obtain ⟨ab, rfl, hc⟩ := (HX.out.ext kwr).cells (by omega)
   have cx := hc m hlt
   have hfm := hf.out m hlt
   clear hc
   have i0 : (0 : Int) ≤ (m : Int) := by omega
   have i1 : (m : Int) < (n : Int) := by omega
   have y1 := cell_ext kr x1
   have gz := hwr.frozen m
   have gl := hwr.lt
   have gc := hwr.cell hlt
   rw [if_neg (by omega)] at gc
   have HWR := Lib.hid hwr
   have KR := Lib.hid kr
   obtain ⟨X, hXf⟩ : ∃ X, X = f m := ⟨_, rfl⟩
   rw [← hXf] at cx hfm
   have HXF := Lib.hid hXf
   clear hwr kr hXf kwr
   go_wp2_with fail
   refine (center_any (X : Int) (T : Int) wr (by omega) (by omega) (by omega) (by omega)).mono ?_
   rintro ee w2 ⟨rfl, rfl⟩
   have HS := Lib.hid ((HWR.out.set hlt (.int .i64 (cenS (X : Int) (T : Int)))).congr (G := fun i => .int .i64 (if i < m + 1 then cenX f T i else 0)) fun i hi => by
    by_cases e1 : i = m
    ·subst e1
     rw [if_pos rfl, if_pos (by omega), HXF.out]
     rfl
    ·rw [if_neg e1]
     by_cases e2 : i < m
     ·rw [if_pos e2, if_pos (by omega)]
     ·rw [if_neg e2, if_neg (by omega)])
   have HK := Lib.hid (KR.out.set (p := ⟨g, m, none⟩) hgV (.int .i64 (cenS (X : Int) (T : Int))))
   generalize cenS (X : Int) (T : Int) = z at *
   go_wp2
   exact ⟨⟨m + 1, by omega, by go_num, HS.out, HK.out⟩, by simp [intOf]; omega⟩
  ·obtain rfl : m = n := by omega
   have HVX := Lib.hid (show VX wr (some ⟨g, 0, none⟩) m m (cenX f T) from (RW.congr hwr (G := fun i => .int .i64 (cenX f T i)) fun i hi => by rw [if_pos hi]).vxX)
   have KR := Lib.hid kwr
   clear hwr kr kwr
   go_wp2
   go_ret2
   exact .inl ⟨HYE.out, g, rfl, Lib.hid HVX.out, KR.out⟩
set_option maxHeartbeats 2000000 in
theorem sizeOf_any (n c : Nat) (A : Option Addr) (v : Nat → Int) (w : World) (hV : VX w A n c v) (hn : n ≤ 100000) (hv : Hid (∀ i, i < n → (v i).natAbs ≤ 1073741824)) :
    Calls Tryz.prog 94 #[.slice A n c] w fun e w' => e = .returned (.int .u64 (szF v n : Int)) ∧ w = w' := by
 have HV := Lib.hid hV
 clear hV
 go_enter Tryz.func94, Tryz.ntmps94
 go_wp2
 go_loop [3, 8] (fun s i => ∃ k : Nat, k ≤ n ∧ i = .int .i64 (k : Int) ∧ s = .int .u64 (szF v k : Int)) (fun _ i => n - (intOf i).toNat)
 case atStart => exact ⟨0, by omega, rfl, rfl⟩
 case round =>
  obtain ⟨k, hk, rfl, rfl⟩ := hrel
  have hb := szF_le hv.out k hk
  by_cases hlt : k < n
  ·obtain ⟨ad, rfl, hc⟩ := HV.out.cells (by omega)
   have hcell := hc k hlt
   have hvk := hv.out k hlt
   have hs : szF v (k + 1) = szF v k + (v k).natAbs := rfl
   have i0 : (0 : Int) ≤ (k : Int) := by omega
   have i1 : (k : Int) < (n : Int) := by omega
   obtain ⟨y, hy⟩ : ∃ y, y = v k := ⟨_, rfl⟩
   obtain ⟨s, hs0⟩ : ∃ s, s = szF v k := ⟨_, rfl⟩
   obtain ⟨s1, hs1⟩ : ∃ s1, s1 = szF v (k + 1) := ⟨_, rfl⟩
   rw [← hy] at hcell hvk hs
   rw [← hs0] at hb hs ⊢
   rw [← hs1] at hs
   have HS1 := Lib.hid hs1
   have u1 : IntKind.i64.wrap (-y) = -y := by rw [IntKind.wrap_i64]; omega
   have u2 : IntKind.u64.wrap (max y (-y)) = (y.natAbs : Int) := by rw [IntKind.wrap_u64]; omega
   have u3 : IntKind.u64.wrap ((s : Int) + (y.natAbs : Int)) = (s1 : Int) := by rw [IntKind.wrap_u64]; omega
   clear hc hy hs0 hs1
   go_wp2
   go_round
   case rel => exact ⟨k + 1, by omega, by go_num, by have h9 := HS1.out; exact congrArg (Value.int .u64) (by omega)⟩
   case measure => simp [intOf]; omega
  ·obtain rfl : k = n := by omega
   go_wp2
   go_ret
   exact ⟨rfl, rfl⟩
def mulTextZ (T Q X S : Nat) : Nat := X * S + Q % T * ((S + 1) / 2)
def ErrT (E : Nat) (F : Prop) (EM : Nat) : Prop := (E ≠ 0 ∧ EM = E) ∨ (E = 0 ∧ ¬ F ∧ EM = 3) ∨ (E = 0 ∧ F ∧ EM = 0)
theorem errT (E : Nat) (F : Prop) : ∃ EM, ErrT E F EM := by
 by_cases h : E = 0
 ·by_cases hf : F
  ·exact ⟨0, .inr (.inr ⟨h, hf, rfl⟩)⟩
  ·exact ⟨3, .inr (.inl ⟨h, hf, rfl⟩)⟩
 ·exact ⟨E, .inl ⟨h, rfl⟩⟩
set_option maxHeartbeats 4000000 in
theorem bMulText_any {N : Int} {T : Nat} {Wd : Int} {A B : Option Addr} {L c mt cb : Nat} {f tf : Nat → Nat} {l : Int} {E EM na ca Xa : Nat} {Aa : Option Addr} {w : World} (hP : Hid (PA w N T A L c Wd f)) (hL : L ≤ 100) (l0 : -9223372036854775808 ≤ l) (l1 : l < 9223372036854775808) (hT : Hid (Tabs w)) (hE : Hid (ErrL (ParP N T L f Wd) 0 l L E)) (hxa : Hid (NV w (.slice Aa na ca) Xa 40)) (hX : Hid (FX w B mt cb tf)) (hmt : mt ≤ 100000) (htf : Hid (∀ i, i < mt → tf i < 18446744073709551616)) (hEM : Hid (ErrT E ((mt : Int) = N ∧ AllB mt tf T) EM)) :
    Calls Tryz.prog 35 #[.agg #[.int .i64 N, .int .u64 (T : Int), .slice A L c, .int .i64 Wd], .int .i64 l, .slice Aa na ca, .slice B mt cb] w (BdPost w EM (mulTextZ T (prodF f (l.toNat + 1)) Xa (szF (cenX tf T) mt))) := by
 have kV : Ext w ((w.alloc (.cells #[.int .i64 N, .int .u64 (T : Int), .slice A L c, .int .i64 Wd] 25)).alloc (.cells #[.slice Aa na ca] 50)) := ((Ext.refl w).alloc _).alloc _
 obtain ⟨a0, a1, a2, a3⟩ := four_at w (.int .i64 N) (.int .u64 (T : Int)) (.slice A L c) (.int .i64 Wd) 25
 have ka : Ext (w.alloc (.cells #[.int .i64 N, .int .u64 (T : Int), .slice A L c, .int .i64 Wd] 25)) ((w.alloc (.cells #[.int .i64 N, .int .u64 (T : Int), .slice A L c, .int .i64 Wd] 25)).alloc (.cells #[.slice Aa na ca] 50)) := (Ext.refl _).alloc _
 have x0 := cell_ext ka a0
 have x1 := cell_ext ka a1
 have x2 := cell_ext ka a2
 have x3 := cell_ext ka a3
 have y0 := one_at (w.alloc (.cells #[.int .i64 N, .int .u64 (T : Int), .slice A L c, .int .i64 Wd] 25)) (.slice Aa na ca) 50
 rw [show (w.alloc (.cells #[.int .i64 N, .int .u64 (T : Int), .slice A L c, .int .i64 Wd] 25)).heap.size = w.heap.size + 1 by simp] at y0
 clear a0 a1 a2 a3 ka
 go_enter Tryz.func35, Tryz.ntmps35
 go_wp2_with fail
 generalize (w.alloc (.cells #[.int .i64 N, .int .u64 (T : Int), .slice A L c, .int .i64 Wd] 25)).alloc (.cells #[.slice Aa na ca] 50) = V at *
 refine (blevelOf_any (hP.out.ext kV) hL l0 l1 (hT.out.ext kV) hE).mono ?_
 rintro ee w1 h1
 have H1 := Lib.hid h1
 clear h1
 obtain ⟨h0, rfl, k1⟩ | ⟨rfl, n, W0, m, A2, n2, c2, rfl, rfl, rfl, hm, HK, rfl, hn2, HR, k1⟩ := H1.out
 ·have e1 : ((E : Int) == 0) = false := by simp; omega
  have e2 : ((E : Int) != 0) = true := by simp; omega
  obtain rfl : EM = E := by
   rcases hEM.out with ⟨_, e⟩ | ⟨h, _⟩ | ⟨h, _⟩
   ·exact e
   ·exact absurd h h0
   ·exact absurd h h0
  have H0 := Lib.hid h0
  clear h0 H1 hEM
  go_wp2
  go_ret2
  exact .inl ⟨H0.out, by first | rfl | simp, (kV.trans k1).alloc _⟩
 clear H1
 have kS : Ext w1 (w1.alloc (.cells #[.int .u64 (n : Int), .int .u64 (T : Int), .int .u64 (W0 : Int), .slice A (m + 1) c, .slice A2 n2 c2] 120)) := (Ext.refl _).alloc _
 have HS : Hid (StC (w1.alloc (.cells #[.int .u64 (n : Int), .int .u64 (T : Int), .int .u64 (W0 : Int), .slice A (m + 1) c, .slice A2 n2 c2] 120)) w1.heap.size n T W0 (.slice A (m + 1) c) (.slice A2 n2 c2)) := Lib.hid (five_at w1 _ _ _ _ _ _)
 have k1S := k1.trans kS
 replace x0 := cell_ext k1S x0
 replace x1 := cell_ext k1S x1
 replace x2 := cell_ext k1S x2
 replace x3 := cell_ext k1S x3
 replace y0 := cell_ext k1S y0
 have kw := kV.trans k1S
 have hk := HK.out
 have ht30 := hk.t30
 have ht2 := hk.t2
 have hn4 := hk.n4
 have HXR : Hid (NV (w1.alloc (.cells #[.int .u64 (n : Int), .int .u64 (T : Int), .int .u64 (W0 : Int), .slice A (m + 1) c, .slice A2 n2 c2] 120)) (.slice A2 n2 c2) (prodF f (m + 1) % T) 3) := Lib.hid (NV.ext (HR.out.val (by omega)) kS)
 obtain ⟨gl, hgl⟩ : ∃ gl, gl = w1.heap.size := ⟨_, rfl⟩
 rw [← hgl] at HS
 clear hk HR k1S
 go_wp2_with fail
 simp only [← hgl]
 generalize w1.alloc (.cells #[.int .u64 (n : Int), .int .u64 (T : Int), .int .u64 (W0 : Int), .slice A (m + 1) c, .slice A2 n2 c2] 120) = V1 at *
 clear hgl
 refine (tcentered_any (by omega) (hX.out.ext kw) hmt htf).mono ?_
 rintro ee w2 (⟨hF, g, rfl, HV, k2⟩ | ⟨hF, rfl, k2⟩)
 case inr =>
  obtain rfl : EM = 3 := by
   rcases hEM.out with ⟨h, _⟩ | ⟨_, _, e⟩ | ⟨_, h, _⟩
   ·exact absurd rfl h
   ·exact e
   ·exact absurd h hF
  clear hF hEM
  go_wp2
  go_ret2
  exact .inl ⟨by omega, by first | rfl | simp, kw.trans k2⟩
 obtain rfl : EM = 0 := by
  rcases hEM.out with ⟨h, _⟩ | ⟨_, h, _⟩ | ⟨_, _, e⟩
  ·exact absurd rfl h
  ·exact absurd hF h
  ·exact e
 have hmn : mt ≤ 4096 := by have := hF.1; omega
 replace y0 := cell_ext k2 y0
 have HNR := Lib.hid (fun i (_ : i < mt) => cenX_near (f := tf) ht2 ht30 i)
 obtain ⟨s, hs⟩ : ∃ s, s = szF (cenX tf T) mt := ⟨_, rfl⟩
 have hsb : s ≤ 4096 * 1073741824 := by
  rw [hs]
  exact Nat.le_trans (szF_le (n := mt) (fun i hi => HNR.out i hi) mt (Nat.le_refl _)) (Nat.mul_le_mul_right _ hmn)
 have HSZ := Lib.hid hs
 clear hF hEM
 go_wp2_with fail
 refine (sizeOf_any mt mt (some ⟨g, 0, none⟩) (cenX tf T) w2 HV.out (by omega) HNR).mono ?_
 rintro ee w3 ⟨rfl, rfl⟩
 rw [← hs]
 clear hs
 have kG : Ext w2 (w2.alloc (.cells #[.int .u64 (s : Int)] 22)) := (Ext.refl _).alloc _
 have g0 := one_at w2 (.int .u64 (s : Int)) 22
 have k2G := k2.trans kG
 go_wp2_with fail
 refine (summed_any 95 #[.pointer (some ⟨w.heap.size + 1, 0, none⟩), .pointer (some ⟨w2.heap.size, 0, none⟩), .pointer (some ⟨gl, 0, none⟩)] _ 300 _ (Lib.hid Tryz.call95) (Lib.hid (mulTextC_any (S := s) (by omega) (HS.out.ext k2G) (cell_ext kG y0) g0 (hxa.out.ext (kw.trans k2G)) (NV.le (HXR.out.ext k2G) (by omega))))).mono ?_
 rintro ee w5 ⟨A5, n5, c5, rfl, hn5, hx5, k5⟩
 have H5 := Lib.hid hx5
 clear hx5
 go_wp2
 go_ret2
 refine .inr ⟨rfl, A5, n5, c5, rfl, by omega, ?_, (kw.trans k2G).trans k5⟩
 unfold mulTextZ
 rw [Int.toNat_natCast, ← HSZ.out]
 exact Lib.hid H5.out
theorem rText_any {N : Int} {T : Nat} {Wd : Int} {A B : Option Addr} {L c mt cb : Nat} {tf : Nat → Nat} {w : World} (hX : Hid (FX w B mt cb tf)) (hmt : mt ≤ 100000) :
    Calls Tryz.prog 36 #[.agg #[.int .i64 N, .int .u64 (T : Int), .slice A L c, .int .i64 Wd], .slice B mt cb] w (Tells w ((mt : Int) = N ∧ AllB mt tf T)) := by
 have kV : Ext w (w.alloc (.cells #[.int .i64 N, .int .u64 (T : Int), .slice A L c, .int .i64 Wd] 25)) := (Ext.refl w).alloc _
 obtain ⟨x0, x1, x2, x3⟩ := four_at w (.int .i64 N) (.int .u64 (T : Int)) (.slice A L c) (.int .i64 Wd) 25
 go_enter Tryz.func36, Tryz.ntmps36
 go_wp2_with fail
 refine (fits_any B mt cb T N tf _ (hX.out.ext kV) hmt).mono ?_
 rintro e w1 (⟨h, rfl, k1⟩ | ⟨h, rfl, k1⟩)
 ·have H := Lib.hid h
  clear h
  go_wp2
  go_ret
  exact .inl ⟨H.out, rfl, kV.trans k1⟩
 ·have H := Lib.hid h
  clear h
  go_wp2
  go_ret
  exact .inr ⟨H.out, rfl, kV.trans k1⟩
set_option maxHeartbeats 4000000 in
theorem r14MulText_any {n T W0 L c m na ca Xa mt cb : Nat} {A Aa B : Option Addr} {f tf : Nat → Nat} {w : World} (hP : Hid (PA w (n : Int) T A L c (W0 : Int) f)) (HK : Hid (ParK n T W0 L f)) (hm : m < L) (hxa : Hid (NV w (.slice Aa na ca) Xa 40)) (hX : Hid (FX w B mt cb tf)) (hmt : mt ≤ 4096) (htf : Hid (∀ i, i < mt → tf i < 18446744073709551616)) :
    Calls Tryz.prog 38 #[.agg #[.int .i64 (n : Int), .int .u64 (T : Int), .slice A L c, .int .i64 (W0 : Int)], .int .i64 (m : Int), .slice Aa na ca, .slice B mt cb] w (RP w (mulTextZ T (prodF f (m + 1)) Xa (szF (cenX tf T) mt))) := by
 have hk := HK.out
 have hn4 := hk.n4
 have hn8 := hk.n8
 have ht30 := hk.t30
 have ht2 := hk.t2
 have hw16 := hk.w16
 have hl8 := hk.l8
 have hL : L ≤ 100 := by omega
 clear hk
 have kw : Ext w (w.alloc (.cells #[.int .i64 (n : Int), .int .u64 (T : Int), .slice A L c, .int .i64 (W0 : Int)] 25)) := (Ext.refl w).alloc _
 obtain ⟨x0, x1, x2, x3⟩ := four_at w (.int .i64 (n : Int)) (.int .u64 (T : Int)) (.slice A L c) (.int .i64 (W0 : Int)) 25
 have HNR := Lib.hid (fun i (_ : i < mt) => cenX_near (f := tf) ht2 ht30 i)
 go_enter Tryz.func38, Tryz.ntmps38
 go_wp2
 generalize w.alloc (.cells #[.int .i64 (n : Int), .int .u64 (T : Int), .slice A L c, .int .i64 (W0 : Int)] 25) = V at *
 go_loopw [9, 15] (fun s i wr => ∃ k : Nat, k ≤ mt ∧ i = .int .i64 (k : Int) ∧ s = .int .u64 (szF (cenX tf T) k : Int) ∧ wr = V) (fun _ i _ => mt - (intOf i).toNat)
 case atStart => exact ⟨0, by omega, rfl, rfl, rfl⟩
 case round =>
  obtain ⟨k, hk, rfl, rfl, rfl⟩ := hrel
  have hb := szF_le HNR.out k hk
  by_cases hlt : k < mt
  ·obtain ⟨ab, rfl, hc⟩ := (hX.out.ext kw).cells (by omega)
   have hcell := hc k hlt
   have hfk := htf.out k hlt
   have hvk := HNR.out k hlt
   have hs : szF (cenX tf T) (k + 1) = szF (cenX tf T) k + (cenX tf T k).natAbs := rfl
   have i0 : (0 : Int) ≤ (k : Int) := by omega
   have i1 : (k : Int) < (mt : Int) := by omega
   obtain ⟨x, hx⟩ : ∃ x, x = tf k := ⟨_, rfl⟩
   obtain ⟨y, hy⟩ : ∃ y, y = cenX tf T k := ⟨_, rfl⟩
   have hxy : cenS (x : Int) (T : Int) = y := by rw [hx, hy]; rfl
   obtain ⟨s, hs0⟩ : ∃ s, s = szF (cenX tf T) k := ⟨_, rfl⟩
   obtain ⟨s1, hs1⟩ : ∃ s1, s1 = szF (cenX tf T) (k + 1) := ⟨_, rfl⟩
   rw [← hx] at hcell hfk
   rw [← hy] at hvk hs
   rw [← hs0] at hb hs ⊢
   rw [← hs1] at hs
   have HS1 := Lib.hid hs1
   have HXY := Lib.hid hxy
   have u1 : IntKind.i64.wrap (-y) = -y := by rw [IntKind.wrap_i64]; omega
   have u2 : IntKind.u64.wrap (max y (-y)) = (y.natAbs : Int) := by rw [IntKind.wrap_u64]; omega
   have u3 : IntKind.u64.wrap ((s : Int) + (y.natAbs : Int)) = (s1 : Int) := by rw [IntKind.wrap_u64]; omega
   clear hc hy hs0 hs1 hx hxy
   go_wp2_with fail
   refine (rcenter_any (x : Int) (T : Int) _ (by omega) (by omega) (by omega) (by omega)).mono ?_
   rintro ee w2 ⟨rfl, rfl⟩
   rw [HXY.out]
   go_wp2
   exact ⟨⟨k + 1, by omega, by go_num, by have h9 := HS1.out; exact congrArg (Value.int .u64) (by omega), by first | rfl | trivial⟩, by simp [intOf]; omega⟩
  ·obtain rfl : k = mt := by omega
   obtain ⟨s, hs⟩ : ∃ s, s = szF (cenX tf T) k := ⟨_, rfl⟩
   rw [← hs] at hb ⊢
   have hsb : s ≤ 4096 * 1073741824 := Nat.le_trans hb (Nat.mul_le_mul_right _ hmt)
   obtain ⟨z0, hz0⟩ : ∃ z, z = s + 1 := ⟨_, rfl⟩
   obtain ⟨z1, hz1⟩ : ∃ z, z = z0 / 2 := ⟨_, rfl⟩
   have u0 : IntKind.u64.wrap ((s : Int) + 1) = (z0 : Int) := by rw [IntKind.wrap_u64]; omega
   have u1 : (z0 : Int).tdiv 2 = (z1 : Int) := by rw [hz1]; rfl
   have u2 : (z0 : Int) / 2 = (z1 : Int) := by omega
   have u3 : IntKind.u64.wrap (z1 : Int) = (z1 : Int) := by rw [IntKind.wrap_u64]; omega
   have hz1b : z1 < 18446744073709551616 := by omega
   have hsb2 : s < 18446744073709551616 := by omega
   have HZ := Lib.hid (show mulTextZ T (prodF f (m + 1)) Xa s = Xa * s + prodF f (m + 1) % T * z1 by unfold mulTextZ; rw [hz1, hz0])
   have HSS := Lib.hid hs
   have kk : Ext wr wr := Ext.refl _
   clear hs hz0 hz1 hb hlt
   go_wp2_with fail
   go_region_held3 (fun w' => w'.cell? ⟨w.heap.size, 0, none⟩ = some (.int .i64 (n : Int)) ∧ w'.cell? ⟨w.heap.size, 1, none⟩ = some (.int .u64 (T : Int)) ∧ w'.cell? ⟨w.heap.size, 2, none⟩ = some (.slice A L c) ∧ w'.cell? ⟨w.heap.size, 3, none⟩ = some (.int .i64 (W0 : Int))) (go_keep)
    (first
     | (go_at_call 86; have q_q := H_q; clear q_q; refine (rsum2 (M := 100) (NX.val (M := 100) (NX.ext H_p.out (by with_reducible repeat first | exact Ext.refl _ | apply Ext.alloc | apply Ext.drew)) (by omega)) (NX.val (M := 100) (NX.ext H_q.out (by with_reducible repeat first | exact Ext.refl _ | apply Ext.alloc | apply Ext.drew)) (by omega)) (by omega)).mono ?_; rintro e5 w5 ⟨A_z9, n_z9, c_z9, rfl, hn_z9, hx5, k5⟩; have H_z9 : Hid (NX w5 A_z9 n_z9 c_z9 (nw (Xa * s + prodF f (m + 1) % T * z1))) := Lib.hid hx5; clear hx5; replace kk := Ext.trans (Ext.trans kk (by with_reducible repeat first | exact Ext.refl _ | apply Ext.alloc | apply Ext.drew)) k5; have d0 := cell_ext kk x0; have d1 := cell_ext kk x1; have d2 := cell_ext kk x2; have d3 := cell_ext kk x3)
     | (go_at_call 97; have q_z := H_z; clear q_z; refine (rtimes2 (M := 2) (NX.val (M := 2) (NX.ext H_r.out (by with_reducible repeat first | exact Ext.refl _ | apply Ext.alloc | apply Ext.drew)) (by omega)) (NX.val (M := 2) (NX.ext H_z.out (by with_reducible repeat first | exact Ext.refl _ | apply Ext.alloc | apply Ext.drew)) (by omega)) (by omega)).mono ?_; rintro e5 w5 ⟨A_q, n_q, c_q, rfl, hn_q, hx5, k5⟩; have H_q : Hid (NX w5 A_q n_q c_q (nw (prodF f (m + 1) % T * z1))) := Lib.hid hx5; clear hx5; replace H_p := Lib.hid (NX.ext H_p.out (Ext.trans (by with_reducible repeat first | exact Ext.refl _ | apply Ext.alloc | apply Ext.drew) k5)); replace kk := Ext.trans (Ext.trans kk (by with_reducible repeat first | exact Ext.refl _ | apply Ext.alloc | apply Ext.drew)) k5; have d0 := cell_ext kk x0; have d1 := cell_ext kk x1; have d2 := cell_ext kk x2; have d3 := cell_ext kk x3)
     | (go_at_call 96; have q_r := H_r; clear q_r; refine (of1 z1 hz1b _).mono ?_; rintro e5 w5 ⟨A_z, n_z, c_z, rfl, hn_z, hx5, k5⟩; have H_z : Hid (NX w5 A_z n_z c_z (nw (z1))) := Lib.hid hx5; clear hx5; replace H_p := Lib.hid (NX.ext H_p.out (Ext.trans (by with_reducible repeat first | exact Ext.refl _ | apply Ext.alloc | apply Ext.drew) k5)); replace H_r := Lib.hid (NX.ext H_r.out (Ext.trans (by with_reducible repeat first | exact Ext.refl _ | apply Ext.alloc | apply Ext.drew) k5)); replace kk := Ext.trans (Ext.trans kk (by with_reducible repeat first | exact Ext.refl _ | apply Ext.alloc | apply Ext.drew)) k5; have d0 := cell_ext kk x0; have d1 := cell_ext kk x1; have d2 := cell_ext kk x2; have d3 := cell_ext kk x3)
     | (go_at_call 87; refine (rrest_any (Lib.hid (hP.out.ext (Ext.trans (Ext.trans kw kk) (by with_reducible repeat first | exact Ext.refl _ | apply Ext.alloc | apply Ext.drew)))) hL (by omega) ht2).mono ?_; rintro e5 w5 ⟨A_r, n_r, c_r, rfl, hn_r, hx5, k5⟩; have H_r : Hid (NX w5 A_r n_r c_r (nw (prodF f (m + 1) % T))) := Lib.hid hx5; clear hx5; replace H_p := Lib.hid (NX.ext H_p.out (Ext.trans (by with_reducible repeat first | exact Ext.refl _ | apply Ext.alloc | apply Ext.drew) k5)); replace kk := Ext.trans (Ext.trans kk (by with_reducible repeat first | exact Ext.refl _ | apply Ext.alloc | apply Ext.drew)) k5; have d0 := cell_ext kk x0; have d1 := cell_ext kk x1; have d2 := cell_ext kk x2; have d3 := cell_ext kk x3)
     | (go_at_call 97; refine (rtimes2 (M := 40) (NV.ext hxa.out (Ext.trans (Ext.trans kw kk) (by with_reducible repeat first | exact Ext.refl _ | apply Ext.alloc | apply Ext.drew))) (NX.val (M := 40) (NX.ext H_s.out (by with_reducible repeat first | exact Ext.refl _ | apply Ext.alloc | apply Ext.drew)) (by omega)) (by omega)).mono ?_; rintro e5 w5 ⟨A_p, n_p, c_p, rfl, hn_p, hx5, k5⟩; have H_p : Hid (NX w5 A_p n_p c_p (nw (Xa * s))) := Lib.hid hx5; clear hx5; replace kk := Ext.trans (Ext.trans kk (by with_reducible repeat first | exact Ext.refl _ | apply Ext.alloc | apply Ext.drew)) k5; have d0 := cell_ext kk x0; have d1 := cell_ext kk x1; have d2 := cell_ext kk x2; have d3 := cell_ext kk x3)
     | (go_at_call 96; refine (of1 s hsb2 _).mono ?_; rintro e5 w5 ⟨A_s, n_s, c_s, rfl, hn_s, hx5, k5⟩; have H_s : Hid (NX w5 A_s n_s c_s (nw (s))) := Lib.hid hx5; clear hx5; replace kk := Ext.trans (Ext.trans kk (by with_reducible repeat first | exact Ext.refl _ | apply Ext.alloc | apply Ext.drew)) k5; have d0 := cell_ext kk x0; have d1 := cell_ext kk x1; have d2 := cell_ext kk x2; have d3 := cell_ext kk x3)
     | fail)
   go_wp2
   go_ret
   exact ⟨A_z9, n_z9, c_z9, rfl, by omega, by rw [← HSS.out, HZ.out]; exact Lib.hid H_z9.out, kw.trans kk⟩
set_option maxHeartbeats 8000000 in
theorem boundProducts_walk {N : Int} {T : Nat} {Wd : Int} {A : Option Addr} {L c : Nat} {f : Nat → Nat} {l : Int} {Aa Ab : Option Addr} {na nb ca cb : Nat} {xas xbs : List Nat} {B : Option Addr} {mt cb2 : Nat} {tf : Nat → Nat} (w : World) (hP : Hid (PA w N T A L c Wd f)) (l0 : -9223372036854775808 ≤ l) (l1 : l < 9223372036854775808) (hxa : Hid (NX w Aa na ca xas)) (hxb : Hid (NX w Ab nb cb xbs)) (hX : FX w B mt cb2 tf) (hmx : mt ≤ 9223372036854775807) (htf : Hid (∀ i, i < mt → tf i < 18446744073709551616)) (hT : Tabs w) :
    Calls Tryz.prog 6 #[.agg #[.int .i64 N, .int .u64 (T : Int), .slice A L c, .int .i64 Wd], .int .i64 l, .slice Aa na ca, .slice Ab nb cb, .slice B mt cb2] w fun e w' => e = .returned (.bool true) ∧ Ext w w' := by
 have HT := Lib.hid hT
 have HX := Lib.hid hX
 clear hT hX
 have kw : Ext w (w.alloc (.cells #[.int .i64 N, .int .u64 (T : Int), .slice A L c, .int .i64 Wd] 25)) := (Ext.refl w).alloc _
 obtain ⟨x0, x1, x2, x3⟩ := four_at w (.int .i64 N) (.int .u64 (T : Int)) (.slice A L c) (.int .i64 Wd) 25
 have hLL := hP.out.len
 go_enter Tryz.func6, Tryz.ntmps6
 go_wp2_with fail
 generalize w.alloc (.cells #[.int .i64 N, .int .u64 (T : Int), .slice A L c, .int .i64 Wd] 25) = V0 at *
 refine (fixed14_any V0 (Lib.hid (HT.out.ext kw))).mono ?_
 rintro e V ⟨rfl, k1⟩
 replace x0 := cell_ext k1 x0
 replace x1 := cell_ext k1 x1
 replace x2 := cell_ext k1 x2
 replace x3 := cell_ext k1 x3
 replace kw := kw.trans k1
 clear k1
 go_wp2_with fail
 have k3 : Ext V (V.alloc (.cells #[.slice Aa na ca, .slice Ab nb cb] 50)) := (Ext.refl V).alloc _
 obtain ⟨q0, q1⟩ := two_vals V (.slice Aa na ca) (.slice Ab nb cb) 50
 refine (few14_any V.heap.size 2 (fun j => if j = 0 then Aa else Ab) (fun j => if j = 0 then na else nb) (fun j => if j = 0 then ca else cb) _ (by omega) hLL (fun j hj => by
  rcases (show j = 0 ∨ j = 1 by omega) with rfl | rfl
  ·exact q0
  ·exact q1)).mono ?_
 rintro e w1 ⟨b, hb, rfl, k4⟩
 have kF := k3.trans k4
 clear q0 q1
 replace x0 := cell_ext kF x0
 replace x1 := cell_ext kF x1
 replace x2 := cell_ext kF x2
 replace x3 := cell_ext kF x3
 replace kw := kw.trans kF
 clear k3 k4 kF
 cases b
 ·go_wp2
  go_ret
  exact ⟨rfl, kw⟩
 obtain ⟨hb1, hL12⟩ := hb.out.1 rfl
 have hna : na ≤ 30 := hb1 0 (by omega)
 have hnb : nb ≤ 30 := hb1 1 (by omega)
 have HXa : Hid (NV w (.slice Aa na ca) (nv xas) 40) := Lib.hid ⟨_, _, _, xas, rfl, by omega, rfl, hxa.out⟩
 have HXb : Hid (NV w (.slice Ab nb cb) (nv xbs) 40) := Lib.hid ⟨_, _, _, xbs, rfl, by omega, rfl, hxb.out⟩
 clear hb hb1 hLL
 by_cases h5 : mt ≤ 5000
 case neg =>
  have b5 : (5000 : Int) < (mt : Int) := by omega
  have KW := Lib.hid kw
  clear kw
  go_wp2
  go_ret
  exact ⟨by first | rfl | simp, KW.out⟩
 have b5 : ¬ (5000 : Int) < (mt : Int) := by omega
 obtain ⟨E, hE⟩ := errL (ParP N T L f Wd) 0 l L
 have HE := Lib.hid hE
 obtain ⟨EM, hEM⟩ := errT E ((mt : Int) = N ∧ AllB mt tf T)
 have HEM := Lib.hid hEM
 clear hEM
 go_wp2_with fail
 refine (bMul_any (Lib.hid (hP.out.ext kw)) (by omega) l0 l1 (Lib.hid (HT.out.ext kw)) HE (Lib.hid (HXa.out.ext kw)) (Lib.hid (HXb.out.ext kw))).mono ?_
 intro e v11 g11
 obtain ⟨A_x, n_x, c_x, rfl, hn_x, H_x, k11⟩ := g11.uni
 clear g11
 replace x0 := cell_ext k11 x0
 replace x1 := cell_ext k11 x1
 replace x2 := cell_ext k11 x2
 replace x3 := cell_ext k11 x3
 replace kw := kw.trans k11
 go_wp2_with fail
 refine (bMulText_any (Lib.hid (hP.out.ext kw)) (by omega) l0 l1 (Lib.hid (HT.out.ext kw)) HE (Lib.hid (HXa.out.ext kw)) (Lib.hid (HX.out.ext kw)) (by omega) htf HEM).mono ?_
 intro e v12 g12
 obtain ⟨A_y, n_y, c_y, rfl, hn_y, H_y, k12⟩ := g12.uni
 clear g12
 replace x0 := cell_ext k12 x0
 replace x1 := cell_ext k12 x1
 replace x2 := cell_ext k12 x2
 replace x3 := cell_ext k12 x3
 replace kw := kw.trans k12
 replace H_x := Lib.hid (NX.ext H_x.out k12)
 go_wp2_with fail
 refine (rcheck14_any (Lib.hid (hP.out.ext kw)) (by omega) HE).mono ?_
 rintro e v13 ⟨rfl, k13⟩
 replace x0 := cell_ext k13 x0
 replace x1 := cell_ext k13 x1
 replace x2 := cell_ext k13 x2
 replace x3 := cell_ext k13 x3
 replace kw := kw.trans k13
 replace H_x := Lib.hid (NX.ext H_x.out k13)
 replace H_y := Lib.hid (NX.ext H_y.out k13)
 rcases hE with ⟨hp, rfl⟩ | ⟨hp, hl, rfl⟩ | ⟨hp, hl, rfl⟩
 ·obtain rfl : EM = 8 := by
     rcases HEM.out with ⟨_, e⟩ | ⟨h, h2, e⟩ | ⟨h, h2, e⟩
     ·exact e
     ·exact absurd h (by omega)
     ·exact absurd h (by omega)
  clear hp  HE HEM
  go_wp2_with fail
  refine (told_yes (A := A_x) (n := n_x) (c := c_x) (E := 8) (.inr (nx_zero H_x.out))).mono ?_
  rintro e v14 ⟨rfl, k14⟩
  replace x0 := cell_ext k14 x0
  replace x1 := cell_ext k14 x1
  replace x2 := cell_ext k14 x2
  replace x3 := cell_ext k14 x3
  replace kw := kw.trans k14
  replace H_x := Lib.hid (NX.ext H_x.out k14)
  replace H_y := Lib.hid (NX.ext H_y.out k14)
  go_wp2_with fail
  refine (told_yes (A := A_y) (n := n_y) (c := c_y) (E := 8) (.inr (nx_zero H_y.out))).mono ?_
  rintro e v15 ⟨rfl, k15⟩
  replace x0 := cell_ext k15 x0
  replace x1 := cell_ext k15 x1
  replace x2 := cell_ext k15 x2
  replace x3 := cell_ext k15 x3
  replace kw := kw.trans k15
  replace H_x := Lib.hid (NX.ext H_x.out k15)
  replace H_y := Lib.hid (NX.ext H_y.out k15)
  go_wp2
  go_ret
  exact ⟨by first | rfl | simp, kw⟩
 ·obtain rfl : EM = 10 := by
     rcases HEM.out with ⟨_, e⟩ | ⟨h, h2, e⟩ | ⟨h, h2, e⟩
     ·exact e
     ·exact absurd h (by omega)
     ·exact absurd h (by omega)
  clear hp hl HE HEM
  go_wp2_with fail
  refine (told_yes (A := A_x) (n := n_x) (c := c_x) (E := 10) (.inr (nx_zero H_x.out))).mono ?_
  rintro e v14 ⟨rfl, k14⟩
  replace x0 := cell_ext k14 x0
  replace x1 := cell_ext k14 x1
  replace x2 := cell_ext k14 x2
  replace x3 := cell_ext k14 x3
  replace kw := kw.trans k14
  replace H_x := Lib.hid (NX.ext H_x.out k14)
  replace H_y := Lib.hid (NX.ext H_y.out k14)
  go_wp2_with fail
  refine (told_yes (A := A_y) (n := n_y) (c := c_y) (E := 10) (.inr (nx_zero H_y.out))).mono ?_
  rintro e v15 ⟨rfl, k15⟩
  replace x0 := cell_ext k15 x0
  replace x1 := cell_ext k15 x1
  replace x2 := cell_ext k15 x2
  replace x3 := cell_ext k15 x3
  replace kw := kw.trans k15
  replace H_x := Lib.hid (NX.ext H_x.out k15)
  replace H_y := Lib.hid (NX.ext H_y.out k15)
  go_wp2
  go_ret
  exact ⟨by first | rfl | simp, kw⟩
 ·obtain ⟨n, W0, rfl, rfl, hk⟩ := par_k hp
  have HK := Lib.hid hk
  have hn4 := hk.n4
  clear hk
  obtain ⟨m, rfl⟩ := Int.eq_ofNat_of_zero_le hl.1
  have hm : m < L := by have := hl.2; omega
  rw [Int.toNat_natCast, Int.toNat_natCast] at H_x
  rw [Int.toNat_natCast] at H_y
  clear hp hl HE l0 l1
  by_cases hF : (mt : Int) = (n : Int) ∧ AllB mt tf T
  ·obtain rfl : EM = 0 := by
      rcases HEM.out with ⟨_, e⟩ | ⟨h, h2, e⟩ | ⟨h, h2, e⟩
      ·exact absurd rfl ‹_›
      ·exact absurd hF h2
      ·exact e
   go_wp2_with fail
   refine (rText_any (T := T) (N := (n : Int)) (Lib.hid (HX.out.ext kw)) (by omega)).mono ?_
   rintro e v14 (⟨hF2, rfl, k14⟩ | ⟨hF2, rfl, k14⟩)
   case inr => exact absurd hF hF2
   replace x0 := cell_ext k14 x0
   replace x1 := cell_ext k14 x1
   replace x2 := cell_ext k14 x2
   replace x3 := cell_ext k14 x3
   replace kw := kw.trans k14
   replace H_x := Lib.hid (NX.ext H_x.out k14)
   replace H_y := Lib.hid (NX.ext H_y.out k14)
   have hmt : mt ≤ 4096 := by have := hF.1; omega
   clear hF hF2 HEM
   go_wp2_with fail
   refine (told_yes (A := A_x) (n := n_x) (c := c_x) (E := 0) (.inl rfl)).mono ?_
   rintro e v15 ⟨rfl, k15⟩
   replace x0 := cell_ext k15 x0
   replace x1 := cell_ext k15 x1
   replace x2 := cell_ext k15 x2
   replace x3 := cell_ext k15 x3
   replace kw := kw.trans k15
   replace H_x := Lib.hid (NX.ext H_x.out k15)
   replace H_y := Lib.hid (NX.ext H_y.out k15)
   go_wp2_with fail
   refine (told_yes (A := A_y) (n := n_y) (c := c_y) (E := 0) (.inl rfl)).mono ?_
   rintro e v16 ⟨rfl, k16⟩
   replace x0 := cell_ext k16 x0
   replace x1 := cell_ext k16 x1
   replace x2 := cell_ext k16 x2
   replace x3 := cell_ext k16 x3
   replace kw := kw.trans k16
   replace H_x := Lib.hid (NX.ext H_x.out k16)
   replace H_y := Lib.hid (NX.ext H_y.out k16)
   go_wp2_with fail
   refine (r14Mul_any (Lib.hid (hP.out.ext kw)) HK hm (Lib.hid (HXa.out.ext kw)) (Lib.hid (HXb.out.ext kw))).mono ?_
   rintro e v17 ⟨A_fx, n_fx, c_fx, rfl, hn_fx, H_fx, k17⟩
   replace x0 := cell_ext k17 x0
   replace x1 := cell_ext k17 x1
   replace x2 := cell_ext k17 x2
   replace x3 := cell_ext k17 x3
   replace kw := kw.trans k17
   replace H_x := Lib.hid (NX.ext H_x.out k17)
   replace H_y := Lib.hid (NX.ext H_y.out k17)
   go_wp2_with fail
   refine (sameY H_x.out H_fx.out (by omega) (by omega)).mono ?_
   rintro e v18 ⟨rfl, k18⟩
   replace x0 := cell_ext k18 x0
   replace x1 := cell_ext k18 x1
   replace x2 := cell_ext k18 x2
   replace x3 := cell_ext k18 x3
   replace kw := kw.trans k18
   replace H_x := Lib.hid (NX.ext H_x.out k18)
   replace H_y := Lib.hid (NX.ext H_y.out k18)
   replace H_fx := Lib.hid (NX.ext H_fx.out k18)
   go_wp2_with fail
   refine (r14MulText_any (Lib.hid (hP.out.ext kw)) HK hm (Lib.hid (HXa.out.ext kw)) (Lib.hid (HX.out.ext kw)) hmt htf).mono ?_
   rintro e v19 ⟨A_fy, n_fy, c_fy, rfl, hn_fy, H_fy, k19⟩
   replace x0 := cell_ext k19 x0
   replace x1 := cell_ext k19 x1
   replace x2 := cell_ext k19 x2
   replace x3 := cell_ext k19 x3
   replace kw := kw.trans k19
   replace H_x := Lib.hid (NX.ext H_x.out k19)
   replace H_y := Lib.hid (NX.ext H_y.out k19)
   replace H_fx := Lib.hid (NX.ext H_fx.out k19)
   go_wp2_with fail
   refine (sameY H_y.out H_fy.out (by omega) (by omega)).mono ?_
   rintro e v20 ⟨rfl, k20⟩
   replace x0 := cell_ext k20 x0
   replace x1 := cell_ext k20 x1
   replace x2 := cell_ext k20 x2
   replace x3 := cell_ext k20 x3
   replace kw := kw.trans k20
   replace H_x := Lib.hid (NX.ext H_x.out k20)
   replace H_y := Lib.hid (NX.ext H_y.out k20)
   replace H_fx := Lib.hid (NX.ext H_fx.out k20)
   replace H_fy := Lib.hid (NX.ext H_fy.out k20)
   go_wp2
   go_ret
   exact ⟨by first | rfl | simp, kw⟩
  ·obtain rfl : EM = 3 := by
      rcases HEM.out with ⟨_, e⟩ | ⟨h, h2, e⟩ | ⟨h, h2, e⟩
      ·exact absurd rfl ‹_›
      ·exact e
      ·exact absurd h2 hF
   go_wp2_with fail
   refine (rText_any (T := T) (N := (n : Int)) (Lib.hid (HX.out.ext kw)) (by omega)).mono ?_
   rintro e v14 (⟨hF2, rfl, k14⟩ | ⟨hF2, rfl, k14⟩)
   case inl => exact absurd hF2 hF
   replace x0 := cell_ext k14 x0
   replace x1 := cell_ext k14 x1
   replace x2 := cell_ext k14 x2
   replace x3 := cell_ext k14 x3
   replace kw := kw.trans k14
   replace H_x := Lib.hid (NX.ext H_x.out k14)
   replace H_y := Lib.hid (NX.ext H_y.out k14)
   clear hF hF2 HEM
   go_wp2_with fail
   refine (told_yes (A := A_x) (n := n_x) (c := c_x) (E := 0) (.inl rfl)).mono ?_
   rintro e v15 ⟨rfl, k15⟩
   replace x0 := cell_ext k15 x0
   replace x1 := cell_ext k15 x1
   replace x2 := cell_ext k15 x2
   replace x3 := cell_ext k15 x3
   replace kw := kw.trans k15
   replace H_x := Lib.hid (NX.ext H_x.out k15)
   replace H_y := Lib.hid (NX.ext H_y.out k15)
   go_wp2_with fail
   refine (told_yes (A := A_y) (n := n_y) (c := c_y) (E := 3) (.inr (nx_zero H_y.out))).mono ?_
   rintro e v16 ⟨rfl, k16⟩
   replace x0 := cell_ext k16 x0
   replace x1 := cell_ext k16 x1
   replace x2 := cell_ext k16 x2
   replace x3 := cell_ext k16 x3
   replace kw := kw.trans k16
   replace H_x := Lib.hid (NX.ext H_x.out k16)
   replace H_y := Lib.hid (NX.ext H_y.out k16)
   go_wp2_with fail
   refine (r14Mul_any (Lib.hid (hP.out.ext kw)) HK hm (Lib.hid (HXa.out.ext kw)) (Lib.hid (HXb.out.ext kw))).mono ?_
   rintro e v17 ⟨A_fx, n_fx, c_fx, rfl, hn_fx, H_fx, k17⟩
   replace x0 := cell_ext k17 x0
   replace x1 := cell_ext k17 x1
   replace x2 := cell_ext k17 x2
   replace x3 := cell_ext k17 x3
   replace kw := kw.trans k17
   replace H_x := Lib.hid (NX.ext H_x.out k17)
   replace H_y := Lib.hid (NX.ext H_y.out k17)
   go_wp2_with fail
   refine (sameY H_x.out H_fx.out (by omega) (by omega)).mono ?_
   rintro e v18 ⟨rfl, k18⟩
   replace x0 := cell_ext k18 x0
   replace x1 := cell_ext k18 x1
   replace x2 := cell_ext k18 x2
   replace x3 := cell_ext k18 x3
   replace kw := kw.trans k18
   replace H_x := Lib.hid (NX.ext H_x.out k18)
   replace H_y := Lib.hid (NX.ext H_y.out k18)
   replace H_fx := Lib.hid (NX.ext H_fx.out k18)
   go_wp2
   go_ret
   exact ⟨by first | rfl | simp, kw⟩
end Go.Proofs.YtjikdbcjabopnaaGreatDoor
