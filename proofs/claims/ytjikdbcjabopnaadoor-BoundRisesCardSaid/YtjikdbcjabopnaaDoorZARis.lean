import Derived.Test.YtjikdbcjabopnaaDoorZ29
namespace Go.Proofs.YtjikdbcjabopnaaDoor
open Go.RowKit
set_option linter.unusedVariables false
set_option linter.unusedSimpArgs false
set_option maxRecDepth 100000
theorem upZ_mono {X X' Q : Nat} (h : X ≤ X') : upZ X Q ≤ upZ X' Q := by
 have hd : X / Q ≤ X' / Q := Nat.div_le_div_right h
 unfold upZ
 by_cases h1 : X % Q = 0
 ·rw [if_pos h1]
  split <;> omega
 ·rw [if_neg h1]
  by_cases h2 : X' % Q = 0
  ·rw [if_pos h2]
   rcases Nat.eq_zero_or_pos Q with h0 | h0
   ·subst h0
    rw [Nat.mod_zero] at h1 h2
    omega
   ·have e := Nat.div_add_mod X' Q
    have hne : X ≠ X' := fun e2 => h1 (by rw [e2]; exact h2)
    have hlt : X < Q * (X' / Q) := by omega
    exact Nat.div_lt_of_lt_mul hlt
  ·rw [if_neg h2]
   omega
theorem mulZ_mono (n T Q : Nat) {X X' : Nat} (Y : Nat) (h : X ≤ X') : mulZ n T Q X Y ≤ mulZ n T Q X' Y := by
 unfold mulZ
 have h1 : growZ n T * (X + Y) ≤ growZ n T * (X' + Y) := Nat.mul_le_mul_left _ (by omega)
 have h2 : upZ (n * T * X * Y) Q ≤ upZ (n * T * X' * Y) Q := upZ_mono (Nat.mul_le_mul_right _ (Nat.mul_le_mul_left _ h))
 omega
theorem switchZ_mono (n Wd : Nat) (f : Nat → Nat) (L : Nat) {X X' : Nat} (h : X ≤ X') : switchZ n Wd f L X ≤ switchZ n Wd f L X' := by
 unfold switchZ; omega
theorem lowerZ_mono (n T q K : Nat) {X X' : Nat} (h : X ≤ X') : lowerZ n T q K X ≤ lowerZ n T q K X' := by
 unfold lowerZ
 have := upZ_mono (Q := q) h
 omega
theorem fitsZ_mono (T Q : Nat) {X X' : Nat} (h : X ≤ X') : fitsZ T Q X ≤ fitsZ T Q X' := by
 unfold fitsZ
 have := Nat.mul_le_mul_left (2 * T) h
 omega
theorem if_mono {E X X' : Nat} (h : X ≤ X') : (if E = 0 then X else 0) ≤ (if E = 0 then X' else 0) := by split <;> omega
theorem cmpS_le {X Y : Nat} (h : X ≤ Y) : decide (cmpS X Y ≤ 0) = true := by
 unfold cmpS
 by_cases h1 : X < Y
 ·simp [h1]
 ·have : ¬ Y < X := by omega
  simp [h1, this]
theorem cmpLe {A A' : Option Addr} {n n' c c' X Y : Nat} {w : World} (h : NX w A n c (nw X)) (h' : NX w A' n' c' (nw Y)) (hn : n ≤ 600) (hn' : n' ≤ 600) (hXY : X ≤ Y) :
    Calls Tryd.prog 10 #[.slice A n c, .slice A' n' c'] w fun e w' => ∃ z : Int, e = .returned (.int .i64 z) ∧ decide (z ≤ 0) = true ∧ Ext w w' :=
 (rcmpX h h' (by omega) (by omega)).mono fun e w' ⟨he, k⟩ => ⟨_, he, by rw [nv_nw, nv_nw]; exact cmpS_le hXY, k⟩
theorem nv_lt30 {w : World} {A : Option Addr} {n c : Nat} {xs : List Nat} (h : NX w A n c xs) (hn : n ≤ 30) : nv xs < W64 ^ 30 := by
 have h1 : nv xs < W64 ^ xs.length := vl_lt h.lt
 rw [h.len] at h1
 exact Nat.lt_of_lt_of_le h1 (Nat.pow_le_pow_right (by rw [W64_eq]; omega) hn)
theorem sum31 {X Y : Nat} (hX : X < W64 ^ 30) (hY : Y < W64 ^ 30) : X + Y < W64 ^ 31 := by
 rw [show (31 : Nat) = 30 + 1 from rfl, Nat.pow_succ]
 generalize W64 ^ 30 = P at *
 rw [W64_eq]
 omega
theorem three_vals (w : World) (u0 u1 u2 : Value) (t : TypeId) : (w.alloc (.cells #[u0, u1, u2] t)).cell? ⟨w.heap.size, 0, none⟩ = some u0 ∧ (w.alloc (.cells #[u0, u1, u2] t)).cell? ⟨w.heap.size, 1, none⟩ = some u1 ∧ (w.alloc (.cells #[u0, u1, u2] t)).cell? ⟨w.heap.size, 2, none⟩ = some u2 := by simp
set_option maxHeartbeats 8000000 in
theorem boundRises_walk {N : Int} {T : Nat} {Wd : Int} {A : Option Addr} {L c : Nat} {f : Nat → Nat} {l : Int} {Aa Am Ab : Option Addr} {na nm nb ca cm cb : Nat} {xs ms ys : List Nat} (w : World) (hP : Hid (PA w N T A L c Wd f)) (l0 : -9223372036854775808 ≤ l) (l1 : l < 9223372036854775808) (hxa : Hid (NX w Aa na ca xs)) (hxm : Hid (NX w Am nm cm ms)) (hxb : Hid (NX w Ab nb cb ys)) (hT : Tabs w) :
    Calls Tryd.prog 3 #[.agg #[.int .i64 N, .int .u64 (T : Int), .slice A L c, .int .i64 Wd], .int .i64 l, .slice Aa na ca, .slice Am nm cm, .slice Ab nb cb] w fun e w' => e = .returned (.bool true) ∧ Ext w w' := by
 have HT := Lib.hid hT
 clear hT
 have kV : Ext w (w.alloc (.cells #[.int .i64 N, .int .u64 (T : Int), .slice A L c, .int .i64 Wd] 25)) := (Ext.refl w).alloc _
 obtain ⟨x0, x1, x2, x3⟩ := four_at w (.int .i64 N) (.int .u64 (T : Int)) (.slice A L c) (.int .i64 Wd) 25
 have hLL := hP.out.len
 go_enter Tryd.func3, Tryd.ntmps3
 go_wp2_with fail
 generalize w.alloc (.cells #[.int .i64 N, .int .u64 (T : Int), .slice A L c, .int .i64 Wd] 25) = V0 at *
 refine (fixed14_any V0 (Lib.hid (HT.out.ext kV))).mono ?_
 rintro e V ⟨rfl, k1⟩
 replace x0 := cell_ext k1 x0
 replace x1 := cell_ext k1 x1
 replace x2 := cell_ext k1 x2
 replace x3 := cell_ext k1 x3
 replace kV := kV.trans k1
 clear k1
 go_wp2_with fail
 have k3 : Ext V (V.alloc (.cells #[.slice Aa na ca, .slice Ab nb cb, .slice Am nm cm] 26)) := (Ext.refl V).alloc _
 obtain ⟨q0, q1, q2⟩ := three_vals V (.slice Aa na ca) (.slice Ab nb cb) (.slice Am nm cm) 26
 refine (few14_any V.heap.size 3 (fun j => if j = 0 then Aa else if j = 1 then Ab else Am) (fun j => if j = 0 then na else if j = 1 then nb else nm) (fun j => if j = 0 then ca else if j = 1 then cb else cm) _ (by omega) hLL (fun j hj => by
  rcases (show j = 0 ∨ j = 1 ∨ j = 2 by omega) with rfl | rfl | rfl
  ·exact q0
  ·exact q1
  ·exact q2)).mono ?_
 rintro e w1 ⟨b, hb, rfl, k4⟩
 have kF := k3.trans k4
 clear q0 q1 q2
 replace x0 := cell_ext kF x0
 replace x1 := cell_ext kF x1
 replace x2 := cell_ext kF x2
 replace x3 := cell_ext kF x3
 have kw := kV.trans kF
 cases b
 ·go_wp2
  go_ret
  exact ⟨rfl, kw⟩
 obtain ⟨hb1, hL12⟩ := hb.out.1 rfl
 have hna : na ≤ 30 := hb1 0 (by omega)
 have hnb : nb ≤ 30 := hb1 1 (by omega)
 have hnm : nm ≤ 30 := hb1 2 (by omega)
 have hX := nv_lt30 hxa.out hna
 have hM := nv_lt30 hxm.out hnm
 obtain ⟨E, hE⟩ := errL (ParP N T L f Wd) 0 l L
 have HE := Lib.hid hE
 have HXa : Hid (NV w (.slice Aa na ca) (nv xs) 40) := Lib.hid ⟨_, _, _, xs, rfl, by omega, rfl, hxa.out⟩
 have HXb : Hid (NV w (.slice Ab nb cb) (nv ys) 40) := Lib.hid ⟨_, _, _, ys, rfl, by omega, rfl, hxb.out⟩
 have hsum : nv xs + nv ms < W64 ^ 31 := sum31 hX hM
 have HSUM := Lib.hid hsum
 clear hb hb1 hLL hE hX hM hsum
 go_wp2_with fail
 refine (raddX (hxa.out.ext kw) (hxm.out.ext kw) (by omega) (by omega)).mono ?_
 rintro e w2 ⟨Ac, nc, cc, rfl, hnc, hxc, k2⟩
 have hnc31 : nc ≤ 31 := NX.len_le hxc HSUM.out
 have HXc : Hid (NV w2 (.slice Ac nc cc) (nv xs + nv ms) 40) := Lib.hid (NX.val hxc (by omega))
 clear hxc hnc
 replace x0 := cell_ext k2 x0
 replace x1 := cell_ext k2 x1
 replace x2 := cell_ext k2 x2
 replace x3 := cell_ext k2 x3
 replace kw := kw.trans k2
 have kc : Ext w2 w2 := Ext.refl w2
 go_wp2_with fail
 refine (bMul_any (Lib.hid (hP.out.ext kw)) (by omega) l0 l1 (Lib.hid (HT.out.ext kw)) HE (Lib.hid (HXa.out.ext kw)) (Lib.hid (HXb.out.ext kw))).mono ?_
 intro e v11 g11
 obtain ⟨A11, n11, c11, rfl, hn11, H11, k11⟩ := g11.uni
 clear g11
 replace x0 := cell_ext k11 x0
 replace x1 := cell_ext k11 x1
 replace x2 := cell_ext k11 x2
 replace x3 := cell_ext k11 x3
 replace kw := kw.trans k11
 replace kc := kc.trans k11
 go_wp2_with fail
 refine (bMul_any (Lib.hid (hP.out.ext kw)) (by omega) l0 l1 (Lib.hid (HT.out.ext kw)) HE (Lib.hid (HXc.out.ext kc)) (Lib.hid (HXb.out.ext kw))).mono ?_
 intro e v12 g12
 obtain ⟨A12, n12, c12, rfl, hn12, H12, k12⟩ := g12.uni
 clear g12
 replace x0 := cell_ext k12 x0
 replace x1 := cell_ext k12 x1
 replace x2 := cell_ext k12 x2
 replace x3 := cell_ext k12 x3
 replace kw := kw.trans k12
 replace kc := kc.trans k12
 replace H11 := Lib.hid (NX.ext H11.out k12)
 go_wp2_with fail
 refine (bSwitch_any (Lib.hid (hP.out.ext kw)) (by omega) l0 l1 (Lib.hid (HT.out.ext kw)) HE (Lib.hid (HXa.out.ext kw))).mono ?_
 intro e v13 g13
 obtain ⟨A13, n13, c13, rfl, hn13, H13, k13⟩ := g13.uni
 clear g13
 replace x0 := cell_ext k13 x0
 replace x1 := cell_ext k13 x1
 replace x2 := cell_ext k13 x2
 replace x3 := cell_ext k13 x3
 replace kw := kw.trans k13
 replace kc := kc.trans k13
 replace H11 := Lib.hid (NX.ext H11.out k13)
 replace H12 := Lib.hid (NX.ext H12.out k13)
 go_wp2_with fail
 refine (bSwitch_any (Lib.hid (hP.out.ext kw)) (by omega) l0 l1 (Lib.hid (HT.out.ext kw)) HE (Lib.hid (HXc.out.ext kc))).mono ?_
 intro e v14 g14
 obtain ⟨A14, n14, c14, rfl, hn14, H14, k14⟩ := g14.uni
 clear g14
 replace x0 := cell_ext k14 x0
 replace x1 := cell_ext k14 x1
 replace x2 := cell_ext k14 x2
 replace x3 := cell_ext k14 x3
 replace kw := kw.trans k14
 replace kc := kc.trans k14
 replace H11 := Lib.hid (NX.ext H11.out k14)
 replace H12 := Lib.hid (NX.ext H12.out k14)
 replace H13 := Lib.hid (NX.ext H13.out k14)
 go_wp2_with fail
 refine (bLower_any (K := 3) (Lib.hid (hP.out.ext kw)) (by omega) l0 l1 (Lib.hid (HT.out.ext kw)) HE (Lib.hid (HXa.out.ext kw))).mono ?_
 intro e v15 g15
 obtain ⟨A15, n15, c15, rfl, hn15, H15, k15⟩ := g15.uni
 clear g15
 replace x0 := cell_ext k15 x0
 replace x1 := cell_ext k15 x1
 replace x2 := cell_ext k15 x2
 replace x3 := cell_ext k15 x3
 replace kw := kw.trans k15
 replace kc := kc.trans k15
 replace H11 := Lib.hid (NX.ext H11.out k15)
 replace H12 := Lib.hid (NX.ext H12.out k15)
 replace H13 := Lib.hid (NX.ext H13.out k15)
 replace H14 := Lib.hid (NX.ext H14.out k15)
 go_wp2_with fail
 refine (bLower_any (K := 3) (Lib.hid (hP.out.ext kw)) (by omega) l0 l1 (Lib.hid (HT.out.ext kw)) HE (Lib.hid (HXc.out.ext kc))).mono ?_
 intro e v16 g16
 obtain ⟨A16, n16, c16, rfl, hn16, H16, k16⟩ := g16.uni
 clear g16
 replace x0 := cell_ext k16 x0
 replace x1 := cell_ext k16 x1
 replace x2 := cell_ext k16 x2
 replace x3 := cell_ext k16 x3
 replace kw := kw.trans k16
 replace kc := kc.trans k16
 replace H11 := Lib.hid (NX.ext H11.out k16)
 replace H12 := Lib.hid (NX.ext H12.out k16)
 replace H13 := Lib.hid (NX.ext H13.out k16)
 replace H14 := Lib.hid (NX.ext H14.out k16)
 replace H15 := Lib.hid (NX.ext H15.out k16)
 have eE : ((E : Int) == (E : Int)) = true := by simp
 obtain ⟨E2, hE2⟩ : ∃ z, z = lowE E l 3 := ⟨_, rfl⟩
 rw [← hE2] at *
 have eE2 : ((E2 : Int) == (E2 : Int)) = true := by simp
 have HLE := Lib.hid (show nv xs ≤ nv xs + nv ms by omega)
 clear hE2
 go_wp2_with fail
 refine (cmpLe H11.out H12.out (by omega) (by omega) (if_mono (mulZ_mono _ _ _ _ HLE.out))).mono ?_
 rintro e v31 ⟨z31, rfl, d31, k31⟩
 replace x0 := cell_ext k31 x0
 replace x1 := cell_ext k31 x1
 replace x2 := cell_ext k31 x2
 replace x3 := cell_ext k31 x3
 replace kw := kw.trans k31
 replace kc := kc.trans k31
 replace H11 := Lib.hid (NX.ext H11.out k31)
 replace H12 := Lib.hid (NX.ext H12.out k31)
 replace H13 := Lib.hid (NX.ext H13.out k31)
 replace H14 := Lib.hid (NX.ext H14.out k31)
 replace H15 := Lib.hid (NX.ext H15.out k31)
 replace H16 := Lib.hid (NX.ext H16.out k31)
 go_wp2_with fail
 refine (cmpLe H13.out H14.out (by omega) (by omega) (if_mono (switchZ_mono _ _ _ _ HLE.out))).mono ?_
 rintro e v32 ⟨z32, rfl, d32, k32⟩
 replace x0 := cell_ext k32 x0
 replace x1 := cell_ext k32 x1
 replace x2 := cell_ext k32 x2
 replace x3 := cell_ext k32 x3
 replace kw := kw.trans k32
 replace kc := kc.trans k32
 replace H11 := Lib.hid (NX.ext H11.out k32)
 replace H12 := Lib.hid (NX.ext H12.out k32)
 replace H13 := Lib.hid (NX.ext H13.out k32)
 replace H14 := Lib.hid (NX.ext H14.out k32)
 replace H15 := Lib.hid (NX.ext H15.out k32)
 replace H16 := Lib.hid (NX.ext H16.out k32)
 go_wp2_with fail
 refine (cmpLe H15.out H16.out (by omega) (by omega) (if_mono (lowerZ_mono _ _ _ _ HLE.out))).mono ?_
 rintro e v33 ⟨z33, rfl, d33, k33⟩
 replace x0 := cell_ext k33 x0
 replace x1 := cell_ext k33 x1
 replace x2 := cell_ext k33 x2
 replace x3 := cell_ext k33 x3
 replace kw := kw.trans k33
 replace kc := kc.trans k33
 replace H11 := Lib.hid (NX.ext H11.out k33)
 replace H12 := Lib.hid (NX.ext H12.out k33)
 replace H13 := Lib.hid (NX.ext H13.out k33)
 replace H14 := Lib.hid (NX.ext H14.out k33)
 replace H15 := Lib.hid (NX.ext H15.out k33)
 replace H16 := Lib.hid (NX.ext H16.out k33)
 go_wp2_with fail
 refine (bFits_any (Lib.hid (hP.out.ext kw)) (by omega) l0 l1 (Lib.hid (HT.out.ext kw)) HE (Lib.hid (HXc.out.ext kc))).mono ?_
 rintro e v41 ⟨he, k41⟩
 by_cases hfc : E = 0 ∧ fitsZ T (prodF f (l.toNat + 1)) (nv xs + nv ms) < prodF f (l.toNat + 1)
 ·obtain rfl : e = .returned (.bool true) := by rw [he]; exact congrArg (fun b => Ending.returned (.bool b)) (decide_eq_true hfc)
  have HFA := Lib.hid (show E = 0 ∧ fitsZ T (prodF f (l.toNat + 1)) (nv xs) < prodF f (l.toNat + 1) from ⟨hfc.1, Nat.lt_of_le_of_lt (fitsZ_mono _ _ HLE.out) hfc.2⟩)
  clear he hfc
  replace x0 := cell_ext k41 x0
  replace x1 := cell_ext k41 x1
  replace x2 := cell_ext k41 x2
  replace x3 := cell_ext k41 x3
  replace kw := kw.trans k41
  go_wp2_with fail
  refine (bFits_any (Lib.hid (hP.out.ext kw)) (by omega) l0 l1 (Lib.hid (HT.out.ext kw)) HE (Lib.hid (HXa.out.ext kw))).mono ?_
  rintro e v42 ⟨he, k42⟩
  obtain rfl : e = .returned (.bool true) := by rw [he]; exact congrArg (fun b => Ending.returned (.bool b)) (decide_eq_true HFA.out)
  clear he
  go_wp2
  go_ret
  exact ⟨by first | rfl | simp, kw.trans k42⟩
 ·obtain rfl : e = .returned (.bool false) := by rw [he]; exact congrArg (fun b => Ending.returned (.bool b)) (decide_eq_false hfc)
  clear he hfc
  go_wp2
  go_ret
  exact ⟨by first | rfl | simp, kw.trans k41⟩
end Go.Proofs.YtjikdbcjabopnaaDoor
