import Derived.Test.YtjikdbcjabopnaaGreatDoorZ37
namespace Go.Proofs.YtjikdbcjabopnaaGreatDoor
open Go.RowKit
set_option linter.unusedVariables false
set_option linter.unusedSimpArgs false
set_option maxRecDepth 100000
theorem bFits_no {N : Int} {T : Nat} {Wd : Int} {A : Option Addr} {L c : Nat} {f : Nat → Nat} {l : Int} {E na ca Xa : Nat} {Aa : Option Addr} {w : World} (hP : Hid (PA w N T A L c Wd f)) (hL : L ≤ 100) (l0 : -9223372036854775808 ≤ l) (l1 : l < 9223372036854775808) (hT : Hid (Tabs w)) (hE : Hid (ErrL (ParP N T L f Wd) 0 l L E)) (hxa : Hid (NV w (.slice Aa na ca) Xa 40)) (h0 : E ≠ 0) :
    Calls Tryz.prog 43 #[.agg #[.int .i64 N, .int .u64 (T : Int), .slice A L c, .int .i64 Wd], .int .i64 l, .slice Aa na ca] w fun ee w' => ee = .returned (.bool false) ∧ Ext w w' :=
 (bFits_any hP hL l0 l1 hT hE hxa).mono fun e w' ⟨he, k⟩ => ⟨by rw [he, decide_eq_false (fun h => h0 h.1)], k⟩
theorem bFits_yes {n T W0 L c m na ca Xa : Nat} {A Aa : Option Addr} {f : Nat → Nat} {w : World} (hP : Hid (PA w (n : Int) T A L c (W0 : Int) f)) (hL : L ≤ 100) (l1 : (m : Int) < 9223372036854775808) (hT : Hid (Tabs w)) (hE : Hid (ErrL (ParP (n : Int) T L f (W0 : Int)) 0 (m : Int) L 0)) (hxa : Hid (NV w (.slice Aa na ca) Xa 40)) :
    Calls Tryz.prog 43 #[.agg #[.int .i64 (n : Int), .int .u64 (T : Int), .slice A L c, .int .i64 (W0 : Int)], .int .i64 (m : Int), .slice Aa na ca] w fun ee w' => ee = .returned (.bool (decide (fitsZ T (prodF f (m + 1)) Xa < prodF f (m + 1)))) ∧ Ext w w' :=
 (bFits_any hP hL (by omega) l1 hT hE hxa).mono fun e w' ⟨he, k⟩ => ⟨by rw [he, Int.toNat_natCast]; simp, k⟩
set_option maxHeartbeats 8000000 in
theorem boundChanges_walk {N : Int} {T : Nat} {Wd : Int} {A : Option Addr} {L c : Nat} {f : Nat → Nat} {l K : Int} {Aa : Option Addr} {na ca : Nat} {xas : List Nat} (w : World) (hP : Hid (PA w N T A L c Wd f)) (l0 : -9223372036854775808 ≤ l) (l1 : l < 9223372036854775808) (K0 : -9223372036854775808 ≤ K) (K1 : K < 9223372036854775808) (hxa : Hid (NX w Aa na ca xas)) (hT : Tabs w) :
    Calls Tryz.prog 7 #[.agg #[.int .i64 N, .int .u64 (T : Int), .slice A L c, .int .i64 Wd], .int .i64 l, .int .i64 K, .slice Aa na ca] w fun e w' => e = .returned (.bool true) ∧ Ext w w' := by
 have HT := Lib.hid hT
 clear hT
 have kw : Ext w (w.alloc (.cells #[.int .i64 N, .int .u64 (T : Int), .slice A L c, .int .i64 Wd] 25)) := (Ext.refl w).alloc _
 obtain ⟨x0, x1, x2, x3⟩ := four_at w (.int .i64 N) (.int .u64 (T : Int)) (.slice A L c) (.int .i64 Wd) 25
 have hLL := hP.out.len
 go_enter Tryz.func7, Tryz.ntmps7
 go_wp2_with fail
 generalize w.alloc (.cells #[.int .i64 N, .int .u64 (T : Int), .slice A L c, .int .i64 Wd] 25) = V0 at *
 refine (fixed14_any V0 (Lib.hid (HT.out.ext kw))).mono ?_
 rintro e V ⟨rfl, k1⟩
 replace x0 := cell_ext k1 x0
 replace x1 := cell_ext k1 x1
 replace x2 := cell_ext k1 x2
 replace x3 := cell_ext k1 x3
 replace kw := kw.trans k1
 clear k1
 go_wp2_with fail
 have k3 : Ext V (V.alloc (.cells #[.slice Aa na ca] 50)) := (Ext.refl V).alloc _
 have q0 := one_at V (.slice Aa na ca) 50
 refine (few14_any V.heap.size 1 (fun j => Aa) (fun j => na) (fun j => ca) _ (by omega) hLL (fun j hj => by
  rcases (show j = 0 by omega) with rfl
  ·exact q0)).mono ?_
 rintro e w1 ⟨b, hb, rfl, k4⟩
 have kF := k3.trans k4
 clear q0
 replace x0 := cell_ext kF x0
 replace x1 := cell_ext kF x1
 replace x2 := cell_ext kF x2
 replace x3 := cell_ext kF x3
 replace kw := kw.trans kF
 clear k3 k4 kF
 cases b
 ·go_wp2
  go_ret
  exact ⟨rfl, kw⟩
 obtain ⟨hb1, hL12⟩ := hb.out.1 rfl
 have hna : na ≤ 30 := hb1 0 (by omega)
 have HXa : Hid (NV w (.slice Aa na ca) (nv xas) 40) := Lib.hid ⟨_, _, _, xas, rfl, by omega, rfl, hxa.out⟩
 clear hb hb1 hLL
 obtain ⟨E, hE⟩ := errL (ParP N T L f Wd) 0 l L
 have HE := Lib.hid hE
 obtain ⟨E1, hE1⟩ := errL (ParP N T L f Wd) 1 l L
 have HE1 := Lib.hid hE1
 obtain ⟨EL, hEL⟩ : ∃ z, z = lowE E l K := ⟨_, rfl⟩
 have HEL := Lib.hid hEL
 clear hEL hE1
 go_wp2_with fail
 refine (bSwitch_any (Lib.hid (hP.out.ext kw)) (by omega) l0 l1 (Lib.hid (HT.out.ext kw)) HE (Lib.hid (HXa.out.ext kw))).mono ?_
 intro e v11 g11
 obtain ⟨A_x, n_x, c_x, rfl, hn_x, H_x, k11⟩ := g11.uni
 clear g11
 replace x0 := cell_ext k11 x0
 replace x1 := cell_ext k11 x1
 replace x2 := cell_ext k11 x2
 replace x3 := cell_ext k11 x3
 replace kw := kw.trans k11
 go_wp2_with fail
 refine (bLower_any (K := K) (Lib.hid (hP.out.ext kw)) (by omega) l0 l1 (Lib.hid (HT.out.ext kw)) HE (Lib.hid (HXa.out.ext kw))).mono ?_
 intro e v12 g12
 obtain ⟨A_y, n_y, c_y, rfl, hn_y, H_y, k12⟩ := g12.uni
 clear g12
 replace x0 := cell_ext k12 x0
 replace x1 := cell_ext k12 x1
 replace x2 := cell_ext k12 x2
 replace x3 := cell_ext k12 x3
 replace kw := kw.trans k12
 replace H_x := Lib.hid (NX.ext H_x.out k12)
 rw [← HEL.out] at H_y ⊢
 go_wp2_with fail
 refine (rcheck14_any (Lib.hid (hP.out.ext kw)) (by omega) HE1).mono ?_
 rintro e v13 ⟨rfl, k13⟩
 replace x0 := cell_ext k13 x0
 replace x1 := cell_ext k13 x1
 replace x2 := cell_ext k13 x2
 replace x3 := cell_ext k13 x3
 replace kw := kw.trans k13
 replace H_x := Lib.hid (NX.ext H_x.out k13)
 replace H_y := Lib.hid (NX.ext H_y.out k13)
 rcases hE with ⟨hp, rfl⟩ | ⟨hp, hl, rfl⟩ | ⟨hp, hl, rfl⟩
 ·obtain rfl : E1 = 8 := by
     rcases HE1.out with ⟨h, e⟩ | ⟨h, h2, e⟩ | ⟨h, h2, e⟩
     ·exact e
     ·exact absurd h hp
     ·exact absurd h hp
  obtain rfl : EL = 8 := by rw [HEL.out]; unfold lowE; rw [if_pos (by omega)]
  clear HEL
  clear hp HE1
  go_wp2_with fail
  refine (rcheck14_any (Lib.hid (hP.out.ext kw)) (by omega) HE).mono ?_
  rintro e v14 ⟨rfl, k14⟩
  replace x0 := cell_ext k14 x0
  replace x1 := cell_ext k14 x1
  replace x2 := cell_ext k14 x2
  replace x3 := cell_ext k14 x3
  replace kw := kw.trans k14
  replace H_x := Lib.hid (NX.ext H_x.out k14)
  replace H_y := Lib.hid (NX.ext H_y.out k14)
  go_wp2_with fail
  refine (told_yes (A := A_x) (n := n_x) (c := c_x) (E := 8) (.inr (nx_zero H_x.out))).mono ?_
  rintro e v15 ⟨rfl, k15⟩
  replace x0 := cell_ext k15 x0
  replace x1 := cell_ext k15 x1
  replace x2 := cell_ext k15 x2
  replace x3 := cell_ext k15 x3
  replace kw := kw.trans k15
  replace H_x := Lib.hid (NX.ext H_x.out k15)
  replace H_y := Lib.hid (NX.ext H_y.out k15)
  go_wp2_with fail
  refine (told_yes (A := A_y) (n := n_y) (c := c_y) (E := 8) (.inr (nx_zero H_y.out))).mono ?_
  rintro e v16 ⟨rfl, k16⟩
  replace x0 := cell_ext k16 x0
  replace x1 := cell_ext k16 x1
  replace x2 := cell_ext k16 x2
  replace x3 := cell_ext k16 x3
  replace kw := kw.trans k16
  replace H_x := Lib.hid (NX.ext H_x.out k16)
  replace H_y := Lib.hid (NX.ext H_y.out k16)
  have kk : Ext v16 v16 := Ext.refl _
  go_wp2_with fail
  go_region_held3 (fun w' => w'.cell? ⟨w.heap.size, 0, none⟩ = some (.int .i64 N) ∧ w'.cell? ⟨w.heap.size, 1, none⟩ = some (.int .u64 (T : Int)) ∧ w'.cell? ⟨w.heap.size, 2, none⟩ = some (.slice A L c) ∧ w'.cell? ⟨w.heap.size, 3, none⟩ = some (.int .i64 Wd)) (go_keep)
   (first
    | (go_at_call 43; refine (bFits_no (Lib.hid (hP.out.ext (Ext.trans (Ext.trans kw kk) (by with_reducible repeat first | exact Ext.refl _ | apply Ext.alloc | apply Ext.drew)))) (by omega) l0 l1 (Lib.hid (HT.out.ext (Ext.trans (Ext.trans kw kk) (by with_reducible repeat first | exact Ext.refl _ | apply Ext.alloc | apply Ext.drew)))) HE (Lib.hid (HXa.out.ext (Ext.trans (Ext.trans kw kk) (by with_reducible repeat first | exact Ext.refl _ | apply Ext.alloc | apply Ext.drew)))) (by omega)).mono ?_; rintro e5 w5 ⟨rfl, k5⟩; replace kk := Ext.trans (Ext.trans kk (by with_reducible repeat first | exact Ext.refl _ | apply Ext.alloc | apply Ext.drew)) k5; have d0 := cell_ext kk x0; have d1 := cell_ext kk x1; have d2 := cell_ext kk x2; have d3 := cell_ext kk x3)
    | (go_at_call 44; refine (rFits_no _ (Lib.hid (hP.out.ext (Ext.trans (Ext.trans kw kk) (by with_reducible repeat first | exact Ext.refl _ | apply Ext.alloc | apply Ext.drew)))) (by omega) HE (by omega)).mono ?_; rintro e5 w5 ⟨rfl, k5⟩; replace kk := Ext.trans (Ext.trans kk (by with_reducible repeat first | exact Ext.refl _ | apply Ext.alloc | apply Ext.drew)) k5; have d0 := cell_ext kk x0; have d1 := cell_ext kk x1; have d2 := cell_ext kk x2; have d3 := cell_ext kk x3)
    | fail)
  go_wp2
  go_ret
  exact ⟨by first | rfl | simp, kw.trans kk⟩
 ·obtain rfl : E1 = 10 := by
     rcases HE1.out with ⟨h, e⟩ | ⟨h, h2, e⟩ | ⟨h, h2, e⟩
     ·exact absurd hp h
     ·exact e
     ·omega
  obtain rfl : EL = 10 := by rw [HEL.out]; unfold lowE; rw [if_pos (by omega)]
  clear HEL
  clear hp hl HE1
  go_wp2_with fail
  refine (rcheck14_any (Lib.hid (hP.out.ext kw)) (by omega) HE).mono ?_
  rintro e v14 ⟨rfl, k14⟩
  replace x0 := cell_ext k14 x0
  replace x1 := cell_ext k14 x1
  replace x2 := cell_ext k14 x2
  replace x3 := cell_ext k14 x3
  replace kw := kw.trans k14
  replace H_x := Lib.hid (NX.ext H_x.out k14)
  replace H_y := Lib.hid (NX.ext H_y.out k14)
  go_wp2_with fail
  refine (told_yes (A := A_x) (n := n_x) (c := c_x) (E := 10) (.inr (nx_zero H_x.out))).mono ?_
  rintro e v15 ⟨rfl, k15⟩
  replace x0 := cell_ext k15 x0
  replace x1 := cell_ext k15 x1
  replace x2 := cell_ext k15 x2
  replace x3 := cell_ext k15 x3
  replace kw := kw.trans k15
  replace H_x := Lib.hid (NX.ext H_x.out k15)
  replace H_y := Lib.hid (NX.ext H_y.out k15)
  go_wp2_with fail
  refine (told_yes (A := A_y) (n := n_y) (c := c_y) (E := 10) (.inr (nx_zero H_y.out))).mono ?_
  rintro e v16 ⟨rfl, k16⟩
  replace x0 := cell_ext k16 x0
  replace x1 := cell_ext k16 x1
  replace x2 := cell_ext k16 x2
  replace x3 := cell_ext k16 x3
  replace kw := kw.trans k16
  replace H_x := Lib.hid (NX.ext H_x.out k16)
  replace H_y := Lib.hid (NX.ext H_y.out k16)
  have kk : Ext v16 v16 := Ext.refl _
  go_wp2_with fail
  go_region_held3 (fun w' => w'.cell? ⟨w.heap.size, 0, none⟩ = some (.int .i64 N) ∧ w'.cell? ⟨w.heap.size, 1, none⟩ = some (.int .u64 (T : Int)) ∧ w'.cell? ⟨w.heap.size, 2, none⟩ = some (.slice A L c) ∧ w'.cell? ⟨w.heap.size, 3, none⟩ = some (.int .i64 Wd)) (go_keep)
   (first
    | (go_at_call 43; refine (bFits_no (Lib.hid (hP.out.ext (Ext.trans (Ext.trans kw kk) (by with_reducible repeat first | exact Ext.refl _ | apply Ext.alloc | apply Ext.drew)))) (by omega) l0 l1 (Lib.hid (HT.out.ext (Ext.trans (Ext.trans kw kk) (by with_reducible repeat first | exact Ext.refl _ | apply Ext.alloc | apply Ext.drew)))) HE (Lib.hid (HXa.out.ext (Ext.trans (Ext.trans kw kk) (by with_reducible repeat first | exact Ext.refl _ | apply Ext.alloc | apply Ext.drew)))) (by omega)).mono ?_; rintro e5 w5 ⟨rfl, k5⟩; replace kk := Ext.trans (Ext.trans kk (by with_reducible repeat first | exact Ext.refl _ | apply Ext.alloc | apply Ext.drew)) k5; have d0 := cell_ext kk x0; have d1 := cell_ext kk x1; have d2 := cell_ext kk x2; have d3 := cell_ext kk x3)
    | (go_at_call 44; refine (rFits_no _ (Lib.hid (hP.out.ext (Ext.trans (Ext.trans kw kk) (by with_reducible repeat first | exact Ext.refl _ | apply Ext.alloc | apply Ext.drew)))) (by omega) HE (by omega)).mono ?_; rintro e5 w5 ⟨rfl, k5⟩; replace kk := Ext.trans (Ext.trans kk (by with_reducible repeat first | exact Ext.refl _ | apply Ext.alloc | apply Ext.drew)) k5; have d0 := cell_ext kk x0; have d1 := cell_ext kk x1; have d2 := cell_ext kk x2; have d3 := cell_ext kk x3)
    | fail)
  go_wp2
  go_ret
  exact ⟨by first | rfl | simp, kw.trans kk⟩
 ·obtain ⟨n, W0, rfl, rfl, hk⟩ := par_k hp
  have HK := Lib.hid hk
  have hL1 := hk.l1
  clear hk
  obtain ⟨m, rfl⟩ := Int.eq_ofNat_of_zero_le hl.1
  have hm : m < L := by have := hl.2; omega
  rw [Int.toNat_natCast, Int.toNat_natCast, Int.toNat_natCast] at *
  by_cases hm0 : m = 0
  ·obtain rfl : E1 = 10 := by
      rcases HE1.out with ⟨h, e⟩ | ⟨h, h2, e⟩ | ⟨h, h2, e⟩
      ·exact absurd hp h
      ·exact e
      ·omega
   obtain rfl : EL = 10 := by rw [HEL.out]; unfold lowE; rw [if_neg (by omega), if_pos (by omega)]
   clear HEL
   clear hp hl HE1 hm0
   go_wp2_with fail
   refine (rcheck14_any (Lib.hid (hP.out.ext kw)) (by omega) HE).mono ?_
   rintro e v14 ⟨rfl, k14⟩
   replace x0 := cell_ext k14 x0
   replace x1 := cell_ext k14 x1
   replace x2 := cell_ext k14 x2
   replace x3 := cell_ext k14 x3
   replace kw := kw.trans k14
   replace H_x := Lib.hid (NX.ext H_x.out k14)
   replace H_y := Lib.hid (NX.ext H_y.out k14)
   go_wp2_with fail
   refine (told_yes (A := A_x) (n := n_x) (c := c_x) (E := 0) (.inl rfl)).mono ?_
   rintro e v15 ⟨rfl, k15⟩
   replace x0 := cell_ext k15 x0
   replace x1 := cell_ext k15 x1
   replace x2 := cell_ext k15 x2
   replace x3 := cell_ext k15 x3
   replace kw := kw.trans k15
   replace H_x := Lib.hid (NX.ext H_x.out k15)
   replace H_y := Lib.hid (NX.ext H_y.out k15)
   go_wp2_with fail
   refine (told_yes (A := A_y) (n := n_y) (c := c_y) (E := 10) (.inr (nx_zero H_y.out))).mono ?_
   rintro e v16 ⟨rfl, k16⟩
   replace x0 := cell_ext k16 x0
   replace x1 := cell_ext k16 x1
   replace x2 := cell_ext k16 x2
   replace x3 := cell_ext k16 x3
   replace kw := kw.trans k16
   replace H_x := Lib.hid (NX.ext H_x.out k16)
   replace H_y := Lib.hid (NX.ext H_y.out k16)
   go_wp2_with fail
   refine (rSwitch_any (Lib.hid (hP.out.ext kw)) HK hm (Lib.hid (HXa.out.ext kw))).mono ?_
   rintro e v17 ⟨A_fx, n_fx, c_fx, rfl, hn_fx, H_fx, k17⟩
   replace x0 := cell_ext k17 x0
   replace x1 := cell_ext k17 x1
   replace x2 := cell_ext k17 x2
   replace x3 := cell_ext k17 x3
   replace kw := kw.trans k17
   replace H_x := Lib.hid (NX.ext H_x.out k17)
   replace H_y := Lib.hid (NX.ext H_y.out k17)
   go_wp2_with fail
   refine (sameY H_x.out H_fx.out (by omega) (by omega)).mono ?_
   rintro e v18 ⟨rfl, k18⟩
   replace x0 := cell_ext k18 x0
   replace x1 := cell_ext k18 x1
   replace x2 := cell_ext k18 x2
   replace x3 := cell_ext k18 x3
   replace kw := kw.trans k18
   replace H_x := Lib.hid (NX.ext H_x.out k18)
   replace H_y := Lib.hid (NX.ext H_y.out k18)
   replace H_fx := Lib.hid (NX.ext H_fx.out k18)
   have kk : Ext v18 v18 := Ext.refl _
   go_wp2_with fail
   go_region_held3 (fun w' => w'.cell? ⟨w.heap.size, 0, none⟩ = some (.int .i64 (n : Int)) ∧ w'.cell? ⟨w.heap.size, 1, none⟩ = some (.int .u64 (T : Int)) ∧ w'.cell? ⟨w.heap.size, 2, none⟩ = some (.slice A L c) ∧ w'.cell? ⟨w.heap.size, 3, none⟩ = some (.int .i64 (W0 : Int))) (go_keep)
    (first
     | (go_at_call 43; refine (bFits_yes (Lib.hid (hP.out.ext (Ext.trans (Ext.trans kw kk) (by with_reducible repeat first | exact Ext.refl _ | apply Ext.alloc | apply Ext.drew)))) (by omega) (by omega) (Lib.hid (HT.out.ext (Ext.trans (Ext.trans kw kk) (by with_reducible repeat first | exact Ext.refl _ | apply Ext.alloc | apply Ext.drew)))) HE (Lib.hid (HXa.out.ext (Ext.trans (Ext.trans kw kk) (by with_reducible repeat first | exact Ext.refl _ | apply Ext.alloc | apply Ext.drew))))).mono ?_; rintro e5 w5 ⟨rfl, k5⟩; replace kk := Ext.trans (Ext.trans kk (by with_reducible repeat first | exact Ext.refl _ | apply Ext.alloc | apply Ext.drew)) k5; have d0 := cell_ext kk x0; have d1 := cell_ext kk x1; have d2 := cell_ext kk x2; have d3 := cell_ext kk x3)
     | (go_at_call 44; refine (rFits_yes (Lib.hid (hP.out.ext (Ext.trans (Ext.trans kw kk) (by with_reducible repeat first | exact Ext.refl _ | apply Ext.alloc | apply Ext.drew)))) HK hm (Lib.hid (HXa.out.ext (Ext.trans (Ext.trans kw kk) (by with_reducible repeat first | exact Ext.refl _ | apply Ext.alloc | apply Ext.drew)))) HE).mono ?_; rintro e5 w5 ⟨rfl, k5⟩; replace kk := Ext.trans (Ext.trans kk (by with_reducible repeat first | exact Ext.refl _ | apply Ext.alloc | apply Ext.drew)) k5; have d0 := cell_ext kk x0; have d1 := cell_ext kk x1; have d2 := cell_ext kk x2; have d3 := cell_ext kk x3)
     | fail)
   go_wp2
   go_ret
   exact ⟨by first | rfl | simp, kw.trans kk⟩
  ·obtain rfl : E1 = 0 := by
      rcases HE1.out with ⟨h, e⟩ | ⟨h, h2, e⟩ | ⟨h, h2, e⟩
      ·exact absurd hp h
      ·omega
      ·exact e
   clear hp hl HE1
   by_cases hK : K = 2
   ·obtain rfl : EL = 0 := by rw [HEL.out]; unfold lowE; rw [if_neg (by omega), if_neg (by omega), if_neg (by omega)]
    clear HEL
    obtain ⟨k, hk⟩ : ∃ k : Nat, k = 2 := ⟨_, rfl⟩
    obtain rfl : K = (k : Int) := by omega
    clear hK
    have b2 : ((k : Int) != 2) = false := by simp; omega
    have b3 : ((k : Int) == 2) = true := by simp; omega
    have hk23 : k = 2 ∨ k = 3 := by omega
    clear hk hm0
    rw [Int.toNat_natCast] at *
    go_wp2_with fail
    refine (rcheck14_any (Lib.hid (hP.out.ext kw)) (by omega) HE).mono ?_
    rintro e v14 ⟨rfl, k14⟩
    replace x0 := cell_ext k14 x0
    replace x1 := cell_ext k14 x1
    replace x2 := cell_ext k14 x2
    replace x3 := cell_ext k14 x3
    replace kw := kw.trans k14
    replace H_x := Lib.hid (NX.ext H_x.out k14)
    replace H_y := Lib.hid (NX.ext H_y.out k14)
    go_wp2_with fail
    refine (told_yes (A := A_x) (n := n_x) (c := c_x) (E := 0) (.inl rfl)).mono ?_
    rintro e v15 ⟨rfl, k15⟩
    replace x0 := cell_ext k15 x0
    replace x1 := cell_ext k15 x1
    replace x2 := cell_ext k15 x2
    replace x3 := cell_ext k15 x3
    replace kw := kw.trans k15
    replace H_x := Lib.hid (NX.ext H_x.out k15)
    replace H_y := Lib.hid (NX.ext H_y.out k15)
    go_wp2_with fail
    refine (told_yes (A := A_y) (n := n_y) (c := c_y) (E := 0) (.inl rfl)).mono ?_
    rintro e v16 ⟨rfl, k16⟩
    replace x0 := cell_ext k16 x0
    replace x1 := cell_ext k16 x1
    replace x2 := cell_ext k16 x2
    replace x3 := cell_ext k16 x3
    replace kw := kw.trans k16
    replace H_x := Lib.hid (NX.ext H_x.out k16)
    replace H_y := Lib.hid (NX.ext H_y.out k16)
    go_wp2_with fail
    refine (rSwitch_any (Lib.hid (hP.out.ext kw)) HK hm (Lib.hid (HXa.out.ext kw))).mono ?_
    rintro e v17 ⟨A_fx, n_fx, c_fx, rfl, hn_fx, H_fx, k17⟩
    replace x0 := cell_ext k17 x0
    replace x1 := cell_ext k17 x1
    replace x2 := cell_ext k17 x2
    replace x3 := cell_ext k17 x3
    replace kw := kw.trans k17
    replace H_x := Lib.hid (NX.ext H_x.out k17)
    replace H_y := Lib.hid (NX.ext H_y.out k17)
    go_wp2_with fail
    refine (sameY H_x.out H_fx.out (by omega) (by omega)).mono ?_
    rintro e v18 ⟨rfl, k18⟩
    replace x0 := cell_ext k18 x0
    replace x1 := cell_ext k18 x1
    replace x2 := cell_ext k18 x2
    replace x3 := cell_ext k18 x3
    replace kw := kw.trans k18
    replace H_x := Lib.hid (NX.ext H_x.out k18)
    replace H_y := Lib.hid (NX.ext H_y.out k18)
    replace H_fx := Lib.hid (NX.ext H_fx.out k18)
    go_wp2_with fail
    refine (rLower_any (Lib.hid (hP.out.ext kw)) HK hm (Lib.hid (HXa.out.ext kw)) hk23).mono ?_
    rintro e v19 ⟨A_fy, n_fy, c_fy, rfl, hn_fy, H_fy, k19⟩
    replace x0 := cell_ext k19 x0
    replace x1 := cell_ext k19 x1
    replace x2 := cell_ext k19 x2
    replace x3 := cell_ext k19 x3
    replace kw := kw.trans k19
    replace H_x := Lib.hid (NX.ext H_x.out k19)
    replace H_y := Lib.hid (NX.ext H_y.out k19)
    replace H_fx := Lib.hid (NX.ext H_fx.out k19)
    go_wp2_with fail
    refine (sameY H_y.out H_fy.out (by omega) (by omega)).mono ?_
    rintro e v20 ⟨rfl, k20⟩
    replace x0 := cell_ext k20 x0
    replace x1 := cell_ext k20 x1
    replace x2 := cell_ext k20 x2
    replace x3 := cell_ext k20 x3
    replace kw := kw.trans k20
    replace H_x := Lib.hid (NX.ext H_x.out k20)
    replace H_y := Lib.hid (NX.ext H_y.out k20)
    replace H_fx := Lib.hid (NX.ext H_fx.out k20)
    replace H_fy := Lib.hid (NX.ext H_fy.out k20)
    have kk : Ext v20 v20 := Ext.refl _
    go_wp2_with fail
    go_region_held3 (fun w' => w'.cell? ⟨w.heap.size, 0, none⟩ = some (.int .i64 (n : Int)) ∧ w'.cell? ⟨w.heap.size, 1, none⟩ = some (.int .u64 (T : Int)) ∧ w'.cell? ⟨w.heap.size, 2, none⟩ = some (.slice A L c) ∧ w'.cell? ⟨w.heap.size, 3, none⟩ = some (.int .i64 (W0 : Int))) (go_keep)
     (first
      | (go_at_call 43; refine (bFits_yes (Lib.hid (hP.out.ext (Ext.trans (Ext.trans kw kk) (by with_reducible repeat first | exact Ext.refl _ | apply Ext.alloc | apply Ext.drew)))) (by omega) (by omega) (Lib.hid (HT.out.ext (Ext.trans (Ext.trans kw kk) (by with_reducible repeat first | exact Ext.refl _ | apply Ext.alloc | apply Ext.drew)))) HE (Lib.hid (HXa.out.ext (Ext.trans (Ext.trans kw kk) (by with_reducible repeat first | exact Ext.refl _ | apply Ext.alloc | apply Ext.drew))))).mono ?_; rintro e5 w5 ⟨rfl, k5⟩; replace kk := Ext.trans (Ext.trans kk (by with_reducible repeat first | exact Ext.refl _ | apply Ext.alloc | apply Ext.drew)) k5; have d0 := cell_ext kk x0; have d1 := cell_ext kk x1; have d2 := cell_ext kk x2; have d3 := cell_ext kk x3)
      | (go_at_call 44; refine (rFits_yes (Lib.hid (hP.out.ext (Ext.trans (Ext.trans kw kk) (by with_reducible repeat first | exact Ext.refl _ | apply Ext.alloc | apply Ext.drew)))) HK hm (Lib.hid (HXa.out.ext (Ext.trans (Ext.trans kw kk) (by with_reducible repeat first | exact Ext.refl _ | apply Ext.alloc | apply Ext.drew)))) HE).mono ?_; rintro e5 w5 ⟨rfl, k5⟩; replace kk := Ext.trans (Ext.trans kk (by with_reducible repeat first | exact Ext.refl _ | apply Ext.alloc | apply Ext.drew)) k5; have d0 := cell_ext kk x0; have d1 := cell_ext kk x1; have d2 := cell_ext kk x2; have d3 := cell_ext kk x3)
      | fail)
    go_wp2
    go_ret
    exact ⟨by first | rfl | simp, kw.trans kk⟩
   ·by_cases hK3 : K = 3
    ·obtain rfl : EL = 0 := by rw [HEL.out]; unfold lowE; rw [if_neg (by omega), if_neg (by omega), if_neg (by omega)]
     clear HEL
     obtain ⟨k, hk⟩ : ∃ k : Nat, k = 3 := ⟨_, rfl⟩
     obtain rfl : K = (k : Int) := by omega
     clear hK hK3
     have b2 : ((k : Int) != 2) = true := by simp; omega
     have b3 : ((k : Int) == 2) = false := by simp; omega
     have b4 : ((k : Int) != 3) = false := by simp; omega
     have b5 : ((k : Int) == 3) = true := by simp; omega
     have hk23 : k = 2 ∨ k = 3 := by omega
     clear hk hm0
     rw [Int.toNat_natCast] at *
     go_wp2_with fail
     refine (rcheck14_any (Lib.hid (hP.out.ext kw)) (by omega) HE).mono ?_
     rintro e v14 ⟨rfl, k14⟩
     replace x0 := cell_ext k14 x0
     replace x1 := cell_ext k14 x1
     replace x2 := cell_ext k14 x2
     replace x3 := cell_ext k14 x3
     replace kw := kw.trans k14
     replace H_x := Lib.hid (NX.ext H_x.out k14)
     replace H_y := Lib.hid (NX.ext H_y.out k14)
     go_wp2_with fail
     refine (told_yes (A := A_x) (n := n_x) (c := c_x) (E := 0) (.inl rfl)).mono ?_
     rintro e v15 ⟨rfl, k15⟩
     replace x0 := cell_ext k15 x0
     replace x1 := cell_ext k15 x1
     replace x2 := cell_ext k15 x2
     replace x3 := cell_ext k15 x3
     replace kw := kw.trans k15
     replace H_x := Lib.hid (NX.ext H_x.out k15)
     replace H_y := Lib.hid (NX.ext H_y.out k15)
     go_wp2_with fail
     refine (told_yes (A := A_y) (n := n_y) (c := c_y) (E := 0) (.inl rfl)).mono ?_
     rintro e v16 ⟨rfl, k16⟩
     replace x0 := cell_ext k16 x0
     replace x1 := cell_ext k16 x1
     replace x2 := cell_ext k16 x2
     replace x3 := cell_ext k16 x3
     replace kw := kw.trans k16
     replace H_x := Lib.hid (NX.ext H_x.out k16)
     replace H_y := Lib.hid (NX.ext H_y.out k16)
     go_wp2_with fail
     refine (rSwitch_any (Lib.hid (hP.out.ext kw)) HK hm (Lib.hid (HXa.out.ext kw))).mono ?_
     rintro e v17 ⟨A_fx, n_fx, c_fx, rfl, hn_fx, H_fx, k17⟩
     replace x0 := cell_ext k17 x0
     replace x1 := cell_ext k17 x1
     replace x2 := cell_ext k17 x2
     replace x3 := cell_ext k17 x3
     replace kw := kw.trans k17
     replace H_x := Lib.hid (NX.ext H_x.out k17)
     replace H_y := Lib.hid (NX.ext H_y.out k17)
     go_wp2_with fail
     refine (sameY H_x.out H_fx.out (by omega) (by omega)).mono ?_
     rintro e v18 ⟨rfl, k18⟩
     replace x0 := cell_ext k18 x0
     replace x1 := cell_ext k18 x1
     replace x2 := cell_ext k18 x2
     replace x3 := cell_ext k18 x3
     replace kw := kw.trans k18
     replace H_x := Lib.hid (NX.ext H_x.out k18)
     replace H_y := Lib.hid (NX.ext H_y.out k18)
     replace H_fx := Lib.hid (NX.ext H_fx.out k18)
     go_wp2_with fail
     refine (rLower_any (Lib.hid (hP.out.ext kw)) HK hm (Lib.hid (HXa.out.ext kw)) hk23).mono ?_
     rintro e v19 ⟨A_fy, n_fy, c_fy, rfl, hn_fy, H_fy, k19⟩
     replace x0 := cell_ext k19 x0
     replace x1 := cell_ext k19 x1
     replace x2 := cell_ext k19 x2
     replace x3 := cell_ext k19 x3
     replace kw := kw.trans k19
     replace H_x := Lib.hid (NX.ext H_x.out k19)
     replace H_y := Lib.hid (NX.ext H_y.out k19)
     replace H_fx := Lib.hid (NX.ext H_fx.out k19)
     go_wp2_with fail
     refine (sameY H_y.out H_fy.out (by omega) (by omega)).mono ?_
     rintro e v20 ⟨rfl, k20⟩
     replace x0 := cell_ext k20 x0
     replace x1 := cell_ext k20 x1
     replace x2 := cell_ext k20 x2
     replace x3 := cell_ext k20 x3
     replace kw := kw.trans k20
     replace H_x := Lib.hid (NX.ext H_x.out k20)
     replace H_y := Lib.hid (NX.ext H_y.out k20)
     replace H_fx := Lib.hid (NX.ext H_fx.out k20)
     replace H_fy := Lib.hid (NX.ext H_fy.out k20)
     have kk : Ext v20 v20 := Ext.refl _
     go_wp2_with fail
     go_region_held3 (fun w' => w'.cell? ⟨w.heap.size, 0, none⟩ = some (.int .i64 (n : Int)) ∧ w'.cell? ⟨w.heap.size, 1, none⟩ = some (.int .u64 (T : Int)) ∧ w'.cell? ⟨w.heap.size, 2, none⟩ = some (.slice A L c) ∧ w'.cell? ⟨w.heap.size, 3, none⟩ = some (.int .i64 (W0 : Int))) (go_keep)
      (first
       | (go_at_call 43; refine (bFits_yes (Lib.hid (hP.out.ext (Ext.trans (Ext.trans kw kk) (by with_reducible repeat first | exact Ext.refl _ | apply Ext.alloc | apply Ext.drew)))) (by omega) (by omega) (Lib.hid (HT.out.ext (Ext.trans (Ext.trans kw kk) (by with_reducible repeat first | exact Ext.refl _ | apply Ext.alloc | apply Ext.drew)))) HE (Lib.hid (HXa.out.ext (Ext.trans (Ext.trans kw kk) (by with_reducible repeat first | exact Ext.refl _ | apply Ext.alloc | apply Ext.drew))))).mono ?_; rintro e5 w5 ⟨rfl, k5⟩; replace kk := Ext.trans (Ext.trans kk (by with_reducible repeat first | exact Ext.refl _ | apply Ext.alloc | apply Ext.drew)) k5; have d0 := cell_ext kk x0; have d1 := cell_ext kk x1; have d2 := cell_ext kk x2; have d3 := cell_ext kk x3)
       | (go_at_call 44; refine (rFits_yes (Lib.hid (hP.out.ext (Ext.trans (Ext.trans kw kk) (by with_reducible repeat first | exact Ext.refl _ | apply Ext.alloc | apply Ext.drew)))) HK hm (Lib.hid (HXa.out.ext (Ext.trans (Ext.trans kw kk) (by with_reducible repeat first | exact Ext.refl _ | apply Ext.alloc | apply Ext.drew)))) HE).mono ?_; rintro e5 w5 ⟨rfl, k5⟩; replace kk := Ext.trans (Ext.trans kk (by with_reducible repeat first | exact Ext.refl _ | apply Ext.alloc | apply Ext.drew)) k5; have d0 := cell_ext kk x0; have d1 := cell_ext kk x1; have d2 := cell_ext kk x2; have d3 := cell_ext kk x3)
       | fail)
     go_wp2
     go_ret
     exact ⟨by first | rfl | simp, kw.trans kk⟩
    ·obtain rfl : EL = 4 := by rw [HEL.out]; unfold lowE; rw [if_neg (by omega), if_neg (by omega), if_pos (by omega)]
     clear HEL
     have b2 : (K != 2) = true := by simp; omega
     have b3 : (K == 2) = false := by simp; omega
     have b4 : (K != 3) = true := by simp; omega
     have b5 : (K == 3) = false := by simp; omega
     clear hK hK3 hm0
     go_wp2_with fail
     refine (rcheck14_any (Lib.hid (hP.out.ext kw)) (by omega) HE).mono ?_
     rintro e v14 ⟨rfl, k14⟩
     replace x0 := cell_ext k14 x0
     replace x1 := cell_ext k14 x1
     replace x2 := cell_ext k14 x2
     replace x3 := cell_ext k14 x3
     replace kw := kw.trans k14
     replace H_x := Lib.hid (NX.ext H_x.out k14)
     replace H_y := Lib.hid (NX.ext H_y.out k14)
     go_wp2_with fail
     refine (told_yes (A := A_x) (n := n_x) (c := c_x) (E := 0) (.inl rfl)).mono ?_
     rintro e v15 ⟨rfl, k15⟩
     replace x0 := cell_ext k15 x0
     replace x1 := cell_ext k15 x1
     replace x2 := cell_ext k15 x2
     replace x3 := cell_ext k15 x3
     replace kw := kw.trans k15
     replace H_x := Lib.hid (NX.ext H_x.out k15)
     replace H_y := Lib.hid (NX.ext H_y.out k15)
     go_wp2_with fail
     refine (told_yes (A := A_y) (n := n_y) (c := c_y) (E := 4) (.inr (nx_zero H_y.out))).mono ?_
     rintro e v16 ⟨rfl, k16⟩
     replace x0 := cell_ext k16 x0
     replace x1 := cell_ext k16 x1
     replace x2 := cell_ext k16 x2
     replace x3 := cell_ext k16 x3
     replace kw := kw.trans k16
     replace H_x := Lib.hid (NX.ext H_x.out k16)
     replace H_y := Lib.hid (NX.ext H_y.out k16)
     go_wp2_with fail
     refine (rSwitch_any (Lib.hid (hP.out.ext kw)) HK hm (Lib.hid (HXa.out.ext kw))).mono ?_
     rintro e v17 ⟨A_fx, n_fx, c_fx, rfl, hn_fx, H_fx, k17⟩
     replace x0 := cell_ext k17 x0
     replace x1 := cell_ext k17 x1
     replace x2 := cell_ext k17 x2
     replace x3 := cell_ext k17 x3
     replace kw := kw.trans k17
     replace H_x := Lib.hid (NX.ext H_x.out k17)
     replace H_y := Lib.hid (NX.ext H_y.out k17)
     go_wp2_with fail
     refine (sameY H_x.out H_fx.out (by omega) (by omega)).mono ?_
     rintro e v18 ⟨rfl, k18⟩
     replace x0 := cell_ext k18 x0
     replace x1 := cell_ext k18 x1
     replace x2 := cell_ext k18 x2
     replace x3 := cell_ext k18 x3
     replace kw := kw.trans k18
     replace H_x := Lib.hid (NX.ext H_x.out k18)
     replace H_y := Lib.hid (NX.ext H_y.out k18)
     replace H_fx := Lib.hid (NX.ext H_fx.out k18)
     have kk : Ext v18 v18 := Ext.refl _
     go_wp2_with fail
     go_region_held3 (fun w' => w'.cell? ⟨w.heap.size, 0, none⟩ = some (.int .i64 (n : Int)) ∧ w'.cell? ⟨w.heap.size, 1, none⟩ = some (.int .u64 (T : Int)) ∧ w'.cell? ⟨w.heap.size, 2, none⟩ = some (.slice A L c) ∧ w'.cell? ⟨w.heap.size, 3, none⟩ = some (.int .i64 (W0 : Int))) (go_keep)
      (first
       | (go_at_call 43; refine (bFits_yes (Lib.hid (hP.out.ext (Ext.trans (Ext.trans kw kk) (by with_reducible repeat first | exact Ext.refl _ | apply Ext.alloc | apply Ext.drew)))) (by omega) (by omega) (Lib.hid (HT.out.ext (Ext.trans (Ext.trans kw kk) (by with_reducible repeat first | exact Ext.refl _ | apply Ext.alloc | apply Ext.drew)))) HE (Lib.hid (HXa.out.ext (Ext.trans (Ext.trans kw kk) (by with_reducible repeat first | exact Ext.refl _ | apply Ext.alloc | apply Ext.drew))))).mono ?_; rintro e5 w5 ⟨rfl, k5⟩; replace kk := Ext.trans (Ext.trans kk (by with_reducible repeat first | exact Ext.refl _ | apply Ext.alloc | apply Ext.drew)) k5; have d0 := cell_ext kk x0; have d1 := cell_ext kk x1; have d2 := cell_ext kk x2; have d3 := cell_ext kk x3)
       | (go_at_call 44; refine (rFits_yes (Lib.hid (hP.out.ext (Ext.trans (Ext.trans kw kk) (by with_reducible repeat first | exact Ext.refl _ | apply Ext.alloc | apply Ext.drew)))) HK hm (Lib.hid (HXa.out.ext (Ext.trans (Ext.trans kw kk) (by with_reducible repeat first | exact Ext.refl _ | apply Ext.alloc | apply Ext.drew)))) HE).mono ?_; rintro e5 w5 ⟨rfl, k5⟩; replace kk := Ext.trans (Ext.trans kk (by with_reducible repeat first | exact Ext.refl _ | apply Ext.alloc | apply Ext.drew)) k5; have d0 := cell_ext kk x0; have d1 := cell_ext kk x1; have d2 := cell_ext kk x2; have d3 := cell_ext kk x3)
       | fail)
     go_wp2
     go_ret
     exact ⟨by first | rfl | simp, kw.trans kk⟩
end Go.Proofs.YtjikdbcjabopnaaGreatDoor
