/-
  The document's shape of a node of kind 4.
-/
import Derived.Test.YtdnjjpkajiehgaaZ20
namespace Go.Proofs.Ytdnjjpkajiehgaa
open Go.RowKit
set_option linter.unusedVariables false
set_option maxRecDepth 100000

set_option maxHeartbeats 8000000 in
theorem rshape4 (x : Nd) (As Ad Ab : Option Addr) (cs cd cb : Nat) (w : World) (hX : Hid (NdX w x As Ad Ab cs cd cb)) (Ah : Option Addr) (ch : Nat) (shs : List (List Int)) (hA : Hid (SX w Ah ch shs)) (hr : Hid (Rights shs)) (hl : shs.length ≤ 100000) (hf : Hid (formB x shs.length = true)) (hk : Hid (x.k = 4)) :
    Calls Try.prog 47 #[.agg #[.int .i64 x.k, .int .i64 x.a, .int .i64 x.b, .slice As x.sh.length cs, .int .i64 x.lo, .int .i64 x.hi, .int .i64 x.sz, .slice Ad x.da.length cd, .slice Ab x.bi.length cb], .slice Ah shs.length ch] w fun e w' => RSh w (shapeO x shs) e w' := by
  obtain ⟨y0, y1, y2, y3, y4, y5, y6, y7, y8⟩ := nine_at w (.int .i64 x.k) (.int .i64 x.a) (.int .i64 x.b) (.slice As x.sh.length cs) (.int .i64 x.lo) (.int .i64 x.hi) (.int .i64 x.sz) (.slice Ad x.da.length cd) (.slice Ab x.bi.length cb) 40
  have L0 := hX.out.lsh
  have L1 := hX.out.lda
  have L2 := hX.out.lbi
  have kk : Ext w (w.alloc (.cells #[.int .i64 x.k, .int .i64 x.a, .int .i64 x.b, .slice As x.sh.length cs, .int .i64 x.lo, .int .i64 x.hi, .int .i64 x.sz, .slice Ad x.da.length cd, .slice Ab x.bi.length cb] 40)) := (Ext.refl w).alloc _
  obtain ⟨OKF, BHF, TLF⟩ := form_parts (m := [true, false, true, false, false, true, true]) (show mayL x.k = some [true, false, true, false, false, true, true] by rw [hk.out]; rfl) hf.out
  have TL := Lib.hid (show (kernB x.sh x.da.length x.bi.length) = true by rw [← TLF]; unfold toldB; simp [hk.out])
  obtain ⟨i, hi, s, hs, hg⟩ := ahead_get (behB_a (m := [true, false, true, false, false, true, true]) rfl BHF)
  have HI := Lib.hid hi
  have HS := Lib.hid hs
  have HG := Lib.hid hg
  clear hi hs hg
  clear OKF BHF TLF
  go_enter Try.func47, Try.ntmps47
  go_wp2_with fail
  generalize w.alloc (.cells #[.int .i64 x.k, .int .i64 x.a, .int .i64 x.b, .slice As x.sh.length cs, .int .i64 x.lo, .int .i64 x.hi, .int .i64 x.sz, .slice Ad x.da.length cd, .slice Ab x.bi.length cb] 40) = V at *
  refine (may4 x.k hk.out V).mono ?_
  rintro e1 w1 ⟨rfl, rfl⟩
  have m0 := seven_at V (.bool true) (.bool false) (.bool true) (.bool false) (.bool false) (.bool true) (.bool true) 4 0 _ rfl
  have ka : Ext V (V.alloc (.cells #[.bool true, .bool false, .bool true, .bool false, .bool false, .bool true, .bool true] 4)) := (Ext.refl V).alloc _
  replace y0 := cell_ext ka y0
  replace y1 := cell_ext ka y1
  replace y2 := cell_ext ka y2
  replace y3 := cell_ext ka y3
  replace y4 := cell_ext ka y4
  replace y5 := cell_ext ka y5
  replace y6 := cell_ext ka y6
  replace y7 := cell_ext ka y7
  replace y8 := cell_ext ka y8
  replace kk := kk.trans ka
  clear ka
  rw [hk.out] at y0
  obtain ⟨ad, rfl, hcs⟩ := (hA.out.ext kk).cells (show 0 < shs.length from by have := (List.getElem?_eq_some_iff.1 HS.out).1; omega)
  obtain ⟨B, d, hc, hz⟩ := hcs i s HS.out
  have HZ := Lib.hid hz
  have RGT := Lib.hid (hr.out s (List.mem_of_getElem? HS.out))
  clear hz
  have il := (List.getElem?_eq_some_iff.1 HS.out).1
  have i0 : (0 : Int) ≤ (i : Int) := by omega
  have i1 : (i : Int) < (shs.length : Int) := by omega
  rw [HI.out] at y1
  clear hcs il
  generalize hV1 : (V.alloc (.cells #[.bool true, .bool false, .bool true, .bool false, .bool false, .bool true, .bool true] 4)) = V1 at *
  clear hV1
  generalize V.heap.size = gm at *
  have SO := Lib.hid (show shapeO x shs = convO x.sh s by unfold shapeO; rw [HG.out]; simp [hk.out])
  obtain ⟨k0, k1, k2, k3, hsh, hb⟩ := kernB_four TL.out
  have HK := Lib.hid hsh
  clear hsh
  have hl4 : x.sh.length = 4 := by rw [HK.out]; rfl
  obtain ⟨ads, has, hcs⟩ := (hX.out.sh.ext kk).cells (by omega)
  have q0 := hcs 0 k0 (by rw [HK.out]; rfl)
  rw [add0J] at q0
  have q1 : V1.cell? ⟨ads.block, ads.off + 1, none⟩ = some (.int .i64 k1) := hcs 1 k1 (by rw [HK.out]; rfl)
  have q2 : V1.cell? ⟨ads.block, ads.off + 2, none⟩ = some (.int .i64 k2) := hcs 2 k2 (by rw [HK.out]; rfl)
  have q3 : V1.cell? ⟨ads.block, ads.off + 3, none⟩ = some (.int .i64 k3) := hcs 3 k3 (by rw [HK.out]; rfl)
  obtain rfl := has
  clear hcs
  have j0 : (0 : Int) < (x.sh.length : Int) := by omega
  have j1 : (1 : Int) < (x.sh.length : Int) := by omega
  have j2 : (2 : Int) < (x.sh.length : Int) := by omega
  have j3 : (3 : Int) < (x.sh.length : Int) := by omega
  have n0 : 0 < x.sh.length := by omega
  have n1 : 1 < x.sh.length := by omega
  have n2 : 2 < x.sh.length := by omega
  have n3 : 3 < x.sh.length := by omega
  clear hl4
  by_cases h3 : s.length = 3
  case neg =>
    have h4 : ¬ ((s.length : Int) = 3) := by omega
    have HR := Lib.hid (SO.out.trans (convO_no h3))
    clear h3
    have b0 : (((s.length : Nat) : Int) != 3) = true := by simp [h4]
    go_wp2_with fail
    refine wp_region_held_drew (S := (fun w' => Ext V1 w')) (by kernel_rfl) ?_ (fun hHeld => ?_)
    · (try dsimp only); repeat (first | exact Ext.refl _ | assumption | refine Ext.drew ?_ | refine Ext.drewN ?_ _ | refine Ext.alloc ?_ _)
    refine wpAnyH_take (i := 0) (oi := _) (v := ?_) rfl (by kernel_rfl) (by kernel_rfl) (by kernel_rfl) (fun _ _ _ h => h) (Or.inl ⟨by first | kernel_rfl | rfl, ?_⟩) (by assumption) ?_
    rotate_left
    · (intro wS hSw; (try dsimp only at hSw); have z3 := cell_ext hSw y3; have s1 := cell_ext hSw q1; have s2 := cell_ext hSw q2; have s3 := cell_ext hSw q3; (try go_simp); (try with_reducible rfl))
    try simp only [Act.put, s1, s2, s3]
    refine wpAnyH_take (i := 1) (oi := _) (v := ?_) rfl (by kernel_rfl) (by kernel_rfl) (by kernel_rfl) (fun _ _ _ h => h) (Or.inl ⟨by first | kernel_rfl | rfl, ?_⟩) (by assumption) ?_
    rotate_left
    · (intro wS hSw; (try dsimp only at hSw); have z3 := cell_ext hSw y3; have s1 := cell_ext hSw q1; have s2 := cell_ext hSw q2; have s3 := cell_ext hSw q3; (try go_simp); (try with_reducible rfl))
    try simp only [Act.put, s1, s2, s3]
    refine wpAnyH_take (i := 2) (oi := _) (v := ?_) rfl (by kernel_rfl) (by kernel_rfl) (by kernel_rfl) (fun _ _ _ h => h) (Or.inl ⟨by first | kernel_rfl | rfl, ?_⟩) (by assumption) ?_
    rotate_left
    · (intro wS hSw; (try dsimp only at hSw); have z3 := cell_ext hSw y3; have s1 := cell_ext hSw q1; have s2 := cell_ext hSw q2; have s3 := cell_ext hSw q3; (try go_simp); (try with_reducible rfl))
    try simp only [Act.put, s1, s2, s3]
    refine wpAnyH_take (i := 3) (oi := _) (v := ?_) rfl (by kernel_rfl) (by kernel_rfl) (by kernel_rfl) (fun _ _ _ h => h) (Or.inl ⟨by first | kernel_rfl | rfl, ?_⟩) (by assumption) ?_
    rotate_left
    · (intro wS hSw; (try dsimp only at hSw); have z3 := cell_ext hSw y3; have s1 := cell_ext hSw q1; have s2 := cell_ext hSw q2; have s3 := cell_ext hSw q3; (try go_simp); (try with_reducible rfl))
    try simp only [Act.put, s1, s2, s3]
    refine wpAnyH_take (i := 4) (oi := _) (v := undef) rfl (by kernel_rfl) (by kernel_rfl) (by kernel_rfl) (fun _ _ _ h => h) (Or.inr ⟨by kernel_rfl, rfl⟩) (by assumption) ?_
    try simp only [Act.put, s1, s2, s3]
    refine wpAnyH_take (i := 5) (oi := _) (v := undef) rfl (by kernel_rfl) (by kernel_rfl) (by kernel_rfl) (fun _ _ _ h => h) (Or.inr ⟨by kernel_rfl, rfl⟩) (by assumption) ?_
    try simp only [Act.put, s1, s2, s3]
    refine wpAnyH_take (i := 6) (oi := _) (v := undef) rfl (by kernel_rfl) (by kernel_rfl) (by kernel_rfl) (fun _ _ _ h => h) (Or.inr ⟨by kernel_rfl, rfl⟩) (by assumption) ?_
    try simp only [Act.put, s1, s2, s3]
    refine wpAnyH_take (i := 7) (oi := _) (v := undef) rfl (by kernel_rfl) (by kernel_rfl) (by kernel_rfl) (fun _ _ _ h => h) (Or.inr ⟨by kernel_rfl, rfl⟩) (by assumption) ?_
    try simp only [Act.put, s1, s2, s3]
    refine wpAnyH_take (i := 8) (oi := _) (v := undef) rfl (by kernel_rfl) (by kernel_rfl) (by kernel_rfl) (fun _ _ _ h => h) (Or.inr ⟨by kernel_rfl, rfl⟩) (by assumption) ?_
    try simp only [Act.put, s1, s2, s3]
    refine wpAnyH_take (i := 9) (oi := _) (v := undef) rfl (by kernel_rfl) (by kernel_rfl) (by kernel_rfl) (fun _ _ _ h => h) (Or.inr ⟨by kernel_rfl, rfl⟩) (by assumption) ?_
    try simp only [Act.put, s1, s2, s3]
    refine wpAnyH_take (i := 10) (oi := _) (v := undef) rfl (by kernel_rfl) (by kernel_rfl) (by kernel_rfl) (fun _ _ _ h => h) (Or.inr ⟨by kernel_rfl, rfl⟩) (by assumption) ?_
    try simp only [Act.put, s1, s2, s3]
    refine wpAnyH_take (i := 11) (oi := _) (v := undef) rfl (by kernel_rfl) (by kernel_rfl) (by kernel_rfl) (fun _ _ _ h => h) (Or.inr ⟨by kernel_rfl, rfl⟩) (by assumption) ?_
    try simp only [Act.put, s1, s2, s3]
    refine wpAnyH_take (i := 12) (oi := _) (v := ?_) rfl (by kernel_rfl) (by kernel_rfl) (by kernel_rfl) (fun _ _ _ h => h) (Or.inl ⟨by first | kernel_rfl | rfl, ?_⟩) (by assumption) ?_
    rotate_left
    · (intro wS hSw; (try dsimp only at hSw); have z3 := cell_ext hSw y3; have s1 := cell_ext hSw q1; have s2 := cell_ext hSw q2; have s3 := cell_ext hSw q3; (try go_simp); (try with_reducible rfl))
    try simp only [Act.put, s1, s2, s3]
    refine wpAnyH_take (i := 13) (oi := _) (v := ?_) rfl (by kernel_rfl) (by kernel_rfl) (by kernel_rfl) (fun _ _ _ h => h) (Or.inl ⟨by first | kernel_rfl | rfl, ?_⟩) (by assumption) ?_
    rotate_left
    · (intro wS hSw; (try dsimp only at hSw); have z3 := cell_ext hSw y3; have s1 := cell_ext hSw q1; have s2 := cell_ext hSw q2; have s3 := cell_ext hSw q3; (try go_simp); (try with_reducible rfl))
    try simp only [Act.put, s1, s2, s3]
    refine wpAnyH_take (i := 14) (oi := _) (v := undef) rfl (by kernel_rfl) (by kernel_rfl) (by kernel_rfl) (fun _ _ _ h => h) (Or.inr ⟨by kernel_rfl, rfl⟩) (by assumption) ?_
    try simp only [Act.put, s1, s2, s3]
    refine wpAnyH_take (i := 15) (oi := _) (v := undef) rfl (by kernel_rfl) (by kernel_rfl) (by kernel_rfl) (fun _ _ _ h => h) (Or.inr ⟨by kernel_rfl, rfl⟩) (by assumption) ?_
    try simp only [Act.put, s1, s2, s3]
    refine wpAnyH_take (i := 16) (oi := _) (v := undef) rfl (by kernel_rfl) (by kernel_rfl) (by kernel_rfl) (fun _ _ _ h => h) (Or.inr ⟨by kernel_rfl, rfl⟩) (by assumption) ?_
    try simp only [Act.put, s1, s2, s3]
    refine wpAnyH_take (i := 17) (oi := _) (v := undef) rfl (by kernel_rfl) (by kernel_rfl) (by kernel_rfl) (fun _ _ _ h => h) (Or.inr ⟨by kernel_rfl, rfl⟩) (by assumption) ?_
    try simp only [Act.put, s1, s2, s3]
    refine wpAnyH_take (i := 18) (oi := _) (v := undef) rfl (by kernel_rfl) (by kernel_rfl) (by kernel_rfl) (fun _ _ _ h => h) (Or.inr ⟨by kernel_rfl, rfl⟩) (by assumption) ?_
    try simp only [Act.put, s1, s2, s3]
    refine wpAnyH_take (i := 19) (oi := _) (v := undef) rfl (by kernel_rfl) (by kernel_rfl) (by kernel_rfl) (fun _ _ _ h => h) (Or.inr ⟨by kernel_rfl, rfl⟩) (by assumption) ?_
    try simp only [Act.put, s1, s2, s3]
    refine wpAnyH_take (i := 20) (oi := _) (v := undef) rfl (by kernel_rfl) (by kernel_rfl) (by kernel_rfl) (fun _ _ _ h => h) (Or.inr ⟨by kernel_rfl, rfl⟩) (by assumption) ?_
    try simp only [Act.put, s1, s2, s3]
    refine wpAnyH_take (i := 21) (oi := _) (v := undef) rfl (by kernel_rfl) (by kernel_rfl) (by kernel_rfl) (fun _ _ _ h => h) (Or.inr ⟨by kernel_rfl, rfl⟩) (by assumption) ?_
    try simp only [Act.put, s1, s2, s3]
    refine wpAnyH_take (i := 22) (oi := _) (v := ?_) rfl (by kernel_rfl) (by kernel_rfl) (by kernel_rfl) (fun _ _ _ h => h) (Or.inl ⟨by first | kernel_rfl | rfl, ?_⟩) (by assumption) ?_
    rotate_left
    · (intro wS hSw; (try dsimp only at hSw); have z3 := cell_ext hSw y3; have s1 := cell_ext hSw q1; have s2 := cell_ext hSw q2; have s3 := cell_ext hSw q3; (try go_simp); (try with_reducible rfl))
    try simp only [Act.put, s1, s2, s3]
    refine wpAnyH_take (i := 23) (oi := _) (v := ?_) rfl (by kernel_rfl) (by kernel_rfl) (by kernel_rfl) (fun _ _ _ h => h) (Or.inl ⟨by first | kernel_rfl | rfl, ?_⟩) (by assumption) ?_
    rotate_left
    · (intro wS hSw; (try dsimp only at hSw); have z3 := cell_ext hSw y3; have s1 := cell_ext hSw q1; have s2 := cell_ext hSw q2; have s3 := cell_ext hSw q3; (try go_simp); (try with_reducible rfl))
    try simp only [Act.put, s1, s2, s3]
    refine wpAnyH_take (i := 24) (oi := _) (v := undef) rfl (by kernel_rfl) (by kernel_rfl) (by kernel_rfl) (fun _ _ _ h => h) (Or.inr ⟨by kernel_rfl, rfl⟩) (by assumption) ?_
    try simp only [Act.put, s1, s2, s3]
    refine wpAnyH_take (i := 25) (oi := _) (v := undef) rfl (by kernel_rfl) (by kernel_rfl) (by kernel_rfl) (fun _ _ _ h => h) (Or.inr ⟨by kernel_rfl, rfl⟩) (by assumption) ?_
    try simp only [Act.put, s1, s2, s3]
    refine wpAnyH_take (i := 26) (oi := _) (v := undef) rfl (by kernel_rfl) (by kernel_rfl) (by kernel_rfl) (fun _ _ _ h => h) (Or.inr ⟨by kernel_rfl, rfl⟩) (by assumption) ?_
    try simp only [Act.put, s1, s2, s3]
    refine wpAnyH_take (i := 27) (oi := _) (v := undef) rfl (by kernel_rfl) (by kernel_rfl) (by kernel_rfl) (fun _ _ _ h => h) (Or.inr ⟨by kernel_rfl, rfl⟩) (by assumption) ?_
    try simp only [Act.put, s1, s2, s3]
    refine wpAnyH_take (i := 28) (oi := _) (v := undef) rfl (by kernel_rfl) (by kernel_rfl) (by kernel_rfl) (fun _ _ _ h => h) (Or.inr ⟨by kernel_rfl, rfl⟩) (by assumption) ?_
    try simp only [Act.put, s1, s2, s3]
    refine wpAnyH_take (i := 29) (oi := _) (v := undef) rfl (by kernel_rfl) (by kernel_rfl) (by kernel_rfl) (fun _ _ _ h => h) (Or.inr ⟨by kernel_rfl, rfl⟩) (by assumption) ?_
    try simp only [Act.put, s1, s2, s3]
    refine wpAnyH_take (i := 30) (oi := _) (v := undef) rfl (by kernel_rfl) (by kernel_rfl) (by kernel_rfl) (fun _ _ _ h => h) (Or.inr ⟨by kernel_rfl, rfl⟩) (by assumption) ?_
    try simp only [Act.put, s1, s2, s3]
    refine wpAnyH_take (i := 31) (oi := _) (v := undef) rfl (by kernel_rfl) (by kernel_rfl) (by kernel_rfl) (fun _ _ _ h => h) (Or.inr ⟨by kernel_rfl, rfl⟩) (by assumption) ?_
    try simp only [Act.put, s1, s2, s3]
    refine wpAnyH_ready (rs := [32]) (by kernel_rfl) (by simp) ?_
    refine AllReadyH.cons rfl (fun KQ hKQ => ?_) AllReadyH.nil
    go_simp
    refine hKQ.out _ _ ?_ (fun hHeld => ?_)
    · (try dsimp only); repeat (first | exact Ext.refl _ | assumption | refine Ext.drew ?_ | refine Ext.drewN ?_ _ | refine Ext.alloc ?_ _)
    clear hKQ KQ
    try simp only [Act.put, s1, s2, s3]
    refine wpAnyH_done (by kernel_rfl) ?_ _
    go_wp2
    go_ret
    exact .inr ⟨HR.out, rfl, kk.trans (by repeat (first | exact Ext.refl _ | assumption | refine Ext.drew ?_ | refine Ext.drewN ?_ _ | refine Ext.alloc ?_ _))⟩
  obtain ⟨a0, a1, a2, rfl⟩ := three_list h3
  clear h3
  have d1 := entN_dims RGT.out a1 (by simp)
  have d2 := entN_dims RGT.out a2 (by simp)
  obtain ⟨ad5, rfl, hc5⟩ := HZ.out.cells (by simp)
  have r0 := hc5 0 a0 rfl
  rw [add0J] at r0
  have r1 : V1.cell? ⟨ad5.block, ad5.off + 1, none⟩ = some (.int .i64 a1) := hc5 1 a1 rfl
  have r2 : V1.cell? ⟨ad5.block, ad5.off + 2, none⟩ = some (.int .i64 a2) := hc5 2 a2 rfl
  clear hc5
  by_cases ha : a0 = k1
  case neg =>
    have HR : Hid (shapeO x shs = none) := Lib.hid (SO.out.trans (by rw [HK.out]; exact if_neg ha))
    have b1 : (a0 != k1) = true := by simp [ha]
    go_wp2_with fail
    refine wp_region_held_drew (S := (fun w' => Ext V1 w')) (by kernel_rfl) ?_ (fun hHeld => ?_)
    · (try dsimp only); repeat (first | exact Ext.refl _ | assumption | refine Ext.drew ?_ | refine Ext.drewN ?_ _ | refine Ext.alloc ?_ _)
    refine wpAnyH_take (i := 0) (oi := _) (v := ?_) rfl (by kernel_rfl) (by kernel_rfl) (by kernel_rfl) (fun _ _ _ h => h) (Or.inl ⟨by first | kernel_rfl | rfl, ?_⟩) (by assumption) ?_
    rotate_left
    · (intro wS hSw; (try dsimp only at hSw); have z3 := cell_ext hSw y3; have s1 := cell_ext hSw q1; have s2 := cell_ext hSw q2; have s3 := cell_ext hSw q3; have u0 := cell_ext hSw r0; have u1 := cell_ext hSw r1; have u2 := cell_ext hSw r2; (try go_simp); (try with_reducible rfl))
    try simp only [Act.put, s1, s2, s3]
    refine wpAnyH_take (i := 1) (oi := _) (v := ?_) rfl (by kernel_rfl) (by kernel_rfl) (by kernel_rfl) (fun _ _ _ h => h) (Or.inl ⟨by first | kernel_rfl | rfl, ?_⟩) (by assumption) ?_
    rotate_left
    · (intro wS hSw; (try dsimp only at hSw); have z3 := cell_ext hSw y3; have s1 := cell_ext hSw q1; have s2 := cell_ext hSw q2; have s3 := cell_ext hSw q3; have u0 := cell_ext hSw r0; have u1 := cell_ext hSw r1; have u2 := cell_ext hSw r2; (try go_simp); (try with_reducible rfl))
    try simp only [Act.put, s1, s2, s3]
    refine wpAnyH_take (i := 2) (oi := _) (v := ?_) rfl (by kernel_rfl) (by kernel_rfl) (by kernel_rfl) (fun _ _ _ h => h) (Or.inl ⟨by first | kernel_rfl | rfl, ?_⟩) (by assumption) ?_
    rotate_left
    · (intro wS hSw; (try dsimp only at hSw); have z3 := cell_ext hSw y3; have s1 := cell_ext hSw q1; have s2 := cell_ext hSw q2; have s3 := cell_ext hSw q3; have u0 := cell_ext hSw r0; have u1 := cell_ext hSw r1; have u2 := cell_ext hSw r2; (try go_simp); (try with_reducible rfl))
    try simp only [Act.put, s1, s2, s3]
    refine wpAnyH_take (i := 3) (oi := _) (v := ?_) rfl (by kernel_rfl) (by kernel_rfl) (by kernel_rfl) (fun _ _ _ h => h) (Or.inl ⟨by first | kernel_rfl | rfl, ?_⟩) (by assumption) ?_
    rotate_left
    · (intro wS hSw; (try dsimp only at hSw); have z3 := cell_ext hSw y3; have s1 := cell_ext hSw q1; have s2 := cell_ext hSw q2; have s3 := cell_ext hSw q3; have u0 := cell_ext hSw r0; have u1 := cell_ext hSw r1; have u2 := cell_ext hSw r2; (try go_simp); (try with_reducible rfl))
    try simp only [Act.put, s1, s2, s3]
    refine wpAnyH_take (i := 4) (oi := _) (v := ?_) rfl (by kernel_rfl) (by kernel_rfl) (by kernel_rfl) (fun _ _ _ h => h) (Or.inl ⟨by first | kernel_rfl | rfl, ?_⟩) (by assumption) ?_
    rotate_left
    · (intro wS hSw; (try dsimp only at hSw); have z3 := cell_ext hSw y3; have s1 := cell_ext hSw q1; have s2 := cell_ext hSw q2; have s3 := cell_ext hSw q3; have u0 := cell_ext hSw r0; have u1 := cell_ext hSw r1; have u2 := cell_ext hSw r2; (try go_simp); (try with_reducible rfl))
    try simp only [Act.put, s1, s2, s3]
    refine wpAnyH_take (i := 5) (oi := _) (v := ?_) rfl (by kernel_rfl) (by kernel_rfl) (by kernel_rfl) (fun _ _ _ h => h) (Or.inl ⟨by first | kernel_rfl | rfl, ?_⟩) (by assumption) ?_
    rotate_left
    · (intro wS hSw; (try dsimp only at hSw); have z3 := cell_ext hSw y3; have s1 := cell_ext hSw q1; have s2 := cell_ext hSw q2; have s3 := cell_ext hSw q3; have u0 := cell_ext hSw r0; have u1 := cell_ext hSw r1; have u2 := cell_ext hSw r2; (try go_simp); (try with_reducible rfl))
    try simp only [Act.put, s1, s2, s3]
    refine wpAnyH_take (i := 6) (oi := _) (v := ?_) rfl (by kernel_rfl) (by kernel_rfl) (by kernel_rfl) (fun _ _ _ h => h) (Or.inl ⟨by first | kernel_rfl | rfl, ?_⟩) (by assumption) ?_
    rotate_left
    · (intro wS hSw; (try dsimp only at hSw); have z3 := cell_ext hSw y3; have s1 := cell_ext hSw q1; have s2 := cell_ext hSw q2; have s3 := cell_ext hSw q3; have u0 := cell_ext hSw r0; have u1 := cell_ext hSw r1; have u2 := cell_ext hSw r2; (try go_simp); (try with_reducible rfl))
    try simp only [Act.put, s1, s2, s3]
    refine wpAnyH_take (i := 7) (oi := _) (v := ?_) rfl (by kernel_rfl) (by kernel_rfl) (by kernel_rfl) (fun _ _ _ h => h) (Or.inl ⟨by first | kernel_rfl | rfl, ?_⟩) (by assumption) ?_
    rotate_left
    · (intro wS hSw; (try dsimp only at hSw); have z3 := cell_ext hSw y3; have s1 := cell_ext hSw q1; have s2 := cell_ext hSw q2; have s3 := cell_ext hSw q3; have u0 := cell_ext hSw r0; have u1 := cell_ext hSw r1; have u2 := cell_ext hSw r2; (try go_simp); (try with_reducible rfl))
    try simp only [Act.put, s1, s2, s3]
    refine wpAnyH_take (i := 8) (oi := _) (v := ?_) rfl (by kernel_rfl) (by kernel_rfl) (by kernel_rfl) (fun _ _ _ h => h) (Or.inl ⟨by first | kernel_rfl | rfl, ?_⟩) (by assumption) ?_
    rotate_left
    · (intro wS hSw; (try dsimp only at hSw); have z3 := cell_ext hSw y3; have s1 := cell_ext hSw q1; have s2 := cell_ext hSw q2; have s3 := cell_ext hSw q3; have u0 := cell_ext hSw r0; have u1 := cell_ext hSw r1; have u2 := cell_ext hSw r2; (try go_simp); (try with_reducible rfl))
    try simp only [Act.put, s1, s2, s3]
    refine wpAnyH_take (i := 9) (oi := _) (v := ?_) rfl (by kernel_rfl) (by kernel_rfl) (by kernel_rfl) (fun _ _ _ h => h) (Or.inl ⟨by first | kernel_rfl | rfl, ?_⟩) (by assumption) ?_
    rotate_left
    · (intro wS hSw; (try dsimp only at hSw); have z3 := cell_ext hSw y3; have s1 := cell_ext hSw q1; have s2 := cell_ext hSw q2; have s3 := cell_ext hSw q3; have u0 := cell_ext hSw r0; have u1 := cell_ext hSw r1; have u2 := cell_ext hSw r2; (try go_simp); (try with_reducible rfl))
    try simp only [Act.put, s1, s2, s3]
    refine wpAnyH_take (i := 10) (oi := _) (v := ?_) rfl (by kernel_rfl) (by kernel_rfl) (by kernel_rfl) (fun _ _ _ h => h) (Or.inl ⟨by first | kernel_rfl | rfl, ?_⟩) (by assumption) ?_
    rotate_left
    · (intro wS hSw; (try dsimp only at hSw); have z3 := cell_ext hSw y3; have s1 := cell_ext hSw q1; have s2 := cell_ext hSw q2; have s3 := cell_ext hSw q3; have u0 := cell_ext hSw r0; have u1 := cell_ext hSw r1; have u2 := cell_ext hSw r2; (try go_simp); (try with_reducible rfl))
    try simp only [Act.put, s1, s2, s3]
    refine wpAnyH_take (i := 11) (oi := _) (v := ?_) rfl (by kernel_rfl) (by kernel_rfl) (by kernel_rfl) (fun _ _ _ h => h) (Or.inl ⟨by first | kernel_rfl | rfl, ?_⟩) (by assumption) ?_
    rotate_left
    · (intro wS hSw; (try dsimp only at hSw); have z3 := cell_ext hSw y3; have s1 := cell_ext hSw q1; have s2 := cell_ext hSw q2; have s3 := cell_ext hSw q3; have u0 := cell_ext hSw r0; have u1 := cell_ext hSw r1; have u2 := cell_ext hSw r2; (try go_simp); (try with_reducible rfl))
    try simp only [Act.put, s1, s2, s3]
    refine wpAnyH_take (i := 12) (oi := _) (v := ?_) rfl (by kernel_rfl) (by kernel_rfl) (by kernel_rfl) (fun _ _ _ h => h) (Or.inl ⟨by first | kernel_rfl | rfl, ?_⟩) (by assumption) ?_
    rotate_left
    · (intro wS hSw; (try dsimp only at hSw); have z3 := cell_ext hSw y3; have s1 := cell_ext hSw q1; have s2 := cell_ext hSw q2; have s3 := cell_ext hSw q3; have u0 := cell_ext hSw r0; have u1 := cell_ext hSw r1; have u2 := cell_ext hSw r2; (try go_simp); (try with_reducible rfl))
    try simp only [Act.put, s1, s2, s3]
    refine wpAnyH_take (i := 13) (oi := _) (v := ?_) rfl (by kernel_rfl) (by kernel_rfl) (by kernel_rfl) (fun _ _ _ h => h) (Or.inl ⟨by first | kernel_rfl | rfl, ?_⟩) (by assumption) ?_
    rotate_left
    · (intro wS hSw; (try dsimp only at hSw); have z3 := cell_ext hSw y3; have s1 := cell_ext hSw q1; have s2 := cell_ext hSw q2; have s3 := cell_ext hSw q3; have u0 := cell_ext hSw r0; have u1 := cell_ext hSw r1; have u2 := cell_ext hSw r2; (try go_simp); (try with_reducible rfl))
    try simp only [Act.put, s1, s2, s3]
    refine wpAnyH_take (i := 14) (oi := _) (v := undef) rfl (by kernel_rfl) (by kernel_rfl) (by kernel_rfl) (fun _ _ _ h => h) (Or.inr ⟨by kernel_rfl, rfl⟩) (by assumption) ?_
    try simp only [Act.put, s1, s2, s3]
    refine wpAnyH_take (i := 15) (oi := _) (v := undef) rfl (by kernel_rfl) (by kernel_rfl) (by kernel_rfl) (fun _ _ _ h => h) (Or.inr ⟨by kernel_rfl, rfl⟩) (by assumption) ?_
    try simp only [Act.put, s1, s2, s3]
    refine wpAnyH_take (i := 16) (oi := _) (v := undef) rfl (by kernel_rfl) (by kernel_rfl) (by kernel_rfl) (fun _ _ _ h => h) (Or.inr ⟨by kernel_rfl, rfl⟩) (by assumption) ?_
    try simp only [Act.put, s1, s2, s3]
    refine wpAnyH_take (i := 17) (oi := _) (v := undef) rfl (by kernel_rfl) (by kernel_rfl) (by kernel_rfl) (fun _ _ _ h => h) (Or.inr ⟨by kernel_rfl, rfl⟩) (by assumption) ?_
    try simp only [Act.put, s1, s2, s3]
    refine wpAnyH_take (i := 18) (oi := _) (v := undef) rfl (by kernel_rfl) (by kernel_rfl) (by kernel_rfl) (fun _ _ _ h => h) (Or.inr ⟨by kernel_rfl, rfl⟩) (by assumption) ?_
    try simp only [Act.put, s1, s2, s3]
    refine wpAnyH_take (i := 19) (oi := _) (v := undef) rfl (by kernel_rfl) (by kernel_rfl) (by kernel_rfl) (fun _ _ _ h => h) (Or.inr ⟨by kernel_rfl, rfl⟩) (by assumption) ?_
    try simp only [Act.put, s1, s2, s3]
    refine wpAnyH_take (i := 20) (oi := _) (v := undef) rfl (by kernel_rfl) (by kernel_rfl) (by kernel_rfl) (fun _ _ _ h => h) (Or.inr ⟨by kernel_rfl, rfl⟩) (by assumption) ?_
    try simp only [Act.put, s1, s2, s3]
    refine wpAnyH_take (i := 21) (oi := _) (v := undef) rfl (by kernel_rfl) (by kernel_rfl) (by kernel_rfl) (fun _ _ _ h => h) (Or.inr ⟨by kernel_rfl, rfl⟩) (by assumption) ?_
    try simp only [Act.put, s1, s2, s3]
    refine wpAnyH_take (i := 22) (oi := _) (v := ?_) rfl (by kernel_rfl) (by kernel_rfl) (by kernel_rfl) (fun _ _ _ h => h) (Or.inl ⟨by first | kernel_rfl | rfl, ?_⟩) (by assumption) ?_
    rotate_left
    · (intro wS hSw; (try dsimp only at hSw); have z3 := cell_ext hSw y3; have s1 := cell_ext hSw q1; have s2 := cell_ext hSw q2; have s3 := cell_ext hSw q3; have u0 := cell_ext hSw r0; have u1 := cell_ext hSw r1; have u2 := cell_ext hSw r2; (try go_simp); (try with_reducible rfl))
    try simp only [Act.put, s1, s2, s3]
    refine wpAnyH_take (i := 23) (oi := _) (v := ?_) rfl (by kernel_rfl) (by kernel_rfl) (by kernel_rfl) (fun _ _ _ h => h) (Or.inl ⟨by first | kernel_rfl | rfl, ?_⟩) (by assumption) ?_
    rotate_left
    · (intro wS hSw; (try dsimp only at hSw); have z3 := cell_ext hSw y3; have s1 := cell_ext hSw q1; have s2 := cell_ext hSw q2; have s3 := cell_ext hSw q3; have u0 := cell_ext hSw r0; have u1 := cell_ext hSw r1; have u2 := cell_ext hSw r2; (try go_simp); (try with_reducible rfl))
    try simp only [Act.put, s1, s2, s3]
    refine wpAnyH_take (i := 24) (oi := _) (v := undef) rfl (by kernel_rfl) (by kernel_rfl) (by kernel_rfl) (fun _ _ _ h => h) (Or.inr ⟨by kernel_rfl, rfl⟩) (by assumption) ?_
    try simp only [Act.put, s1, s2, s3]
    refine wpAnyH_take (i := 25) (oi := _) (v := undef) rfl (by kernel_rfl) (by kernel_rfl) (by kernel_rfl) (fun _ _ _ h => h) (Or.inr ⟨by kernel_rfl, rfl⟩) (by assumption) ?_
    try simp only [Act.put, s1, s2, s3]
    refine wpAnyH_take (i := 26) (oi := _) (v := undef) rfl (by kernel_rfl) (by kernel_rfl) (by kernel_rfl) (fun _ _ _ h => h) (Or.inr ⟨by kernel_rfl, rfl⟩) (by assumption) ?_
    try simp only [Act.put, s1, s2, s3]
    refine wpAnyH_take (i := 27) (oi := _) (v := undef) rfl (by kernel_rfl) (by kernel_rfl) (by kernel_rfl) (fun _ _ _ h => h) (Or.inr ⟨by kernel_rfl, rfl⟩) (by assumption) ?_
    try simp only [Act.put, s1, s2, s3]
    refine wpAnyH_take (i := 28) (oi := _) (v := undef) rfl (by kernel_rfl) (by kernel_rfl) (by kernel_rfl) (fun _ _ _ h => h) (Or.inr ⟨by kernel_rfl, rfl⟩) (by assumption) ?_
    try simp only [Act.put, s1, s2, s3]
    refine wpAnyH_take (i := 29) (oi := _) (v := undef) rfl (by kernel_rfl) (by kernel_rfl) (by kernel_rfl) (fun _ _ _ h => h) (Or.inr ⟨by kernel_rfl, rfl⟩) (by assumption) ?_
    try simp only [Act.put, s1, s2, s3]
    refine wpAnyH_take (i := 30) (oi := _) (v := undef) rfl (by kernel_rfl) (by kernel_rfl) (by kernel_rfl) (fun _ _ _ h => h) (Or.inr ⟨by kernel_rfl, rfl⟩) (by assumption) ?_
    try simp only [Act.put, s1, s2, s3]
    refine wpAnyH_take (i := 31) (oi := _) (v := undef) rfl (by kernel_rfl) (by kernel_rfl) (by kernel_rfl) (fun _ _ _ h => h) (Or.inr ⟨by kernel_rfl, rfl⟩) (by assumption) ?_
    try simp only [Act.put, s1, s2, s3]
    refine wpAnyH_ready (rs := [32]) (by kernel_rfl) (by simp) ?_
    refine AllReadyH.cons rfl (fun KQ hKQ => ?_) AllReadyH.nil
    go_simp
    refine hKQ.out _ _ ?_ (fun hHeld => ?_)
    · (try dsimp only); repeat (first | exact Ext.refl _ | assumption | refine Ext.drew ?_ | refine Ext.drewN ?_ _ | refine Ext.alloc ?_ _)
    clear hKQ KQ
    try simp only [Act.put, s1, s2, s3]
    refine wpAnyH_done (by kernel_rfl) ?_ _
    go_wp2
    go_ret
    exact .inr ⟨HR.out, rfl, kk.trans (by repeat (first | exact Ext.refl _ | assumption | refine Ext.drew ?_ | refine Ext.drewN ?_ _ | refine Ext.alloc ?_ _))⟩
  subst ha
  have HC : Hid (convO x.sh [a0, a1, a2] = if entN [k0, a1 - k2 + 1, a2 - k3 + 1] = 0 then none else some [k0, a1 - k2 + 1, a2 - k3 + 1]) := Lib.hid (by rw [HK.out]; exact if_pos rfl)
  by_cases g1 : a1 < k2
  case pos =>
    have HR : Hid (shapeO x shs = none) := Lib.hid (SO.out.trans (by rw [HC.out, if_pos (entN_zero (fun h => by omega))]))
    have b2 : decide (a1 < k2) = true := decide_eq_true g1
    go_wp2_with fail
    refine wp_region_held_drew (S := (fun w' => Ext V1 w')) (by kernel_rfl) ?_ (fun hHeld => ?_)
    · (try dsimp only); repeat (first | exact Ext.refl _ | assumption | refine Ext.drew ?_ | refine Ext.drewN ?_ _ | refine Ext.alloc ?_ _)
    refine wpAnyH_take (i := 0) (oi := _) (v := ?_) rfl (by kernel_rfl) (by kernel_rfl) (by kernel_rfl) (fun _ _ _ h => h) (Or.inl ⟨by first | kernel_rfl | rfl, ?_⟩) (by assumption) ?_
    rotate_left
    · (intro wS hSw; (try dsimp only at hSw); have z3 := cell_ext hSw y3; have s1 := cell_ext hSw q1; have s2 := cell_ext hSw q2; have s3 := cell_ext hSw q3; have u0 := cell_ext hSw r0; have u1 := cell_ext hSw r1; have u2 := cell_ext hSw r2; (try go_simp); (try with_reducible rfl))
    try simp only [Act.put, s1, s2, s3]
    refine wpAnyH_take (i := 1) (oi := _) (v := ?_) rfl (by kernel_rfl) (by kernel_rfl) (by kernel_rfl) (fun _ _ _ h => h) (Or.inl ⟨by first | kernel_rfl | rfl, ?_⟩) (by assumption) ?_
    rotate_left
    · (intro wS hSw; (try dsimp only at hSw); have z3 := cell_ext hSw y3; have s1 := cell_ext hSw q1; have s2 := cell_ext hSw q2; have s3 := cell_ext hSw q3; have u0 := cell_ext hSw r0; have u1 := cell_ext hSw r1; have u2 := cell_ext hSw r2; (try go_simp); (try with_reducible rfl))
    try simp only [Act.put, s1, s2, s3]
    refine wpAnyH_take (i := 2) (oi := _) (v := ?_) rfl (by kernel_rfl) (by kernel_rfl) (by kernel_rfl) (fun _ _ _ h => h) (Or.inl ⟨by first | kernel_rfl | rfl, ?_⟩) (by assumption) ?_
    rotate_left
    · (intro wS hSw; (try dsimp only at hSw); have z3 := cell_ext hSw y3; have s1 := cell_ext hSw q1; have s2 := cell_ext hSw q2; have s3 := cell_ext hSw q3; have u0 := cell_ext hSw r0; have u1 := cell_ext hSw r1; have u2 := cell_ext hSw r2; (try go_simp); (try with_reducible rfl))
    try simp only [Act.put, s1, s2, s3]
    refine wpAnyH_take (i := 3) (oi := _) (v := ?_) rfl (by kernel_rfl) (by kernel_rfl) (by kernel_rfl) (fun _ _ _ h => h) (Or.inl ⟨by first | kernel_rfl | rfl, ?_⟩) (by assumption) ?_
    rotate_left
    · (intro wS hSw; (try dsimp only at hSw); have z3 := cell_ext hSw y3; have s1 := cell_ext hSw q1; have s2 := cell_ext hSw q2; have s3 := cell_ext hSw q3; have u0 := cell_ext hSw r0; have u1 := cell_ext hSw r1; have u2 := cell_ext hSw r2; (try go_simp); (try with_reducible rfl))
    try simp only [Act.put, s1, s2, s3]
    refine wpAnyH_take (i := 4) (oi := _) (v := ?_) rfl (by kernel_rfl) (by kernel_rfl) (by kernel_rfl) (fun _ _ _ h => h) (Or.inl ⟨by first | kernel_rfl | rfl, ?_⟩) (by assumption) ?_
    rotate_left
    · (intro wS hSw; (try dsimp only at hSw); have z3 := cell_ext hSw y3; have s1 := cell_ext hSw q1; have s2 := cell_ext hSw q2; have s3 := cell_ext hSw q3; have u0 := cell_ext hSw r0; have u1 := cell_ext hSw r1; have u2 := cell_ext hSw r2; (try go_simp); (try with_reducible rfl))
    try simp only [Act.put, s1, s2, s3]
    refine wpAnyH_take (i := 5) (oi := _) (v := ?_) rfl (by kernel_rfl) (by kernel_rfl) (by kernel_rfl) (fun _ _ _ h => h) (Or.inl ⟨by first | kernel_rfl | rfl, ?_⟩) (by assumption) ?_
    rotate_left
    · (intro wS hSw; (try dsimp only at hSw); have z3 := cell_ext hSw y3; have s1 := cell_ext hSw q1; have s2 := cell_ext hSw q2; have s3 := cell_ext hSw q3; have u0 := cell_ext hSw r0; have u1 := cell_ext hSw r1; have u2 := cell_ext hSw r2; (try go_simp); (try with_reducible rfl))
    try simp only [Act.put, s1, s2, s3]
    refine wpAnyH_take (i := 6) (oi := _) (v := ?_) rfl (by kernel_rfl) (by kernel_rfl) (by kernel_rfl) (fun _ _ _ h => h) (Or.inl ⟨by first | kernel_rfl | rfl, ?_⟩) (by assumption) ?_
    rotate_left
    · (intro wS hSw; (try dsimp only at hSw); have z3 := cell_ext hSw y3; have s1 := cell_ext hSw q1; have s2 := cell_ext hSw q2; have s3 := cell_ext hSw q3; have u0 := cell_ext hSw r0; have u1 := cell_ext hSw r1; have u2 := cell_ext hSw r2; (try go_simp); (try with_reducible rfl))
    try simp only [Act.put, s1, s2, s3]
    refine wpAnyH_take (i := 7) (oi := _) (v := ?_) rfl (by kernel_rfl) (by kernel_rfl) (by kernel_rfl) (fun _ _ _ h => h) (Or.inl ⟨by first | kernel_rfl | rfl, ?_⟩) (by assumption) ?_
    rotate_left
    · (intro wS hSw; (try dsimp only at hSw); have z3 := cell_ext hSw y3; have s1 := cell_ext hSw q1; have s2 := cell_ext hSw q2; have s3 := cell_ext hSw q3; have u0 := cell_ext hSw r0; have u1 := cell_ext hSw r1; have u2 := cell_ext hSw r2; (try go_simp); (try with_reducible rfl))
    try simp only [Act.put, s1, s2, s3]
    refine wpAnyH_take (i := 8) (oi := _) (v := ?_) rfl (by kernel_rfl) (by kernel_rfl) (by kernel_rfl) (fun _ _ _ h => h) (Or.inl ⟨by first | kernel_rfl | rfl, ?_⟩) (by assumption) ?_
    rotate_left
    · (intro wS hSw; (try dsimp only at hSw); have z3 := cell_ext hSw y3; have s1 := cell_ext hSw q1; have s2 := cell_ext hSw q2; have s3 := cell_ext hSw q3; have u0 := cell_ext hSw r0; have u1 := cell_ext hSw r1; have u2 := cell_ext hSw r2; (try go_simp); (try with_reducible rfl))
    try simp only [Act.put, s1, s2, s3]
    refine wpAnyH_take (i := 9) (oi := _) (v := ?_) rfl (by kernel_rfl) (by kernel_rfl) (by kernel_rfl) (fun _ _ _ h => h) (Or.inl ⟨by first | kernel_rfl | rfl, ?_⟩) (by assumption) ?_
    rotate_left
    · (intro wS hSw; (try dsimp only at hSw); have z3 := cell_ext hSw y3; have s1 := cell_ext hSw q1; have s2 := cell_ext hSw q2; have s3 := cell_ext hSw q3; have u0 := cell_ext hSw r0; have u1 := cell_ext hSw r1; have u2 := cell_ext hSw r2; (try go_simp); (try with_reducible rfl))
    try simp only [Act.put, s1, s2, s3]
    refine wpAnyH_take (i := 10) (oi := _) (v := ?_) rfl (by kernel_rfl) (by kernel_rfl) (by kernel_rfl) (fun _ _ _ h => h) (Or.inl ⟨by first | kernel_rfl | rfl, ?_⟩) (by assumption) ?_
    rotate_left
    · (intro wS hSw; (try dsimp only at hSw); have z3 := cell_ext hSw y3; have s1 := cell_ext hSw q1; have s2 := cell_ext hSw q2; have s3 := cell_ext hSw q3; have u0 := cell_ext hSw r0; have u1 := cell_ext hSw r1; have u2 := cell_ext hSw r2; (try go_simp); (try with_reducible rfl))
    try simp only [Act.put, s1, s2, s3]
    refine wpAnyH_take (i := 11) (oi := _) (v := ?_) rfl (by kernel_rfl) (by kernel_rfl) (by kernel_rfl) (fun _ _ _ h => h) (Or.inl ⟨by first | kernel_rfl | rfl, ?_⟩) (by assumption) ?_
    rotate_left
    · (intro wS hSw; (try dsimp only at hSw); have z3 := cell_ext hSw y3; have s1 := cell_ext hSw q1; have s2 := cell_ext hSw q2; have s3 := cell_ext hSw q3; have u0 := cell_ext hSw r0; have u1 := cell_ext hSw r1; have u2 := cell_ext hSw r2; (try go_simp); (try with_reducible rfl))
    try simp only [Act.put, s1, s2, s3]
    refine wpAnyH_take (i := 12) (oi := _) (v := ?_) rfl (by kernel_rfl) (by kernel_rfl) (by kernel_rfl) (fun _ _ _ h => h) (Or.inl ⟨by first | kernel_rfl | rfl, ?_⟩) (by assumption) ?_
    rotate_left
    · (intro wS hSw; (try dsimp only at hSw); have z3 := cell_ext hSw y3; have s1 := cell_ext hSw q1; have s2 := cell_ext hSw q2; have s3 := cell_ext hSw q3; have u0 := cell_ext hSw r0; have u1 := cell_ext hSw r1; have u2 := cell_ext hSw r2; (try go_simp); (try with_reducible rfl))
    try simp only [Act.put, s1, s2, s3]
    refine wpAnyH_take (i := 13) (oi := _) (v := ?_) rfl (by kernel_rfl) (by kernel_rfl) (by kernel_rfl) (fun _ _ _ h => h) (Or.inl ⟨by first | kernel_rfl | rfl, ?_⟩) (by assumption) ?_
    rotate_left
    · (intro wS hSw; (try dsimp only at hSw); have z3 := cell_ext hSw y3; have s1 := cell_ext hSw q1; have s2 := cell_ext hSw q2; have s3 := cell_ext hSw q3; have u0 := cell_ext hSw r0; have u1 := cell_ext hSw r1; have u2 := cell_ext hSw r2; (try go_simp); (try with_reducible rfl))
    try simp only [Act.put, s1, s2, s3]
    refine wpAnyH_take (i := 14) (oi := _) (v := ?_) rfl (by kernel_rfl) (by kernel_rfl) (by kernel_rfl) (fun _ _ _ h => h) (Or.inl ⟨by first | kernel_rfl | rfl, ?_⟩) (by assumption) ?_
    rotate_left
    · (intro wS hSw; (try dsimp only at hSw); have z3 := cell_ext hSw y3; have s1 := cell_ext hSw q1; have s2 := cell_ext hSw q2; have s3 := cell_ext hSw q3; have u0 := cell_ext hSw r0; have u1 := cell_ext hSw r1; have u2 := cell_ext hSw r2; (try go_simp); (try with_reducible rfl))
    try simp only [Act.put, s1, s2, s3]
    refine wpAnyH_take (i := 15) (oi := _) (v := ?_) rfl (by kernel_rfl) (by kernel_rfl) (by kernel_rfl) (fun _ _ _ h => h) (Or.inl ⟨by first | kernel_rfl | rfl, ?_⟩) (by assumption) ?_
    rotate_left
    · (intro wS hSw; (try dsimp only at hSw); have z3 := cell_ext hSw y3; have s1 := cell_ext hSw q1; have s2 := cell_ext hSw q2; have s3 := cell_ext hSw q3; have u0 := cell_ext hSw r0; have u1 := cell_ext hSw r1; have u2 := cell_ext hSw r2; (try go_simp); (try with_reducible rfl))
    try simp only [Act.put, s1, s2, s3]
    refine wpAnyH_take (i := 16) (oi := _) (v := ?_) rfl (by kernel_rfl) (by kernel_rfl) (by kernel_rfl) (fun _ _ _ h => h) (Or.inl ⟨by first | kernel_rfl | rfl, ?_⟩) (by assumption) ?_
    rotate_left
    · (intro wS hSw; (try dsimp only at hSw); have z3 := cell_ext hSw y3; have s1 := cell_ext hSw q1; have s2 := cell_ext hSw q2; have s3 := cell_ext hSw q3; have u0 := cell_ext hSw r0; have u1 := cell_ext hSw r1; have u2 := cell_ext hSw r2; (try go_simp); (try with_reducible rfl))
    try simp only [Act.put, s1, s2, s3]
    refine wpAnyH_take (i := 17) (oi := _) (v := ?_) rfl (by kernel_rfl) (by kernel_rfl) (by kernel_rfl) (fun _ _ _ h => h) (Or.inl ⟨by first | kernel_rfl | rfl, ?_⟩) (by assumption) ?_
    rotate_left
    · (intro wS hSw; (try dsimp only at hSw); have z3 := cell_ext hSw y3; have s1 := cell_ext hSw q1; have s2 := cell_ext hSw q2; have s3 := cell_ext hSw q3; have u0 := cell_ext hSw r0; have u1 := cell_ext hSw r1; have u2 := cell_ext hSw r2; (try go_simp); (try with_reducible rfl))
    try simp only [Act.put, s1, s2, s3]
    refine wpAnyH_take (i := 18) (oi := _) (v := ?_) rfl (by kernel_rfl) (by kernel_rfl) (by kernel_rfl) (fun _ _ _ h => h) (Or.inl ⟨by first | kernel_rfl | rfl, ?_⟩) (by assumption) ?_
    rotate_left
    · (intro wS hSw; (try dsimp only at hSw); have z3 := cell_ext hSw y3; have s1 := cell_ext hSw q1; have s2 := cell_ext hSw q2; have s3 := cell_ext hSw q3; have u0 := cell_ext hSw r0; have u1 := cell_ext hSw r1; have u2 := cell_ext hSw r2; (try go_simp); (try with_reducible rfl))
    try simp only [Act.put, s1, s2, s3]
    refine wpAnyH_take (i := 19) (oi := _) (v := ?_) rfl (by kernel_rfl) (by kernel_rfl) (by kernel_rfl) (fun _ _ _ h => h) (Or.inl ⟨by first | kernel_rfl | rfl, ?_⟩) (by assumption) ?_
    rotate_left
    · (intro wS hSw; (try dsimp only at hSw); have z3 := cell_ext hSw y3; have s1 := cell_ext hSw q1; have s2 := cell_ext hSw q2; have s3 := cell_ext hSw q3; have u0 := cell_ext hSw r0; have u1 := cell_ext hSw r1; have u2 := cell_ext hSw r2; (try go_simp); (try with_reducible rfl))
    try simp only [Act.put, s1, s2, s3]
    refine wpAnyH_take (i := 20) (oi := _) (v := ?_) rfl (by kernel_rfl) (by kernel_rfl) (by kernel_rfl) (fun _ _ _ h => h) (Or.inl ⟨by first | kernel_rfl | rfl, ?_⟩) (by assumption) ?_
    rotate_left
    · (intro wS hSw; (try dsimp only at hSw); have z3 := cell_ext hSw y3; have s1 := cell_ext hSw q1; have s2 := cell_ext hSw q2; have s3 := cell_ext hSw q3; have u0 := cell_ext hSw r0; have u1 := cell_ext hSw r1; have u2 := cell_ext hSw r2; (try go_simp); (try with_reducible rfl))
    try simp only [Act.put, s1, s2, s3]
    refine wpAnyH_take (i := 21) (oi := _) (v := ?_) rfl (by kernel_rfl) (by kernel_rfl) (by kernel_rfl) (fun _ _ _ h => h) (Or.inl ⟨by first | kernel_rfl | rfl, ?_⟩) (by assumption) ?_
    rotate_left
    · (intro wS hSw; (try dsimp only at hSw); have z3 := cell_ext hSw y3; have s1 := cell_ext hSw q1; have s2 := cell_ext hSw q2; have s3 := cell_ext hSw q3; have u0 := cell_ext hSw r0; have u1 := cell_ext hSw r1; have u2 := cell_ext hSw r2; (try go_simp); (try with_reducible rfl))
    try simp only [Act.put, s1, s2, s3]
    refine wpAnyH_take (i := 22) (oi := _) (v := ?_) rfl (by kernel_rfl) (by kernel_rfl) (by kernel_rfl) (fun _ _ _ h => h) (Or.inl ⟨by first | kernel_rfl | rfl, ?_⟩) (by assumption) ?_
    rotate_left
    · (intro wS hSw; (try dsimp only at hSw); have z3 := cell_ext hSw y3; have s1 := cell_ext hSw q1; have s2 := cell_ext hSw q2; have s3 := cell_ext hSw q3; have u0 := cell_ext hSw r0; have u1 := cell_ext hSw r1; have u2 := cell_ext hSw r2; (try go_simp); (try with_reducible rfl))
    try simp only [Act.put, s1, s2, s3]
    refine wpAnyH_take (i := 23) (oi := _) (v := ?_) rfl (by kernel_rfl) (by kernel_rfl) (by kernel_rfl) (fun _ _ _ h => h) (Or.inl ⟨by first | kernel_rfl | rfl, ?_⟩) (by assumption) ?_
    rotate_left
    · (intro wS hSw; (try dsimp only at hSw); have z3 := cell_ext hSw y3; have s1 := cell_ext hSw q1; have s2 := cell_ext hSw q2; have s3 := cell_ext hSw q3; have u0 := cell_ext hSw r0; have u1 := cell_ext hSw r1; have u2 := cell_ext hSw r2; (try go_simp); (try with_reducible rfl))
    try simp only [Act.put, s1, s2, s3]
    refine wpAnyH_take (i := 24) (oi := _) (v := undef) rfl (by kernel_rfl) (by kernel_rfl) (by kernel_rfl) (fun _ _ _ h => h) (Or.inr ⟨by kernel_rfl, rfl⟩) (by assumption) ?_
    try simp only [Act.put, s1, s2, s3]
    refine wpAnyH_take (i := 25) (oi := _) (v := undef) rfl (by kernel_rfl) (by kernel_rfl) (by kernel_rfl) (fun _ _ _ h => h) (Or.inr ⟨by kernel_rfl, rfl⟩) (by assumption) ?_
    try simp only [Act.put, s1, s2, s3]
    refine wpAnyH_take (i := 26) (oi := _) (v := undef) rfl (by kernel_rfl) (by kernel_rfl) (by kernel_rfl) (fun _ _ _ h => h) (Or.inr ⟨by kernel_rfl, rfl⟩) (by assumption) ?_
    try simp only [Act.put, s1, s2, s3]
    refine wpAnyH_take (i := 27) (oi := _) (v := undef) rfl (by kernel_rfl) (by kernel_rfl) (by kernel_rfl) (fun _ _ _ h => h) (Or.inr ⟨by kernel_rfl, rfl⟩) (by assumption) ?_
    try simp only [Act.put, s1, s2, s3]
    refine wpAnyH_take (i := 28) (oi := _) (v := undef) rfl (by kernel_rfl) (by kernel_rfl) (by kernel_rfl) (fun _ _ _ h => h) (Or.inr ⟨by kernel_rfl, rfl⟩) (by assumption) ?_
    try simp only [Act.put, s1, s2, s3]
    refine wpAnyH_take (i := 29) (oi := _) (v := undef) rfl (by kernel_rfl) (by kernel_rfl) (by kernel_rfl) (fun _ _ _ h => h) (Or.inr ⟨by kernel_rfl, rfl⟩) (by assumption) ?_
    try simp only [Act.put, s1, s2, s3]
    refine wpAnyH_take (i := 30) (oi := _) (v := undef) rfl (by kernel_rfl) (by kernel_rfl) (by kernel_rfl) (fun _ _ _ h => h) (Or.inr ⟨by kernel_rfl, rfl⟩) (by assumption) ?_
    try simp only [Act.put, s1, s2, s3]
    refine wpAnyH_take (i := 31) (oi := _) (v := undef) rfl (by kernel_rfl) (by kernel_rfl) (by kernel_rfl) (fun _ _ _ h => h) (Or.inr ⟨by kernel_rfl, rfl⟩) (by assumption) ?_
    try simp only [Act.put, s1, s2, s3]
    refine wpAnyH_ready (rs := [32]) (by kernel_rfl) (by simp) ?_
    refine AllReadyH.cons rfl (fun KQ hKQ => ?_) AllReadyH.nil
    go_simp
    refine hKQ.out _ _ ?_ (fun hHeld => ?_)
    · (try dsimp only); repeat (first | exact Ext.refl _ | assumption | refine Ext.drew ?_ | refine Ext.drewN ?_ _ | refine Ext.alloc ?_ _)
    clear hKQ KQ
    try simp only [Act.put, s1, s2, s3]
    refine wpAnyH_done (by kernel_rfl) ?_ _
    go_wp2
    go_ret
    exact .inr ⟨HR.out, rfl, kk.trans (by repeat (first | exact Ext.refl _ | assumption | refine Ext.drew ?_ | refine Ext.drewN ?_ _ | refine Ext.alloc ?_ _))⟩
  by_cases g2 : a2 < k3
  case pos =>
    have HR : Hid (shapeO x shs = none) := Lib.hid (SO.out.trans (by rw [HC.out, if_pos (entN_zero (fun h => by omega))]))
    have b2 : decide (a1 < k2) = false := decide_eq_false g1
    have b3 : decide (a2 < k3) = true := decide_eq_true g2
    go_wp2_with fail
    refine wp_region_held_drew (S := (fun w' => Ext V1 w')) (by kernel_rfl) ?_ (fun hHeld => ?_)
    · (try dsimp only); repeat (first | exact Ext.refl _ | assumption | refine Ext.drew ?_ | refine Ext.drewN ?_ _ | refine Ext.alloc ?_ _)
    refine wpAnyH_take (i := 0) (oi := _) (v := ?_) rfl (by kernel_rfl) (by kernel_rfl) (by kernel_rfl) (fun _ _ _ h => h) (Or.inl ⟨by first | kernel_rfl | rfl, ?_⟩) (by assumption) ?_
    rotate_left
    · (intro wS hSw; (try dsimp only at hSw); have z3 := cell_ext hSw y3; have s1 := cell_ext hSw q1; have s2 := cell_ext hSw q2; have s3 := cell_ext hSw q3; have u0 := cell_ext hSw r0; have u1 := cell_ext hSw r1; have u2 := cell_ext hSw r2; (try go_simp); (try with_reducible rfl))
    try simp only [Act.put, s1, s2, s3]
    refine wpAnyH_take (i := 1) (oi := _) (v := ?_) rfl (by kernel_rfl) (by kernel_rfl) (by kernel_rfl) (fun _ _ _ h => h) (Or.inl ⟨by first | kernel_rfl | rfl, ?_⟩) (by assumption) ?_
    rotate_left
    · (intro wS hSw; (try dsimp only at hSw); have z3 := cell_ext hSw y3; have s1 := cell_ext hSw q1; have s2 := cell_ext hSw q2; have s3 := cell_ext hSw q3; have u0 := cell_ext hSw r0; have u1 := cell_ext hSw r1; have u2 := cell_ext hSw r2; (try go_simp); (try with_reducible rfl))
    try simp only [Act.put, s1, s2, s3]
    refine wpAnyH_take (i := 2) (oi := _) (v := ?_) rfl (by kernel_rfl) (by kernel_rfl) (by kernel_rfl) (fun _ _ _ h => h) (Or.inl ⟨by first | kernel_rfl | rfl, ?_⟩) (by assumption) ?_
    rotate_left
    · (intro wS hSw; (try dsimp only at hSw); have z3 := cell_ext hSw y3; have s1 := cell_ext hSw q1; have s2 := cell_ext hSw q2; have s3 := cell_ext hSw q3; have u0 := cell_ext hSw r0; have u1 := cell_ext hSw r1; have u2 := cell_ext hSw r2; (try go_simp); (try with_reducible rfl))
    try simp only [Act.put, s1, s2, s3]
    refine wpAnyH_take (i := 3) (oi := _) (v := ?_) rfl (by kernel_rfl) (by kernel_rfl) (by kernel_rfl) (fun _ _ _ h => h) (Or.inl ⟨by first | kernel_rfl | rfl, ?_⟩) (by assumption) ?_
    rotate_left
    · (intro wS hSw; (try dsimp only at hSw); have z3 := cell_ext hSw y3; have s1 := cell_ext hSw q1; have s2 := cell_ext hSw q2; have s3 := cell_ext hSw q3; have u0 := cell_ext hSw r0; have u1 := cell_ext hSw r1; have u2 := cell_ext hSw r2; (try go_simp); (try with_reducible rfl))
    try simp only [Act.put, s1, s2, s3]
    refine wpAnyH_take (i := 4) (oi := _) (v := ?_) rfl (by kernel_rfl) (by kernel_rfl) (by kernel_rfl) (fun _ _ _ h => h) (Or.inl ⟨by first | kernel_rfl | rfl, ?_⟩) (by assumption) ?_
    rotate_left
    · (intro wS hSw; (try dsimp only at hSw); have z3 := cell_ext hSw y3; have s1 := cell_ext hSw q1; have s2 := cell_ext hSw q2; have s3 := cell_ext hSw q3; have u0 := cell_ext hSw r0; have u1 := cell_ext hSw r1; have u2 := cell_ext hSw r2; (try go_simp); (try with_reducible rfl))
    try simp only [Act.put, s1, s2, s3]
    refine wpAnyH_take (i := 5) (oi := _) (v := ?_) rfl (by kernel_rfl) (by kernel_rfl) (by kernel_rfl) (fun _ _ _ h => h) (Or.inl ⟨by first | kernel_rfl | rfl, ?_⟩) (by assumption) ?_
    rotate_left
    · (intro wS hSw; (try dsimp only at hSw); have z3 := cell_ext hSw y3; have s1 := cell_ext hSw q1; have s2 := cell_ext hSw q2; have s3 := cell_ext hSw q3; have u0 := cell_ext hSw r0; have u1 := cell_ext hSw r1; have u2 := cell_ext hSw r2; (try go_simp); (try with_reducible rfl))
    try simp only [Act.put, s1, s2, s3]
    refine wpAnyH_take (i := 6) (oi := _) (v := ?_) rfl (by kernel_rfl) (by kernel_rfl) (by kernel_rfl) (fun _ _ _ h => h) (Or.inl ⟨by first | kernel_rfl | rfl, ?_⟩) (by assumption) ?_
    rotate_left
    · (intro wS hSw; (try dsimp only at hSw); have z3 := cell_ext hSw y3; have s1 := cell_ext hSw q1; have s2 := cell_ext hSw q2; have s3 := cell_ext hSw q3; have u0 := cell_ext hSw r0; have u1 := cell_ext hSw r1; have u2 := cell_ext hSw r2; (try go_simp); (try with_reducible rfl))
    try simp only [Act.put, s1, s2, s3]
    refine wpAnyH_take (i := 7) (oi := _) (v := ?_) rfl (by kernel_rfl) (by kernel_rfl) (by kernel_rfl) (fun _ _ _ h => h) (Or.inl ⟨by first | kernel_rfl | rfl, ?_⟩) (by assumption) ?_
    rotate_left
    · (intro wS hSw; (try dsimp only at hSw); have z3 := cell_ext hSw y3; have s1 := cell_ext hSw q1; have s2 := cell_ext hSw q2; have s3 := cell_ext hSw q3; have u0 := cell_ext hSw r0; have u1 := cell_ext hSw r1; have u2 := cell_ext hSw r2; (try go_simp); (try with_reducible rfl))
    try simp only [Act.put, s1, s2, s3]
    refine wpAnyH_take (i := 8) (oi := _) (v := ?_) rfl (by kernel_rfl) (by kernel_rfl) (by kernel_rfl) (fun _ _ _ h => h) (Or.inl ⟨by first | kernel_rfl | rfl, ?_⟩) (by assumption) ?_
    rotate_left
    · (intro wS hSw; (try dsimp only at hSw); have z3 := cell_ext hSw y3; have s1 := cell_ext hSw q1; have s2 := cell_ext hSw q2; have s3 := cell_ext hSw q3; have u0 := cell_ext hSw r0; have u1 := cell_ext hSw r1; have u2 := cell_ext hSw r2; (try go_simp); (try with_reducible rfl))
    try simp only [Act.put, s1, s2, s3]
    refine wpAnyH_take (i := 9) (oi := _) (v := ?_) rfl (by kernel_rfl) (by kernel_rfl) (by kernel_rfl) (fun _ _ _ h => h) (Or.inl ⟨by first | kernel_rfl | rfl, ?_⟩) (by assumption) ?_
    rotate_left
    · (intro wS hSw; (try dsimp only at hSw); have z3 := cell_ext hSw y3; have s1 := cell_ext hSw q1; have s2 := cell_ext hSw q2; have s3 := cell_ext hSw q3; have u0 := cell_ext hSw r0; have u1 := cell_ext hSw r1; have u2 := cell_ext hSw r2; (try go_simp); (try with_reducible rfl))
    try simp only [Act.put, s1, s2, s3]
    refine wpAnyH_take (i := 10) (oi := _) (v := ?_) rfl (by kernel_rfl) (by kernel_rfl) (by kernel_rfl) (fun _ _ _ h => h) (Or.inl ⟨by first | kernel_rfl | rfl, ?_⟩) (by assumption) ?_
    rotate_left
    · (intro wS hSw; (try dsimp only at hSw); have z3 := cell_ext hSw y3; have s1 := cell_ext hSw q1; have s2 := cell_ext hSw q2; have s3 := cell_ext hSw q3; have u0 := cell_ext hSw r0; have u1 := cell_ext hSw r1; have u2 := cell_ext hSw r2; (try go_simp); (try with_reducible rfl))
    try simp only [Act.put, s1, s2, s3]
    refine wpAnyH_take (i := 11) (oi := _) (v := ?_) rfl (by kernel_rfl) (by kernel_rfl) (by kernel_rfl) (fun _ _ _ h => h) (Or.inl ⟨by first | kernel_rfl | rfl, ?_⟩) (by assumption) ?_
    rotate_left
    · (intro wS hSw; (try dsimp only at hSw); have z3 := cell_ext hSw y3; have s1 := cell_ext hSw q1; have s2 := cell_ext hSw q2; have s3 := cell_ext hSw q3; have u0 := cell_ext hSw r0; have u1 := cell_ext hSw r1; have u2 := cell_ext hSw r2; (try go_simp); (try with_reducible rfl))
    try simp only [Act.put, s1, s2, s3]
    refine wpAnyH_take (i := 12) (oi := _) (v := ?_) rfl (by kernel_rfl) (by kernel_rfl) (by kernel_rfl) (fun _ _ _ h => h) (Or.inl ⟨by first | kernel_rfl | rfl, ?_⟩) (by assumption) ?_
    rotate_left
    · (intro wS hSw; (try dsimp only at hSw); have z3 := cell_ext hSw y3; have s1 := cell_ext hSw q1; have s2 := cell_ext hSw q2; have s3 := cell_ext hSw q3; have u0 := cell_ext hSw r0; have u1 := cell_ext hSw r1; have u2 := cell_ext hSw r2; (try go_simp); (try with_reducible rfl))
    try simp only [Act.put, s1, s2, s3]
    refine wpAnyH_take (i := 13) (oi := _) (v := ?_) rfl (by kernel_rfl) (by kernel_rfl) (by kernel_rfl) (fun _ _ _ h => h) (Or.inl ⟨by first | kernel_rfl | rfl, ?_⟩) (by assumption) ?_
    rotate_left
    · (intro wS hSw; (try dsimp only at hSw); have z3 := cell_ext hSw y3; have s1 := cell_ext hSw q1; have s2 := cell_ext hSw q2; have s3 := cell_ext hSw q3; have u0 := cell_ext hSw r0; have u1 := cell_ext hSw r1; have u2 := cell_ext hSw r2; (try go_simp); (try with_reducible rfl))
    try simp only [Act.put, s1, s2, s3]
    refine wpAnyH_take (i := 14) (oi := _) (v := ?_) rfl (by kernel_rfl) (by kernel_rfl) (by kernel_rfl) (fun _ _ _ h => h) (Or.inl ⟨by first | kernel_rfl | rfl, ?_⟩) (by assumption) ?_
    rotate_left
    · (intro wS hSw; (try dsimp only at hSw); have z3 := cell_ext hSw y3; have s1 := cell_ext hSw q1; have s2 := cell_ext hSw q2; have s3 := cell_ext hSw q3; have u0 := cell_ext hSw r0; have u1 := cell_ext hSw r1; have u2 := cell_ext hSw r2; (try go_simp); (try with_reducible rfl))
    try simp only [Act.put, s1, s2, s3]
    refine wpAnyH_take (i := 15) (oi := _) (v := ?_) rfl (by kernel_rfl) (by kernel_rfl) (by kernel_rfl) (fun _ _ _ h => h) (Or.inl ⟨by first | kernel_rfl | rfl, ?_⟩) (by assumption) ?_
    rotate_left
    · (intro wS hSw; (try dsimp only at hSw); have z3 := cell_ext hSw y3; have s1 := cell_ext hSw q1; have s2 := cell_ext hSw q2; have s3 := cell_ext hSw q3; have u0 := cell_ext hSw r0; have u1 := cell_ext hSw r1; have u2 := cell_ext hSw r2; (try go_simp); (try with_reducible rfl))
    try simp only [Act.put, s1, s2, s3]
    refine wpAnyH_take (i := 16) (oi := _) (v := ?_) rfl (by kernel_rfl) (by kernel_rfl) (by kernel_rfl) (fun _ _ _ h => h) (Or.inl ⟨by first | kernel_rfl | rfl, ?_⟩) (by assumption) ?_
    rotate_left
    · (intro wS hSw; (try dsimp only at hSw); have z3 := cell_ext hSw y3; have s1 := cell_ext hSw q1; have s2 := cell_ext hSw q2; have s3 := cell_ext hSw q3; have u0 := cell_ext hSw r0; have u1 := cell_ext hSw r1; have u2 := cell_ext hSw r2; (try go_simp); (try with_reducible rfl))
    try simp only [Act.put, s1, s2, s3]
    refine wpAnyH_take (i := 17) (oi := _) (v := ?_) rfl (by kernel_rfl) (by kernel_rfl) (by kernel_rfl) (fun _ _ _ h => h) (Or.inl ⟨by first | kernel_rfl | rfl, ?_⟩) (by assumption) ?_
    rotate_left
    · (intro wS hSw; (try dsimp only at hSw); have z3 := cell_ext hSw y3; have s1 := cell_ext hSw q1; have s2 := cell_ext hSw q2; have s3 := cell_ext hSw q3; have u0 := cell_ext hSw r0; have u1 := cell_ext hSw r1; have u2 := cell_ext hSw r2; (try go_simp); (try with_reducible rfl))
    try simp only [Act.put, s1, s2, s3]
    refine wpAnyH_take (i := 18) (oi := _) (v := ?_) rfl (by kernel_rfl) (by kernel_rfl) (by kernel_rfl) (fun _ _ _ h => h) (Or.inl ⟨by first | kernel_rfl | rfl, ?_⟩) (by assumption) ?_
    rotate_left
    · (intro wS hSw; (try dsimp only at hSw); have z3 := cell_ext hSw y3; have s1 := cell_ext hSw q1; have s2 := cell_ext hSw q2; have s3 := cell_ext hSw q3; have u0 := cell_ext hSw r0; have u1 := cell_ext hSw r1; have u2 := cell_ext hSw r2; (try go_simp); (try with_reducible rfl))
    try simp only [Act.put, s1, s2, s3]
    refine wpAnyH_take (i := 19) (oi := _) (v := ?_) rfl (by kernel_rfl) (by kernel_rfl) (by kernel_rfl) (fun _ _ _ h => h) (Or.inl ⟨by first | kernel_rfl | rfl, ?_⟩) (by assumption) ?_
    rotate_left
    · (intro wS hSw; (try dsimp only at hSw); have z3 := cell_ext hSw y3; have s1 := cell_ext hSw q1; have s2 := cell_ext hSw q2; have s3 := cell_ext hSw q3; have u0 := cell_ext hSw r0; have u1 := cell_ext hSw r1; have u2 := cell_ext hSw r2; (try go_simp); (try with_reducible rfl))
    try simp only [Act.put, s1, s2, s3]
    refine wpAnyH_take (i := 20) (oi := _) (v := ?_) rfl (by kernel_rfl) (by kernel_rfl) (by kernel_rfl) (fun _ _ _ h => h) (Or.inl ⟨by first | kernel_rfl | rfl, ?_⟩) (by assumption) ?_
    rotate_left
    · (intro wS hSw; (try dsimp only at hSw); have z3 := cell_ext hSw y3; have s1 := cell_ext hSw q1; have s2 := cell_ext hSw q2; have s3 := cell_ext hSw q3; have u0 := cell_ext hSw r0; have u1 := cell_ext hSw r1; have u2 := cell_ext hSw r2; (try go_simp); (try with_reducible rfl))
    try simp only [Act.put, s1, s2, s3]
    refine wpAnyH_take (i := 21) (oi := _) (v := ?_) rfl (by kernel_rfl) (by kernel_rfl) (by kernel_rfl) (fun _ _ _ h => h) (Or.inl ⟨by first | kernel_rfl | rfl, ?_⟩) (by assumption) ?_
    rotate_left
    · (intro wS hSw; (try dsimp only at hSw); have z3 := cell_ext hSw y3; have s1 := cell_ext hSw q1; have s2 := cell_ext hSw q2; have s3 := cell_ext hSw q3; have u0 := cell_ext hSw r0; have u1 := cell_ext hSw r1; have u2 := cell_ext hSw r2; (try go_simp); (try with_reducible rfl))
    try simp only [Act.put, s1, s2, s3]
    refine wpAnyH_take (i := 22) (oi := _) (v := ?_) rfl (by kernel_rfl) (by kernel_rfl) (by kernel_rfl) (fun _ _ _ h => h) (Or.inl ⟨by first | kernel_rfl | rfl, ?_⟩) (by assumption) ?_
    rotate_left
    · (intro wS hSw; (try dsimp only at hSw); have z3 := cell_ext hSw y3; have s1 := cell_ext hSw q1; have s2 := cell_ext hSw q2; have s3 := cell_ext hSw q3; have u0 := cell_ext hSw r0; have u1 := cell_ext hSw r1; have u2 := cell_ext hSw r2; (try go_simp); (try with_reducible rfl))
    try simp only [Act.put, s1, s2, s3]
    refine wpAnyH_take (i := 23) (oi := _) (v := ?_) rfl (by kernel_rfl) (by kernel_rfl) (by kernel_rfl) (fun _ _ _ h => h) (Or.inl ⟨by first | kernel_rfl | rfl, ?_⟩) (by assumption) ?_
    rotate_left
    · (intro wS hSw; (try dsimp only at hSw); have z3 := cell_ext hSw y3; have s1 := cell_ext hSw q1; have s2 := cell_ext hSw q2; have s3 := cell_ext hSw q3; have u0 := cell_ext hSw r0; have u1 := cell_ext hSw r1; have u2 := cell_ext hSw r2; (try go_simp); (try with_reducible rfl))
    try simp only [Act.put, s1, s2, s3]
    refine wpAnyH_take (i := 24) (oi := _) (v := ?_) rfl (by kernel_rfl) (by kernel_rfl) (by kernel_rfl) (fun _ _ _ h => h) (Or.inl ⟨by first | kernel_rfl | rfl, ?_⟩) (by assumption) ?_
    rotate_left
    · (intro wS hSw; (try dsimp only at hSw); have z3 := cell_ext hSw y3; have s1 := cell_ext hSw q1; have s2 := cell_ext hSw q2; have s3 := cell_ext hSw q3; have u0 := cell_ext hSw r0; have u1 := cell_ext hSw r1; have u2 := cell_ext hSw r2; (try go_simp); (try with_reducible rfl))
    try simp only [Act.put, s1, s2, s3]
    refine wpAnyH_take (i := 25) (oi := _) (v := ?_) rfl (by kernel_rfl) (by kernel_rfl) (by kernel_rfl) (fun _ _ _ h => h) (Or.inl ⟨by first | kernel_rfl | rfl, ?_⟩) (by assumption) ?_
    rotate_left
    · (intro wS hSw; (try dsimp only at hSw); have z3 := cell_ext hSw y3; have s1 := cell_ext hSw q1; have s2 := cell_ext hSw q2; have s3 := cell_ext hSw q3; have u0 := cell_ext hSw r0; have u1 := cell_ext hSw r1; have u2 := cell_ext hSw r2; (try go_simp); (try with_reducible rfl))
    try simp only [Act.put, s1, s2, s3]
    refine wpAnyH_take (i := 26) (oi := _) (v := ?_) rfl (by kernel_rfl) (by kernel_rfl) (by kernel_rfl) (fun _ _ _ h => h) (Or.inl ⟨by first | kernel_rfl | rfl, ?_⟩) (by assumption) ?_
    rotate_left
    · (intro wS hSw; (try dsimp only at hSw); have z3 := cell_ext hSw y3; have s1 := cell_ext hSw q1; have s2 := cell_ext hSw q2; have s3 := cell_ext hSw q3; have u0 := cell_ext hSw r0; have u1 := cell_ext hSw r1; have u2 := cell_ext hSw r2; (try go_simp); (try with_reducible rfl))
    try simp only [Act.put, s1, s2, s3]
    refine wpAnyH_take (i := 27) (oi := _) (v := ?_) rfl (by kernel_rfl) (by kernel_rfl) (by kernel_rfl) (fun _ _ _ h => h) (Or.inl ⟨by first | kernel_rfl | rfl, ?_⟩) (by assumption) ?_
    rotate_left
    · (intro wS hSw; (try dsimp only at hSw); have z3 := cell_ext hSw y3; have s1 := cell_ext hSw q1; have s2 := cell_ext hSw q2; have s3 := cell_ext hSw q3; have u0 := cell_ext hSw r0; have u1 := cell_ext hSw r1; have u2 := cell_ext hSw r2; (try go_simp); (try with_reducible rfl))
    try simp only [Act.put, s1, s2, s3]
    refine wpAnyH_take (i := 28) (oi := _) (v := ?_) rfl (by kernel_rfl) (by kernel_rfl) (by kernel_rfl) (fun _ _ _ h => h) (Or.inl ⟨by first | kernel_rfl | rfl, ?_⟩) (by assumption) ?_
    rotate_left
    · (intro wS hSw; (try dsimp only at hSw); have z3 := cell_ext hSw y3; have s1 := cell_ext hSw q1; have s2 := cell_ext hSw q2; have s3 := cell_ext hSw q3; have u0 := cell_ext hSw r0; have u1 := cell_ext hSw r1; have u2 := cell_ext hSw r2; (try go_simp); (try with_reducible rfl))
    try simp only [Act.put, s1, s2, s3]
    refine wpAnyH_take (i := 29) (oi := _) (v := ?_) rfl (by kernel_rfl) (by kernel_rfl) (by kernel_rfl) (fun _ _ _ h => h) (Or.inl ⟨by first | kernel_rfl | rfl, ?_⟩) (by assumption) ?_
    rotate_left
    · (intro wS hSw; (try dsimp only at hSw); have z3 := cell_ext hSw y3; have s1 := cell_ext hSw q1; have s2 := cell_ext hSw q2; have s3 := cell_ext hSw q3; have u0 := cell_ext hSw r0; have u1 := cell_ext hSw r1; have u2 := cell_ext hSw r2; (try go_simp); (try with_reducible rfl))
    try simp only [Act.put, s1, s2, s3]
    refine wpAnyH_take (i := 30) (oi := _) (v := ?_) rfl (by kernel_rfl) (by kernel_rfl) (by kernel_rfl) (fun _ _ _ h => h) (Or.inl ⟨by first | kernel_rfl | rfl, ?_⟩) (by assumption) ?_
    rotate_left
    · (intro wS hSw; (try dsimp only at hSw); have z3 := cell_ext hSw y3; have s1 := cell_ext hSw q1; have s2 := cell_ext hSw q2; have s3 := cell_ext hSw q3; have u0 := cell_ext hSw r0; have u1 := cell_ext hSw r1; have u2 := cell_ext hSw r2; (try go_simp); (try with_reducible rfl))
    try simp only [Act.put, s1, s2, s3]
    refine wpAnyH_take (i := 31) (oi := _) (v := ?_) rfl (by kernel_rfl) (by kernel_rfl) (by kernel_rfl) (fun _ _ _ h => h) (Or.inl ⟨by first | kernel_rfl | rfl, ?_⟩) (by assumption) ?_
    rotate_left
    · (intro wS hSw; (try dsimp only at hSw); have z3 := cell_ext hSw y3; have s1 := cell_ext hSw q1; have s2 := cell_ext hSw q2; have s3 := cell_ext hSw q3; have u0 := cell_ext hSw r0; have u1 := cell_ext hSw r1; have u2 := cell_ext hSw r2; (try go_simp); (try with_reducible rfl))
    try simp only [Act.put, s1, s2, s3]
    refine wpAnyH_ready (rs := [32]) (by kernel_rfl) (by simp) ?_
    refine AllReadyH.cons rfl (fun KQ hKQ => ?_) AllReadyH.nil
    go_simp
    refine hKQ.out _ _ ?_ (fun hHeld => ?_)
    · (try dsimp only); repeat (first | exact Ext.refl _ | assumption | refine Ext.drew ?_ | refine Ext.drewN ?_ _ | refine Ext.alloc ?_ _)
    clear hKQ KQ
    try simp only [Act.put, s1, s2, s3]
    refine wpAnyH_done (by kernel_rfl) ?_ _
    go_wp2
    go_ret
    exact .inr ⟨HR.out, rfl, kk.trans (by repeat (first | exact Ext.refl _ | assumption | refine Ext.drew ?_ | refine Ext.drewN ?_ _ | refine Ext.alloc ?_ _))⟩
  have lx := entN_le [k0, a1 - k2 + 1, a2 - k3 + 1]
  have b2 : decide (a1 < k2) = false := decide_eq_false g1
  have b3 : decide (a2 < k3) = false := decide_eq_false g2
  go_wp2_with fail
  refine wp_region_held_drew (S := (fun w' => Ext V1 w')) (by kernel_rfl) ?_ (fun hHeld => ?_)
  · (try dsimp only); repeat (first | exact Ext.refl _ | assumption | refine Ext.drew ?_ | refine Ext.drewN ?_ _ | refine Ext.alloc ?_ _)
  refine wpAnyH_take (i := 0) (oi := _) (v := ?_) rfl (by kernel_rfl) (by kernel_rfl) (by kernel_rfl) (fun _ _ _ h => h) (Or.inl ⟨by first | kernel_rfl | rfl, ?_⟩) (by assumption) ?_
  rotate_left
  · (intro wS hSw; (try dsimp only at hSw); have z3 := cell_ext hSw y3; have s1 := cell_ext hSw q1; have s2 := cell_ext hSw q2; have s3 := cell_ext hSw q3; have u0 := cell_ext hSw r0; have u1 := cell_ext hSw r1; have u2 := cell_ext hSw r2; (try go_simp); (try with_reducible rfl))
  try simp only [Act.put, s1, s2, s3]
  refine wpAnyH_take (i := 1) (oi := _) (v := ?_) rfl (by kernel_rfl) (by kernel_rfl) (by kernel_rfl) (fun _ _ _ h => h) (Or.inl ⟨by first | kernel_rfl | rfl, ?_⟩) (by assumption) ?_
  rotate_left
  · (intro wS hSw; (try dsimp only at hSw); have z3 := cell_ext hSw y3; have s1 := cell_ext hSw q1; have s2 := cell_ext hSw q2; have s3 := cell_ext hSw q3; have u0 := cell_ext hSw r0; have u1 := cell_ext hSw r1; have u2 := cell_ext hSw r2; (try go_simp); (try with_reducible rfl))
  try simp only [Act.put, s1, s2, s3]
  refine wpAnyH_take (i := 2) (oi := _) (v := ?_) rfl (by kernel_rfl) (by kernel_rfl) (by kernel_rfl) (fun _ _ _ h => h) (Or.inl ⟨by first | kernel_rfl | rfl, ?_⟩) (by assumption) ?_
  rotate_left
  · (intro wS hSw; (try dsimp only at hSw); have z3 := cell_ext hSw y3; have s1 := cell_ext hSw q1; have s2 := cell_ext hSw q2; have s3 := cell_ext hSw q3; have u0 := cell_ext hSw r0; have u1 := cell_ext hSw r1; have u2 := cell_ext hSw r2; (try go_simp); (try with_reducible rfl))
  try simp only [Act.put, s1, s2, s3]
  refine wpAnyH_take (i := 3) (oi := _) (v := ?_) rfl (by kernel_rfl) (by kernel_rfl) (by kernel_rfl) (fun _ _ _ h => h) (Or.inl ⟨by first | kernel_rfl | rfl, ?_⟩) (by assumption) ?_
  rotate_left
  · (intro wS hSw; (try dsimp only at hSw); have z3 := cell_ext hSw y3; have s1 := cell_ext hSw q1; have s2 := cell_ext hSw q2; have s3 := cell_ext hSw q3; have u0 := cell_ext hSw r0; have u1 := cell_ext hSw r1; have u2 := cell_ext hSw r2; (try go_simp); (try with_reducible rfl))
  try simp only [Act.put, s1, s2, s3]
  refine wpAnyH_take (i := 4) (oi := _) (v := ?_) rfl (by kernel_rfl) (by kernel_rfl) (by kernel_rfl) (fun _ _ _ h => h) (Or.inl ⟨by first | kernel_rfl | rfl, ?_⟩) (by assumption) ?_
  rotate_left
  · (intro wS hSw; (try dsimp only at hSw); have z3 := cell_ext hSw y3; have s1 := cell_ext hSw q1; have s2 := cell_ext hSw q2; have s3 := cell_ext hSw q3; have u0 := cell_ext hSw r0; have u1 := cell_ext hSw r1; have u2 := cell_ext hSw r2; (try go_simp); (try with_reducible rfl))
  try simp only [Act.put, s1, s2, s3]
  refine wpAnyH_take (i := 5) (oi := _) (v := ?_) rfl (by kernel_rfl) (by kernel_rfl) (by kernel_rfl) (fun _ _ _ h => h) (Or.inl ⟨by first | kernel_rfl | rfl, ?_⟩) (by assumption) ?_
  rotate_left
  · (intro wS hSw; (try dsimp only at hSw); have z3 := cell_ext hSw y3; have s1 := cell_ext hSw q1; have s2 := cell_ext hSw q2; have s3 := cell_ext hSw q3; have u0 := cell_ext hSw r0; have u1 := cell_ext hSw r1; have u2 := cell_ext hSw r2; (try go_simp); (try with_reducible rfl))
  try simp only [Act.put, s1, s2, s3]
  refine wpAnyH_take (i := 6) (oi := _) (v := ?_) rfl (by kernel_rfl) (by kernel_rfl) (by kernel_rfl) (fun _ _ _ h => h) (Or.inl ⟨by first | kernel_rfl | rfl, ?_⟩) (by assumption) ?_
  rotate_left
  · (intro wS hSw; (try dsimp only at hSw); have z3 := cell_ext hSw y3; have s1 := cell_ext hSw q1; have s2 := cell_ext hSw q2; have s3 := cell_ext hSw q3; have u0 := cell_ext hSw r0; have u1 := cell_ext hSw r1; have u2 := cell_ext hSw r2; (try go_simp); (try with_reducible rfl))
  try simp only [Act.put, s1, s2, s3]
  refine wpAnyH_take (i := 7) (oi := _) (v := ?_) rfl (by kernel_rfl) (by kernel_rfl) (by kernel_rfl) (fun _ _ _ h => h) (Or.inl ⟨by first | kernel_rfl | rfl, ?_⟩) (by assumption) ?_
  rotate_left
  · (intro wS hSw; (try dsimp only at hSw); have z3 := cell_ext hSw y3; have s1 := cell_ext hSw q1; have s2 := cell_ext hSw q2; have s3 := cell_ext hSw q3; have u0 := cell_ext hSw r0; have u1 := cell_ext hSw r1; have u2 := cell_ext hSw r2; (try go_simp); (try with_reducible rfl))
  try simp only [Act.put, s1, s2, s3]
  refine wpAnyH_take (i := 8) (oi := _) (v := ?_) rfl (by kernel_rfl) (by kernel_rfl) (by kernel_rfl) (fun _ _ _ h => h) (Or.inl ⟨by first | kernel_rfl | rfl, ?_⟩) (by assumption) ?_
  rotate_left
  · (intro wS hSw; (try dsimp only at hSw); have z3 := cell_ext hSw y3; have s1 := cell_ext hSw q1; have s2 := cell_ext hSw q2; have s3 := cell_ext hSw q3; have u0 := cell_ext hSw r0; have u1 := cell_ext hSw r1; have u2 := cell_ext hSw r2; (try go_simp); (try with_reducible rfl))
  try simp only [Act.put, s1, s2, s3]
  refine wpAnyH_take (i := 9) (oi := _) (v := ?_) rfl (by kernel_rfl) (by kernel_rfl) (by kernel_rfl) (fun _ _ _ h => h) (Or.inl ⟨by first | kernel_rfl | rfl, ?_⟩) (by assumption) ?_
  rotate_left
  · (intro wS hSw; (try dsimp only at hSw); have z3 := cell_ext hSw y3; have s1 := cell_ext hSw q1; have s2 := cell_ext hSw q2; have s3 := cell_ext hSw q3; have u0 := cell_ext hSw r0; have u1 := cell_ext hSw r1; have u2 := cell_ext hSw r2; (try go_simp); (try with_reducible rfl))
  try simp only [Act.put, s1, s2, s3]
  refine wpAnyH_take (i := 10) (oi := _) (v := ?_) rfl (by kernel_rfl) (by kernel_rfl) (by kernel_rfl) (fun _ _ _ h => h) (Or.inl ⟨by first | kernel_rfl | rfl, ?_⟩) (by assumption) ?_
  rotate_left
  · (intro wS hSw; (try dsimp only at hSw); have z3 := cell_ext hSw y3; have s1 := cell_ext hSw q1; have s2 := cell_ext hSw q2; have s3 := cell_ext hSw q3; have u0 := cell_ext hSw r0; have u1 := cell_ext hSw r1; have u2 := cell_ext hSw r2; (try go_simp); (try with_reducible rfl))
  try simp only [Act.put, s1, s2, s3]
  refine wpAnyH_take (i := 11) (oi := _) (v := ?_) rfl (by kernel_rfl) (by kernel_rfl) (by kernel_rfl) (fun _ _ _ h => h) (Or.inl ⟨by first | kernel_rfl | rfl, ?_⟩) (by assumption) ?_
  rotate_left
  · (intro wS hSw; (try dsimp only at hSw); have z3 := cell_ext hSw y3; have s1 := cell_ext hSw q1; have s2 := cell_ext hSw q2; have s3 := cell_ext hSw q3; have u0 := cell_ext hSw r0; have u1 := cell_ext hSw r1; have u2 := cell_ext hSw r2; (try go_simp); (try with_reducible rfl))
  try simp only [Act.put, s1, s2, s3]
  refine wpAnyH_take (i := 12) (oi := _) (v := ?_) rfl (by kernel_rfl) (by kernel_rfl) (by kernel_rfl) (fun _ _ _ h => h) (Or.inl ⟨by first | kernel_rfl | rfl, ?_⟩) (by assumption) ?_
  rotate_left
  · (intro wS hSw; (try dsimp only at hSw); have z3 := cell_ext hSw y3; have s1 := cell_ext hSw q1; have s2 := cell_ext hSw q2; have s3 := cell_ext hSw q3; have u0 := cell_ext hSw r0; have u1 := cell_ext hSw r1; have u2 := cell_ext hSw r2; (try go_simp); (try with_reducible rfl))
  try simp only [Act.put, s1, s2, s3]
  refine wpAnyH_take (i := 13) (oi := _) (v := ?_) rfl (by kernel_rfl) (by kernel_rfl) (by kernel_rfl) (fun _ _ _ h => h) (Or.inl ⟨by first | kernel_rfl | rfl, ?_⟩) (by assumption) ?_
  rotate_left
  · (intro wS hSw; (try dsimp only at hSw); have z3 := cell_ext hSw y3; have s1 := cell_ext hSw q1; have s2 := cell_ext hSw q2; have s3 := cell_ext hSw q3; have u0 := cell_ext hSw r0; have u1 := cell_ext hSw r1; have u2 := cell_ext hSw r2; (try go_simp); (try with_reducible rfl))
  try simp only [Act.put, s1, s2, s3]
  refine wpAnyH_take (i := 14) (oi := _) (v := ?_) rfl (by kernel_rfl) (by kernel_rfl) (by kernel_rfl) (fun _ _ _ h => h) (Or.inl ⟨by first | kernel_rfl | rfl, ?_⟩) (by assumption) ?_
  rotate_left
  · (intro wS hSw; (try dsimp only at hSw); have z3 := cell_ext hSw y3; have s1 := cell_ext hSw q1; have s2 := cell_ext hSw q2; have s3 := cell_ext hSw q3; have u0 := cell_ext hSw r0; have u1 := cell_ext hSw r1; have u2 := cell_ext hSw r2; (try go_simp); (try with_reducible rfl))
  try simp only [Act.put, s1, s2, s3]
  refine wpAnyH_take (i := 15) (oi := _) (v := ?_) rfl (by kernel_rfl) (by kernel_rfl) (by kernel_rfl) (fun _ _ _ h => h) (Or.inl ⟨by first | kernel_rfl | rfl, ?_⟩) (by assumption) ?_
  rotate_left
  · (intro wS hSw; (try dsimp only at hSw); have z3 := cell_ext hSw y3; have s1 := cell_ext hSw q1; have s2 := cell_ext hSw q2; have s3 := cell_ext hSw q3; have u0 := cell_ext hSw r0; have u1 := cell_ext hSw r1; have u2 := cell_ext hSw r2; (try go_simp); (try with_reducible rfl))
  try simp only [Act.put, s1, s2, s3]
  refine wpAnyH_take (i := 16) (oi := _) (v := ?_) rfl (by kernel_rfl) (by kernel_rfl) (by kernel_rfl) (fun _ _ _ h => h) (Or.inl ⟨by first | kernel_rfl | rfl, ?_⟩) (by assumption) ?_
  rotate_left
  · (intro wS hSw; (try dsimp only at hSw); have z3 := cell_ext hSw y3; have s1 := cell_ext hSw q1; have s2 := cell_ext hSw q2; have s3 := cell_ext hSw q3; have u0 := cell_ext hSw r0; have u1 := cell_ext hSw r1; have u2 := cell_ext hSw r2; (try go_simp); (try with_reducible rfl))
  try simp only [Act.put, s1, s2, s3]
  refine wpAnyH_take (i := 17) (oi := _) (v := ?_) rfl (by kernel_rfl) (by kernel_rfl) (by kernel_rfl) (fun _ _ _ h => h) (Or.inl ⟨by first | kernel_rfl | rfl, ?_⟩) (by assumption) ?_
  rotate_left
  · (intro wS hSw; (try dsimp only at hSw); have z3 := cell_ext hSw y3; have s1 := cell_ext hSw q1; have s2 := cell_ext hSw q2; have s3 := cell_ext hSw q3; have u0 := cell_ext hSw r0; have u1 := cell_ext hSw r1; have u2 := cell_ext hSw r2; (try go_simp); (try with_reducible rfl))
  try simp only [Act.put, s1, s2, s3]
  refine wpAnyH_take (i := 18) (oi := _) (v := ?_) rfl (by kernel_rfl) (by kernel_rfl) (by kernel_rfl) (fun _ _ _ h => h) (Or.inl ⟨by first | kernel_rfl | rfl, ?_⟩) (by assumption) ?_
  rotate_left
  · (intro wS hSw; (try dsimp only at hSw); have z3 := cell_ext hSw y3; have s1 := cell_ext hSw q1; have s2 := cell_ext hSw q2; have s3 := cell_ext hSw q3; have u0 := cell_ext hSw r0; have u1 := cell_ext hSw r1; have u2 := cell_ext hSw r2; (try go_simp); (try with_reducible rfl))
  try simp only [Act.put, s1, s2, s3]
  refine wpAnyH_take (i := 19) (oi := _) (v := ?_) rfl (by kernel_rfl) (by kernel_rfl) (by kernel_rfl) (fun _ _ _ h => h) (Or.inl ⟨by first | kernel_rfl | rfl, ?_⟩) (by assumption) ?_
  rotate_left
  · (intro wS hSw; (try dsimp only at hSw); have z3 := cell_ext hSw y3; have s1 := cell_ext hSw q1; have s2 := cell_ext hSw q2; have s3 := cell_ext hSw q3; have u0 := cell_ext hSw r0; have u1 := cell_ext hSw r1; have u2 := cell_ext hSw r2; (try go_simp); (try with_reducible rfl))
  try simp only [Act.put, s1, s2, s3]
  refine wpAnyH_take (i := 20) (oi := _) (v := ?_) rfl (by kernel_rfl) (by kernel_rfl) (by kernel_rfl) (fun _ _ _ h => h) (Or.inl ⟨by first | kernel_rfl | rfl, ?_⟩) (by assumption) ?_
  rotate_left
  · (intro wS hSw; (try dsimp only at hSw); have z3 := cell_ext hSw y3; have s1 := cell_ext hSw q1; have s2 := cell_ext hSw q2; have s3 := cell_ext hSw q3; have u0 := cell_ext hSw r0; have u1 := cell_ext hSw r1; have u2 := cell_ext hSw r2; (try go_simp); (try with_reducible rfl))
  try simp only [Act.put, s1, s2, s3]
  refine wpAnyH_take (i := 21) (oi := _) (v := ?_) rfl (by kernel_rfl) (by kernel_rfl) (by kernel_rfl) (fun _ _ _ h => h) (Or.inl ⟨by first | kernel_rfl | rfl, ?_⟩) (by assumption) ?_
  rotate_left
  · (intro wS hSw; (try dsimp only at hSw); have z3 := cell_ext hSw y3; have s1 := cell_ext hSw q1; have s2 := cell_ext hSw q2; have s3 := cell_ext hSw q3; have u0 := cell_ext hSw r0; have u1 := cell_ext hSw r1; have u2 := cell_ext hSw r2; (try go_simp); (try with_reducible rfl))
  try simp only [Act.put, s1, s2, s3]
  refine wpAnyH_take (i := 22) (oi := _) (v := ?_) rfl (by kernel_rfl) (by kernel_rfl) (by kernel_rfl) (fun _ _ _ h => h) (Or.inl ⟨by first | kernel_rfl | rfl, ?_⟩) (by assumption) ?_
  rotate_left
  · (intro wS hSw; (try dsimp only at hSw); have z3 := cell_ext hSw y3; have s1 := cell_ext hSw q1; have s2 := cell_ext hSw q2; have s3 := cell_ext hSw q3; have u0 := cell_ext hSw r0; have u1 := cell_ext hSw r1; have u2 := cell_ext hSw r2; (try go_simp); (try with_reducible rfl))
  try simp only [Act.put, s1, s2, s3]
  refine wpAnyH_take (i := 23) (oi := _) (v := ?_) rfl (by kernel_rfl) (by kernel_rfl) (by kernel_rfl) (fun _ _ _ h => h) (Or.inl ⟨by first | kernel_rfl | rfl, ?_⟩) (by assumption) ?_
  rotate_left
  · (intro wS hSw; (try dsimp only at hSw); have z3 := cell_ext hSw y3; have s1 := cell_ext hSw q1; have s2 := cell_ext hSw q2; have s3 := cell_ext hSw q3; have u0 := cell_ext hSw r0; have u1 := cell_ext hSw r1; have u2 := cell_ext hSw r2; (try go_simp); (try with_reducible rfl))
  try simp only [Act.put, s1, s2, s3]
  refine wpAnyH_take (i := 24) (oi := _) (v := ?_) rfl (by kernel_rfl) (by kernel_rfl) (by kernel_rfl) (fun _ _ _ h => h) (Or.inl ⟨by first | kernel_rfl | rfl, ?_⟩) (by assumption) ?_
  rotate_left
  · (intro wS hSw; (try dsimp only at hSw); have z3 := cell_ext hSw y3; have s1 := cell_ext hSw q1; have s2 := cell_ext hSw q2; have s3 := cell_ext hSw q3; have u0 := cell_ext hSw r0; have u1 := cell_ext hSw r1; have u2 := cell_ext hSw r2; (try go_simp); (try with_reducible rfl))
  try simp only [Act.put, s1, s2, s3]
  refine wpAnyH_take (i := 25) (oi := _) (v := ?_) rfl (by kernel_rfl) (by kernel_rfl) (by kernel_rfl) (fun _ _ _ h => h) (Or.inl ⟨by first | kernel_rfl | rfl, ?_⟩) (by assumption) ?_
  rotate_left
  · (intro wS hSw; (try dsimp only at hSw); have z3 := cell_ext hSw y3; have s1 := cell_ext hSw q1; have s2 := cell_ext hSw q2; have s3 := cell_ext hSw q3; have u0 := cell_ext hSw r0; have u1 := cell_ext hSw r1; have u2 := cell_ext hSw r2; (try go_simp); (try with_reducible rfl))
  try simp only [Act.put, s1, s2, s3]
  refine wpAnyH_take (i := 26) (oi := _) (v := ?_) rfl (by kernel_rfl) (by kernel_rfl) (by kernel_rfl) (fun _ _ _ h => h) (Or.inl ⟨by first | kernel_rfl | rfl, ?_⟩) (by assumption) ?_
  rotate_left
  · (intro wS hSw; (try dsimp only at hSw); have z3 := cell_ext hSw y3; have s1 := cell_ext hSw q1; have s2 := cell_ext hSw q2; have s3 := cell_ext hSw q3; have u0 := cell_ext hSw r0; have u1 := cell_ext hSw r1; have u2 := cell_ext hSw r2; (try go_simp); (try with_reducible rfl))
  try simp only [Act.put, s1, s2, s3]
  refine wpAnyH_take (i := 27) (oi := _) (v := ?_) rfl (by kernel_rfl) (by kernel_rfl) (by kernel_rfl) (fun _ _ _ h => h) (Or.inl ⟨by first | kernel_rfl | rfl, ?_⟩) (by assumption) ?_
  rotate_left
  · (intro wS hSw; (try dsimp only at hSw); have z3 := cell_ext hSw y3; have s1 := cell_ext hSw q1; have s2 := cell_ext hSw q2; have s3 := cell_ext hSw q3; have u0 := cell_ext hSw r0; have u1 := cell_ext hSw r1; have u2 := cell_ext hSw r2; (try go_simp); (try with_reducible rfl))
  try simp only [Act.put, s1, s2, s3]
  refine wpAnyH_take (i := 28) (oi := _) (v := ?_) rfl (by kernel_rfl) (by kernel_rfl) (by kernel_rfl) (fun _ _ _ h => h) (Or.inl ⟨by first | kernel_rfl | rfl, ?_⟩) (by assumption) ?_
  rotate_left
  · (intro wS hSw; (try dsimp only at hSw); have z3 := cell_ext hSw y3; have s1 := cell_ext hSw q1; have s2 := cell_ext hSw q2; have s3 := cell_ext hSw q3; have u0 := cell_ext hSw r0; have u1 := cell_ext hSw r1; have u2 := cell_ext hSw r2; (try go_simp); (try with_reducible rfl))
  try simp only [Act.put, s1, s2, s3]
  refine wpAnyH_take (i := 29) (oi := _) (v := ?_) rfl (by kernel_rfl) (by kernel_rfl) (by kernel_rfl) (fun _ _ _ h => h) (Or.inl ⟨by first | kernel_rfl | rfl, ?_⟩) (by assumption) ?_
  rotate_left
  · (intro wS hSw; (try dsimp only at hSw); have z3 := cell_ext hSw y3; have s1 := cell_ext hSw q1; have s2 := cell_ext hSw q2; have s3 := cell_ext hSw q3; have u0 := cell_ext hSw r0; have u1 := cell_ext hSw r1; have u2 := cell_ext hSw r2; (try go_simp); (try with_reducible rfl))
  try simp only [Act.put, s1, s2, s3]
  refine wpAnyH_take (i := 30) (oi := _) (v := ?_) rfl (by kernel_rfl) (by kernel_rfl) (by kernel_rfl) (fun _ _ _ h => h) (Or.inl ⟨by first | kernel_rfl | rfl, ?_⟩) (by assumption) ?_
  rotate_left
  · (intro wS hSw; (try dsimp only at hSw); have z3 := cell_ext hSw y3; have s1 := cell_ext hSw q1; have s2 := cell_ext hSw q2; have s3 := cell_ext hSw q3; have u0 := cell_ext hSw r0; have u1 := cell_ext hSw r1; have u2 := cell_ext hSw r2; (try go_simp); (try with_reducible rfl))
  try simp only [Act.put, s1, s2, s3]
  refine wpAnyH_take (i := 31) (oi := _) (v := ?_) rfl (by kernel_rfl) (by kernel_rfl) (by kernel_rfl) (fun _ _ _ h => h) (Or.inl ⟨by first | kernel_rfl | rfl, ?_⟩) (by assumption) ?_
  rotate_left
  · (intro wS hSw; (try dsimp only at hSw); have z3 := cell_ext hSw y3; have s1 := cell_ext hSw q1; have s2 := cell_ext hSw q2; have s3 := cell_ext hSw q3; have u0 := cell_ext hSw r0; have u1 := cell_ext hSw r1; have u2 := cell_ext hSw r2; (try go_simp); (try with_reducible rfl))
  try simp only [Act.put, s1, s2, s3]
  refine wpAnyH_ready (rs := [32]) (by kernel_rfl) (by simp) ?_
  refine AllReadyH.cons rfl (fun KQ hKQ => ?_) AllReadyH.nil
  go_simp
  refine hKQ.out _ _ ?_ (fun hHeld => ?_)
  · (try dsimp only); repeat (first | exact Ext.refl _ | assumption | refine Ext.drew ?_ | refine Ext.drewN ?_ _ | refine Ext.alloc ?_ _)
  clear hKQ KQ
  try simp only [Act.put, s1, s2, s3]
  refine wpAnyH_done (by kernel_rfl) ?_ _
  go_wp2_with fail
  refine wp_region_held_drew (S := (fun w' => Ext V1 w')) (by kernel_rfl) ?_ (fun hHeld => ?_)
  · (try dsimp only); repeat (first | exact Ext.refl _ | assumption | refine Ext.drew ?_ | refine Ext.drewN ?_ _ | refine Ext.alloc ?_ _)
  refine wpAnyH_take (i := 0) (oi := _) (v := ?_) rfl (by kernel_rfl) (by kernel_rfl) (by kernel_rfl) (fun _ _ _ h => h) (Or.inl ⟨by first | kernel_rfl | rfl, ?_⟩) (by assumption) ?_
  rotate_left
  · (intro wS hSw; (try dsimp only at hSw); have z3 := cell_ext hSw y3; have s0 := cell_ext hSw q0; have s2 := cell_ext hSw q2; have s3 := cell_ext hSw q3; have u1 := cell_ext hSw r1; have u2 := cell_ext hSw r2; (try go_simp); (try with_reducible rfl))
  try simp only [Act.put, s1, s2, s3]
  refine wpAnyH_take (i := 1) (oi := _) (v := ?_) rfl (by kernel_rfl) (by kernel_rfl) (by kernel_rfl) (fun _ _ _ h => h) (Or.inl ⟨by first | kernel_rfl | rfl, ?_⟩) (by assumption) ?_
  rotate_left
  · (intro wS hSw; (try dsimp only at hSw); have z3 := cell_ext hSw y3; have s0 := cell_ext hSw q0; have s2 := cell_ext hSw q2; have s3 := cell_ext hSw q3; have u1 := cell_ext hSw r1; have u2 := cell_ext hSw r2; (try go_simp); (try with_reducible rfl))
  try simp only [Act.put, s1, s2, s3]
  refine wpAnyH_take (i := 2) (oi := _) (v := ?_) rfl (by kernel_rfl) (by kernel_rfl) (by kernel_rfl) (fun _ _ _ h => h) (Or.inl ⟨by first | kernel_rfl | rfl, ?_⟩) (by assumption) ?_
  rotate_left
  · (intro wS hSw; (try dsimp only at hSw); have z3 := cell_ext hSw y3; have s0 := cell_ext hSw q0; have s2 := cell_ext hSw q2; have s3 := cell_ext hSw q3; have u1 := cell_ext hSw r1; have u2 := cell_ext hSw r2; (try go_simp); (try with_reducible rfl))
  try simp only [Act.put, s1, s2, s3]
  refine wpAnyH_take (i := 3) (oi := _) (v := ?_) rfl (by kernel_rfl) (by kernel_rfl) (by kernel_rfl) (fun _ _ _ h => h) (Or.inl ⟨by first | kernel_rfl | rfl, ?_⟩) (by assumption) ?_
  rotate_left
  · (intro wS hSw; (try dsimp only at hSw); have z3 := cell_ext hSw y3; have s0 := cell_ext hSw q0; have s2 := cell_ext hSw q2; have s3 := cell_ext hSw q3; have u1 := cell_ext hSw r1; have u2 := cell_ext hSw r2; (try go_simp); (try with_reducible rfl))
  try simp only [Act.put, s1, s2, s3]
  refine wpAnyH_take (i := 4) (oi := _) (v := ?_) rfl (by kernel_rfl) (by kernel_rfl) (by kernel_rfl) (fun _ _ _ h => h) (Or.inl ⟨by first | kernel_rfl | rfl, ?_⟩) (by assumption) ?_
  rotate_left
  · (intro wS hSw; (try dsimp only at hSw); have z3 := cell_ext hSw y3; have s0 := cell_ext hSw q0; have s2 := cell_ext hSw q2; have s3 := cell_ext hSw q3; have u1 := cell_ext hSw r1; have u2 := cell_ext hSw r2; (try go_simp); (try with_reducible rfl))
  try simp only [Act.put, s1, s2, s3]
  refine wpAnyH_take (i := 5) (oi := _) (v := ?_) rfl (by kernel_rfl) (by kernel_rfl) (by kernel_rfl) (fun _ _ _ h => h) (Or.inl ⟨by first | kernel_rfl | rfl, ?_⟩) (by assumption) ?_
  rotate_left
  · (intro wS hSw; (try dsimp only at hSw); have z3 := cell_ext hSw y3; have s0 := cell_ext hSw q0; have s2 := cell_ext hSw q2; have s3 := cell_ext hSw q3; have u1 := cell_ext hSw r1; have u2 := cell_ext hSw r2; (try go_simp); (try with_reducible rfl))
  try simp only [Act.put, s1, s2, s3]
  refine wpAnyH_take (i := 6) (oi := _) (v := ?_) rfl (by kernel_rfl) (by kernel_rfl) (by kernel_rfl) (fun _ _ _ h => h) (Or.inl ⟨by first | kernel_rfl | rfl, ?_⟩) (by assumption) ?_
  rotate_left
  · (intro wS hSw; (try dsimp only at hSw); have z3 := cell_ext hSw y3; have s0 := cell_ext hSw q0; have s2 := cell_ext hSw q2; have s3 := cell_ext hSw q3; have u1 := cell_ext hSw r1; have u2 := cell_ext hSw r2; (try go_simp); (try with_reducible rfl))
  try simp only [Act.put, s1, s2, s3]
  refine wpAnyH_take (i := 7) (oi := _) (v := ?_) rfl (by kernel_rfl) (by kernel_rfl) (by kernel_rfl) (fun _ _ _ h => h) (Or.inl ⟨by first | kernel_rfl | rfl, ?_⟩) (by assumption) ?_
  rotate_left
  · (intro wS hSw; (try dsimp only at hSw); have z3 := cell_ext hSw y3; have s0 := cell_ext hSw q0; have s2 := cell_ext hSw q2; have s3 := cell_ext hSw q3; have u1 := cell_ext hSw r1; have u2 := cell_ext hSw r2; (try go_simp); (try with_reducible rfl))
  try simp only [Act.put, s1, s2, s3]
  refine wpAnyH_take (i := 8) (oi := _) (v := ?_) rfl (by kernel_rfl) (by kernel_rfl) (by kernel_rfl) (fun _ _ _ h => h) (Or.inl ⟨by first | kernel_rfl | rfl, ?_⟩) (by assumption) ?_
  rotate_left
  · (intro wS hSw; (try dsimp only at hSw); have z3 := cell_ext hSw y3; have s0 := cell_ext hSw q0; have s2 := cell_ext hSw q2; have s3 := cell_ext hSw q3; have u1 := cell_ext hSw r1; have u2 := cell_ext hSw r2; (try go_simp); (try with_reducible rfl))
  try simp only [Act.put, s1, s2, s3]
  refine wpAnyH_take (i := 9) (oi := _) (v := ?_) rfl (by kernel_rfl) (by kernel_rfl) (by kernel_rfl) (fun _ _ _ h => h) (Or.inl ⟨by first | kernel_rfl | rfl, ?_⟩) (by assumption) ?_
  rotate_left
  · (intro wS hSw; (try dsimp only at hSw); have z3 := cell_ext hSw y3; have s0 := cell_ext hSw q0; have s2 := cell_ext hSw q2; have s3 := cell_ext hSw q3; have u1 := cell_ext hSw r1; have u2 := cell_ext hSw r2; (try go_simp); (try with_reducible rfl))
  try simp only [Act.put, s1, s2, s3]
  refine wpAnyH_take (i := 10) (oi := _) (v := ?_) rfl (by kernel_rfl) (by kernel_rfl) (by kernel_rfl) (fun _ _ _ h => h) (Or.inl ⟨by first | kernel_rfl | rfl, ?_⟩) (by assumption) ?_
  rotate_left
  · (intro wS hSw; (try dsimp only at hSw); have z3 := cell_ext hSw y3; have s0 := cell_ext hSw q0; have s2 := cell_ext hSw q2; have s3 := cell_ext hSw q3; have u1 := cell_ext hSw r1; have u2 := cell_ext hSw r2; (try go_simp); (try with_reducible rfl))
  try simp only [Act.put, s1, s2, s3]
  refine wpAnyH_take (i := 11) (oi := _) (v := ?_) rfl (by kernel_rfl) (by kernel_rfl) (by kernel_rfl) (fun _ _ _ h => h) (Or.inl ⟨by first | kernel_rfl | rfl, ?_⟩) (by assumption) ?_
  rotate_left
  · (intro wS hSw; (try dsimp only at hSw); have z3 := cell_ext hSw y3; have s0 := cell_ext hSw q0; have s2 := cell_ext hSw q2; have s3 := cell_ext hSw q3; have u1 := cell_ext hSw r1; have u2 := cell_ext hSw r2; (try go_simp); (try with_reducible rfl))
  try simp only [Act.put, s1, s2, s3]
  refine wpAnyH_take (i := 12) (oi := _) (v := ?_) rfl (by kernel_rfl) (by kernel_rfl) (by kernel_rfl) (fun _ _ _ h => h) (Or.inl ⟨by first | kernel_rfl | rfl, ?_⟩) (by assumption) ?_
  rotate_left
  · (intro wS hSw; (try dsimp only at hSw); have z3 := cell_ext hSw y3; have s0 := cell_ext hSw q0; have s2 := cell_ext hSw q2; have s3 := cell_ext hSw q3; have u1 := cell_ext hSw r1; have u2 := cell_ext hSw r2; (try go_simp); (try with_reducible rfl))
  try simp only [Act.put, s1, s2, s3]
  refine wpAnyH_take (i := 13) (oi := _) (v := ?_) rfl (by kernel_rfl) (by kernel_rfl) (by kernel_rfl) (fun _ _ _ h => h) (Or.inl ⟨by first | kernel_rfl | rfl, ?_⟩) (by assumption) ?_
  rotate_left
  · (intro wS hSw; (try dsimp only at hSw); have z3 := cell_ext hSw y3; have s0 := cell_ext hSw q0; have s2 := cell_ext hSw q2; have s3 := cell_ext hSw q3; have u1 := cell_ext hSw r1; have u2 := cell_ext hSw r2; (try go_simp); (try with_reducible rfl))
  try simp only [Act.put, s1, s2, s3]
  refine wpAnyH_take (i := 14) (oi := _) (v := ?_) rfl (by kernel_rfl) (by kernel_rfl) (by kernel_rfl) (fun _ _ _ h => h) (Or.inl ⟨by first | kernel_rfl | rfl, ?_⟩) (by assumption) ?_
  rotate_left
  · (intro wS hSw; (try dsimp only at hSw); have z3 := cell_ext hSw y3; have s0 := cell_ext hSw q0; have s2 := cell_ext hSw q2; have s3 := cell_ext hSw q3; have u1 := cell_ext hSw r1; have u2 := cell_ext hSw r2; (try go_simp); (try with_reducible rfl))
  try simp only [Act.put, s1, s2, s3]
  refine wpAnyH_take (i := 15) (oi := _) (v := ?_) rfl (by kernel_rfl) (by kernel_rfl) (by kernel_rfl) (fun _ _ _ h => h) (Or.inl ⟨by first | kernel_rfl | rfl, ?_⟩) (by assumption) ?_
  rotate_left
  · (intro wS hSw; (try dsimp only at hSw); have z3 := cell_ext hSw y3; have s0 := cell_ext hSw q0; have s2 := cell_ext hSw q2; have s3 := cell_ext hSw q3; have u1 := cell_ext hSw r1; have u2 := cell_ext hSw r2; (try go_simp); (try with_reducible rfl))
  try simp only [Act.put, s1, s2, s3]
  refine wpAnyH_take (i := 16) (oi := _) (v := ?_) rfl (by kernel_rfl) (by kernel_rfl) (by kernel_rfl) (fun _ _ _ h => h) (Or.inl ⟨by first | kernel_rfl | rfl, ?_⟩) (by assumption) ?_
  rotate_left
  · (intro wS hSw; (try dsimp only at hSw); have z3 := cell_ext hSw y3; have s0 := cell_ext hSw q0; have s2 := cell_ext hSw q2; have s3 := cell_ext hSw q3; have u1 := cell_ext hSw r1; have u2 := cell_ext hSw r2; (try go_simp); (try with_reducible rfl))
  try simp only [Act.put, s1, s2, s3]
  refine wpAnyH_take (i := 17) (oi := _) (v := ?_) rfl (by kernel_rfl) (by kernel_rfl) (by kernel_rfl) (fun _ _ _ h => h) (Or.inl ⟨by first | kernel_rfl | rfl, ?_⟩) (by assumption) ?_
  rotate_left
  · (intro wS hSw; (try dsimp only at hSw); have z3 := cell_ext hSw y3; have s0 := cell_ext hSw q0; have s2 := cell_ext hSw q2; have s3 := cell_ext hSw q3; have u1 := cell_ext hSw r1; have u2 := cell_ext hSw r2; (try go_simp); (try with_reducible rfl))
  try simp only [Act.put, s1, s2, s3]
  refine wpAnyH_take (i := 18) (oi := _) (v := ?_) rfl (by kernel_rfl) (by kernel_rfl) (by kernel_rfl) (fun _ _ _ h => h) (Or.inl ⟨by first | kernel_rfl | rfl, ?_⟩) (by assumption) ?_
  rotate_left
  · (intro wS hSw; (try dsimp only at hSw); have z3 := cell_ext hSw y3; have s0 := cell_ext hSw q0; have s2 := cell_ext hSw q2; have s3 := cell_ext hSw q3; have u1 := cell_ext hSw r1; have u2 := cell_ext hSw r2; (try go_simp); (try with_reducible rfl))
  try simp only [Act.put, s1, s2, s3]
  refine wpAnyH_take (i := 19) (oi := _) (v := ?_) rfl (by kernel_rfl) (by kernel_rfl) (by kernel_rfl) (fun _ _ _ h => h) (Or.inl ⟨by first | kernel_rfl | rfl, ?_⟩) (by assumption) ?_
  rotate_left
  · (intro wS hSw; (try dsimp only at hSw); have z3 := cell_ext hSw y3; have s0 := cell_ext hSw q0; have s2 := cell_ext hSw q2; have s3 := cell_ext hSw q3; have u1 := cell_ext hSw r1; have u2 := cell_ext hSw r2; (try go_simp); (try with_reducible rfl))
  try simp only [Act.put, s1, s2, s3]
  refine wpAnyH_take (i := 20) (oi := _) (v := ?_) rfl (by kernel_rfl) (by kernel_rfl) (by kernel_rfl) (fun _ _ _ h => h) (Or.inl ⟨by first | kernel_rfl | rfl, ?_⟩) (by assumption) ?_
  rotate_left
  · (intro wS hSw; (try dsimp only at hSw); have z3 := cell_ext hSw y3; have s0 := cell_ext hSw q0; have s2 := cell_ext hSw q2; have s3 := cell_ext hSw q3; have u1 := cell_ext hSw r1; have u2 := cell_ext hSw r2; (try go_simp); (try with_reducible rfl))
  try simp only [Act.put, s1, s2, s3]
  refine wpAnyH_take (i := 21) (oi := _) (v := ?_) rfl (by kernel_rfl) (by kernel_rfl) (by kernel_rfl) (fun _ _ _ h => h) (Or.inl ⟨by first | kernel_rfl | rfl, ?_⟩) (by assumption) ?_
  rotate_left
  · (intro wS hSw; (try dsimp only at hSw); have z3 := cell_ext hSw y3; have s0 := cell_ext hSw q0; have s2 := cell_ext hSw q2; have s3 := cell_ext hSw q3; have u1 := cell_ext hSw r1; have u2 := cell_ext hSw r2; (try go_simp); (try with_reducible rfl))
  try simp only [Act.put, s1, s2, s3]
  refine wpAnyH_ready (rs := [22]) (by kernel_rfl) (by simp) ?_
  refine AllReadyH.cons rfl (fun KQ hKQ => ?_) AllReadyH.nil
  go_simp
  refine hKQ.out _ _ ?_ (fun hHeld => ?_)
  · (try dsimp only); repeat (first | exact Ext.refl _ | assumption | refine Ext.drew ?_ | refine Ext.drewN ?_ _ | refine Ext.alloc ?_ _)
  clear hKQ KQ
  try simp only [Act.put, s1, s2, s3]
  refine wpAnyH_ready (rs := [23]) (by kernel_rfl) (by simp) ?_
  refine AllReadyH.cons rfl (fun KQ hKQ => ?_) AllReadyH.nil
  go_simp
  refine hKQ.out _ _ ?_ (fun hHeld => ?_)
  · (try dsimp only); repeat (first | exact Ext.refl _ | assumption | refine Ext.drew ?_ | refine Ext.drewN ?_ _ | refine Ext.alloc ?_ _)
  clear hKQ KQ
  try simp only [Act.put, s1, s2, s3]
  refine wpAnyH_done (by kernel_rfl) ?_ _
  go_wp2_with fail
  have hz3 := zx_new3 V1 k0 (a1 - k2 + 1) (a2 - k3 + 1)
  refine (rent_any (some ⟨V1.heap.size, 0, none⟩) 3 3 [k0, a1 - k2 + 1, a2 - k3 + 1] _ (Lib.hid (hz3.ext (by repeat (first | exact Ext.refl _ | assumption | refine Ext.drew ?_ | refine Ext.drewN ?_ _ | refine Ext.alloc ?_ _))))).mono ?_
  rintro e6 w6 ⟨rfl, rfl⟩
  by_cases h0 : entN [k0, a1 - k2 + 1, a2 - k3 + 1] = 0
  · have HR := Lib.hid (SO.out.trans (HC.out.trans (if_pos h0)))
    go_wp2
    go_ret
    exact .inr ⟨HR.out, rfl, kk.trans (by repeat (first | exact Ext.refl _ | assumption | refine Ext.drew ?_ | refine Ext.drewN ?_ _ | refine Ext.alloc ?_ _))⟩
  · have HR := Lib.hid (SO.out.trans (HC.out.trans (if_neg h0)))
    go_wp2
    go_ret
    exact .inl ⟨[k0, a1 - k2 + 1, a2 - k3 + 1], _, _, HR.out, rfl, hz3.ext (by repeat (first | exact Ext.refl _ | assumption | refine Ext.drew ?_ | refine Ext.drewN ?_ _ | refine Ext.alloc ?_ _)), kk.trans (by repeat (first | exact Ext.refl _ | assumption | refine Ext.drew ?_ | refine Ext.drewN ?_ _ | refine Ext.alloc ?_ _))⟩
end Go.Proofs.Ytdnjjpkajiehgaa
