/-
  The document's shape of a node of kind 5.
-/
import Derived.Test.YtmmninjiklgebaaJSd
namespace Go.Proofs.Ytmmninjiklgebaa
open Go.RowKit
set_option linter.unusedVariables false
set_option maxRecDepth 100000

set_option maxHeartbeats 8000000 in
theorem rshape5 (x : Nd) (As Ad Ab : Option Addr) (cs cd cb : Nat) (w : World) (hX : Hid (NdX w x As Ad Ab cs cd cb)) (Ah : Option Addr) (ch : Nat) (shs : List (List Int)) (hA : Hid (SX w Ah ch shs)) (hr : Hid (Rights shs)) (hl : shs.length ≤ 100000) (hf : Hid (formB x shs.length = true)) (hk : Hid (x.k = 5)) :
    Calls Try.prog 26 #[.agg #[.int .i64 x.k, .int .i64 x.a, .int .i64 x.b, .slice As x.sh.length cs, .int .i64 x.lo, .int .i64 x.hi, .int .i64 x.sz, .slice Ad x.da.length cd, .slice Ab x.bi.length cb], .slice Ah shs.length ch] w fun e w' => RSh w (shapeO x shs) e w' := by
  obtain ⟨y0, y1, y2, y3, y4, y5, y6, y7, y8⟩ := nine_at w (.int .i64 x.k) (.int .i64 x.a) (.int .i64 x.b) (.slice As x.sh.length cs) (.int .i64 x.lo) (.int .i64 x.hi) (.int .i64 x.sz) (.slice Ad x.da.length cd) (.slice Ab x.bi.length cb) 43
  have L0 := hX.out.lsh
  have L1 := hX.out.lda
  have L2 := hX.out.lbi
  have kk : Ext w (w.alloc (.cells #[.int .i64 x.k, .int .i64 x.a, .int .i64 x.b, .slice As x.sh.length cs, .int .i64 x.lo, .int .i64 x.hi, .int .i64 x.sz, .slice Ad x.da.length cd, .slice Ab x.bi.length cb] 43)) := (Ext.refl w).alloc _
  obtain ⟨OKF, BHF, TLF⟩ := form_parts (m := [true, false, false, false, true, false, false]) (show mayL x.k = some [true, false, false, false, true, false, false] by rw [hk.out]; rfl) hf.out
  have TL := Lib.hid (show (decide (1 ≤ x.sz)) = true by rw [← TLF]; unfold toldB; simp [hk.out])
  obtain ⟨i, hi, s, hs, hg⟩ := ahead_get (behB_a (m := [true, false, false, false, true, false, false]) rfl BHF)
  have HI := Lib.hid hi
  have HS := Lib.hid hs
  have HG := Lib.hid hg
  clear hi hs hg
  clear OKF BHF TLF
  go_enter Try.func26, Try.ntmps26
  go_wp2_with fail
  generalize w.alloc (.cells #[.int .i64 x.k, .int .i64 x.a, .int .i64 x.b, .slice As x.sh.length cs, .int .i64 x.lo, .int .i64 x.hi, .int .i64 x.sz, .slice Ad x.da.length cd, .slice Ab x.bi.length cb] 43) = V at *
  refine (may5 x.k hk.out V).mono ?_
  rintro e1 w1 ⟨rfl, rfl⟩
  have m0 := seven_at V (.bool true) (.bool false) (.bool false) (.bool false) (.bool true) (.bool false) (.bool false) 4 0 _ rfl
  have ka : Ext V (V.alloc (.cells #[.bool true, .bool false, .bool false, .bool false, .bool true, .bool false, .bool false] 4)) := (Ext.refl V).alloc _
  replace y0 := cell_ext ka y0
  replace y1 := cell_ext ka y1
  replace y2 := cell_ext ka y2
  replace y3 := cell_ext ka y3
  replace y4 := cell_ext ka y4
  replace y5 := cell_ext ka y5
  replace y6 := cell_ext ka y6
  replace y7 := cell_ext ka y7
  replace y8 := cell_ext ka y8
  replace kk := kk.trans ka
  clear ka
  rw [hk.out] at y0
  obtain ⟨ad, rfl, hcs⟩ := (hA.out.ext kk).cells (show 0 < shs.length from by have := (List.getElem?_eq_some_iff.1 HS.out).1; omega)
  obtain ⟨B, d, hc, hz⟩ := hcs i s HS.out
  have HZ := Lib.hid hz
  have RGT := Lib.hid (hr.out s (List.mem_of_getElem? HS.out))
  clear hz
  have il := (List.getElem?_eq_some_iff.1 HS.out).1
  have i0 : (0 : Int) ≤ (i : Int) := by omega
  have i1 : (i : Int) < (shs.length : Int) := by omega
  rw [HI.out] at y1
  clear hcs il
  generalize hV1 : (V.alloc (.cells #[.bool true, .bool false, .bool false, .bool false, .bool true, .bool false, .bool false] 4)) = V1 at *
  clear hV1
  generalize V.heap.size = gm at *
  have SO := Lib.hid (show shapeO x shs = poolO x.sz s by unfold shapeO; rw [HG.out]; simp [hk.out])
  have sz1 : 1 ≤ x.sz := by have := TL.out; simpa using this
  have z0 : ¬ x.sz = 0 := by omega
  by_cases h3 : s.length = 3
  case neg =>
    have h4 : ¬ ((s.length : Int) = 3) := by omega
    have HR := Lib.hid (SO.out.trans (poolO_no h3))
    clear h3
    go_wp2_with fail
    go_quiet (fail)
    go_wp2
    go_ret
    exact .inr ⟨HR.out, rfl, kk.trans (by repeat (first | exact Ext.refl _ | assumption | refine Ext.drew ?_ | refine Ext.drewN ?_ _ | refine Ext.alloc ?_ _))⟩
  obtain ⟨a0, a1, a2, rfl⟩ := three_list h3
  clear h3
  have d1 := entN_dims RGT.out a1 (by simp)
  have d2 := entN_dims RGT.out a2 (by simp)
  obtain ⟨ad5, rfl, hc5⟩ := HZ.out.cells (by simp)
  have r0 := hc5 0 a0 rfl
  rw [add0J] at r0
  have r1 : V1.cell? ⟨ad5.block, ad5.off + 1, none⟩ = some (.int .i64 a1) := hc5 1 a1 rfl
  have r2 : V1.cell? ⟨ad5.block, ad5.off + 2, none⟩ = some (.int .i64 a2) := hc5 2 a2 rfl
  clear hc5
  have v1 : 0 ≤ a1 / x.sz ∧ a1 / x.sz ≤ 64 := ⟨Int.ediv_nonneg (by omega) (by omega), Int.le_trans (Int.ediv_le_self _ (by omega)) (by omega)⟩
  have v2 : 0 ≤ a2 / x.sz ∧ a2 / x.sz ≤ 64 := ⟨Int.ediv_nonneg (by omega) (by omega), Int.le_trans (Int.ediv_le_self _ (by omega)) (by omega)⟩
  have t1 : Int.tdiv a1 x.sz = a1 / x.sz := Int.tdiv_eq_ediv_of_nonneg (by omega)
  have t2 : Int.tdiv a2 x.sz = a2 / x.sz := Int.tdiv_eq_ediv_of_nonneg (by omega)
  have t3 : Int.tmod a1 x.sz = a1 % x.sz := Int.tmod_eq_emod_of_nonneg (by omega)
  have t4 : Int.tmod a2 x.sz = a2 % x.sz := Int.tmod_eq_emod_of_nonneg (by omega)
  by_cases m1 : a1 % x.sz = 0
  case neg =>
    have HR : Hid (shapeO x shs = none) := Lib.hid (SO.out.trans (if_neg m1))
    go_wp2_with fail
    go_quiet (fail)
    go_wp2
    go_ret
    exact .inr ⟨HR.out, rfl, kk.trans (by repeat (first | exact Ext.refl _ | assumption | refine Ext.drew ?_ | refine Ext.drewN ?_ _ | refine Ext.alloc ?_ _))⟩
  by_cases m2 : a2 % x.sz = 0
  case neg =>
    have HR : Hid (shapeO x shs = none) := Lib.hid (SO.out.trans ((if_pos m1).trans (if_neg m2)))
    go_wp2_with fail
    go_quiet (fail)
    go_wp2
    go_ret
    exact .inr ⟨HR.out, rfl, kk.trans (by repeat (first | exact Ext.refl _ | assumption | refine Ext.drew ?_ | refine Ext.drewN ?_ _ | refine Ext.alloc ?_ _))⟩
  have HR : Hid (shapeO x shs = some [a0, a1 / x.sz, a2 / x.sz]) := Lib.hid (SO.out.trans ((if_pos m1).trans (if_pos m2)))
  go_wp2_with fail
  go_quiet (fail)
  go_wp2_with fail
  refine wp_region_held_drew (S := (fun w' => Ext V1 w')) (by kernel_rfl) ?_ (fun hHeld => ?_)
  · (try dsimp only); repeat (first | exact Ext.refl _ | assumption | refine Ext.drew ?_ | refine Ext.drewN ?_ _ | refine Ext.alloc ?_ _)
  refine wpAnyH_take (i := 0) (oi := _) (v := ?_) rfl (by kernel_rfl) (by kernel_rfl) (by kernel_rfl) (fun _ _ _ h => h) (Or.inl ⟨by first | kernel_rfl | rfl, ?_⟩) (by assumption) ?_
  rotate_left
  · (intro wS hSw; (try dsimp only at hSw); have z6 := cell_ext hSw y6; have u0 := cell_ext hSw r0; have u1 := cell_ext hSw r1; have u2 := cell_ext hSw r2; (try go_simp); (try with_reducible rfl))
  try simp only [Act.put, s1, s2, s3]
  refine wpAnyH_take (i := 1) (oi := _) (v := ?_) rfl (by kernel_rfl) (by kernel_rfl) (by kernel_rfl) (fun _ _ _ h => h) (Or.inl ⟨by first | kernel_rfl | rfl, ?_⟩) (by assumption) ?_
  rotate_left
  · (intro wS hSw; (try dsimp only at hSw); have z6 := cell_ext hSw y6; have u0 := cell_ext hSw r0; have u1 := cell_ext hSw r1; have u2 := cell_ext hSw r2; (try go_simp); (try with_reducible rfl))
  try simp only [Act.put, s1, s2, s3]
  refine wpAnyH_take (i := 2) (oi := _) (v := ?_) rfl (by kernel_rfl) (by kernel_rfl) (by kernel_rfl) (fun _ _ _ h => h) (Or.inl ⟨by first | kernel_rfl | rfl, ?_⟩) (by assumption) ?_
  rotate_left
  · (intro wS hSw; (try dsimp only at hSw); have z6 := cell_ext hSw y6; have u0 := cell_ext hSw r0; have u1 := cell_ext hSw r1; have u2 := cell_ext hSw r2; (try go_simp); (try with_reducible rfl))
  try simp only [Act.put, s1, s2, s3]
  refine wpAnyH_take (i := 3) (oi := _) (v := ?_) rfl (by kernel_rfl) (by kernel_rfl) (by kernel_rfl) (fun _ _ _ h => h) (Or.inl ⟨by first | kernel_rfl | rfl, ?_⟩) (by assumption) ?_
  rotate_left
  · (intro wS hSw; (try dsimp only at hSw); have z6 := cell_ext hSw y6; have u0 := cell_ext hSw r0; have u1 := cell_ext hSw r1; have u2 := cell_ext hSw r2; (try go_simp); (try with_reducible rfl))
  try simp only [Act.put, s1, s2, s3]
  refine wpAnyH_take (i := 4) (oi := _) (v := ?_) rfl (by kernel_rfl) (by kernel_rfl) (by kernel_rfl) (fun _ _ _ h => h) (Or.inl ⟨by first | kernel_rfl | rfl, ?_⟩) (by assumption) ?_
  rotate_left
  · (intro wS hSw; (try dsimp only at hSw); have z6 := cell_ext hSw y6; have u0 := cell_ext hSw r0; have u1 := cell_ext hSw r1; have u2 := cell_ext hSw r2; (try go_simp); (try with_reducible rfl))
  try simp only [Act.put, s1, s2, s3]
  refine wpAnyH_take (i := 5) (oi := _) (v := ?_) rfl (by kernel_rfl) (by kernel_rfl) (by kernel_rfl) (fun _ _ _ h => h) (Or.inl ⟨by first | kernel_rfl | rfl, ?_⟩) (by assumption) ?_
  rotate_left
  · (intro wS hSw; (try dsimp only at hSw); have z6 := cell_ext hSw y6; have u0 := cell_ext hSw r0; have u1 := cell_ext hSw r1; have u2 := cell_ext hSw r2; (try go_simp); (try with_reducible rfl))
  try simp only [Act.put, s1, s2, s3]
  refine wpAnyH_take (i := 6) (oi := _) (v := ?_) rfl (by kernel_rfl) (by kernel_rfl) (by kernel_rfl) (fun _ _ _ h => h) (Or.inl ⟨by first | kernel_rfl | rfl, ?_⟩) (by assumption) ?_
  rotate_left
  · (intro wS hSw; (try dsimp only at hSw); have z6 := cell_ext hSw y6; have u0 := cell_ext hSw r0; have u1 := cell_ext hSw r1; have u2 := cell_ext hSw r2; (try go_simp); (try with_reducible rfl))
  try simp only [Act.put, s1, s2, s3]
  refine wpAnyH_take (i := 7) (oi := _) (v := ?_) rfl (by kernel_rfl) (by kernel_rfl) (by kernel_rfl) (fun _ _ _ h => h) (Or.inl ⟨by first | kernel_rfl | rfl, ?_⟩) (by assumption) ?_
  rotate_left
  · (intro wS hSw; (try dsimp only at hSw); have z6 := cell_ext hSw y6; have u0 := cell_ext hSw r0; have u1 := cell_ext hSw r1; have u2 := cell_ext hSw r2; (try go_simp); (try with_reducible rfl))
  try simp only [Act.put, s1, s2, s3]
  refine wpAnyH_take (i := 8) (oi := _) (v := ?_) rfl (by kernel_rfl) (by kernel_rfl) (by kernel_rfl) (fun _ _ _ h => h) (Or.inl ⟨by first | kernel_rfl | rfl, ?_⟩) (by assumption) ?_
  rotate_left
  · (intro wS hSw; (try dsimp only at hSw); have z6 := cell_ext hSw y6; have u0 := cell_ext hSw r0; have u1 := cell_ext hSw r1; have u2 := cell_ext hSw r2; (try go_simp); (try with_reducible rfl))
  try simp only [Act.put, s1, s2, s3]
  refine wpAnyH_take (i := 9) (oi := _) (v := ?_) rfl (by kernel_rfl) (by kernel_rfl) (by kernel_rfl) (fun _ _ _ h => h) (Or.inl ⟨by first | kernel_rfl | rfl, ?_⟩) (by assumption) ?_
  rotate_left
  · (intro wS hSw; (try dsimp only at hSw); have z6 := cell_ext hSw y6; have u0 := cell_ext hSw r0; have u1 := cell_ext hSw r1; have u2 := cell_ext hSw r2; (try go_simp); (try with_reducible rfl))
  try simp only [Act.put, s1, s2, s3]
  refine wpAnyH_take (i := 10) (oi := _) (v := ?_) rfl (by kernel_rfl) (by kernel_rfl) (by kernel_rfl) (fun _ _ _ h => h) (Or.inl ⟨by first | kernel_rfl | rfl, ?_⟩) (by assumption) ?_
  rotate_left
  · (intro wS hSw; (try dsimp only at hSw); have z6 := cell_ext hSw y6; have u0 := cell_ext hSw r0; have u1 := cell_ext hSw r1; have u2 := cell_ext hSw r2; (try go_simp); (try with_reducible rfl))
  try simp only [Act.put, s1, s2, s3]
  refine wpAnyH_take (i := 11) (oi := _) (v := ?_) rfl (by kernel_rfl) (by kernel_rfl) (by kernel_rfl) (fun _ _ _ h => h) (Or.inl ⟨by first | kernel_rfl | rfl, ?_⟩) (by assumption) ?_
  rotate_left
  · (intro wS hSw; (try dsimp only at hSw); have z6 := cell_ext hSw y6; have u0 := cell_ext hSw r0; have u1 := cell_ext hSw r1; have u2 := cell_ext hSw r2; (try go_simp); (try with_reducible rfl))
  try simp only [Act.put, s1, s2, s3]
  refine wpAnyH_take (i := 12) (oi := _) (v := ?_) rfl (by kernel_rfl) (by kernel_rfl) (by kernel_rfl) (fun _ _ _ h => h) (Or.inl ⟨by first | kernel_rfl | rfl, ?_⟩) (by assumption) ?_
  rotate_left
  · (intro wS hSw; (try dsimp only at hSw); have z6 := cell_ext hSw y6; have u0 := cell_ext hSw r0; have u1 := cell_ext hSw r1; have u2 := cell_ext hSw r2; (try go_simp); (try with_reducible rfl))
  try simp only [Act.put, s1, s2, s3]
  refine wpAnyH_take (i := 13) (oi := _) (v := ?_) rfl (by kernel_rfl) (by kernel_rfl) (by kernel_rfl) (fun _ _ _ h => h) (Or.inl ⟨by first | kernel_rfl | rfl, ?_⟩) (by assumption) ?_
  rotate_left
  · (intro wS hSw; (try dsimp only at hSw); have z6 := cell_ext hSw y6; have u0 := cell_ext hSw r0; have u1 := cell_ext hSw r1; have u2 := cell_ext hSw r2; (try go_simp); (try with_reducible rfl))
  try simp only [Act.put, s1, s2, s3]
  refine wpAnyH_take (i := 14) (oi := _) (v := ?_) rfl (by kernel_rfl) (by kernel_rfl) (by kernel_rfl) (fun _ _ _ h => h) (Or.inl ⟨by first | kernel_rfl | rfl, ?_⟩) (by assumption) ?_
  rotate_left
  · (intro wS hSw; (try dsimp only at hSw); have z6 := cell_ext hSw y6; have u0 := cell_ext hSw r0; have u1 := cell_ext hSw r1; have u2 := cell_ext hSw r2; (try go_simp); (try with_reducible rfl))
  try simp only [Act.put, s1, s2, s3]
  refine wpAnyH_ready (rs := [15]) (by kernel_rfl) (by simp) ?_
  refine AllReadyH.cons rfl (fun KQ hKQ => ?_) AllReadyH.nil
  go_simp
  refine hKQ.out _ _ ?_ (fun hHeld => ?_)
  · (try dsimp only); repeat (first | exact Ext.refl _ | assumption | refine Ext.drew ?_ | refine Ext.drewN ?_ _ | refine Ext.alloc ?_ _)
  clear hKQ KQ
  try simp only [Act.put, s1, s2, s3]
  refine wpAnyH_ready (rs := [16]) (by kernel_rfl) (by simp) ?_
  refine AllReadyH.cons rfl (fun KQ hKQ => ?_) AllReadyH.nil
  go_simp
  refine hKQ.out _ _ ?_ (fun hHeld => ?_)
  · (try dsimp only); repeat (first | exact Ext.refl _ | assumption | refine Ext.drew ?_ | refine Ext.drewN ?_ _ | refine Ext.alloc ?_ _)
  clear hKQ KQ
  try simp only [Act.put, s1, s2, s3]
  refine wpAnyH_done (by kernel_rfl) ?_ _
  go_wp2
  go_ret
  have c1 : IntKind.i64.wrap (a1 / x.sz) = a1 / x.sz := by rw [IntKind.wrap_i64]; omega
  have c2 : IntKind.i64.wrap (a2 / x.sz) = a2 / x.sz := by rw [IntKind.wrap_i64]; omega
  rw [c1, c2]
  exact .inl ⟨[a0, a1 / x.sz, a2 / x.sz], _, _, HR.out, rfl, zx_new3 _ _ _ _, kk.trans (by repeat (first | exact Ext.refl _ | assumption | refine Ext.drew ?_ | refine Ext.drewN ?_ _ | refine Ext.alloc ?_ _))⟩
end Go.Proofs.Ytmmninjiklgebaa
