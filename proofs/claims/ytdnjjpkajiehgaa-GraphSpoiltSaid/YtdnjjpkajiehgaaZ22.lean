/-
  The document's shape of a node of kind 5.
-/
import Derived.Test.YtdnjjpkajiehgaaZ20
import Derived.Test.YtdnjjpkajiehgaaZJFa
import Derived.Test.YtdnjjpkajiehgaaZJS4
import Derived.Lib.SliceRun
import Derived.Test.YtdnjjpkajiehgaaZ15
import Derived.Test.YtdnjjpkajiehgaaZMKn
namespace Go.Proofs.Ytdnjjpkajiehgaa
open Go.RowKit
set_option linter.unusedVariables false
set_option maxRecDepth 100000

set_option maxHeartbeats 8000000 in
theorem rshape5 (x : Nd) (As Ad Ab : Option Addr) (cs cd cb : Nat) (w : World) (hX : Hid (NdX w x As Ad Ab cs cd cb)) (Ah : Option Addr) (ch : Nat) (shs : List (List Int)) (hA : Hid (SX w Ah ch shs)) (hr : Hid (Rights shs)) (hl : shs.length ≤ 100000) (hf : Hid (formB x shs.length = true)) (hk : Hid (x.k = 5)) :
    Calls Try.prog 47 #[.agg #[.int .i64 x.k, .int .i64 x.a, .int .i64 x.b, .slice As x.sh.length cs, .int .i64 x.lo, .int .i64 x.hi, .int .i64 x.sz, .slice Ad x.da.length cd, .slice Ab x.bi.length cb], .slice Ah shs.length ch] w fun e w' => RSh w (shapeO x shs) e w' := by
  obtain ⟨y0, y1, y2, y3, y4, y5, y6, y7, y8⟩ := nine_at w (.int .i64 x.k) (.int .i64 x.a) (.int .i64 x.b) (.slice As x.sh.length cs) (.int .i64 x.lo) (.int .i64 x.hi) (.int .i64 x.sz) (.slice Ad x.da.length cd) (.slice Ab x.bi.length cb) 40
  have L0 := hX.out.lsh
  have L1 := hX.out.lda
  have L2 := hX.out.lbi
  have kk : Ext w (w.alloc (.cells #[.int .i64 x.k, .int .i64 x.a, .int .i64 x.b, .slice As x.sh.length cs, .int .i64 x.lo, .int .i64 x.hi, .int .i64 x.sz, .slice Ad x.da.length cd, .slice Ab x.bi.length cb] 40)) := (Ext.refl w).alloc _
  obtain ⟨OKF, BHF, TLF⟩ := form_parts (m := [true, false, false, false, true, false, false]) (show mayL x.k = some [true, false, false, false, true, false, false] by rw [hk.out]; rfl) hf.out
  have TL := Lib.hid (show (decide (1 ≤ x.sz)) = true by rw [← TLF]; unfold toldB; simp [hk.out])
  obtain ⟨i, hi, s, hs, hg⟩ := ahead_get (behB_a (m := [true, false, false, false, true, false, false]) rfl BHF)
  have HI := Lib.hid hi
  have HS := Lib.hid hs
  have HG := Lib.hid hg
  clear hi hs hg
  clear OKF BHF TLF
  go_enter Try.func47, Try.ntmps47
  go_wp2_with fail
  generalize w.alloc (.cells #[.int .i64 x.k, .int .i64 x.a, .int .i64 x.b, .slice As x.sh.length cs, .int .i64 x.lo, .int .i64 x.hi, .int .i64 x.sz, .slice Ad x.da.length cd, .slice Ab x.bi.length cb] 40) = V at *
  refine (may5 x.k hk.out V).mono ?_
  rintro e1 w1 ⟨rfl, rfl⟩
  have m0 := seven_at V (.bool true) (.bool false) (.bool false) (.bool false) (.bool true) (.bool false) (.bool false) 4 0 _ rfl
  have ka : Ext V (V.alloc (.cells #[.bool true, .bool false, .bool false, .bool false, .bool true, .bool false, .bool false] 4)) := (Ext.refl V).alloc _
  replace y0 := cell_ext ka y0
  replace y1 := cell_ext ka y1
  replace y2 := cell_ext ka y2
  replace y3 := cell_ext ka y3
  replace y4 := cell_ext ka y4
  replace y5 := cell_ext ka y5
  replace y6 := cell_ext ka y6
  replace y7 := cell_ext ka y7
  replace y8 := cell_ext ka y8
  replace kk := kk.trans ka
  clear ka
  rw [hk.out] at y0
  obtain ⟨ad, rfl, hcs⟩ := (hA.out.ext kk).cells (show 0 < shs.length from by have := (List.getElem?_eq_some_iff.1 HS.out).1; omega)
  obtain ⟨B, d, hc, hz⟩ := hcs i s HS.out
  have HZ := Lib.hid hz
  have RGT := Lib.hid (hr.out s (List.mem_of_getElem? HS.out))
  clear hz
  have il := (List.getElem?_eq_some_iff.1 HS.out).1
  have i0 : (0 : Int) ≤ (i : Int) := by omega
  have i1 : (i : Int) < (shs.length : Int) := by omega
  rw [HI.out] at y1
  clear hcs il
  generalize hV1 : (V.alloc (.cells #[.bool true, .bool false, .bool false, .bool false, .bool true, .bool false, .bool false] 4)) = V1 at *
  clear hV1
  generalize V.heap.size = gm at *
  have SO := Lib.hid (show shapeO x shs = poolO x.sz s by unfold shapeO; rw [HG.out]; simp [hk.out])
  have sz1 : 1 ≤ x.sz := by have := TL.out; simpa using this
  have z0 : ¬ x.sz = 0 := by omega
  by_cases h3 : s.length = 3
  case neg =>
    have h4 : ¬ ((s.length : Int) = 3) := by omega
    have HR := Lib.hid (SO.out.trans (poolO_no h3))
    clear h3
    go_wp2_with fail
    go_quiet (fail)
    go_wp2
    go_ret
    exact .inr ⟨HR.out, rfl, kk.trans (by repeat (first | exact Ext.refl _ | assumption | refine Ext.drew ?_ | refine Ext.drewN ?_ _ | refine Ext.alloc ?_ _))⟩
  obtain ⟨a0, a1, a2, rfl⟩ := three_list h3
  clear h3
  have d1 := entN_dims RGT.out a1 (by simp)
  have d2 := entN_dims RGT.out a2 (by simp)
  obtain ⟨ad5, rfl, hc5⟩ := HZ.out.cells (by simp)
  have r0 := hc5 0 a0 rfl
  rw [add0J] at r0
  have r1 : V1.cell? ⟨ad5.block, ad5.off + 1, none⟩ = some (.int .i64 a1) := hc5 1 a1 rfl
  have r2 : V1.cell? ⟨ad5.block, ad5.off + 2, none⟩ = some (.int .i64 a2) := hc5 2 a2 rfl
  clear hc5
  have v1 : 0 ≤ a1 / x.sz ∧ a1 / x.sz ≤ 64 := ⟨Int.ediv_nonneg (by omega) (by omega), Int.le_trans (Int.ediv_le_self _ (by omega)) (by omega)⟩
  have v2 : 0 ≤ a2 / x.sz ∧ a2 / x.sz ≤ 64 := ⟨Int.ediv_nonneg (by omega) (by omega), Int.le_trans (Int.ediv_le_self _ (by omega)) (by omega)⟩
  have t1 : Int.tdiv a1 x.sz = a1 / x.sz := Int.tdiv_eq_ediv_of_nonneg (by omega)
  have t2 : Int.tdiv a2 x.sz = a2 / x.sz := Int.tdiv_eq_ediv_of_nonneg (by omega)
  have t3 : Int.tmod a1 x.sz = a1 % x.sz := Int.tmod_eq_emod_of_nonneg (by omega)
  have t4 : Int.tmod a2 x.sz = a2 % x.sz := Int.tmod_eq_emod_of_nonneg (by omega)
  by_cases m1 : a1 % x.sz = 0
  case neg =>
    have HR : Hid (shapeO x shs = none) := Lib.hid (SO.out.trans (if_neg m1))
    go_wp2_with fail
    go_quiet (fail)
    go_wp2
    go_ret
    exact .inr ⟨HR.out, rfl, kk.trans (by repeat (first | exact Ext.refl _ | assumption | refine Ext.drew ?_ | refine Ext.drewN ?_ _ | refine Ext.alloc ?_ _))⟩
  by_cases m2 : a2 % x.sz = 0
  case neg =>
    have HR : Hid (shapeO x shs = none) := Lib.hid (SO.out.trans ((if_pos m1).trans (if_neg m2)))
    go_wp2_with fail
    go_quiet (fail)
    go_wp2
    go_ret
    exact .inr ⟨HR.out, rfl, kk.trans (by repeat (first | exact Ext.refl _ | assumption | refine Ext.drew ?_ | refine Ext.drewN ?_ _ | refine Ext.alloc ?_ _))⟩
  have HR : Hid (shapeO x shs = some [a0, a1 / x.sz, a2 / x.sz]) := Lib.hid (SO.out.trans ((if_pos m1).trans (if_pos m2)))
  go_wp2_with fail
  go_quiet (fail)
  go_wp2_with fail
  refine wp_region_held_drew (S := (fun w' => Ext V1 w')) (by kernel_rfl) ?_ (fun hHeld => ?_)
  · (try dsimp only); repeat (first | exact Ext.refl _ | assumption | refine Ext.drew ?_ | refine Ext.drewN ?_ _ | refine Ext.alloc ?_ _)
  refine wpAnyH_take (i := 0) (oi := _) (v := ?_) rfl (by kernel_rfl) (by kernel_rfl) (by kernel_rfl) (fun _ _ _ h => h) (Or.inl ⟨by first | kernel_rfl | rfl, ?_⟩) (by assumption) ?_
  rotate_left
  · (intro wS hSw; (try dsimp only at hSw); have z6 := cell_ext hSw y6; have u0 := cell_ext hSw r0; have u1 := cell_ext hSw r1; have u2 := cell_ext hSw r2; (try go_simp); (try with_reducible rfl))
  try simp only [Act.put, s1, s2, s3]
  refine wpAnyH_take (i := 1) (oi := _) (v := ?_) rfl (by kernel_rfl) (by kernel_rfl) (by kernel_rfl) (fun _ _ _ h => h) (Or.inl ⟨by first | kernel_rfl | rfl, ?_⟩) (by assumption) ?_
  rotate_left
  · (intro wS hSw; (try dsimp only at hSw); have z6 := cell_ext hSw y6; have u0 := cell_ext hSw r0; have u1 := cell_ext hSw r1; have u2 := cell_ext hSw r2; (try go_simp); (try with_reducible rfl))
  try simp only [Act.put, s1, s2, s3]
  refine wpAnyH_take (i := 2) (oi := _) (v := ?_) rfl (by kernel_rfl) (by kernel_rfl) (by kernel_rfl) (fun _ _ _ h => h) (Or.inl ⟨by first | kernel_rfl | rfl, ?_⟩) (by assumption) ?_
  rotate_left
  · (intro wS hSw; (try dsimp only at hSw); have z6 := cell_ext hSw y6; have u0 := cell_ext hSw r0; have u1 := cell_ext hSw r1; have u2 := cell_ext hSw r2; (try go_simp); (try with_reducible rfl))
  try simp only [Act.put, s1, s2, s3]
  refine wpAnyH_take (i := 3) (oi := _) (v := ?_) rfl (by kernel_rfl) (by kernel_rfl) (by kernel_rfl) (fun _ _ _ h => h) (Or.inl ⟨by first | kernel_rfl | rfl, ?_⟩) (by assumption) ?_
  rotate_left
  · (intro wS hSw; (try dsimp only at hSw); have z6 := cell_ext hSw y6; have u0 := cell_ext hSw r0; have u1 := cell_ext hSw r1; have u2 := cell_ext hSw r2; (try go_simp); (try with_reducible rfl))
  try simp only [Act.put, s1, s2, s3]
  refine wpAnyH_take (i := 4) (oi := _) (v := ?_) rfl (by kernel_rfl) (by kernel_rfl) (by kernel_rfl) (fun _ _ _ h => h) (Or.inl ⟨by first | kernel_rfl | rfl, ?_⟩) (by assumption) ?_
  rotate_left
  · (intro wS hSw; (try dsimp only at hSw); have z6 := cell_ext hSw y6; have u0 := cell_ext hSw r0; have u1 := cell_ext hSw r1; have u2 := cell_ext hSw r2; (try go_simp); (try with_reducible rfl))
  try simp only [Act.put, s1, s2, s3]
  refine wpAnyH_take (i := 5) (oi := _) (v := ?_) rfl (by kernel_rfl) (by kernel_rfl) (by kernel_rfl) (fun _ _ _ h => h) (Or.inl ⟨by first | kernel_rfl | rfl, ?_⟩) (by assumption) ?_
  rotate_left
  · (intro wS hSw; (try dsimp only at hSw); have z6 := cell_ext hSw y6; have u0 := cell_ext hSw r0; have u1 := cell_ext hSw r1; have u2 := cell_ext hSw r2; (try go_simp); (try with_reducible rfl))
  try simp only [Act.put, s1, s2, s3]
  refine wpAnyH_take (i := 6) (oi := _) (v := ?_) rfl (by kernel_rfl) (by kernel_rfl) (by kernel_rfl) (fun _ _ _ h => h) (Or.inl ⟨by first | kernel_rfl | rfl, ?_⟩) (by assumption) ?_
  rotate_left
  · (intro wS hSw; (try dsimp only at hSw); have z6 := cell_ext hSw y6; have u0 := cell_ext hSw r0; have u1 := cell_ext hSw r1; have u2 := cell_ext hSw r2; (try go_simp); (try with_reducible rfl))
  try simp only [Act.put, s1, s2, s3]
  refine wpAnyH_take (i := 7) (oi := _) (v := ?_) rfl (by kernel_rfl) (by kernel_rfl) (by kernel_rfl) (fun _ _ _ h => h) (Or.inl ⟨by first | kernel_rfl | rfl, ?_⟩) (by assumption) ?_
  rotate_left
  · (intro wS hSw; (try dsimp only at hSw); have z6 := cell_ext hSw y6; have u0 := cell_ext hSw r0; have u1 := cell_ext hSw r1; have u2 := cell_ext hSw r2; (try go_simp); (try with_reducible rfl))
  try simp only [Act.put, s1, s2, s3]
  refine wpAnyH_take (i := 8) (oi := _) (v := ?_) rfl (by kernel_rfl) (by kernel_rfl) (by kernel_rfl) (fun _ _ _ h => h) (Or.inl ⟨by first | kernel_rfl | rfl, ?_⟩) (by assumption) ?_
  rotate_left
  · (intro wS hSw; (try dsimp only at hSw); have z6 := cell_ext hSw y6; have u0 := cell_ext hSw r0; have u1 := cell_ext hSw r1; have u2 := cell_ext hSw r2; (try go_simp); (try with_reducible rfl))
  try simp only [Act.put, s1, s2, s3]
  refine wpAnyH_take (i := 9) (oi := _) (v := ?_) rfl (by kernel_rfl) (by kernel_rfl) (by kernel_rfl) (fun _ _ _ h => h) (Or.inl ⟨by first | kernel_rfl | rfl, ?_⟩) (by assumption) ?_
  rotate_left
  · (intro wS hSw; (try dsimp only at hSw); have z6 := cell_ext hSw y6; have u0 := cell_ext hSw r0; have u1 := cell_ext hSw r1; have u2 := cell_ext hSw r2; (try go_simp); (try with_reducible rfl))
  try simp only [Act.put, s1, s2, s3]
  refine wpAnyH_take (i := 10) (oi := _) (v := ?_) rfl (by kernel_rfl) (by kernel_rfl) (by kernel_rfl) (fun _ _ _ h => h) (Or.inl ⟨by first | kernel_rfl | rfl, ?_⟩) (by assumption) ?_
  rotate_left
  · (intro wS hSw; (try dsimp only at hSw); have z6 := cell_ext hSw y6; have u0 := cell_ext hSw r0; have u1 := cell_ext hSw r1; have u2 := cell_ext hSw r2; (try go_simp); (try with_reducible rfl))
  try simp only [Act.put, s1, s2, s3]
  refine wpAnyH_take (i := 11) (oi := _) (v := ?_) rfl (by kernel_rfl) (by kernel_rfl) (by kernel_rfl) (fun _ _ _ h => h) (Or.inl ⟨by first | kernel_rfl | rfl, ?_⟩) (by assumption) ?_
  rotate_left
  · (intro wS hSw; (try dsimp only at hSw); have z6 := cell_ext hSw y6; have u0 := cell_ext hSw r0; have u1 := cell_ext hSw r1; have u2 := cell_ext hSw r2; (try go_simp); (try with_reducible rfl))
  try simp only [Act.put, s1, s2, s3]
  refine wpAnyH_take (i := 12) (oi := _) (v := ?_) rfl (by kernel_rfl) (by kernel_rfl) (by kernel_rfl) (fun _ _ _ h => h) (Or.inl ⟨by first | kernel_rfl | rfl, ?_⟩) (by assumption) ?_
  rotate_left
  · (intro wS hSw; (try dsimp only at hSw); have z6 := cell_ext hSw y6; have u0 := cell_ext hSw r0; have u1 := cell_ext hSw r1; have u2 := cell_ext hSw r2; (try go_simp); (try with_reducible rfl))
  try simp only [Act.put, s1, s2, s3]
  refine wpAnyH_take (i := 13) (oi := _) (v := ?_) rfl (by kernel_rfl) (by kernel_rfl) (by kernel_rfl) (fun _ _ _ h => h) (Or.inl ⟨by first | kernel_rfl | rfl, ?_⟩) (by assumption) ?_
  rotate_left
  · (intro wS hSw; (try dsimp only at hSw); have z6 := cell_ext hSw y6; have u0 := cell_ext hSw r0; have u1 := cell_ext hSw r1; have u2 := cell_ext hSw r2; (try go_simp); (try with_reducible rfl))
  try simp only [Act.put, s1, s2, s3]
  refine wpAnyH_take (i := 14) (oi := _) (v := ?_) rfl (by kernel_rfl) (by kernel_rfl) (by kernel_rfl) (fun _ _ _ h => h) (Or.inl ⟨by first | kernel_rfl | rfl, ?_⟩) (by assumption) ?_
  rotate_left
  · (intro wS hSw; (try dsimp only at hSw); have z6 := cell_ext hSw y6; have u0 := cell_ext hSw r0; have u1 := cell_ext hSw r1; have u2 := cell_ext hSw r2; (try go_simp); (try with_reducible rfl))
  try simp only [Act.put, s1, s2, s3]
  refine wpAnyH_ready (rs := [15]) (by kernel_rfl) (by simp) ?_
  refine AllReadyH.cons rfl (fun KQ hKQ => ?_) AllReadyH.nil
  go_simp
  refine hKQ.out _ _ ?_ (fun hHeld => ?_)
  · (try dsimp only); repeat (first | exact Ext.refl _ | assumption | refine Ext.drew ?_ | refine Ext.drewN ?_ _ | refine Ext.alloc ?_ _)
  clear hKQ KQ
  try simp only [Act.put, s1, s2, s3]
  refine wpAnyH_ready (rs := [16]) (by kernel_rfl) (by simp) ?_
  refine AllReadyH.cons rfl (fun KQ hKQ => ?_) AllReadyH.nil
  go_simp
  refine hKQ.out _ _ ?_ (fun hHeld => ?_)
  · (try dsimp only); repeat (first | exact Ext.refl _ | assumption | refine Ext.drew ?_ | refine Ext.drewN ?_ _ | refine Ext.alloc ?_ _)
  clear hKQ KQ
  try simp only [Act.put, s1, s2, s3]
  refine wpAnyH_done (by kernel_rfl) ?_ _
  go_wp2
  go_ret
  have c1 : IntKind.i64.wrap (a1 / x.sz) = a1 / x.sz := by rw [IntKind.wrap_i64]; omega
  have c2 : IntKind.i64.wrap (a2 / x.sz) = a2 / x.sz := by rw [IntKind.wrap_i64]; omega
  rw [c1, c2]
  exact .inl ⟨[a0, a1 / x.sz, a2 / x.sz], _, _, HR.out, rfl, zx_new3 _ _ _ _, kk.trans (by repeat (first | exact Ext.refl _ | assumption | refine Ext.drew ?_ | refine Ext.drewN ?_ _ | refine Ext.alloc ?_ _))⟩
end Go.Proofs.Ytdnjjpkajiehgaa

/-
  The document's form and shape of any node.
-/
namespace Go.Proofs.Ytdnjjpkajiehgaa
open Go.RowKit
set_option linter.unusedVariables false
set_option maxRecDepth 100000

theorem rform0 (x : Nd) (As Ad Ab : Option Addr) (cs cd cb : Nat) (w : World) (hX : Hid (NdX w x As Ad Ab cs cd cb)) (n : Nat) (hk : Hid (x.k ≠ 1 ∧ x.k ≠ 2 ∧ x.k ≠ 3 ∧ x.k ≠ 4 ∧ x.k ≠ 5 ∧ x.k ≠ 6 ∧ x.k ≠ 7 ∧ x.k ≠ 8 ∧ x.k ≠ 9)) :
    Calls Try.prog 46 #[.agg #[.int .i64 x.k, .int .i64 x.a, .int .i64 x.b, .slice As x.sh.length cs, .int .i64 x.lo, .int .i64 x.hi, .int .i64 x.sz, .slice Ad x.da.length cd, .slice Ab x.bi.length cb], .int .i64 (n : Int)] w fun e w' => e = .returned (.bool (formB x n)) ∧ Ext w w' := by
  obtain ⟨y0, y1, y2, y3, y4, y5, y6, y7, y8⟩ := nine_at w (.int .i64 x.k) (.int .i64 x.a) (.int .i64 x.b) (.slice As x.sh.length cs) (.int .i64 x.lo) (.int .i64 x.hi) (.int .i64 x.sz) (.slice Ad x.da.length cd) (.slice Ab x.bi.length cb) 40
  have kk : Ext w (w.alloc (.cells #[.int .i64 x.k, .int .i64 x.a, .int .i64 x.b, .slice As x.sh.length cs, .int .i64 x.lo, .int .i64 x.hi, .int .i64 x.sz, .slice Ad x.da.length cd, .slice Ab x.bi.length cb] 40)) := (Ext.refl w).alloc _
  have FB := Lib.hid (show formB x n = false by unfold formB mayL; simp [hk.out])
  go_enter Try.func46, Try.ntmps46
  go_wp2_with fail
  generalize w.alloc (.cells #[.int .i64 x.k, .int .i64 x.a, .int .i64 x.b, .slice As x.sh.length cs, .int .i64 x.lo, .int .i64 x.hi, .int .i64 x.sz, .slice Ad x.da.length cd, .slice Ab x.bi.length cb] 40) = V at *
  refine (may0 x.k hk.out V).mono ?_
  rintro e1 w1 ⟨rfl, rfl⟩
  have heq := Lib.run_eql_slice_nil (P := Try.prog) w1 105 4 none 0 0 0 0 Try.underlying105
  go_wp2
  go_ret
  exact ⟨by show Ending.returned (.bool false) = _; rw [FB.out], kk⟩
theorem rform_any (x : Nd) (As Ad Ab : Option Addr) (cs cd cb : Nat) (w : World) (hX : Hid (NdX w x As Ad Ab cs cd cb)) (n : Nat) (hn : n ≤ 100000) :
    Calls Try.prog 46 #[.agg #[.int .i64 x.k, .int .i64 x.a, .int .i64 x.b, .slice As x.sh.length cs, .int .i64 x.lo, .int .i64 x.hi, .int .i64 x.sz, .slice Ad x.da.length cd, .slice Ab x.bi.length cb], .int .i64 (n : Int)] w fun e w' => e = .returned (.bool (formB x n)) ∧ Ext w w' := by
  by_cases k1 : x.k = 1
  · exact rform1 x As Ad Ab cs cd cb w hX n hn (Lib.hid k1)
  by_cases k2 : x.k = 2
  · exact rform2 x As Ad Ab cs cd cb w hX n hn (Lib.hid k2)
  by_cases k3 : x.k = 3
  · exact rform3 x As Ad Ab cs cd cb w hX n hn (Lib.hid k3)
  by_cases k4 : x.k = 4
  · exact rform4 x As Ad Ab cs cd cb w hX n hn (Lib.hid k4)
  by_cases k5 : x.k = 5
  · exact rform5 x As Ad Ab cs cd cb w hX n hn (Lib.hid k5)
  by_cases k6 : x.k = 6
  · exact rform6 x As Ad Ab cs cd cb w hX n hn (Lib.hid k6)
  by_cases k7 : x.k = 7
  · exact rform7 x As Ad Ab cs cd cb w hX n hn (Lib.hid k7)
  by_cases k8 : x.k = 8
  · exact rform8 x As Ad Ab cs cd cb w hX n hn (Lib.hid k8)
  by_cases k9 : x.k = 9
  · exact rform9 x As Ad Ab cs cd cb w hX n hn (Lib.hid k9)
  exact rform0 x As Ad Ab cs cd cb w hX n (Lib.hid ⟨k1, k2, k3, k4, k5, k6, k7, k8, k9⟩)
theorem rshape_any (x : Nd) (As Ad Ab : Option Addr) (cs cd cb : Nat) (w : World) (hX : Hid (NdX w x As Ad Ab cs cd cb)) (Ah : Option Addr) (ch : Nat) (shs : List (List Int)) (hA : Hid (SX w Ah ch shs)) (hr : Hid (Rights shs)) (hl : shs.length ≤ 100000) (hf : Hid (formB x shs.length = true)) :
    Calls Try.prog 47 #[.agg #[.int .i64 x.k, .int .i64 x.a, .int .i64 x.b, .slice As x.sh.length cs, .int .i64 x.lo, .int .i64 x.hi, .int .i64 x.sz, .slice Ad x.da.length cd, .slice Ab x.bi.length cb], .slice Ah shs.length ch] w fun e w' => RSh w (shapeO x shs) e w' := by
  by_cases k1 : x.k = 1
  · exact rshape1 x As Ad Ab cs cd cb w hX Ah ch shs hA hr hl hf (Lib.hid k1)
  by_cases k2 : x.k = 2
  · exact rshape2 x As Ad Ab cs cd cb w hX Ah ch shs hA hr hl hf (Lib.hid k2)
  by_cases k3 : x.k = 3
  · exact rshape3 x As Ad Ab cs cd cb w hX Ah ch shs hA hr hl hf (Lib.hid k3)
  by_cases k4 : x.k = 4
  · exact rshape4 x As Ad Ab cs cd cb w hX Ah ch shs hA hr hl hf (Lib.hid k4)
  by_cases k5 : x.k = 5
  · exact rshape5 x As Ad Ab cs cd cb w hX Ah ch shs hA hr hl hf (Lib.hid k5)
  by_cases k6 : x.k = 6
  · exact rshape6 x As Ad Ab cs cd cb w hX Ah ch shs hA hr hl hf (Lib.hid k6)
  by_cases k7 : x.k = 7
  · exact rshape7 x As Ad Ab cs cd cb w hX Ah ch shs hA hr hl hf (Lib.hid k7)
  by_cases k8 : x.k = 8
  · exact rshape8 x As Ad Ab cs cd cb w hX Ah ch shs hA hr hl hf (Lib.hid k8)
  by_cases k9 : x.k = 9
  · exact rshape9 x As Ad Ab cs cd cb w hX Ah ch shs hA hr hl hf (Lib.hid k9)
  exact absurd hf.out (by unfold formB mayL; simp [k1, k2, k3, k4, k5, k6, k7, k8, k9])
end Go.Proofs.Ytdnjjpkajiehgaa

/-
  The document's Check of any graph.
-/
namespace Go.Proofs.Ytdnjjpkajiehgaa
open Go.RowKit
set_option linter.unusedVariables false
set_option maxRecDepth 100000

/-- What lies at A lies in a block of numbers. -/
def TyZ (w : World) (A : Option Addr) : Prop := ∀ ad, A = some ad → ∃ cur fz, w.heap[ad.block]? = some (.cells cur 3 fz)
theorem TyZ.ext {w w' : World} {A : Option Addr} (h : TyZ w A) (k : Ext w w') : TyZ w' A := fun ad e => by
  obtain ⟨cur, fz, hc⟩ := h ad e
  exact ⟨cur, fz, (k.block _ (Array.getElem?_eq_some_iff.1 hc).1).trans hc⟩
theorem zx_two (w : World) (a b : Int) : ZX (w.alloc (.cells #[.int .i64 a, .int .i64 b] 3)) (some ⟨w.heap.size, 0, none⟩) 2 2 [a, b] :=
  ⟨rfl, Nat.le_refl _, fun _ => ⟨_, rfl, fun j x hx => by
    rcases j with _ | _ | j
    · simp at hx
      subst hx
      rw [Addr.add_lit]
      simp
    · simp at hx
      subst hx
      rw [Addr.add_lit]
      simp
    · simp at hx⟩⟩
theorem rdZ_ty {w : World} {B : Nat} {v : Value} {n : Nat} {zs : List Int} (h : w.ownsRow B 3 1 v n (i64s zs)) : ∃ A c, v = .slice A n c ∧ ZX w A n c zs ∧ TyZ w A ∧ (∀ ad, A = some ad → B ≤ ad.block) := by
  have h' := h
  obtain ⟨A, c, rfl, h1, h2⟩ := rdZ_of_own h
  refine ⟨A, c, rfl, h1, fun ad e => ?_, h2⟩
  rcases h'.2 with ⟨e1, _⟩ | ⟨g, cap, cur, e1, hg, hh, _⟩
  · injection e1 with e1
    rw [e1] at e
    cases e
  · injection e1 with e1
    rw [e1] at e
    injection e with e
    subst e
    exact ⟨cur, _, hh⟩
theorem wpList_copyT {w0 : World} {ops : Array Oper} {rest : List Oper} {o : Oper} {a : Act} {Q : Exit → Act → World → Prop} (hgd : o.guard = none) (s x : Operand)
    (ho : o.op = .call { callee := .builtin .append, args := #[s, x], argTypes := #[38, 38] })
    (g : Nat) (hg : g = w0.heap.size) (ad : Addr) (n c : Nat) (xs : List Int) (hs : a.eval s = .slice (some ⟨g, 0, none⟩) 0 0) (hx : a.eval x = .slice (some ad) n c) (hX : ZX w0 (some ad) n c xs) (hn : n ≤ 100000)
    (h : ∀ A2 c2 w', ZX w' A2 n c2 xs → TyZ w' A2 → Frsh w0.heap.size A2 → Ext w0 w' → wpList Try.prog ops Q rest (a.put o.dst (.slice A2 n c2)) w') : wpList Try.prog ops Q (o :: rest) a (w0.alloc (.cells #[] 3)) := by
  obtain ⟨i0, hi, hz0, hz1, hz2⟩ := info_partsJ info_intJ
  subst hg
  have hX' : ZX (w0.alloc (.cells #[] 3)) (some ad) n c xs := hX.ext ((Ext.refl w0).alloc _)
  refine wpList_append_own _ hgd s x 38 ho w0.heap.size 3 i0 (.int .i64 0) 1 8 Try.underlying38 hi hz0 hz1 hz2 rfl (by decide) _ _ _ hs (own_emptyZ w0) ad n c (i64s xs) hx (by unfold i64s; rw [List.length_map, hX.len]; omega) (fun j u hu => ?_) (fun u hu => by obtain ⟨_, _, rfl⟩ := List.mem_map.1 hu; rfl) (by unfold maxLen; omega) (by omega) (by simp) ?_
  · unfold i64s at hu
    rw [List.getElem?_map] at hu
    obtain ⟨z, hz, rfl⟩ := Option.map_eq_some_iff.1 hu
    have hl := (List.getElem?_eq_some_iff.1 hz).1
    obtain ⟨ad', e, hc⟩ := hX'.cells (by have := hX.len; omega)
    injection e with e
    subst e
    exact hc j z hz
  · intro v2 w2 hown2 hgrow2 _
    obtain ⟨A2, c2, rfl, hr2, ht2, hf2⟩ := rdZ_ty (zs := xs) (n := n) (by simpa using hown2)
    refine h A2 c2 w2 hr2 ht2 hf2 ?_
    refine Below.grown ((Ext.refl w0).alloc _) hgrow2 (by simp) (fun k e => ?_)
    simp [Value.ownBlock] at e
    omega
theorem one_atJ {w : World} {g : Nat} {t : TypeId} {u : Value} (hg : g = w.heap.size) : ∀ (j : Nat) (x : Value), [u][j]? = some x → (w.alloc (.cells #[u] t)).cell? ((⟨g, 0, none⟩ : Addr).add j) = some x := by
  intro j x hx
  subst hg
  rcases j with _ | j
  · simp at hx; subst hx; simp [Addr.add]
  · simp at hx
theorem one_sliceJ {A : Option Addr} {n c : Nat} : ∀ u ∈ [Value.slice A n c], u.oneCell' = true := by
  intro u hu; simp at hu; subst hu; rfl
/-- Shapes in a list that is being made by appending, from block B on. -/
def GS (B : Nat) (w : World) (v : Value) (shs : List (List Int)) : Prop :=
  ∃ us, w.ownsRow B 38 1 v shs.length us ∧ ∀ (j : Nat) (s : List Int), shs[j]? = some s → ∃ A d, us[j]? = some (.slice A s.length d) ∧ ZX w A s.length d s ∧ TyZ w A
theorem GS.nil (B : Nat) (w : World) : GS B w (.slice none 0 0) [] := ⟨[], World.ownsRow_nil _ _ _ _, fun j s h => by simp at h⟩
theorem GS.sx {B : Nat} {w : World} {v : Value} {shs : List (List Int)} (h : GS B w v shs) : ∃ A c, v = .slice A shs.length c ∧ SX w A c shs := by
  obtain ⟨us, ho, hu⟩ := h
  have ho' := ho
  rcases ho.2 with ⟨rfl, e⟩ | ⟨g, cap, cur, rfl, hg, hh, hle, _⟩
  · exact ⟨none, 0, by rw [e], ⟨by omega, fun hn => by omega⟩⟩
  · refine ⟨_, cap, rfl, ⟨hle, fun hn => ⟨_, rfl, fun j s hs => ?_⟩⟩⟩
    obtain ⟨A, d, h1, h2, _⟩ := hu j s hs
    exact ⟨A, d, World.ownsRow.cells (g := g) ho' rfl j _ h1, h2⟩
/-- What stays where memory has only grown. -/
theorem GS.ext {B : Nat} {w w' : World} {v : Value} {shs : List (List Int)} (h : GS B w v shs) (k : Ext w w') : GS B w' v shs := by
  obtain ⟨us, ho, hu⟩ := h
  refine ⟨us, ⟨ho.1, ?_⟩, fun j s hs => ?_⟩
  · rcases ho.2 with h0 | ⟨g, cap, cur, e, hg, hh, h1⟩
    · exact .inl h0
    · exact .inr ⟨g, cap, cur, e, hg, (k.block g (Array.getElem?_eq_some_iff.1 hh).1).trans hh, h1⟩
  · obtain ⟨A, d, h1, h2, h3⟩ := hu j s hs
    exact ⟨A, d, h1, h2.ext k, h3.ext k⟩
/-- A list of numbers lies aside of a row of lists that grows. -/
theorem ZX.grown {B : Nat} {w w' : World} {v : Value} {n m c : Nat} {us : List Value} {A : Option Addr} {zs : List Int} (h : ZX w A n c zs) (ht : TyZ w A) (ho : w.ownsRow B 38 1 v m us) (hg : w.grownBy w' v.ownBlock) : ZX w' A n c zs ∧ TyZ w' A := by
  have hb : ∀ ad, A = some ad → w'.heap[ad.block]? = w.heap[ad.block]? := fun ad e => by
    obtain ⟨cur, fz, hc⟩ := ht ad e
    refine hg.block _ (Array.getElem?_eq_some_iff.1 hc).1 (fun e2 => ?_)
    rcases ho.2 with ⟨rfl, _⟩ | ⟨g, cap, cur2, rfl, _, hh, _⟩
    · simp [Value.ownBlock] at e2
    · simp [Value.ownBlock] at e2
      subst e2
      rw [hc] at hh
      injection hh with hh
      injection hh with _ hh _
      exact absurd hh (by decide)
  refine ⟨⟨h.len, h.room, fun hn => ?_⟩, fun ad e => ?_⟩
  · obtain ⟨ad, e, hc⟩ := h.cells hn
    refine ⟨ad, e, fun j z hz => ?_⟩
    have hbk : (ad.add j).block = ad.block := by unfold Addr.add; split <;> rfl
    rw [World.cell?_of_block (w := w) (by rw [hbk]; exact hb ad e)]
    exact hc j z hz
  · obtain ⟨cur, fz, hc⟩ := ht ad e
    exact ⟨cur, fz, (hb ad e).trans hc⟩
theorem near_no2 {x : Nd} (h : (near1 x.lo && (near1 x.hi && true)) = false) : nearOK x = false := by
  unfold nearOK
  cases h1 : near1 x.lo <;> cases h2 : near1 x.hi <;> simp_all
theorem near_yes {x : Nd} (h0 : x.lo ≤ x.hi) (h : (near1 x.lo && (near1 x.hi && true)) = true) (h3 : nearB x.da = true) (h4 : nearB x.bi = true) : nearOK x = true := by
  unfold nearOK
  simp_all
set_option maxHeartbeats 8000000 in
theorem rcheck_any (nodes : List Nd) (A : Option Addr) (c : Nat) (out : Int) (w : World) (hG : Hid (GX w A c nodes)) (hn : nodes.length ≤ 1000) :
    Calls Try.prog 19 #[.agg #[.slice A nodes.length c, .int .i64 out]] w fun e w' => ChkPost w nodes.length (checkR nodes out) e w' := by
  obtain ⟨z0, hi, hz0, hz1, hz2⟩ := info_partsJ info_shJ
  have q0 : (w.alloc (.cells #[.slice A nodes.length c, .int .i64 out] 26)).cell? ⟨w.heap.size, 0, none⟩ = some (.slice A nodes.length c) := by simp
  have q1 : (w.alloc (.cells #[.slice A nodes.length c, .int .i64 out] 26)).cell? ⟨w.heap.size, 1, none⟩ = some (.int .i64 out) := by simp
  by_cases b3 : (nodes.length : Int) < 1
  · have HR := Lib.hid (show checkR nodes out = .error 3 by unfold checkR; rw [if_pos (by omega)])
    go_enter Try.func19, Try.ntmps19
    go_wp2
    go_ret2
    exact .inr ⟨3, HR.out, by omega, rfl, (Ext.refl w).alloc _⟩
  by_cases b0 : (24 : Int) < (nodes.length : Int)
  · have HR := Lib.hid (show checkR nodes out = .error 3 by unfold checkR; rw [if_pos (by omega)])
    go_enter Try.func19, Try.ntmps19
    go_wp2
    go_ret2
    exact .inr ⟨3, HR.out, by omega, rfl, (Ext.refl w).alloc _⟩
  by_cases b1 : out < 0
  · have HR := Lib.hid (show checkR nodes out = .error 3 by unfold checkR; rw [if_pos (by omega)])
    go_enter Try.func19, Try.ntmps19
    go_wp2
    go_ret2
    exact .inr ⟨3, HR.out, by omega, rfl, (Ext.refl w).alloc _⟩
  by_cases b2 : (nodes.length : Int) ≤ out
  · have HR := Lib.hid (show checkR nodes out = .error 3 by unfold checkR; rw [if_pos (by omega)])
    go_enter Try.func19, Try.ntmps19
    go_wp2
    go_ret2
    exact .inr ⟨3, HR.out, by omega, rfl, (Ext.refl w).alloc _⟩
  have HR := Lib.hid (show checkR nodes out = chkR nodes [] by unfold checkR; rw [if_neg (by omega)])
  have HK := Lib.hid (show Ext w (w.alloc (.cells #[.slice A nodes.length c, .int .i64 out] 26)) from (Ext.refl w).alloc _)
  go_enter Try.func19, Try.ntmps19
  go_wp2_with fail
  go_loopw [4, 34] (fun v i wr => ∃ (k' : Nat) (shs : List (List Int)), k' ≤ nodes.length ∧ i = .int .i64 (k' : Int) ∧ shs.length = k' ∧ Hid (GS w.heap.size wr v shs) ∧ Hid (Rights shs) ∧ Hid (Ext w wr) ∧ Hid (chkR nodes [] = chkR (nodes.drop k') shs)) (fun _ i _ => nodes.length - (intOf i).toNat)
  case atStart =>
    exact ⟨0, [], by omega, rfl, rfl, Lib.hid (GS.nil _ _), Lib.hid (fun s h => by cases h), HK, Lib.hid rfl⟩
  case round =>
    obtain ⟨k', shs, hk, rfl, rfl, hS, hR, hE, hP⟩ := hrel
    by_cases hlt : shs.length < nodes.length
    · obtain ⟨x, hx⟩ : ∃ x, nodes[shs.length]? = some x := ⟨_, List.getElem?_eq_getElem hlt⟩
      obtain ⟨ad, rfl, hc⟩ := (hG.out.ext hE.out).cells (by omega)
      obtain ⟨As, Ad, Ab, cs, cd, cb, hnd, hcell⟩ := hc shs.length x hx
      have HND := Lib.hid hnd
      have HX := Lib.hid hx
      obtain ⟨Ah, ch, rfl, hsx⟩ := hS.out.sx
      have HSX := Lib.hid hsx
      clear hc hnd hx hsx
      have j0 : (0 : Int) ≤ (shs.length : Int) := by omega
      have j1 : (shs.length : Int) < (nodes.length : Int) := by omega
      have c0 : wr.cell? (ad.add (shs.length * 9)) = some (.int .i64 x.k) := by have := hcell 0 (.int .i64 x.k) rfl; rw [add0J] at this; exact this
      have c1 : wr.cell? ⟨(ad.add (shs.length * 9)).block, (ad.add (shs.length * 9)).off + 1, none⟩ = some (.int .i64 x.a) := hcell 1 (.int .i64 x.a) rfl
      have c2 : wr.cell? ⟨(ad.add (shs.length * 9)).block, (ad.add (shs.length * 9)).off + 2, none⟩ = some (.int .i64 x.b) := hcell 2 (.int .i64 x.b) rfl
      have c3 : wr.cell? ⟨(ad.add (shs.length * 9)).block, (ad.add (shs.length * 9)).off + 3, none⟩ = some (.slice As x.sh.length cs) := hcell 3 (.slice As x.sh.length cs) rfl
      have c4 : wr.cell? ⟨(ad.add (shs.length * 9)).block, (ad.add (shs.length * 9)).off + 4, none⟩ = some (.int .i64 x.lo) := hcell 4 (.int .i64 x.lo) rfl
      have c5 : wr.cell? ⟨(ad.add (shs.length * 9)).block, (ad.add (shs.length * 9)).off + 5, none⟩ = some (.int .i64 x.hi) := hcell 5 (.int .i64 x.hi) rfl
      have c6 : wr.cell? ⟨(ad.add (shs.length * 9)).block, (ad.add (shs.length * 9)).off + 6, none⟩ = some (.int .i64 x.sz) := hcell 6 (.int .i64 x.sz) rfl
      have c7 : wr.cell? ⟨(ad.add (shs.length * 9)).block, (ad.add (shs.length * 9)).off + 7, none⟩ = some (.slice Ad x.da.length cd) := hcell 7 (.slice Ad x.da.length cd) rfl
      have c8 : wr.cell? ⟨(ad.add (shs.length * 9)).block, (ad.add (shs.length * 9)).off + 8, none⟩ = some (.slice Ab x.bi.length cb) := hcell 8 (.slice Ab x.bi.length cb) rfl
      clear hcell
      obtain ⟨m0, m1, m2, m3, m4, m5, m6, m7, m8⟩ := nine_at wr (.int .i64 x.k) (.int .i64 x.a) (.int .i64 x.b) (.slice As x.sh.length cs) (.int .i64 x.lo) (.int .i64 x.hi) (.int .i64 x.sz) (.slice Ad x.da.length cd) (.slice Ab x.bi.length cb) 40
      have ka : Ext wr (wr.alloc (.cells #[.int .i64 x.k, .int .i64 x.a, .int .i64 x.b, .slice As x.sh.length cs, .int .i64 x.lo, .int .i64 x.hi, .int .i64 x.sz, .slice Ad x.da.length cd, .slice Ab x.bi.length cb] 40)) := (Ext.refl wr).alloc _
      go_wp2_with fail
      generalize hWW : wr.alloc (.cells #[.int .i64 x.k, .int .i64 x.a, .int .i64 x.b, .slice As x.sh.length cs, .int .i64 x.lo, .int .i64 x.hi, .int .i64 x.sz, .slice Ad x.da.length cd, .slice Ab x.bi.length cb] 40) = W at *
      clear hWW c0 c1 c2 c3 c4 c5 c6 c7 c8
      have KA := Lib.hid ka
      clear ka
      refine (rform_any x As Ad Ab cs cd cb W (Lib.hid (HND.out.ext KA.out)) shs.length (by omega)).mono ?_
      rintro e1 w1 ⟨rfl, k1⟩
      replace m0 := cell_ext k1 m0
      replace m1 := cell_ext k1 m1
      replace m2 := cell_ext k1 m2
      replace m3 := cell_ext k1 m3
      replace m4 := cell_ext k1 m4
      replace m5 := cell_ext k1 m5
      replace m6 := cell_ext k1 m6
      replace m7 := cell_ext k1 m7
      replace m8 := cell_ext k1 m8
      replace KA := Lib.hid (KA.out.trans k1)
      clear k1
      obtain ⟨b, hb⟩ : ∃ b, formB x shs.length = b := ⟨_, rfl⟩
      rw [hb]
      cases b
      · have HN := Lib.hid (node_form hb)
        clear hb
        go_wp2
        go_ret2
        exact .inr ⟨3, by rw [HR.out, hP.out]; exact chk_err HX.out HN.out, by omega, rfl, hE.out.trans KA.out⟩
      have HF := Lib.hid hb
      clear hb
      go_wp2_with fail
      refine (rshape_any x As Ad Ab cs cd cb w1 (Lib.hid (HND.out.ext KA.out)) Ah ch shs (Lib.hid (HSX.out.ext KA.out)) hR (by omega) HF).mono ?_
      rintro e2 w2 (⟨s, B, d, h1, rfl, hz, k1⟩ | ⟨h1, rfl, k1⟩)
      rotate_left
      · have HN := Lib.hid (node_none HF.out h1)
        have heq := Lib.run_eql_slice_nil (P := Try.prog) w2 38 3 none 0 0 0 0 Try.underlying38
        have K1 := Lib.hid k1
        clear h1 k1
        go_wp2
        go_ret2
        exact .inr ⟨4, by rw [HR.out, hP.out]; exact chk_err HX.out HN.out, by omega, rfl, hE.out.trans (KA.out.trans K1.out)⟩
      replace m0 := cell_ext k1 m0
      replace m1 := cell_ext k1 m1
      replace m2 := cell_ext k1 m2
      replace m3 := cell_ext k1 m3
      replace m4 := cell_ext k1 m4
      replace m5 := cell_ext k1 m5
      replace m6 := cell_ext k1 m6
      replace m7 := cell_ext k1 m7
      replace m8 := cell_ext k1 m8
      replace KA := Lib.hid (KA.out.trans k1)
      have HZ := Lib.hid hz
      have HSO := Lib.hid h1
      clear h1 hz k1
      have heq := Lib.run_eql_slice_nil (P := Try.prog) w2 38 3 (some B) s.length d 0 0 Try.underlying38
      go_wp2_with fail
      refine (near_any Ad x.da.length cd x.da w2 (Lib.hid (HND.out.da.ext KA.out)) HND.out.lda).mono ?_
      rintro e3 w3 ⟨rfl, rfl⟩
      obtain ⟨b, hb⟩ : ∃ b, nearB x.da = b := ⟨_, rfl⟩
      rw [hb]
      have B3 := Lib.hid hb
      clear hb
      cases b
      · have HN := Lib.hid (node_far HF.out HSO.out (show nearOK x = false by rw [nearOK, B3.out, Bool.false_and, Bool.and_false, Bool.and_false, Bool.and_false]))
        go_wp2
        go_ret2
        exact .inr ⟨5, by rw [HR.out, hP.out]; exact chk_err HX.out HN.out, by omega, rfl, hE.out.trans KA.out⟩
      go_wp2_with fail
      refine (near_any Ab x.bi.length cb x.bi _ (Lib.hid (HND.out.bi.ext KA.out)) HND.out.lbi).mono ?_
      rintro e3 w3 ⟨rfl, rfl⟩
      obtain ⟨b, hb⟩ : ∃ b, nearB x.bi = b := ⟨_, rfl⟩
      rw [hb]
      have B4 := Lib.hid hb
      clear hb
      cases b
      · have HN := Lib.hid (node_far HF.out HSO.out (show nearOK x = false by rw [nearOK, B4.out, Bool.and_false, Bool.and_false, Bool.and_false, Bool.and_false]))
        go_wp2
        go_ret2
        exact .inr ⟨5, by rw [HR.out, hP.out]; exact chk_err HX.out HN.out, by omega, rfl, hE.out.trans KA.out⟩
      go_wp2_with fail
      refine (near_any (some ⟨w3.heap.size, 0, none⟩) 2 2 [x.lo, x.hi] _ (Lib.hid (zx_two w3 x.lo x.hi)) (by decide)).mono ?_
      rintro e4 w4 ⟨rfl, rfl⟩
      obtain ⟨b, hb⟩ : ∃ b, nearB [x.lo, x.hi] = b := ⟨_, rfl⟩
      rw [hb]
      have B5 := Lib.hid (show (near1 x.lo && (near1 x.hi && true)) = b from hb)
      clear hb
      cases b
      · have HN := Lib.hid (node_far HF.out HSO.out (near_no2 B5.out))
        go_wp2
        go_ret2
        exact .inr ⟨5, by rw [HR.out, hP.out]; exact chk_err HX.out HN.out, by omega, rfl, hE.out.trans (KA.out.trans ((Ext.refl _).alloc _))⟩
      have k3 : Ext w3 (w3.alloc (.cells #[.int .i64 x.lo, .int .i64 x.hi] 3)) := (Ext.refl w3).alloc _
      replace m0 := cell_ext k3 m0
      replace m1 := cell_ext k3 m1
      replace m2 := cell_ext k3 m2
      replace m3 := cell_ext k3 m3
      replace m4 := cell_ext k3 m4
      replace m5 := cell_ext k3 m5
      replace m6 := cell_ext k3 m6
      replace m7 := cell_ext k3 m7
      replace m8 := cell_ext k3 m8
      by_cases hlo : x.hi < x.lo
      · have HN := Lib.hid (node_far HF.out HSO.out (show nearOK x = false by rw [nearOK, decide_eq_false (show ¬ x.lo ≤ x.hi by omega), Bool.false_and]))
        go_wp2
        go_ret2
        exact .inr ⟨5, by rw [HR.out, hP.out]; exact chk_err HX.out HN.out, by omega, rfl, hE.out.trans (KA.out.trans k3)⟩
      have HN := Lib.hid (node_ok HF.out HSO.out (near_yes (show x.lo ≤ x.hi by omega) B5.out B3.out B4.out))
      have HRT := Lib.hid (node_right hR.out HN.out)
      replace KA := Lib.hid (KA.out.trans k3)
      have HZ3 := Lib.hid (HZ.out.ext k3)
      have hs3 := (entN_len HRT.out).2
      clear k3
      generalize w3.alloc (.cells #[.int .i64 x.lo, .int .i64 x.hi] 3) = w4 at *
      have hKS : Hid (∃ us, w4.ownsRow w.heap.size 38 1 (.slice Ah shs.length ch) shs.length us ∧ ∀ (j : Nat) (s : List Int), shs[j]? = some s → ∃ A d, us[j]? = some (.slice A s.length d) ∧ ZX w4 A s.length d s ∧ TyZ w4 A) := Lib.hid (hS.out.ext KA.out)
      go_wp2_with (at_builtin; first
        | go_loud (refine wpList_copyT rfl _ _ rfl w4.heap.size rfl B s.length d s rfl rfl HZ3.out (by omega) ?_; intro A2 c2 w5 h5 t5 f5 k5; have H5 := Lib.hid (And.intro h5 t5); have K5 := Lib.hid (KA.out.trans k5); have hw5 := (hE.out.trans (KA.out.trans k5)).size; have hgs5 : GS w.heap.size w5 (.slice Ah shs.length ch) shs := GS.ext hKS.out k5; obtain ⟨us, ho, hu⟩ := hgs5; have HO := Lib.hid ho; have HU := Lib.hid hu; clear h5 t5 f5 k5 ho hu)
        | go_loud (refine wpList_append_own _ rfl _ _ 31 rfl w.heap.size 38 z0 (.slice none 0 0) 1 24 Try.underlying31 hi hz0 hz1 hz2 rfl (by decide) _ _ _ rfl (HO.out.alloc _) ⟨_, 0, none⟩ 1 1 [.slice A2 s.length c2] rfl rfl (one_atJ (by simp)) one_sliceJ (by unfold maxLen; omega) (by omega) (by simp; omega) ?_; intro v3 w6 hown3 hgrow3 _))
      refine ⟨⟨shs.length + 1, shs ++ [s], by omega, by go_num, by simp, Lib.hid ?_, Lib.hid ?_, Lib.hid ?_, Lib.hid (hP.out.trans (chk_ok HX.out HN.out))⟩, by simp [intOf]; omega⟩
      · have k6 : Ext w5 (w5.alloc (.cells #[.slice A2 s.length c2] 38)) := (Ext.refl w5).alloc _
        have ho6 := HO.out.alloc (.cells #[.slice A2 s.length c2] 38)
        have hl : us.length = shs.length := by have := HO.out.1; omega
        refine ⟨us ++ [.slice A2 s.length c2], by simpa using hown3, fun j u hj => ?_⟩
        rcases Nat.lt_or_ge j shs.length with g | g
        · rw [List.getElem?_append_left g] at hj
          obtain ⟨A9, d9, e1, e2, e3⟩ := HU.out j u hj
          obtain ⟨f1, f2⟩ := (e2.ext k6).grown (e3.ext k6) ho6 hgrow3
          exact ⟨A9, d9, by rw [List.getElem?_append_left (by omega)]; exact e1, f1, f2⟩
        · obtain rfl : j = shs.length := by
            have := (List.getElem?_eq_some_iff.1 hj).1
            simp at this
            omega
          rw [List.getElem?_append_right (Nat.le_refl _)] at hj
          simp at hj
          subst hj
          obtain ⟨f1, f2⟩ := (H5.out.1.ext k6).grown (H5.out.2.ext k6) ho6 hgrow3
          exact ⟨A2, c2, by rw [List.getElem?_append_right (by omega), hl]; simp, f1, f2⟩
      · intro u hu2
        rcases List.mem_append.1 hu2 with g | g
        · exact hR.out u g
        · simp at g
          subst g
          exact HRT.out
      · refine Below.grown ((hE.out.trans K5.out).alloc _) hgrow3 (by simp; omega) (fun k e => ?_)
        exact (HO.out.lt k e).1
    · have hkn : shs.length = nodes.length := by omega
      have hP2 := Lib.hid (show checkR nodes out = .ok shs by rw [HR.out, hP.out, List.drop_eq_nil_of_le (by omega)]; rfl)
      obtain ⟨Ah, ch, rfl, hsx⟩ := hS.out.sx
      have HSX := Lib.hid hsx
      clear hsx
      go_wp2
      go_ret2
      exact .inl ⟨shs, Ah, ch, hP2.out, rfl, HSX.out, hR.out, hkn, hE.out⟩
end Go.Proofs.Ytdnjjpkajiehgaa

/-
  The document's Check of any graph, which tells in which kind of blocks the shapes lie.
-/
namespace Go.Proofs.Ytdnjjpkajiehgaa
open Go.RowKit
set_option linter.unusedVariables false
set_option maxRecDepth 100000

/-- What Check answers: the shapes lie in rows of their own. -/
def ChkPostG (w : World) (n : Nat) (r : Except Nat (List (List Int))) (e : Ending) (w' : World) : Prop :=
  (∃ (shs : List (List Int)) (A : Option Addr) (c : Nat), r = .ok shs ∧ e = .returned (.tuple #[.slice A shs.length c, .int .i64 0]) ∧ GS w.heap.size w' (.slice A shs.length c) shs ∧ Rights shs ∧ shs.length = n ∧ Ext w w') ∨
    ∃ m : Nat, r = .error m ∧ 0 < m ∧ e = .returned (.tuple #[.slice none 0 0, .int .i64 (m : Int)]) ∧ Ext w w'
set_option maxHeartbeats 8000000 in
theorem rcheckG_any (nodes : List Nd) (A : Option Addr) (c : Nat) (out : Int) (w : World) (hG : Hid (GX w A c nodes)) (hn : nodes.length ≤ 1000) :
    Calls Try.prog 19 #[.agg #[.slice A nodes.length c, .int .i64 out]] w fun e w' => ChkPostG w nodes.length (checkR nodes out) e w' := by
  obtain ⟨z0, hi, hz0, hz1, hz2⟩ := info_partsJ info_shJ
  have q0 : (w.alloc (.cells #[.slice A nodes.length c, .int .i64 out] 26)).cell? ⟨w.heap.size, 0, none⟩ = some (.slice A nodes.length c) := by simp
  have q1 : (w.alloc (.cells #[.slice A nodes.length c, .int .i64 out] 26)).cell? ⟨w.heap.size, 1, none⟩ = some (.int .i64 out) := by simp
  by_cases b3 : (nodes.length : Int) < 1
  · have HR := Lib.hid (show checkR nodes out = .error 3 by unfold checkR; rw [if_pos (by omega)])
    go_enter Try.func19, Try.ntmps19
    go_wp2
    go_ret2
    exact .inr ⟨3, HR.out, by omega, rfl, (Ext.refl w).alloc _⟩
  by_cases b0 : (24 : Int) < (nodes.length : Int)
  · have HR := Lib.hid (show checkR nodes out = .error 3 by unfold checkR; rw [if_pos (by omega)])
    go_enter Try.func19, Try.ntmps19
    go_wp2
    go_ret2
    exact .inr ⟨3, HR.out, by omega, rfl, (Ext.refl w).alloc _⟩
  by_cases b1 : out < 0
  · have HR := Lib.hid (show checkR nodes out = .error 3 by unfold checkR; rw [if_pos (by omega)])
    go_enter Try.func19, Try.ntmps19
    go_wp2
    go_ret2
    exact .inr ⟨3, HR.out, by omega, rfl, (Ext.refl w).alloc _⟩
  by_cases b2 : (nodes.length : Int) ≤ out
  · have HR := Lib.hid (show checkR nodes out = .error 3 by unfold checkR; rw [if_pos (by omega)])
    go_enter Try.func19, Try.ntmps19
    go_wp2
    go_ret2
    exact .inr ⟨3, HR.out, by omega, rfl, (Ext.refl w).alloc _⟩
  have HR := Lib.hid (show checkR nodes out = chkR nodes [] by unfold checkR; rw [if_neg (by omega)])
  have HK := Lib.hid (show Ext w (w.alloc (.cells #[.slice A nodes.length c, .int .i64 out] 26)) from (Ext.refl w).alloc _)
  go_enter Try.func19, Try.ntmps19
  go_wp2_with fail
  go_loopw [4, 34] (fun v i wr => ∃ (k' : Nat) (shs : List (List Int)), k' ≤ nodes.length ∧ i = .int .i64 (k' : Int) ∧ shs.length = k' ∧ Hid (GS w.heap.size wr v shs) ∧ Hid (Rights shs) ∧ Hid (Ext w wr) ∧ Hid (chkR nodes [] = chkR (nodes.drop k') shs)) (fun _ i _ => nodes.length - (intOf i).toNat)
  case atStart =>
    exact ⟨0, [], by omega, rfl, rfl, Lib.hid (GS.nil _ _), Lib.hid (fun s h => by cases h), HK, Lib.hid rfl⟩
  case round =>
    obtain ⟨k', shs, hk, rfl, rfl, hS, hR, hE, hP⟩ := hrel
    by_cases hlt : shs.length < nodes.length
    · obtain ⟨x, hx⟩ : ∃ x, nodes[shs.length]? = some x := ⟨_, List.getElem?_eq_getElem hlt⟩
      obtain ⟨ad, rfl, hc⟩ := (hG.out.ext hE.out).cells (by omega)
      obtain ⟨As, Ad, Ab, cs, cd, cb, hnd, hcell⟩ := hc shs.length x hx
      have HND := Lib.hid hnd
      have HX := Lib.hid hx
      obtain ⟨Ah, ch, rfl, hsx⟩ := hS.out.sx
      have HSX := Lib.hid hsx
      clear hc hnd hx hsx
      have j0 : (0 : Int) ≤ (shs.length : Int) := by omega
      have j1 : (shs.length : Int) < (nodes.length : Int) := by omega
      have c0 : wr.cell? (ad.add (shs.length * 9)) = some (.int .i64 x.k) := by have := hcell 0 (.int .i64 x.k) rfl; rw [add0J] at this; exact this
      have c1 : wr.cell? ⟨(ad.add (shs.length * 9)).block, (ad.add (shs.length * 9)).off + 1, none⟩ = some (.int .i64 x.a) := hcell 1 (.int .i64 x.a) rfl
      have c2 : wr.cell? ⟨(ad.add (shs.length * 9)).block, (ad.add (shs.length * 9)).off + 2, none⟩ = some (.int .i64 x.b) := hcell 2 (.int .i64 x.b) rfl
      have c3 : wr.cell? ⟨(ad.add (shs.length * 9)).block, (ad.add (shs.length * 9)).off + 3, none⟩ = some (.slice As x.sh.length cs) := hcell 3 (.slice As x.sh.length cs) rfl
      have c4 : wr.cell? ⟨(ad.add (shs.length * 9)).block, (ad.add (shs.length * 9)).off + 4, none⟩ = some (.int .i64 x.lo) := hcell 4 (.int .i64 x.lo) rfl
      have c5 : wr.cell? ⟨(ad.add (shs.length * 9)).block, (ad.add (shs.length * 9)).off + 5, none⟩ = some (.int .i64 x.hi) := hcell 5 (.int .i64 x.hi) rfl
      have c6 : wr.cell? ⟨(ad.add (shs.length * 9)).block, (ad.add (shs.length * 9)).off + 6, none⟩ = some (.int .i64 x.sz) := hcell 6 (.int .i64 x.sz) rfl
      have c7 : wr.cell? ⟨(ad.add (shs.length * 9)).block, (ad.add (shs.length * 9)).off + 7, none⟩ = some (.slice Ad x.da.length cd) := hcell 7 (.slice Ad x.da.length cd) rfl
      have c8 : wr.cell? ⟨(ad.add (shs.length * 9)).block, (ad.add (shs.length * 9)).off + 8, none⟩ = some (.slice Ab x.bi.length cb) := hcell 8 (.slice Ab x.bi.length cb) rfl
      clear hcell
      obtain ⟨m0, m1, m2, m3, m4, m5, m6, m7, m8⟩ := nine_at wr (.int .i64 x.k) (.int .i64 x.a) (.int .i64 x.b) (.slice As x.sh.length cs) (.int .i64 x.lo) (.int .i64 x.hi) (.int .i64 x.sz) (.slice Ad x.da.length cd) (.slice Ab x.bi.length cb) 40
      have ka : Ext wr (wr.alloc (.cells #[.int .i64 x.k, .int .i64 x.a, .int .i64 x.b, .slice As x.sh.length cs, .int .i64 x.lo, .int .i64 x.hi, .int .i64 x.sz, .slice Ad x.da.length cd, .slice Ab x.bi.length cb] 40)) := (Ext.refl wr).alloc _
      go_wp2_with fail
      generalize hWW : wr.alloc (.cells #[.int .i64 x.k, .int .i64 x.a, .int .i64 x.b, .slice As x.sh.length cs, .int .i64 x.lo, .int .i64 x.hi, .int .i64 x.sz, .slice Ad x.da.length cd, .slice Ab x.bi.length cb] 40) = W at *
      clear hWW c0 c1 c2 c3 c4 c5 c6 c7 c8
      have KA := Lib.hid ka
      clear ka
      refine (rform_any x As Ad Ab cs cd cb W (Lib.hid (HND.out.ext KA.out)) shs.length (by omega)).mono ?_
      rintro e1 w1 ⟨rfl, k1⟩
      replace m0 := cell_ext k1 m0
      replace m1 := cell_ext k1 m1
      replace m2 := cell_ext k1 m2
      replace m3 := cell_ext k1 m3
      replace m4 := cell_ext k1 m4
      replace m5 := cell_ext k1 m5
      replace m6 := cell_ext k1 m6
      replace m7 := cell_ext k1 m7
      replace m8 := cell_ext k1 m8
      replace KA := Lib.hid (KA.out.trans k1)
      clear k1
      obtain ⟨b, hb⟩ : ∃ b, formB x shs.length = b := ⟨_, rfl⟩
      rw [hb]
      cases b
      · have HN := Lib.hid (node_form hb)
        clear hb
        go_wp2
        go_ret2
        exact .inr ⟨3, by rw [HR.out, hP.out]; exact chk_err HX.out HN.out, by omega, rfl, hE.out.trans KA.out⟩
      have HF := Lib.hid hb
      clear hb
      go_wp2_with fail
      refine (rshape_any x As Ad Ab cs cd cb w1 (Lib.hid (HND.out.ext KA.out)) Ah ch shs (Lib.hid (HSX.out.ext KA.out)) hR (by omega) HF).mono ?_
      rintro e2 w2 (⟨s, B, d, h1, rfl, hz, k1⟩ | ⟨h1, rfl, k1⟩)
      rotate_left
      · have HN := Lib.hid (node_none HF.out h1)
        have heq := Lib.run_eql_slice_nil (P := Try.prog) w2 38 3 none 0 0 0 0 Try.underlying38
        have K1 := Lib.hid k1
        clear h1 k1
        go_wp2
        go_ret2
        exact .inr ⟨4, by rw [HR.out, hP.out]; exact chk_err HX.out HN.out, by omega, rfl, hE.out.trans (KA.out.trans K1.out)⟩
      replace m0 := cell_ext k1 m0
      replace m1 := cell_ext k1 m1
      replace m2 := cell_ext k1 m2
      replace m3 := cell_ext k1 m3
      replace m4 := cell_ext k1 m4
      replace m5 := cell_ext k1 m5
      replace m6 := cell_ext k1 m6
      replace m7 := cell_ext k1 m7
      replace m8 := cell_ext k1 m8
      replace KA := Lib.hid (KA.out.trans k1)
      have HZ := Lib.hid hz
      have HSO := Lib.hid h1
      clear h1 hz k1
      have heq := Lib.run_eql_slice_nil (P := Try.prog) w2 38 3 (some B) s.length d 0 0 Try.underlying38
      go_wp2_with fail
      refine (near_any Ad x.da.length cd x.da w2 (Lib.hid (HND.out.da.ext KA.out)) HND.out.lda).mono ?_
      rintro e3 w3 ⟨rfl, rfl⟩
      obtain ⟨b, hb⟩ : ∃ b, nearB x.da = b := ⟨_, rfl⟩
      rw [hb]
      have B3 := Lib.hid hb
      clear hb
      cases b
      · have HN := Lib.hid (node_far HF.out HSO.out (show nearOK x = false by rw [nearOK, B3.out, Bool.false_and, Bool.and_false, Bool.and_false, Bool.and_false]))
        go_wp2
        go_ret2
        exact .inr ⟨5, by rw [HR.out, hP.out]; exact chk_err HX.out HN.out, by omega, rfl, hE.out.trans KA.out⟩
      go_wp2_with fail
      refine (near_any Ab x.bi.length cb x.bi _ (Lib.hid (HND.out.bi.ext KA.out)) HND.out.lbi).mono ?_
      rintro e3 w3 ⟨rfl, rfl⟩
      obtain ⟨b, hb⟩ : ∃ b, nearB x.bi = b := ⟨_, rfl⟩
      rw [hb]
      have B4 := Lib.hid hb
      clear hb
      cases b
      · have HN := Lib.hid (node_far HF.out HSO.out (show nearOK x = false by rw [nearOK, B4.out, Bool.and_false, Bool.and_false, Bool.and_false, Bool.and_false]))
        go_wp2
        go_ret2
        exact .inr ⟨5, by rw [HR.out, hP.out]; exact chk_err HX.out HN.out, by omega, rfl, hE.out.trans KA.out⟩
      go_wp2_with fail
      refine (near_any (some ⟨w3.heap.size, 0, none⟩) 2 2 [x.lo, x.hi] _ (Lib.hid (zx_two w3 x.lo x.hi)) (by decide)).mono ?_
      rintro e4 w4 ⟨rfl, rfl⟩
      obtain ⟨b, hb⟩ : ∃ b, nearB [x.lo, x.hi] = b := ⟨_, rfl⟩
      rw [hb]
      have B5 := Lib.hid (show (near1 x.lo && (near1 x.hi && true)) = b from hb)
      clear hb
      cases b
      · have HN := Lib.hid (node_far HF.out HSO.out (near_no2 B5.out))
        go_wp2
        go_ret2
        exact .inr ⟨5, by rw [HR.out, hP.out]; exact chk_err HX.out HN.out, by omega, rfl, hE.out.trans (KA.out.trans ((Ext.refl _).alloc _))⟩
      have k3 : Ext w3 (w3.alloc (.cells #[.int .i64 x.lo, .int .i64 x.hi] 3)) := (Ext.refl w3).alloc _
      replace m0 := cell_ext k3 m0
      replace m1 := cell_ext k3 m1
      replace m2 := cell_ext k3 m2
      replace m3 := cell_ext k3 m3
      replace m4 := cell_ext k3 m4
      replace m5 := cell_ext k3 m5
      replace m6 := cell_ext k3 m6
      replace m7 := cell_ext k3 m7
      replace m8 := cell_ext k3 m8
      by_cases hlo : x.hi < x.lo
      · have HN := Lib.hid (node_far HF.out HSO.out (show nearOK x = false by rw [nearOK, decide_eq_false (show ¬ x.lo ≤ x.hi by omega), Bool.false_and]))
        go_wp2
        go_ret2
        exact .inr ⟨5, by rw [HR.out, hP.out]; exact chk_err HX.out HN.out, by omega, rfl, hE.out.trans (KA.out.trans k3)⟩
      have HN := Lib.hid (node_ok HF.out HSO.out (near_yes (show x.lo ≤ x.hi by omega) B5.out B3.out B4.out))
      have HRT := Lib.hid (node_right hR.out HN.out)
      replace KA := Lib.hid (KA.out.trans k3)
      have HZ3 := Lib.hid (HZ.out.ext k3)
      have hs3 := (entN_len HRT.out).2
      clear k3
      generalize w3.alloc (.cells #[.int .i64 x.lo, .int .i64 x.hi] 3) = w4 at *
      have hKS : Hid (∃ us, w4.ownsRow w.heap.size 38 1 (.slice Ah shs.length ch) shs.length us ∧ ∀ (j : Nat) (s : List Int), shs[j]? = some s → ∃ A d, us[j]? = some (.slice A s.length d) ∧ ZX w4 A s.length d s ∧ TyZ w4 A) := Lib.hid (hS.out.ext KA.out)
      go_wp2_with (at_builtin; first
        | go_loud (refine wpList_copyT rfl _ _ rfl w4.heap.size rfl B s.length d s rfl rfl HZ3.out (by omega) ?_; intro A2 c2 w5 h5 t5 f5 k5; have H5 := Lib.hid (And.intro h5 t5); have K5 := Lib.hid (KA.out.trans k5); have hw5 := (hE.out.trans (KA.out.trans k5)).size; have hgs5 : GS w.heap.size w5 (.slice Ah shs.length ch) shs := GS.ext hKS.out k5; obtain ⟨us, ho, hu⟩ := hgs5; have HO := Lib.hid ho; have HU := Lib.hid hu; clear h5 t5 f5 k5 ho hu)
        | go_loud (refine wpList_append_own _ rfl _ _ 31 rfl w.heap.size 38 z0 (.slice none 0 0) 1 24 Try.underlying31 hi hz0 hz1 hz2 rfl (by decide) _ _ _ rfl (HO.out.alloc _) ⟨_, 0, none⟩ 1 1 [.slice A2 s.length c2] rfl rfl (one_atJ (by simp)) one_sliceJ (by unfold maxLen; omega) (by omega) (by simp; omega) ?_; intro v3 w6 hown3 hgrow3 _))
      refine ⟨⟨shs.length + 1, shs ++ [s], by omega, by go_num, by simp, Lib.hid ?_, Lib.hid ?_, Lib.hid ?_, Lib.hid (hP.out.trans (chk_ok HX.out HN.out))⟩, by simp [intOf]; omega⟩
      · have k6 : Ext w5 (w5.alloc (.cells #[.slice A2 s.length c2] 38)) := (Ext.refl w5).alloc _
        have ho6 := HO.out.alloc (.cells #[.slice A2 s.length c2] 38)
        have hl : us.length = shs.length := by have := HO.out.1; omega
        refine ⟨us ++ [.slice A2 s.length c2], by simpa using hown3, fun j u hj => ?_⟩
        rcases Nat.lt_or_ge j shs.length with g | g
        · rw [List.getElem?_append_left g] at hj
          obtain ⟨A9, d9, e1, e2, e3⟩ := HU.out j u hj
          obtain ⟨f1, f2⟩ := (e2.ext k6).grown (e3.ext k6) ho6 hgrow3
          exact ⟨A9, d9, by rw [List.getElem?_append_left (by omega)]; exact e1, f1, f2⟩
        · obtain rfl : j = shs.length := by
            have := (List.getElem?_eq_some_iff.1 hj).1
            simp at this
            omega
          rw [List.getElem?_append_right (Nat.le_refl _)] at hj
          simp at hj
          subst hj
          obtain ⟨f1, f2⟩ := (H5.out.1.ext k6).grown (H5.out.2.ext k6) ho6 hgrow3
          exact ⟨A2, c2, by rw [List.getElem?_append_right (by omega), hl]; simp, f1, f2⟩
      · intro u hu2
        rcases List.mem_append.1 hu2 with g | g
        · exact hR.out u g
        · simp at g
          subst g
          exact HRT.out
      · refine Below.grown ((hE.out.trans K5.out).alloc _) hgrow3 (by simp; omega) (fun k e => ?_)
        exact (HO.out.lt k e).1
    · have hkn : shs.length = nodes.length := by omega
      have hP2 := Lib.hid (show checkR nodes out = .ok shs by rw [HR.out, hP.out, List.drop_eq_nil_of_le (by omega)]; rfl)
      obtain ⟨Ah, ch, rfl, hsx⟩ := hS.out.sx
      have HSX := Lib.hid hsx
      clear hsx
      go_wp2
      go_ret2
      exact .inl ⟨shs, Ah, ch, hP2.out, rfl, hS.out, hR.out, hkn, hE.out⟩
end Go.Proofs.Ytdnjjpkajiehgaa

/-
  Nodes in a row that grows.
-/
namespace Go.Proofs.Ytdnjjpkajiehgaa
open Go.RowKit
set_option linter.unusedVariables false
set_option maxRecDepth 100000

/-- A list that lies in a block of numbers. -/
def ZY (w : World) (A : Option Addr) (n c : Nat) (l : List Int) : Prop := ZX w A n c l ∧ TyM w A
theorem ZY.ext {w w' : World} {A : Option Addr} {n c : Nat} {l : List Int} (h : ZY w A n c l) (k : Ext w w') : ZY w' A n c l := ⟨h.1.ext k, h.2.ext k⟩
theorem ZY.onp {w w' : World} {A : Option Addr} {n c p : Nat} {l : List Int} {cs : Array Value} {t : TypeId} {fz : Nat × Nat} (h : ZY w A n c l) (hp : w.heap[p]? = some (.cells cs t fz)) (ht : t ≠ 3) (k : On p w w') : ZY w' A n c l :=
  ⟨⟨h.1.len, h.1.room, fun hn => by
    obtain ⟨ad, e, hc⟩ := h.1.cells hn
    exact ⟨ad, e, fun j z hz => cellOn k (by rw [add_blockJ]; exact h.2.ne hp ht ad e) (hc j z hz)⟩⟩, h.2.onp hp ht k⟩
theorem ZY.onT {w w' : World} {A : Option Addr} {n c g : Nat} {l : List Int} (h : ZY w A n c l) (hT : TM w g) (k : On g w w') : ZY w' A n c l := by
  obtain ⟨B, m, d, a, h1, _⟩ := hT.ex
  exact h.onp h1 (by decide) k
theorem ZY.none_ (w : World) : ZY w none 0 0 [] := ⟨ZX.none_ _ _ _, TyM.none_ _⟩
/-- What only the row's own block changes stays. -/
theorem ZY.grown {B : Nat} {w w' : World} {v : Value} {n m c : Nat} {us : List Value} {A : Option Addr} {l : List Int} (h : ZY w A n c l) (ho : w.ownsRow B 40 9 v m us) (hg : w.grownBy w' v.ownBlock) : ZY w' A n c l := by
  rcases ho.2 with ⟨rfl, _⟩ | ⟨g, cap, cur, rfl, _, hh, _⟩
  · exact h.ext ⟨hg.os, hg.tape, hg.output, hg.size, fun i hi => hg.block i hi (fun e => by simp [Value.ownBlock] at e)⟩
  · have k : On g w w' := ⟨hg.os, hg.tape, hg.output, hg.size, fun i hi hne => hg.block i hi (fun e => hne (by simp [Value.ownBlock] at e; rw [e]))⟩
    exact h.onp hh (by decide) k
/-- A node in its lists. -/
def NdY (w : World) (x : Nd) (As Ad Ab : Option Addr) (cs cd cb : Nat) : Prop :=
  (ZY w As x.sh.length cs x.sh ∧ ZY w Ad x.da.length cd x.da ∧ ZY w Ab x.bi.length cb x.bi) ∧ x.sh.length ≤ 1000 ∧ x.da.length ≤ 1000 ∧ x.bi.length ≤ 1000
theorem NdY.map {w w' : World} {x : Nd} {As Ad Ab : Option Addr} {cs cd cb : Nat} (h : NdY w x As Ad Ab cs cd cb) (f : ∀ A n c l, ZY w A n c l → ZY w' A n c l) : NdY w' x As Ad Ab cs cd cb := ⟨⟨f _ _ _ _ h.1.1, f _ _ _ _ h.1.2.1, f _ _ _ _ h.1.2.2⟩, h.2⟩
/-- A node's nine cells. -/
def nodeC (x : Nd) (As Ad Ab : Option Addr) (cs cd cb : Nat) : List Value := [.int .i64 x.k, .int .i64 x.a, .int .i64 x.b, .slice As x.sh.length cs, .int .i64 x.lo, .int .i64 x.hi, .int .i64 x.sz, .slice Ad x.da.length cd, .slice Ab x.bi.length cb]
/-- Nodes in a row of their own, from block B on. -/
def NsY (B : Nat) (w : World) (v : Value) (nodes : List Nd) : Prop :=
  ∃ us, w.ownsRow B 40 9 v nodes.length us ∧ ∀ (j : Nat) (x : Nd), nodes[j]? = some x → ∃ As Ad Ab cs cd cb, NdY w x As Ad Ab cs cd cb ∧ ∀ (f : Nat) (u : Value), (nodeC x As Ad Ab cs cd cb)[f]? = some u → us[j * 9 + f]? = some u
theorem NsY.ext {B : Nat} {w w' : World} {v : Value} {nodes : List Nd} (h : NsY B w v nodes) (k : Ext w w') : NsY B w' v nodes := by
  obtain ⟨us, ho, hu⟩ := h
  exact ⟨us, own_extJ ho k, fun j x hx => by
    obtain ⟨As, Ad, Ab, cs, cd, cb, h1, h2⟩ := hu j x hx
    exact ⟨As, Ad, Ab, cs, cd, cb, h1.map fun _ _ _ _ h => h.ext k, h2⟩⟩
theorem own_onpM {w w' : World} {B p s : Nat} {v : Value} {n : Nat} {xs : List Value} {T : TypeId} {cs : Array Value} {t : TypeId} {fz : Nat × Nat} (h : w.ownsRow B T s v n xs) (hp : w.heap[p]? = some (.cells cs t fz)) (ht : t ≠ T) (k : On p w w') : w'.ownsRow B T s v n xs := by
  refine ⟨h.1, ?_⟩
  rcases h.2 with h0 | ⟨b, cap, cur, e, hb, hh, h1⟩
  · exact .inl h0
  · refine .inr ⟨b, cap, cur, e, hb, (k.block b (Array.getElem?_eq_some_iff.1 hh).1 (fun e2 => ?_)).trans hh, h1⟩
    injection e2 with e2
    subst e2
    rw [hp] at hh
    injection hh with hh
    injection hh with _ hh _
    exact ht hh
theorem NsY.onp {B p : Nat} {w w' : World} {v : Value} {nodes : List Nd} {cs : Array Value} {t : TypeId} {fz : Nat × Nat} (h : NsY B w v nodes) (hp : w.heap[p]? = some (.cells cs t fz)) (ht : t ≠ 3) (hb : t ≠ 40) (k : On p w w') : NsY B w' v nodes := by
  obtain ⟨us, ho, hu⟩ := h
  exact ⟨us, own_onpM ho hp hb k, fun j x hx => by
    obtain ⟨As, Ad, Ab, cs, cd, cb, h1, h2⟩ := hu j x hx
    exact ⟨As, Ad, Ab, cs, cd, cb, h1.map fun _ _ _ _ h => h.onp hp ht k, h2⟩⟩
theorem NsY.onT {B g : Nat} {w w' : World} {v : Value} {nodes : List Nd} (h : NsY B w v nodes) (hT : TM w g) (k : On g w w') : NsY B w' v nodes := by
  obtain ⟨C, m, d, a, h1, _⟩ := hT.ex
  exact h.onp h1 (by decide) (by decide) k
theorem NsY.onq {B p : Nat} {w w' : World} {v : Value} {nodes : List Nd} {cs : Array Value} {t : TypeId} {fz : Nat × Nat} (h : NsY B w v nodes) (hp : w.heap[p]? = some (.cells cs t fz)) (ht : t ≠ 3) (hb : ∀ b, v.ownBlock = some b → b ≠ p) (k : On p w w') : NsY B w' v nodes := by
  obtain ⟨us, ho, hu⟩ := h
  refine ⟨us, ⟨ho.1, ?_⟩, fun j x hx => by
    obtain ⟨As, Ad, Ab, cs, cd, cb, h1, h2⟩ := hu j x hx
    exact ⟨As, Ad, Ab, cs, cd, cb, h1.map fun _ _ _ _ h => h.onp hp ht k, h2⟩⟩
  rcases ho.2 with h0 | ⟨b, cap, cur, e, hb2, hh, h1⟩
  · exact .inl h0
  · exact .inr ⟨b, cap, cur, e, hb2, (k.block b (Array.getElem?_eq_some_iff.1 hh).1 (fun e2 => by injection e2 with e2; exact hb b (by rw [e]; rfl) e2)).trans hh, h1⟩
theorem NsY.own_lt {B : Nat} {w : World} {v : Value} {nodes : List Nd} (h : NsY B w v nodes) : ∀ b, v.ownBlock = some b → b < w.heap.size := fun b e => by
  obtain ⟨us, ho, _⟩ := h
  exact (ho.lt b e).2
theorem nodeC_length (x : Nd) (As Ad Ab : Option Addr) (cs cd cb : Nat) : (nodeC x As Ad Ab cs cd cb).length = 9 := rfl
theorem NsY.push {B m : Nat} {w w' : World} {v v' : Value} {nodes : List Nd} {us : List Value} {y : Nd} {As Ad Ab : Option Addr} {cs cd cb : Nat} (hm : nodes.length = m) (ho : w.ownsRow B 40 9 v m us) (hu : ∀ (j : Nat) (x : Nd), nodes[j]? = some x → ∃ As Ad Ab cs cd cb, NdY w x As Ad Ab cs cd cb ∧ ∀ (f : Nat) (u : Value), (nodeC x As Ad Ab cs cd cb)[f]? = some u → us[j * 9 + f]? = some u)
    (hy : NdY w y As Ad Ab cs cd cb) (hg : w.grownBy w' v.ownBlock) (hn : w'.ownsRow B 40 9 v' (m + 1) (us ++ nodeC y As Ad Ab cs cd cb)) : NsY B w' v' (nodes ++ [y]) := by
  subst hm
  have hl : us.length = nodes.length * 9 := ho.1
  refine ⟨us ++ nodeC y As Ad Ab cs cd cb, by simpa using hn, fun j x hx => ?_⟩
  rcases Nat.lt_or_ge j nodes.length with g | g
  · rw [List.getElem?_append_left g] at hx
    obtain ⟨As', Ad', Ab', cs', cd', cb', h1, h2⟩ := hu j x hx
    exact ⟨As', Ad', Ab', cs', cd', cb', h1.map fun _ _ _ _ h => h.grown ho hg, fun f u hf => by
      have := h2 f u hf
      rw [List.getElem?_append_left (by have := (List.getElem?_eq_some_iff.1 this).1; omega)]
      exact this⟩
  · obtain rfl : j = nodes.length := by
      have := (List.getElem?_eq_some_iff.1 hx).1
      simp at this
      omega
    rw [List.getElem?_append_right (Nat.le_refl _)] at hx
    simp at hx
    subst hx
    exact ⟨As, Ad, Ab, cs, cd, cb, hy.map fun _ _ _ _ h => h.grown ho hg, fun f u hf => by
      rw [List.getElem?_append_right (by omega), show nodes.length * 9 + f - us.length = f by omega]
      exact hf⟩
theorem NsY.gx {B : Nat} {w : World} {v : Value} {nodes : List Nd} (h : NsY B w v nodes) : ∃ A c, v = .slice A nodes.length c ∧ GX w A c nodes := by
  obtain ⟨us, ho, hu⟩ := h
  have ho' := ho
  rcases ho.2 with ⟨rfl, e⟩ | ⟨g, cap, cur, rfl, hg, hh, hle, _⟩
  · have h0 : nodes.length = 0 := by
      have := ho'.1
      simp [e] at this
      omega
    exact ⟨none, 0, by rw [h0], ⟨by omega, fun hn => by omega⟩⟩
  · refine ⟨_, cap, rfl, ⟨hle, fun hn => ⟨_, rfl, fun j x hx => ?_⟩⟩⟩
    obtain ⟨As, Ad, Ab, cs, cd, cb, h1, h2⟩ := hu j x hx
    refine ⟨As, Ad, Ab, cs, cd, cb, ⟨h1.1.1.1, h1.1.2.1.1, h1.1.2.2.1, by have := h1.2.1; omega, by have := h1.2.2.1; omega, by have := h1.2.2.2; omega⟩, fun f u hf => ?_⟩
    have := World.ownsRow.cells (g := g) ho' rfl (j * 9 + f) u (h2 f u hf)
    rw [Addr.add_lit] at this
    rw [Addr.add_lit, Addr.add_lit, Nat.add_assoc]
    exact this
/-- Shapes that Check has told lie aside of the tape. -/
theorem sg_of {B g ch : Nat} {w w' : World} {Ah : Option Addr} {shs : List (List Int)} (h : GS B w (.slice Ah shs.length ch) shs) (hT : TM w g) (k : On g w w') : SG g w' Ah ch shs ∧ ∀ ah j s d As, Ah = some ah → shs[j]? = some s → w'.cell? (ah.add j) = some (.slice As s.length d) → TyM w' As := by
  obtain ⟨us, ho, hu⟩ := h
  obtain ⟨C, m, dd, a, h1, _⟩ := hT.ex
  rcases ho.2 with ⟨e, e0⟩ | ⟨q, cap, cur, e, hq, hh, hle, _⟩
  · injection e with e1 e2 e3
    subst e1
    exact ⟨⟨by omega, fun hn => absurd hn (by omega)⟩, fun ah j s d As e => by cases e⟩
  · injection e with e1 e2 e3
    subst e1 e3
    have hne : q ≠ g := fun e => by
      rw [e, h1] at hh
      injection hh with hh
      injection hh with _ hh _
      exact absurd hh (by decide)
    have hcell : ∀ j s, shs[j]? = some s → ∃ A d, w'.cell? ((⟨q, 0, none⟩ : Addr).add j) = some (.slice A s.length d) ∧ ZX w A s.length d s ∧ TyM w A := fun j s hs => by
      obtain ⟨A, d, g1, g2, g3⟩ := hu j s hs
      exact ⟨A, d, cellOn k (by rw [add_blockJ]; exact hne) (World.ownsRow.cells (g := q) ho rfl j _ g1), g2, g3⟩
    refine ⟨⟨hle, fun hn => ⟨⟨q, 0, none⟩, rfl, hne, fun j s hs => ?_⟩⟩, fun ah j s d As e hs hc => ?_⟩
    · obtain ⟨A, d, g1, g2, g3⟩ := hcell j s hs
      exact ⟨A, d, g1, ZG.on (⟨g2, g3.ne h1 (by decide)⟩ : ZG g w A s.length d s) k⟩
    · injection e with e
      subst e
      obtain ⟨A, d', g1, g2, g3⟩ := hcell j s hs
      rw [g1] at hc
      injection hc with hc
      injection hc with hc _ _
      subst hc
      exact g3.onT hT k
theorem own_slice {w : World} {B s n : Nat} {T : TypeId} {v : Value} {xs : List Value} (h : w.ownsRow B T s v n xs) : ∃ A c, v = .slice A n c := by
  rcases h.2 with ⟨rfl, e⟩ | ⟨q, cap, cur, rfl, _⟩
  · exact ⟨none, 0, by rw [e]⟩
  · exact ⟨_, cap, rfl⟩
/-- A block of another kind stays where the row grows. -/
theorem heap_grown {w w' : World} {B s n p : Nat} {T t : TypeId} {v : Value} {xs : List Value} {cs : Array Value} {fz : Nat × Nat} (hp : w.heap[p]? = some (.cells cs t fz)) (ht : t ≠ T) (ho : w.ownsRow B T s v n xs) (hg : w.grownBy w' v.ownBlock) : w'.heap[p]? = some (.cells cs t fz) := by
  refine (hg.block p (Array.getElem?_eq_some_iff.1 hp).1 (fun e => ?_)).trans hp
  rcases ho.2 with ⟨rfl, _⟩ | ⟨q, cap, cur, rfl, _, hh, _⟩
  · simp [Value.ownBlock] at e
  · simp [Value.ownBlock] at e
    subst e
    rw [hp] at hh
    injection hh with hh
    injection hh with _ hh _
    exact ht hh
theorem nine_cellM {w : World} {g : Nat} {a0 a1 a2 a3 a4 a5 a6 a7 a8 : Value} {t : TypeId} (hg : g = w.heap.size) : ∀ (j : Nat) (x : Value), [a0, a1, a2, a3, a4, a5, a6, a7, a8][j]? = some x → (w.alloc (.cells #[a0, a1, a2, a3, a4, a5, a6, a7, a8] t)).cell? ((⟨g, 0, none⟩ : Addr).add j) = some x := fun j x hx => by
  subst hg
  rw [Addr.add_lit, Nat.zero_add]
  exact cell_newI w [a0, a1, a2, a3, a4, a5, a6, a7, a8] t j x hx (by simp)
theorem nine_one {x : Nd} {As Ad Ab : Option Addr} {cs cd cb : Nat} : ∀ u ∈ nodeC x As Ad Ab cs cd cb, u.oneCell' = true := by
  intro u hu
  simp only [nodeC, List.mem_cons, List.not_mem_nil, or_false] at hu
  rcases hu with rfl | rfl | rfl | rfl | rfl | rfl | rfl | rfl | rfl <;> rfl
theorem chk_push : ∀ (l : List Nd) (acc shs : List (List Int)) (y : Nd) (s : List Int), chkR l acc = .ok shs → nodeR y shs = .ok s → chkR (l ++ [y]) acc = .ok (shs ++ [s])
  | [], acc, shs, y, s, h, hy => by
    unfold chkR at h
    injection h with h
    subst h
    show chkR [y] acc = _
    simp [chkR, hy]
  | x :: l, acc, shs, y, s, h, hy => by
    unfold chkR at h
    show chkR (x :: (l ++ [y])) acc = _
    unfold chkR
    cases hx : nodeR x acc with
    | error n => rw [hx] at h; cases h
    | ok t =>
      rw [hx] at h
      exact chk_push l _ shs y s h hy
theorem heap_cells {p : Nat} {t : TypeId} : ∀ (l pre rest : List Value) (w : World), w.heap[p]? = some (.cells (pre ++ rest).toArray t (0, 0)) → rest.length = l.length → (w.setCells p pre.length l).heap[p]? = some (.cells (pre ++ l).toArray t (0, 0))
  | [], pre, rest, w, h, hl => by
    rw [List.eq_nil_of_length_eq_zero hl] at h
    exact h
  | v :: l, pre, [], w, h, hl => by simp at hl
  | v :: l, pre, r :: rest, w, h, hl => by
    have h1 : (w.setCell ⟨p, pre.length, none⟩ v).heap[p]? = some (.cells ((pre ++ [v]) ++ rest).toArray t (0, 0)) := by
      simp only [World.setCell, Array.getElem?_modify, h]
      simp only [if_true, Option.map_some, List.setIfInBounds_toArray]
      congr 3
      rw [List.set_append_right _ _ (Nat.le_refl _), Nat.sub_self]
      simp
    have := heap_cells l (pre ++ [v]) rest (w.setCell ⟨p, pre.length, none⟩ v) h1 (by simpa using hl)
    rw [List.length_append] at this
    simp only [List.length_cons, List.length_nil, Nat.zero_add] at this
    rw [show pre ++ v :: l = pre ++ [v] ++ l by simp]
    exact this
theorem heap_set9 {w : World} {p : Nat} {t : TypeId} {cs l : List Value} (h : w.heap[p]? = some (.cells cs.toArray t (0, 0))) (hl : cs.length = l.length) : (w.setCells p 0 l).heap[p]? = some (.cells l.toArray t (0, 0)) := heap_cells l [] cs w h hl
end Go.Proofs.Ytdnjjpkajiehgaa
