/-
  The document's form of a node of each kind.
-/
import Derived.Test.YtdnjjpkajiehgaaZJRa
import Derived.Test.YtdnjjpkajiehgaaZ11
import Derived.Lib.SliceRun
namespace Go.Proofs.Ytdnjjpkajiehgaa
open Go.RowKit
set_option linter.unusedVariables false
set_option maxRecDepth 100000

set_option maxHeartbeats 8000000 in
theorem rform1 (x : Nd) (As Ad Ab : Option Addr) (cs cd cb : Nat) (w : World) (hX : Hid (NdX w x As Ad Ab cs cd cb)) (n : Nat) (hn : n ≤ 100000) (hk : Hid (x.k = 1)) :
    Calls Try.prog 46 #[.agg #[.int .i64 x.k, .int .i64 x.a, .int .i64 x.b, .slice As x.sh.length cs, .int .i64 x.lo, .int .i64 x.hi, .int .i64 x.sz, .slice Ad x.da.length cd, .slice Ab x.bi.length cb], .int .i64 (n : Int)] w fun e w' => e = .returned (.bool (formB x n)) ∧ Ext w w' := by
  obtain ⟨y0, y1, y2, y3, y4, y5, y6, y7, y8⟩ := nine_at w (.int .i64 x.k) (.int .i64 x.a) (.int .i64 x.b) (.slice As x.sh.length cs) (.int .i64 x.lo) (.int .i64 x.hi) (.int .i64 x.sz) (.slice Ad x.da.length cd) (.slice Ab x.bi.length cb) 40
  have L0 := hX.out.lsh
  have L1 := hX.out.lda
  have L2 := hX.out.lbi
  have FB := Lib.hid (show formB x n = (okL (hasL x) [false, false, true, true, false, false, false] && (behB [false, false, true, true, false, false, false] x n && toldB x)) by rw [formB, hk.out]; rfl)
  have kk : Ext w (w.alloc (.cells #[.int .i64 x.k, .int .i64 x.a, .int .i64 x.b, .slice As x.sh.length cs, .int .i64 x.lo, .int .i64 x.hi, .int .i64 x.sz, .slice Ad x.da.length cd, .slice Ab x.bi.length cb] 40)) := (Ext.refl w).alloc _
  go_enter Try.func46, Try.ntmps46
  go_wp2_with fail
  generalize w.alloc (.cells #[.int .i64 x.k, .int .i64 x.a, .int .i64 x.b, .slice As x.sh.length cs, .int .i64 x.lo, .int .i64 x.hi, .int .i64 x.sz, .slice Ad x.da.length cd, .slice Ab x.bi.length cb] 40) = V at *
  refine (may1 x.k hk.out V).mono ?_
  rintro e1 w1 ⟨rfl, rfl⟩
  have heq := Lib.run_eql_slice_nil (P := Try.prog) (V.alloc (.cells #[.bool false, .bool false, .bool true, .bool true, .bool false, .bool false, .bool false] 4)) 105 4 (some ⟨V.heap.size, 0, none⟩) 7 7 0 0 Try.underlying105
  have hMB : ∀ (i : Nat) (b : Bool), ([false, false, true, true, false, false, false] : List Bool)[i]? = some b → (V.alloc (.cells #[.bool false, .bool false, .bool true, .bool true, .bool false, .bool false, .bool false] 4)).cell? ⟨V.heap.size, i, none⟩ = some (.bool b) := fun i b hb => seven_at V _ _ _ _ _ _ _ 4 i _ (by rcases i with _ | _ | _ | _ | _ | _ | _ | i <;> simp at hb ⊢ <;> subst hb <;> rfl)
  have ka : Ext V (V.alloc (.cells #[.bool false, .bool false, .bool true, .bool true, .bool false, .bool false, .bool false] 4)) := (Ext.refl V).alloc _
  replace y0 := cell_ext ka y0
  replace y1 := cell_ext ka y1
  replace y2 := cell_ext ka y2
  replace y3 := cell_ext ka y3
  replace y4 := cell_ext ka y4
  replace y5 := cell_ext ka y5
  replace y6 := cell_ext ka y6
  replace y7 := cell_ext ka y7
  replace y8 := cell_ext ka y8
  replace kk := kk.trans ka
  clear ka
  go_wp2_with fail
  generalize (V.alloc (.cells #[.bool false, .bool false, .bool true, .bool true, .bool false, .bool false, .bool false] 4)) = V1 at *
  generalize V.heap.size = gm at *
  clear heq
  refine (has_any x As Ad Ab cs cd cb V1 (Lib.hid (hX.out.ext kk))).mono ?_
  rintro e2 w2 ⟨g, rfl, hh, k2⟩
  have HH := Lib.hid hh
  have MB := Lib.hid (show ∀ (i : Nat) (b : Bool), ([false, false, true, true, false, false, false] : List Bool)[i]? = some b → w2.cell? ⟨gm, i, none⟩ = some (.bool b) from fun i b hb => cell_ext k2 (hMB i b hb))
  replace y0 := cell_ext k2 y0
  replace y1 := cell_ext k2 y1
  replace y2 := cell_ext k2 y2
  replace y3 := cell_ext k2 y3
  replace y4 := cell_ext k2 y4
  replace y5 := cell_ext k2 y5
  replace y6 := cell_ext k2 y6
  replace y7 := cell_ext k2 y7
  replace y8 := cell_ext k2 y8
  replace kk := kk.trans k2
  clear hh hMB k2
  rw [hk.out] at y0
  go_wp2_with fail
  go_loop [19] (fun i => ∃ j : Nat, j ≤ 7 ∧ i = .int .i64 (j : Int) ∧ Hid (okL (hasL x) [false, false, true, true, false, false, false] = okL ((hasL x).drop j) (([false, false, true, true, false, false, false] : List Bool).drop j))) (fun i => 7 - (intOf i).toNat)
  case atStart => exact ⟨0, by omega, rfl, Lib.hid rfl⟩
  case round =>
    obtain ⟨j, hj, rfl, hF⟩ := hrel
    by_cases hlt : j < 7
    · obtain ⟨h, h1⟩ : ∃ h, (hasL x)[j]? = some h := ⟨_, List.getElem?_eq_getElem (show j < (hasL x).length from hlt)⟩
      obtain ⟨b, b1⟩ : ∃ b, ([false, false, true, true, false, false, false] : List Bool)[j]? = some b := ⟨_, List.getElem?_eq_getElem (show j < ([false, false, true, true, false, false, false] : List Bool).length from hlt)⟩
      have c0 := HH.out j h h1
      have c1 := MB.out j b b1
      have HD := Lib.hid (okL_drop h1 b1)
      clear h1 b1
      have i0 : (0 : Int) ≤ (j : Int) := by omega
      have i1 : (j : Int) < 7 := by omega
      cases h
      · have HR := Lib.hid (show okL (hasL x) [false, false, true, true, false, false, false] = okL ((hasL x).drop (j + 1)) (([false, false, true, true, false, false, false] : List Bool).drop (j + 1)) by rw [hF.out, HD.out]; rfl)
        go_wp2
        go_round
        case rel => exact ⟨j + 1, by omega, by go_num, HR⟩
        case measure => simp [intOf]; omega
      · cases b
        · have HR := Lib.hid (show formB x n = false by rw [FB.out, hF.out, HD.out]; rfl)
          go_wp2
          go_ret
          exact ⟨by show Ending.returned (.bool false) = _; rw [HR.out], kk⟩
        · have HR := Lib.hid (show okL (hasL x) [false, false, true, true, false, false, false] = okL ((hasL x).drop (j + 1)) (([false, false, true, true, false, false, false] : List Bool).drop (j + 1)) by rw [hF.out, HD.out]; rfl)
          go_wp2
          go_round
          case rel => exact ⟨j + 1, by omega, by go_num, HR⟩
          case measure => simp [intOf]; omega
    · obtain rfl : j = 7 := by omega
      have OK := Lib.hid (show okL (hasL x) [false, false, true, true, false, false, false] = true by rw [hF.out]; rfl)
      have m0 := MB.out 0 false rfl
      have m1 := MB.out 1 false rfl
      clear hF hlt hj
      have BH := Lib.hid (show behB [false, false, true, true, false, false, false] x n = true by simp [behB, ahB])
      have FT := Lib.hid (show formB x n = (decide (0 < entN x.sh)) by rw [FB.out, OK.out, BH.out, Bool.true_and, Bool.true_and]; unfold toldB; simp [hk.out])
      go_wp2_with fail
      refine (rent_any As x.sh.length cs x.sh w2 (Lib.hid (hX.out.sh.ext kk))).mono ?_
      rintro e3 w3 ⟨rfl, rfl⟩
      go_wp2
      go_ret
      exact ⟨by rw [FT.out]; rfl, kk⟩

set_option maxHeartbeats 8000000 in
theorem rform2 (x : Nd) (As Ad Ab : Option Addr) (cs cd cb : Nat) (w : World) (hX : Hid (NdX w x As Ad Ab cs cd cb)) (n : Nat) (hn : n ≤ 100000) (hk : Hid (x.k = 2)) :
    Calls Try.prog 46 #[.agg #[.int .i64 x.k, .int .i64 x.a, .int .i64 x.b, .slice As x.sh.length cs, .int .i64 x.lo, .int .i64 x.hi, .int .i64 x.sz, .slice Ad x.da.length cd, .slice Ab x.bi.length cb], .int .i64 (n : Int)] w fun e w' => e = .returned (.bool (formB x n)) ∧ Ext w w' := by
  obtain ⟨y0, y1, y2, y3, y4, y5, y6, y7, y8⟩ := nine_at w (.int .i64 x.k) (.int .i64 x.a) (.int .i64 x.b) (.slice As x.sh.length cs) (.int .i64 x.lo) (.int .i64 x.hi) (.int .i64 x.sz) (.slice Ad x.da.length cd) (.slice Ab x.bi.length cb) 40
  have L0 := hX.out.lsh
  have L1 := hX.out.lda
  have L2 := hX.out.lbi
  have FB := Lib.hid (show formB x n = (okL (hasL x) [false, false, true, false, false, true, false] && (behB [false, false, true, false, false, true, false] x n && toldB x)) by rw [formB, hk.out]; rfl)
  have kk : Ext w (w.alloc (.cells #[.int .i64 x.k, .int .i64 x.a, .int .i64 x.b, .slice As x.sh.length cs, .int .i64 x.lo, .int .i64 x.hi, .int .i64 x.sz, .slice Ad x.da.length cd, .slice Ab x.bi.length cb] 40)) := (Ext.refl w).alloc _
  go_enter Try.func46, Try.ntmps46
  go_wp2_with fail
  generalize w.alloc (.cells #[.int .i64 x.k, .int .i64 x.a, .int .i64 x.b, .slice As x.sh.length cs, .int .i64 x.lo, .int .i64 x.hi, .int .i64 x.sz, .slice Ad x.da.length cd, .slice Ab x.bi.length cb] 40) = V at *
  refine (may2 x.k hk.out V).mono ?_
  rintro e1 w1 ⟨rfl, rfl⟩
  have heq := Lib.run_eql_slice_nil (P := Try.prog) (V.alloc (.cells #[.bool false, .bool false, .bool true, .bool false, .bool false, .bool true, .bool false] 4)) 105 4 (some ⟨V.heap.size, 0, none⟩) 7 7 0 0 Try.underlying105
  have hMB : ∀ (i : Nat) (b : Bool), ([false, false, true, false, false, true, false] : List Bool)[i]? = some b → (V.alloc (.cells #[.bool false, .bool false, .bool true, .bool false, .bool false, .bool true, .bool false] 4)).cell? ⟨V.heap.size, i, none⟩ = some (.bool b) := fun i b hb => seven_at V _ _ _ _ _ _ _ 4 i _ (by rcases i with _ | _ | _ | _ | _ | _ | _ | i <;> simp at hb ⊢ <;> subst hb <;> rfl)
  have ka : Ext V (V.alloc (.cells #[.bool false, .bool false, .bool true, .bool false, .bool false, .bool true, .bool false] 4)) := (Ext.refl V).alloc _
  replace y0 := cell_ext ka y0
  replace y1 := cell_ext ka y1
  replace y2 := cell_ext ka y2
  replace y3 := cell_ext ka y3
  replace y4 := cell_ext ka y4
  replace y5 := cell_ext ka y5
  replace y6 := cell_ext ka y6
  replace y7 := cell_ext ka y7
  replace y8 := cell_ext ka y8
  replace kk := kk.trans ka
  clear ka
  go_wp2_with fail
  generalize (V.alloc (.cells #[.bool false, .bool false, .bool true, .bool false, .bool false, .bool true, .bool false] 4)) = V1 at *
  generalize V.heap.size = gm at *
  clear heq
  refine (has_any x As Ad Ab cs cd cb V1 (Lib.hid (hX.out.ext kk))).mono ?_
  rintro e2 w2 ⟨g, rfl, hh, k2⟩
  have HH := Lib.hid hh
  have MB := Lib.hid (show ∀ (i : Nat) (b : Bool), ([false, false, true, false, false, true, false] : List Bool)[i]? = some b → w2.cell? ⟨gm, i, none⟩ = some (.bool b) from fun i b hb => cell_ext k2 (hMB i b hb))
  replace y0 := cell_ext k2 y0
  replace y1 := cell_ext k2 y1
  replace y2 := cell_ext k2 y2
  replace y3 := cell_ext k2 y3
  replace y4 := cell_ext k2 y4
  replace y5 := cell_ext k2 y5
  replace y6 := cell_ext k2 y6
  replace y7 := cell_ext k2 y7
  replace y8 := cell_ext k2 y8
  replace kk := kk.trans k2
  clear hh hMB k2
  rw [hk.out] at y0
  go_wp2_with fail
  go_loop [19] (fun i => ∃ j : Nat, j ≤ 7 ∧ i = .int .i64 (j : Int) ∧ Hid (okL (hasL x) [false, false, true, false, false, true, false] = okL ((hasL x).drop j) (([false, false, true, false, false, true, false] : List Bool).drop j))) (fun i => 7 - (intOf i).toNat)
  case atStart => exact ⟨0, by omega, rfl, Lib.hid rfl⟩
  case round =>
    obtain ⟨j, hj, rfl, hF⟩ := hrel
    by_cases hlt : j < 7
    · obtain ⟨h, h1⟩ : ∃ h, (hasL x)[j]? = some h := ⟨_, List.getElem?_eq_getElem (show j < (hasL x).length from hlt)⟩
      obtain ⟨b, b1⟩ : ∃ b, ([false, false, true, false, false, true, false] : List Bool)[j]? = some b := ⟨_, List.getElem?_eq_getElem (show j < ([false, false, true, false, false, true, false] : List Bool).length from hlt)⟩
      have c0 := HH.out j h h1
      have c1 := MB.out j b b1
      have HD := Lib.hid (okL_drop h1 b1)
      clear h1 b1
      have i0 : (0 : Int) ≤ (j : Int) := by omega
      have i1 : (j : Int) < 7 := by omega
      cases h
      · have HR := Lib.hid (show okL (hasL x) [false, false, true, false, false, true, false] = okL ((hasL x).drop (j + 1)) (([false, false, true, false, false, true, false] : List Bool).drop (j + 1)) by rw [hF.out, HD.out]; rfl)
        go_wp2
        go_round
        case rel => exact ⟨j + 1, by omega, by go_num, HR⟩
        case measure => simp [intOf]; omega
      · cases b
        · have HR := Lib.hid (show formB x n = false by rw [FB.out, hF.out, HD.out]; rfl)
          go_wp2
          go_ret
          exact ⟨by show Ending.returned (.bool false) = _; rw [HR.out], kk⟩
        · have HR := Lib.hid (show okL (hasL x) [false, false, true, false, false, true, false] = okL ((hasL x).drop (j + 1)) (([false, false, true, false, false, true, false] : List Bool).drop (j + 1)) by rw [hF.out, HD.out]; rfl)
          go_wp2
          go_round
          case rel => exact ⟨j + 1, by omega, by go_num, HR⟩
          case measure => simp [intOf]; omega
    · obtain rfl : j = 7 := by omega
      have OK := Lib.hid (show okL (hasL x) [false, false, true, false, false, true, false] = true by rw [hF.out]; rfl)
      have m0 := MB.out 0 false rfl
      have m1 := MB.out 1 false rfl
      clear hF hlt hj
      have BH := Lib.hid (show behB [false, false, true, false, false, true, false] x n = true by simp [behB, ahB])
      have FT := Lib.hid (show formB x n = (decide (0 < entN x.sh) && decide ((x.da.length : Int) = entN x.sh)) by rw [FB.out, OK.out, BH.out, Bool.true_and, Bool.true_and]; unfold toldB; simp [hk.out])
      have kz : Ext w2 w2 := Ext.refl _
      go_wp2_with fail
      by_cases hp : 0 < entN x.sh
      · refine wp_region_held_drew (S := (fun w' => Ext w2 w')) (by kernel_rfl) ?_ (fun hHeld => ?_)
        · (try dsimp only); repeat (first | exact Ext.refl _ | assumption | refine Ext.drew ?_ | refine Ext.drewN ?_ _ | refine Ext.alloc ?_ _)
        refine wpAnyH_take (i := 0) (oi := _) (v := ?_) rfl (by kernel_rfl) (by kernel_rfl) (by kernel_rfl) (fun _ _ _ h => h) (Or.inl ⟨by first | kernel_rfl | rfl, ?_⟩) (by assumption) ?_
        rotate_left
        · (intro wS hSw; (try dsimp only at hSw); have z3 := cell_ext hSw y3; have z7 := cell_ext hSw y7; (try go_simp); (try with_reducible rfl))
        try simp only [Act.put, s1, s2, s3]
        refine wpAnyH_take (i := 1) (oi := _) (v := ?_) rfl (by kernel_rfl) (by kernel_rfl) (by kernel_rfl) (fun _ _ _ h => h) (Or.inl ⟨by first | kernel_rfl | rfl, ?_⟩) (by assumption) ?_
        rotate_left
        · (intro wS hSw; (try dsimp only at hSw); have z3 := cell_ext hSw y3; have z7 := cell_ext hSw y7; (try go_simp); (try with_reducible rfl))
        try simp only [Act.put, s1, s2, s3]
        refine wpAnyH_ready (rs := [2]) (by kernel_rfl) (by simp) ?_
        refine AllReadyH.cons rfl (fun KQ hKQ => ?_) AllReadyH.nil
        go_simp
        (refine (rent_any As x.sh.length cs x.sh _ (Lib.hid ((hX.out.sh.ext kk).ext (by repeat (first | exact Ext.refl _ | assumption | refine Ext.drew ?_ | refine Ext.drewN ?_ _ | refine Ext.alloc ?_ _))))).mono ?_; rintro e7 w7 ⟨rfl, rfl⟩)
        refine hKQ.out _ _ ?_ (fun hHeld => ?_)
        · (try dsimp only); repeat (first | exact Ext.refl _ | assumption | refine Ext.drew ?_ | refine Ext.drewN ?_ _ | refine Ext.alloc ?_ _)
        clear hKQ KQ
        try simp only [Act.put, s1, s2, s3]
        refine wpAnyH_take (i := 3) (oi := _) (v := ?_) rfl (by kernel_rfl) (by kernel_rfl) (by kernel_rfl) (fun _ _ _ h => h) (Or.inl ⟨by first | kernel_rfl | rfl, ?_⟩) (by assumption) ?_
        rotate_left
        · (intro wS hSw; (try dsimp only at hSw); have z3 := cell_ext hSw y3; have z7 := cell_ext hSw y7; (try go_simp); (try with_reducible rfl))
        try simp only [Act.put, s1, s2, s3]
        refine wpAnyH_take (i := 4) (oi := _) (v := ?_) rfl (by kernel_rfl) (by kernel_rfl) (by kernel_rfl) (fun _ _ _ h => h) (Or.inl ⟨by first | kernel_rfl | rfl, ?_⟩) (by assumption) ?_
        rotate_left
        · (intro wS hSw; (try dsimp only at hSw); have z3 := cell_ext hSw y3; have z7 := cell_ext hSw y7; (try go_simp); (try with_reducible rfl))
        try simp only [Act.put, s1, s2, s3]
        refine wpAnyH_take (i := 5) (oi := _) (v := ?_) rfl (by kernel_rfl) (by kernel_rfl) (by kernel_rfl) (fun _ _ _ h => h) (Or.inl ⟨by first | kernel_rfl | rfl, ?_⟩) (by assumption) ?_
        rotate_left
        · (intro wS hSw; (try dsimp only at hSw); have z3 := cell_ext hSw y3; have z7 := cell_ext hSw y7; (try go_simp); (try with_reducible rfl))
        try simp only [Act.put, s1, s2, s3]
        refine wpAnyH_take (i := 6) (oi := _) (v := ?_) rfl (by kernel_rfl) (by kernel_rfl) (by kernel_rfl) (fun _ _ _ h => h) (Or.inl ⟨by first | kernel_rfl | rfl, ?_⟩) (by assumption) ?_
        rotate_left
        · (intro wS hSw; (try dsimp only at hSw); have z3 := cell_ext hSw y3; have z7 := cell_ext hSw y7; (try go_simp); (try with_reducible rfl))
        try simp only [Act.put, s1, s2, s3]
        refine wpAnyH_take (i := 7) (oi := _) (v := ?_) rfl (by kernel_rfl) (by kernel_rfl) (by kernel_rfl) (fun _ _ _ h => h) (Or.inl ⟨by first | kernel_rfl | rfl, ?_⟩) (by assumption) ?_
        rotate_left
        · (intro wS hSw; (try dsimp only at hSw); have z3 := cell_ext hSw y3; have z7 := cell_ext hSw y7; (try go_simp); (try with_reducible rfl))
        try simp only [Act.put, s1, s2, s3]
        refine wpAnyH_take (i := 8) (oi := _) (v := ?_) rfl (by kernel_rfl) (by kernel_rfl) (by kernel_rfl) (fun _ _ _ h => h) (Or.inl ⟨by first | kernel_rfl | rfl, ?_⟩) (by assumption) ?_
        rotate_left
        · (intro wS hSw; (try dsimp only at hSw); have z3 := cell_ext hSw y3; have z7 := cell_ext hSw y7; (try go_simp); (try with_reducible rfl))
        try simp only [Act.put, s1, s2, s3]
        refine wpAnyH_take (i := 9) (oi := _) (v := ?_) rfl (by kernel_rfl) (by kernel_rfl) (by kernel_rfl) (fun _ _ _ h => h) (Or.inl ⟨by first | kernel_rfl | rfl, ?_⟩) (by assumption) ?_
        rotate_left
        · (intro wS hSw; (try dsimp only at hSw); have z3 := cell_ext hSw y3; have z7 := cell_ext hSw y7; (try go_simp); (try with_reducible rfl))
        try simp only [Act.put, s1, s2, s3]
        refine wpAnyH_ready (rs := [10]) (by kernel_rfl) (by simp) ?_
        refine AllReadyH.cons rfl (fun KQ hKQ => ?_) AllReadyH.nil
        go_simp
        (refine (rent_any As x.sh.length cs x.sh _ (Lib.hid ((hX.out.sh.ext kk).ext (by repeat (first | exact Ext.refl _ | assumption | refine Ext.drew ?_ | refine Ext.drewN ?_ _ | refine Ext.alloc ?_ _))))).mono ?_; rintro e7 w7 ⟨rfl, rfl⟩)
        refine hKQ.out _ _ ?_ (fun hHeld => ?_)
        · (try dsimp only); repeat (first | exact Ext.refl _ | assumption | refine Ext.drew ?_ | refine Ext.drewN ?_ _ | refine Ext.alloc ?_ _)
        clear hKQ KQ
        try simp only [Act.put, s1, s2, s3]
        refine wpAnyH_take (i := 11) (oi := _) (v := ?_) rfl (by kernel_rfl) (by kernel_rfl) (by kernel_rfl) (fun _ _ _ h => h) (Or.inl ⟨by first | kernel_rfl | rfl, ?_⟩) (by assumption) ?_
        rotate_left
        · (intro wS hSw; (try dsimp only at hSw); have z3 := cell_ext hSw y3; have z7 := cell_ext hSw y7; (try go_simp); (try with_reducible rfl))
        try simp only [Act.put, s1, s2, s3]
        refine wpAnyH_take (i := 12) (oi := _) (v := ?_) rfl (by kernel_rfl) (by kernel_rfl) (by kernel_rfl) (fun _ _ _ h => h) (Or.inl ⟨by first | kernel_rfl | rfl, ?_⟩) (by assumption) ?_
        rotate_left
        · (intro wS hSw; (try dsimp only at hSw); have z3 := cell_ext hSw y3; have z7 := cell_ext hSw y7; (try go_simp); (try with_reducible rfl))
        try simp only [Act.put, s1, s2, s3]
        refine wpAnyH_ready (rs := [13]) (by kernel_rfl) (by simp) ?_
        refine AllReadyH.cons rfl (fun KQ hKQ => ?_) AllReadyH.nil
        go_simp
        refine hKQ.out _ _ ?_ (fun hHeld => ?_)
        · (try dsimp only); repeat (first | exact Ext.refl _ | assumption | refine Ext.drew ?_ | refine Ext.drewN ?_ _ | refine Ext.alloc ?_ _)
        clear hKQ KQ
        try simp only [Act.put, s1, s2, s3]
        refine wpAnyH_done (by kernel_rfl) ?_ _
        go_wp2
        go_ret
        exact ⟨by show Ending.returned (.bool (decide ((x.da.length : Int) = entN x.sh))) = _; rw [FT.out, decide_eq_true hp, Bool.true_and], kk.trans (by repeat (first | exact Ext.refl _ | assumption | refine Ext.drew ?_ | refine Ext.drewN ?_ _ | refine Ext.alloc ?_ _))⟩
      · refine wp_region_held_drew (S := (fun w' => Ext w2 w')) (by kernel_rfl) ?_ (fun hHeld => ?_)
        · (try dsimp only); repeat (first | exact Ext.refl _ | assumption | refine Ext.drew ?_ | refine Ext.drewN ?_ _ | refine Ext.alloc ?_ _)
        refine wpAnyH_take (i := 0) (oi := _) (v := ?_) rfl (by kernel_rfl) (by kernel_rfl) (by kernel_rfl) (fun _ _ _ h => h) (Or.inl ⟨by first | kernel_rfl | rfl, ?_⟩) (by assumption) ?_
        rotate_left
        · (intro wS hSw; (try dsimp only at hSw); have z3 := cell_ext hSw y3; have z7 := cell_ext hSw y7; (try go_simp); (try with_reducible rfl))
        try simp only [Act.put, s1, s2, s3]
        refine wpAnyH_take (i := 1) (oi := _) (v := ?_) rfl (by kernel_rfl) (by kernel_rfl) (by kernel_rfl) (fun _ _ _ h => h) (Or.inl ⟨by first | kernel_rfl | rfl, ?_⟩) (by assumption) ?_
        rotate_left
        · (intro wS hSw; (try dsimp only at hSw); have z3 := cell_ext hSw y3; have z7 := cell_ext hSw y7; (try go_simp); (try with_reducible rfl))
        try simp only [Act.put, s1, s2, s3]
        refine wpAnyH_ready (rs := [2]) (by kernel_rfl) (by simp) ?_
        refine AllReadyH.cons rfl (fun KQ hKQ => ?_) AllReadyH.nil
        go_simp
        (refine (rent_any As x.sh.length cs x.sh _ (Lib.hid ((hX.out.sh.ext kk).ext (by repeat (first | exact Ext.refl _ | assumption | refine Ext.drew ?_ | refine Ext.drewN ?_ _ | refine Ext.alloc ?_ _))))).mono ?_; rintro e7 w7 ⟨rfl, rfl⟩)
        refine hKQ.out _ _ ?_ (fun hHeld => ?_)
        · (try dsimp only); repeat (first | exact Ext.refl _ | assumption | refine Ext.drew ?_ | refine Ext.drewN ?_ _ | refine Ext.alloc ?_ _)
        clear hKQ KQ
        try simp only [Act.put, s1, s2, s3]
        refine wpAnyH_take (i := 3) (oi := _) (v := ?_) rfl (by kernel_rfl) (by kernel_rfl) (by kernel_rfl) (fun _ _ _ h => h) (Or.inl ⟨by first | kernel_rfl | rfl, ?_⟩) (by assumption) ?_
        rotate_left
        · (intro wS hSw; (try dsimp only at hSw); have z3 := cell_ext hSw y3; have z7 := cell_ext hSw y7; (try go_simp); (try with_reducible rfl))
        try simp only [Act.put, s1, s2, s3]
        refine wpAnyH_take (i := 4) (oi := _) (v := ?_) rfl (by kernel_rfl) (by kernel_rfl) (by kernel_rfl) (fun _ _ _ h => h) (Or.inl ⟨by first | kernel_rfl | rfl, ?_⟩) (by assumption) ?_
        rotate_left
        · (intro wS hSw; (try dsimp only at hSw); have z3 := cell_ext hSw y3; have z7 := cell_ext hSw y7; (try go_simp); (try with_reducible rfl))
        try simp only [Act.put, s1, s2, s3]
        refine wpAnyH_take (i := 5) (oi := _) (v := undef) rfl (by kernel_rfl) (by kernel_rfl) (by kernel_rfl) (fun _ _ _ h => h) (Or.inr ⟨by kernel_rfl, rfl⟩) (by assumption) ?_
        try simp only [Act.put, s1, s2, s3]
        refine wpAnyH_take (i := 6) (oi := _) (v := undef) rfl (by kernel_rfl) (by kernel_rfl) (by kernel_rfl) (fun _ _ _ h => h) (Or.inr ⟨by kernel_rfl, rfl⟩) (by assumption) ?_
        try simp only [Act.put, s1, s2, s3]
        refine wpAnyH_take (i := 7) (oi := _) (v := undef) rfl (by kernel_rfl) (by kernel_rfl) (by kernel_rfl) (fun _ _ _ h => h) (Or.inr ⟨by kernel_rfl, rfl⟩) (by assumption) ?_
        try simp only [Act.put, s1, s2, s3]
        refine wpAnyH_take (i := 8) (oi := _) (v := undef) rfl (by kernel_rfl) (by kernel_rfl) (by kernel_rfl) (fun _ _ _ h => h) (Or.inr ⟨by kernel_rfl, rfl⟩) (by assumption) ?_
        try simp only [Act.put, s1, s2, s3]
        refine wpAnyH_take (i := 9) (oi := _) (v := undef) rfl (by kernel_rfl) (by kernel_rfl) (by kernel_rfl) (fun _ _ _ h => h) (Or.inr ⟨by kernel_rfl, rfl⟩) (by assumption) ?_
        try simp only [Act.put, s1, s2, s3]
        refine wpAnyH_take (i := 10) (oi := _) (v := undef) rfl (by kernel_rfl) (by kernel_rfl) (by kernel_rfl) (fun _ _ _ h => h) (Or.inr ⟨by kernel_rfl, rfl⟩) (by assumption) ?_
        try simp only [Act.put, s1, s2, s3]
        refine wpAnyH_take (i := 11) (oi := _) (v := undef) rfl (by kernel_rfl) (by kernel_rfl) (by kernel_rfl) (fun _ _ _ h => h) (Or.inr ⟨by kernel_rfl, rfl⟩) (by assumption) ?_
        try simp only [Act.put, s1, s2, s3]
        refine wpAnyH_take (i := 12) (oi := _) (v := ?_) rfl (by kernel_rfl) (by kernel_rfl) (by kernel_rfl) (fun _ _ _ h => h) (Or.inl ⟨by first | kernel_rfl | rfl, ?_⟩) (by assumption) ?_
        rotate_left
        · (intro wS hSw; (try dsimp only at hSw); have z3 := cell_ext hSw y3; have z7 := cell_ext hSw y7; (try go_simp); (try with_reducible rfl))
        try simp only [Act.put, s1, s2, s3]
        refine wpAnyH_ready (rs := [13]) (by kernel_rfl) (by simp) ?_
        refine AllReadyH.cons rfl (fun KQ hKQ => ?_) AllReadyH.nil
        go_simp
        refine hKQ.out _ _ ?_ (fun hHeld => ?_)
        · (try dsimp only); repeat (first | exact Ext.refl _ | assumption | refine Ext.drew ?_ | refine Ext.drewN ?_ _ | refine Ext.alloc ?_ _)
        clear hKQ KQ
        try simp only [Act.put, s1, s2, s3]
        refine wpAnyH_done (by kernel_rfl) ?_ _
        go_wp2
        go_ret
        exact ⟨by show Ending.returned (.bool false) = _; rw [FT.out, decide_eq_false (show ¬ 0 < entN x.sh by omega), Bool.false_and], kk.trans (by repeat (first | exact Ext.refl _ | assumption | refine Ext.drew ?_ | refine Ext.drewN ?_ _ | refine Ext.alloc ?_ _))⟩

set_option maxHeartbeats 8000000 in
theorem rform3 (x : Nd) (As Ad Ab : Option Addr) (cs cd cb : Nat) (w : World) (hX : Hid (NdX w x As Ad Ab cs cd cb)) (n : Nat) (hn : n ≤ 100000) (hk : Hid (x.k = 3)) :
    Calls Try.prog 46 #[.agg #[.int .i64 x.k, .int .i64 x.a, .int .i64 x.b, .slice As x.sh.length cs, .int .i64 x.lo, .int .i64 x.hi, .int .i64 x.sz, .slice Ad x.da.length cd, .slice Ab x.bi.length cb], .int .i64 (n : Int)] w fun e w' => e = .returned (.bool (formB x n)) ∧ Ext w w' := by
  obtain ⟨y0, y1, y2, y3, y4, y5, y6, y7, y8⟩ := nine_at w (.int .i64 x.k) (.int .i64 x.a) (.int .i64 x.b) (.slice As x.sh.length cs) (.int .i64 x.lo) (.int .i64 x.hi) (.int .i64 x.sz) (.slice Ad x.da.length cd) (.slice Ab x.bi.length cb) 40
  have L0 := hX.out.lsh
  have L1 := hX.out.lda
  have L2 := hX.out.lbi
  have FB := Lib.hid (show formB x n = (okL (hasL x) [true, false, false, false, false, true, true] && (behB [true, false, false, false, false, true, true] x n && toldB x)) by rw [formB, hk.out]; rfl)
  have kk : Ext w (w.alloc (.cells #[.int .i64 x.k, .int .i64 x.a, .int .i64 x.b, .slice As x.sh.length cs, .int .i64 x.lo, .int .i64 x.hi, .int .i64 x.sz, .slice Ad x.da.length cd, .slice Ab x.bi.length cb] 40)) := (Ext.refl w).alloc _
  go_enter Try.func46, Try.ntmps46
  go_wp2_with fail
  generalize w.alloc (.cells #[.int .i64 x.k, .int .i64 x.a, .int .i64 x.b, .slice As x.sh.length cs, .int .i64 x.lo, .int .i64 x.hi, .int .i64 x.sz, .slice Ad x.da.length cd, .slice Ab x.bi.length cb] 40) = V at *
  refine (may3 x.k hk.out V).mono ?_
  rintro e1 w1 ⟨rfl, rfl⟩
  have heq := Lib.run_eql_slice_nil (P := Try.prog) (V.alloc (.cells #[.bool true, .bool false, .bool false, .bool false, .bool false, .bool true, .bool true] 4)) 105 4 (some ⟨V.heap.size, 0, none⟩) 7 7 0 0 Try.underlying105
  have hMB : ∀ (i : Nat) (b : Bool), ([true, false, false, false, false, true, true] : List Bool)[i]? = some b → (V.alloc (.cells #[.bool true, .bool false, .bool false, .bool false, .bool false, .bool true, .bool true] 4)).cell? ⟨V.heap.size, i, none⟩ = some (.bool b) := fun i b hb => seven_at V _ _ _ _ _ _ _ 4 i _ (by rcases i with _ | _ | _ | _ | _ | _ | _ | i <;> simp at hb ⊢ <;> subst hb <;> rfl)
  have ka : Ext V (V.alloc (.cells #[.bool true, .bool false, .bool false, .bool false, .bool false, .bool true, .bool true] 4)) := (Ext.refl V).alloc _
  replace y0 := cell_ext ka y0
  replace y1 := cell_ext ka y1
  replace y2 := cell_ext ka y2
  replace y3 := cell_ext ka y3
  replace y4 := cell_ext ka y4
  replace y5 := cell_ext ka y5
  replace y6 := cell_ext ka y6
  replace y7 := cell_ext ka y7
  replace y8 := cell_ext ka y8
  replace kk := kk.trans ka
  clear ka
  go_wp2_with fail
  generalize (V.alloc (.cells #[.bool true, .bool false, .bool false, .bool false, .bool false, .bool true, .bool true] 4)) = V1 at *
  generalize V.heap.size = gm at *
  clear heq
  refine (has_any x As Ad Ab cs cd cb V1 (Lib.hid (hX.out.ext kk))).mono ?_
  rintro e2 w2 ⟨g, rfl, hh, k2⟩
  have HH := Lib.hid hh
  have MB := Lib.hid (show ∀ (i : Nat) (b : Bool), ([true, false, false, false, false, true, true] : List Bool)[i]? = some b → w2.cell? ⟨gm, i, none⟩ = some (.bool b) from fun i b hb => cell_ext k2 (hMB i b hb))
  replace y0 := cell_ext k2 y0
  replace y1 := cell_ext k2 y1
  replace y2 := cell_ext k2 y2
  replace y3 := cell_ext k2 y3
  replace y4 := cell_ext k2 y4
  replace y5 := cell_ext k2 y5
  replace y6 := cell_ext k2 y6
  replace y7 := cell_ext k2 y7
  replace y8 := cell_ext k2 y8
  replace kk := kk.trans k2
  clear hh hMB k2
  rw [hk.out] at y0
  go_wp2_with fail
  go_loop [19] (fun i => ∃ j : Nat, j ≤ 7 ∧ i = .int .i64 (j : Int) ∧ Hid (okL (hasL x) [true, false, false, false, false, true, true] = okL ((hasL x).drop j) (([true, false, false, false, false, true, true] : List Bool).drop j))) (fun i => 7 - (intOf i).toNat)
  case atStart => exact ⟨0, by omega, rfl, Lib.hid rfl⟩
  case round =>
    obtain ⟨j, hj, rfl, hF⟩ := hrel
    by_cases hlt : j < 7
    · obtain ⟨h, h1⟩ : ∃ h, (hasL x)[j]? = some h := ⟨_, List.getElem?_eq_getElem (show j < (hasL x).length from hlt)⟩
      obtain ⟨b, b1⟩ : ∃ b, ([true, false, false, false, false, true, true] : List Bool)[j]? = some b := ⟨_, List.getElem?_eq_getElem (show j < ([true, false, false, false, false, true, true] : List Bool).length from hlt)⟩
      have c0 := HH.out j h h1
      have c1 := MB.out j b b1
      have HD := Lib.hid (okL_drop h1 b1)
      clear h1 b1
      have i0 : (0 : Int) ≤ (j : Int) := by omega
      have i1 : (j : Int) < 7 := by omega
      cases h
      · have HR := Lib.hid (show okL (hasL x) [true, false, false, false, false, true, true] = okL ((hasL x).drop (j + 1)) (([true, false, false, false, false, true, true] : List Bool).drop (j + 1)) by rw [hF.out, HD.out]; rfl)
        go_wp2
        go_round
        case rel => exact ⟨j + 1, by omega, by go_num, HR⟩
        case measure => simp [intOf]; omega
      · cases b
        · have HR := Lib.hid (show formB x n = false by rw [FB.out, hF.out, HD.out]; rfl)
          go_wp2
          go_ret
          exact ⟨by show Ending.returned (.bool false) = _; rw [HR.out], kk⟩
        · have HR := Lib.hid (show okL (hasL x) [true, false, false, false, false, true, true] = okL ((hasL x).drop (j + 1)) (([true, false, false, false, false, true, true] : List Bool).drop (j + 1)) by rw [hF.out, HD.out]; rfl)
          go_wp2
          go_round
          case rel => exact ⟨j + 1, by omega, by go_num, HR⟩
          case measure => simp [intOf]; omega
    · obtain rfl : j = 7 := by omega
      have OK := Lib.hid (show okL (hasL x) [true, false, false, false, false, true, true] = true by rw [hF.out]; rfl)
      have m0 := MB.out 0 true rfl
      have m1 := MB.out 1 false rfl
      clear hF hlt hj
      by_cases pa : x.a < 0
      case pos =>
        have HR := Lib.hid (show formB x n = false by rw [FB.out, OK.out]; simp [behB, ahB, show ¬ 0 ≤ x.a by omega])
        go_wp2
        go_ret
        exact ⟨by show Ending.returned (.bool false) = _; rw [HR.out], kk⟩
      by_cases qa : (n : Int) ≤ x.a
      case pos =>
        have HR := Lib.hid (show formB x n = false by rw [FB.out, OK.out]; simp [behB, ahB, show ¬ x.a < (n : Int) by omega])
        go_wp2
        go_ret
        exact ⟨by show Ending.returned (.bool false) = _; rw [HR.out], kk⟩
      have BH := Lib.hid (show behB [true, false, false, false, false, true, true] x n = true by simp [behB, ahB, show 0 ≤ x.a by omega, show x.a < (n : Int) by omega])
      have FT := Lib.hid (show formB x n = (decide (1 ≤ (x.bi.length : Int)) && decide ((x.bi.length : Int) ≤ 64)) by rw [FB.out, OK.out, BH.out, Bool.true_and, Bool.true_and]; unfold toldB; simp [hk.out])
      by_cases z1 : (1 : Int) ≤ (x.bi.length : Int)
      case neg =>
        have HR := Lib.hid (show formB x n = false by rw [FT.out, decide_eq_false z1]; rfl)
        go_wp2
        go_ret
        exact ⟨by show Ending.returned (.bool false) = _; rw [HR.out], kk⟩
      have HR := Lib.hid (show formB x n = decide ((x.bi.length : Int) ≤ 64) by rw [FT.out, decide_eq_true z1, Bool.true_and])
      go_wp2
      go_ret
      exact ⟨by rw [HR.out]; rfl, kk⟩

set_option maxHeartbeats 8000000 in
theorem rform4 (x : Nd) (As Ad Ab : Option Addr) (cs cd cb : Nat) (w : World) (hX : Hid (NdX w x As Ad Ab cs cd cb)) (n : Nat) (hn : n ≤ 100000) (hk : Hid (x.k = 4)) :
    Calls Try.prog 46 #[.agg #[.int .i64 x.k, .int .i64 x.a, .int .i64 x.b, .slice As x.sh.length cs, .int .i64 x.lo, .int .i64 x.hi, .int .i64 x.sz, .slice Ad x.da.length cd, .slice Ab x.bi.length cb], .int .i64 (n : Int)] w fun e w' => e = .returned (.bool (formB x n)) ∧ Ext w w' := by
  obtain ⟨y0, y1, y2, y3, y4, y5, y6, y7, y8⟩ := nine_at w (.int .i64 x.k) (.int .i64 x.a) (.int .i64 x.b) (.slice As x.sh.length cs) (.int .i64 x.lo) (.int .i64 x.hi) (.int .i64 x.sz) (.slice Ad x.da.length cd) (.slice Ab x.bi.length cb) 40
  have L0 := hX.out.lsh
  have L1 := hX.out.lda
  have L2 := hX.out.lbi
  have FB := Lib.hid (show formB x n = (okL (hasL x) [true, false, true, false, false, true, true] && (behB [true, false, true, false, false, true, true] x n && toldB x)) by rw [formB, hk.out]; rfl)
  have kk : Ext w (w.alloc (.cells #[.int .i64 x.k, .int .i64 x.a, .int .i64 x.b, .slice As x.sh.length cs, .int .i64 x.lo, .int .i64 x.hi, .int .i64 x.sz, .slice Ad x.da.length cd, .slice Ab x.bi.length cb] 40)) := (Ext.refl w).alloc _
  go_enter Try.func46, Try.ntmps46
  go_wp2_with fail
  generalize w.alloc (.cells #[.int .i64 x.k, .int .i64 x.a, .int .i64 x.b, .slice As x.sh.length cs, .int .i64 x.lo, .int .i64 x.hi, .int .i64 x.sz, .slice Ad x.da.length cd, .slice Ab x.bi.length cb] 40) = V at *
  refine (may4 x.k hk.out V).mono ?_
  rintro e1 w1 ⟨rfl, rfl⟩
  have heq := Lib.run_eql_slice_nil (P := Try.prog) (V.alloc (.cells #[.bool true, .bool false, .bool true, .bool false, .bool false, .bool true, .bool true] 4)) 105 4 (some ⟨V.heap.size, 0, none⟩) 7 7 0 0 Try.underlying105
  have hMB : ∀ (i : Nat) (b : Bool), ([true, false, true, false, false, true, true] : List Bool)[i]? = some b → (V.alloc (.cells #[.bool true, .bool false, .bool true, .bool false, .bool false, .bool true, .bool true] 4)).cell? ⟨V.heap.size, i, none⟩ = some (.bool b) := fun i b hb => seven_at V _ _ _ _ _ _ _ 4 i _ (by rcases i with _ | _ | _ | _ | _ | _ | _ | i <;> simp at hb ⊢ <;> subst hb <;> rfl)
  have ka : Ext V (V.alloc (.cells #[.bool true, .bool false, .bool true, .bool false, .bool false, .bool true, .bool true] 4)) := (Ext.refl V).alloc _
  replace y0 := cell_ext ka y0
  replace y1 := cell_ext ka y1
  replace y2 := cell_ext ka y2
  replace y3 := cell_ext ka y3
  replace y4 := cell_ext ka y4
  replace y5 := cell_ext ka y5
  replace y6 := cell_ext ka y6
  replace y7 := cell_ext ka y7
  replace y8 := cell_ext ka y8
  replace kk := kk.trans ka
  clear ka
  go_wp2_with fail
  generalize (V.alloc (.cells #[.bool true, .bool false, .bool true, .bool false, .bool false, .bool true, .bool true] 4)) = V1 at *
  generalize V.heap.size = gm at *
  clear heq
  refine (has_any x As Ad Ab cs cd cb V1 (Lib.hid (hX.out.ext kk))).mono ?_
  rintro e2 w2 ⟨g, rfl, hh, k2⟩
  have HH := Lib.hid hh
  have MB := Lib.hid (show ∀ (i : Nat) (b : Bool), ([true, false, true, false, false, true, true] : List Bool)[i]? = some b → w2.cell? ⟨gm, i, none⟩ = some (.bool b) from fun i b hb => cell_ext k2 (hMB i b hb))
  replace y0 := cell_ext k2 y0
  replace y1 := cell_ext k2 y1
  replace y2 := cell_ext k2 y2
  replace y3 := cell_ext k2 y3
  replace y4 := cell_ext k2 y4
  replace y5 := cell_ext k2 y5
  replace y6 := cell_ext k2 y6
  replace y7 := cell_ext k2 y7
  replace y8 := cell_ext k2 y8
  replace kk := kk.trans k2
  clear hh hMB k2
  rw [hk.out] at y0
  go_wp2_with fail
  go_loop [19] (fun i => ∃ j : Nat, j ≤ 7 ∧ i = .int .i64 (j : Int) ∧ Hid (okL (hasL x) [true, false, true, false, false, true, true] = okL ((hasL x).drop j) (([true, false, true, false, false, true, true] : List Bool).drop j))) (fun i => 7 - (intOf i).toNat)
  case atStart => exact ⟨0, by omega, rfl, Lib.hid rfl⟩
  case round =>
    obtain ⟨j, hj, rfl, hF⟩ := hrel
    by_cases hlt : j < 7
    · obtain ⟨h, h1⟩ : ∃ h, (hasL x)[j]? = some h := ⟨_, List.getElem?_eq_getElem (show j < (hasL x).length from hlt)⟩
      obtain ⟨b, b1⟩ : ∃ b, ([true, false, true, false, false, true, true] : List Bool)[j]? = some b := ⟨_, List.getElem?_eq_getElem (show j < ([true, false, true, false, false, true, true] : List Bool).length from hlt)⟩
      have c0 := HH.out j h h1
      have c1 := MB.out j b b1
      have HD := Lib.hid (okL_drop h1 b1)
      clear h1 b1
      have i0 : (0 : Int) ≤ (j : Int) := by omega
      have i1 : (j : Int) < 7 := by omega
      cases h
      · have HR := Lib.hid (show okL (hasL x) [true, false, true, false, false, true, true] = okL ((hasL x).drop (j + 1)) (([true, false, true, false, false, true, true] : List Bool).drop (j + 1)) by rw [hF.out, HD.out]; rfl)
        go_wp2
        go_round
        case rel => exact ⟨j + 1, by omega, by go_num, HR⟩
        case measure => simp [intOf]; omega
      · cases b
        · have HR := Lib.hid (show formB x n = false by rw [FB.out, hF.out, HD.out]; rfl)
          go_wp2
          go_ret
          exact ⟨by show Ending.returned (.bool false) = _; rw [HR.out], kk⟩
        · have HR := Lib.hid (show okL (hasL x) [true, false, true, false, false, true, true] = okL ((hasL x).drop (j + 1)) (([true, false, true, false, false, true, true] : List Bool).drop (j + 1)) by rw [hF.out, HD.out]; rfl)
          go_wp2
          go_round
          case rel => exact ⟨j + 1, by omega, by go_num, HR⟩
          case measure => simp [intOf]; omega
    · obtain rfl : j = 7 := by omega
      have OK := Lib.hid (show okL (hasL x) [true, false, true, false, false, true, true] = true by rw [hF.out]; rfl)
      have m0 := MB.out 0 true rfl
      have m1 := MB.out 1 false rfl
      clear hF hlt hj
      by_cases pa : x.a < 0
      case pos =>
        have HR := Lib.hid (show formB x n = false by rw [FB.out, OK.out]; simp [behB, ahB, show ¬ 0 ≤ x.a by omega])
        go_wp2
        go_ret
        exact ⟨by show Ending.returned (.bool false) = _; rw [HR.out], kk⟩
      by_cases qa : (n : Int) ≤ x.a
      case pos =>
        have HR := Lib.hid (show formB x n = false by rw [FB.out, OK.out]; simp [behB, ahB, show ¬ x.a < (n : Int) by omega])
        go_wp2
        go_ret
        exact ⟨by show Ending.returned (.bool false) = _; rw [HR.out], kk⟩
      have BH := Lib.hid (show behB [true, false, true, false, false, true, true] x n = true by simp [behB, ahB, show 0 ≤ x.a by omega, show x.a < (n : Int) by omega])
      have FT := Lib.hid (show formB x n = (kernB x.sh x.da.length x.bi.length) by rw [FB.out, OK.out, BH.out, Bool.true_and, Bool.true_and]; unfold toldB; simp [hk.out])
      by_cases h4 : x.sh.length = 4
      case neg =>
        have hl4 : ¬ (x.sh.length : Int) = 4 := by omega
        have HR := Lib.hid (show formB x n = false by rw [FT.out]; unfold kernB; rw [decide_eq_false h4]; rfl)
        clear h4
        go_wp2
        go_ret
        exact ⟨by show Ending.returned (.bool false) = _; rw [HR.out], kk⟩
      have hl4 : (x.sh.length : Int) = 4 := by omega
      obtain ⟨k0, k1, k2, k3, hsh⟩ := four_list h4
      have HS := Lib.hid hsh
      clear hsh
      obtain ⟨ads, has, hcs⟩ := (hX.out.sh.ext kk).cells (by omega)
      have q0 := hcs 0 k0 (by rw [HS.out]; rfl)
      rw [add0J] at q0
      have HCS := Lib.hid hcs
      clear hcs
      obtain rfl := has
      have n0 : (0 : Int) < (x.sh.length : Int) := by omega
      have HR0 := Lib.hid (show kernB x.sh x.da.length x.bi.length = (cntB x.sh && (decide ((x.da.length : Int) = prodL x.sh) && decide ((x.bi.length : Int) = k0))) by rw [kernB, decide_eq_true h4, Bool.true_and, show x.sh.getD 0 0 = k0 by rw [HS.out]; rfl])
      have H4 := Lib.hid h4
      clear h4
      go_wp2_with fail
      go_loop [8, 108] (fun m i => ∃ (k : Nat) (z : Int), k ≤ 4 ∧ 1 ≤ z ∧ z ≤ 64 ^ k ∧ i = .int .i64 (k : Int) ∧ m = .int .i64 z ∧ Hid (cntB x.sh = cntB (x.sh.drop k)) ∧ Hid (prodL x.sh = z * prodL (x.sh.drop k))) (fun _ i => 4 - (intOf i).toNat)
      case atStart => exact ⟨0, 1, by omega, by omega, by simp, rfl, rfl, Lib.hid rfl, Lib.hid (by rw [Int.one_mul]; rfl)⟩
      case round =>
        obtain ⟨k, z, hk4, hz1, hz2, rfl, rfl, hC, hP⟩ := hrel
        by_cases hlt : k < 4
        · obtain ⟨v, hv⟩ : ∃ v, x.sh[k]? = some v := ⟨_, List.getElem?_eq_getElem (by have := H4.out; omega)⟩
          have hdr := Lib.hid (drop_at hv)
          have hc := HCS.out k v hv
          have hzz : z ≤ 262144 := Int.le_trans hz2 (pow_in hlt)
          have hz3 := Lib.hid hz2
          clear hv hz2
          have u0 : (0 : Int) ≤ (k : Int) := by omega
          have u1 : (k : Int) < (x.sh.length : Int) := by have := H4.out; omega
          by_cases v1 : v < 1
          · have HR := Lib.hid (show formB x n = false by rw [FT.out, HR0.out, hC.out, hdr.out, cntB_cons, decide_eq_false (show ¬ 1 ≤ v by omega)]; rfl)
            go_wp2
            go_ret
            exact ⟨by show Ending.returned (.bool false) = _; rw [HR.out], kk⟩
          by_cases v2 : 64 < v
          · have HR := Lib.hid (show formB x n = false by rw [FT.out, HR0.out, hC.out, hdr.out, cntB_cons, decide_eq_false (show ¬ v ≤ 64 by omega), Bool.and_false]; rfl)
            go_wp2
            go_ret
            exact ⟨by show Ending.returned (.bool false) = _; rw [HR.out], kk⟩
          obtain ⟨m1', m2'⟩ := mul_in hz1 hzz (show 1 ≤ v by omega) (show v ≤ 64 by omega)
          have HC2 := Lib.hid (show cntB x.sh = cntB (x.sh.drop (k + 1)) by rw [hC.out, hdr.out, cntB_cons, decide_eq_true (show 1 ≤ v by omega), decide_eq_true (show v ≤ 64 by omega)]; rfl)
          have HP2 := Lib.hid (show prodL x.sh = z * v * prodL (x.sh.drop (k + 1)) by rw [hP.out, hdr.out, prodL, Int.mul_assoc])
          have HZ2 := Lib.hid (show z * v ≤ 64 ^ (k + 1) from (mul_in hz1 hz3.out (show 1 ≤ v by omega) (show v ≤ 64 by omega)).2)
          go_wp2
          go_round
          case rel => exact ⟨k + 1, z * v, by omega, by omega, HZ2.out, by go_num, by first | rfl | go_num, HC2, HP2⟩
          case measure => simp [intOf]; omega
        · obtain rfl : k = 4 := by omega
          have hd : x.sh.drop 4 = [] := List.drop_eq_nil_of_le (by have := H4.out; omega)
          have hpz : prodL x.sh = z := by rw [hP.out, hd]; exact Int.mul_one _
          have HR := Lib.hid (show formB x n = (decide ((x.da.length : Int) = z) && decide ((x.bi.length : Int) = k0)) by rw [FT.out, HR0.out, hC.out, hd, hpz]; rfl)
          clear hd hpz hz2
          by_cases e1 : (x.da.length : Int) = z
          · have E1 := Lib.hid e1
            go_wp2_with fail
            go_quiet (fail)
            go_wp2
            go_ret
            exact ⟨by show Ending.returned (.bool (decide ((x.bi.length : Int) = k0))) = _; rw [HR.out, decide_eq_true E1.out, Bool.true_and], kk.trans (by repeat (first | exact Ext.refl _ | refine Ext.drewN ?_ _))⟩
          · have E1 := Lib.hid e1
            go_wp2_with fail
            go_quiet (fail)
            go_wp2
            go_ret
            exact ⟨by show Ending.returned (.bool false) = _; rw [HR.out, decide_eq_false E1.out, Bool.false_and], kk.trans (by repeat (first | exact Ext.refl _ | refine Ext.drewN ?_ _))⟩

set_option maxHeartbeats 8000000 in
theorem rform5 (x : Nd) (As Ad Ab : Option Addr) (cs cd cb : Nat) (w : World) (hX : Hid (NdX w x As Ad Ab cs cd cb)) (n : Nat) (hn : n ≤ 100000) (hk : Hid (x.k = 5)) :
    Calls Try.prog 46 #[.agg #[.int .i64 x.k, .int .i64 x.a, .int .i64 x.b, .slice As x.sh.length cs, .int .i64 x.lo, .int .i64 x.hi, .int .i64 x.sz, .slice Ad x.da.length cd, .slice Ab x.bi.length cb], .int .i64 (n : Int)] w fun e w' => e = .returned (.bool (formB x n)) ∧ Ext w w' := by
  obtain ⟨y0, y1, y2, y3, y4, y5, y6, y7, y8⟩ := nine_at w (.int .i64 x.k) (.int .i64 x.a) (.int .i64 x.b) (.slice As x.sh.length cs) (.int .i64 x.lo) (.int .i64 x.hi) (.int .i64 x.sz) (.slice Ad x.da.length cd) (.slice Ab x.bi.length cb) 40
  have L0 := hX.out.lsh
  have L1 := hX.out.lda
  have L2 := hX.out.lbi
  have FB := Lib.hid (show formB x n = (okL (hasL x) [true, false, false, false, true, false, false] && (behB [true, false, false, false, true, false, false] x n && toldB x)) by rw [formB, hk.out]; rfl)
  have kk : Ext w (w.alloc (.cells #[.int .i64 x.k, .int .i64 x.a, .int .i64 x.b, .slice As x.sh.length cs, .int .i64 x.lo, .int .i64 x.hi, .int .i64 x.sz, .slice Ad x.da.length cd, .slice Ab x.bi.length cb] 40)) := (Ext.refl w).alloc _
  go_enter Try.func46, Try.ntmps46
  go_wp2_with fail
  generalize w.alloc (.cells #[.int .i64 x.k, .int .i64 x.a, .int .i64 x.b, .slice As x.sh.length cs, .int .i64 x.lo, .int .i64 x.hi, .int .i64 x.sz, .slice Ad x.da.length cd, .slice Ab x.bi.length cb] 40) = V at *
  refine (may5 x.k hk.out V).mono ?_
  rintro e1 w1 ⟨rfl, rfl⟩
  have heq := Lib.run_eql_slice_nil (P := Try.prog) (V.alloc (.cells #[.bool true, .bool false, .bool false, .bool false, .bool true, .bool false, .bool false] 4)) 105 4 (some ⟨V.heap.size, 0, none⟩) 7 7 0 0 Try.underlying105
  have hMB : ∀ (i : Nat) (b : Bool), ([true, false, false, false, true, false, false] : List Bool)[i]? = some b → (V.alloc (.cells #[.bool true, .bool false, .bool false, .bool false, .bool true, .bool false, .bool false] 4)).cell? ⟨V.heap.size, i, none⟩ = some (.bool b) := fun i b hb => seven_at V _ _ _ _ _ _ _ 4 i _ (by rcases i with _ | _ | _ | _ | _ | _ | _ | i <;> simp at hb ⊢ <;> subst hb <;> rfl)
  have ka : Ext V (V.alloc (.cells #[.bool true, .bool false, .bool false, .bool false, .bool true, .bool false, .bool false] 4)) := (Ext.refl V).alloc _
  replace y0 := cell_ext ka y0
  replace y1 := cell_ext ka y1
  replace y2 := cell_ext ka y2
  replace y3 := cell_ext ka y3
  replace y4 := cell_ext ka y4
  replace y5 := cell_ext ka y5
  replace y6 := cell_ext ka y6
  replace y7 := cell_ext ka y7
  replace y8 := cell_ext ka y8
  replace kk := kk.trans ka
  clear ka
  go_wp2_with fail
  generalize (V.alloc (.cells #[.bool true, .bool false, .bool false, .bool false, .bool true, .bool false, .bool false] 4)) = V1 at *
  generalize V.heap.size = gm at *
  clear heq
  refine (has_any x As Ad Ab cs cd cb V1 (Lib.hid (hX.out.ext kk))).mono ?_
  rintro e2 w2 ⟨g, rfl, hh, k2⟩
  have HH := Lib.hid hh
  have MB := Lib.hid (show ∀ (i : Nat) (b : Bool), ([true, false, false, false, true, false, false] : List Bool)[i]? = some b → w2.cell? ⟨gm, i, none⟩ = some (.bool b) from fun i b hb => cell_ext k2 (hMB i b hb))
  replace y0 := cell_ext k2 y0
  replace y1 := cell_ext k2 y1
  replace y2 := cell_ext k2 y2
  replace y3 := cell_ext k2 y3
  replace y4 := cell_ext k2 y4
  replace y5 := cell_ext k2 y5
  replace y6 := cell_ext k2 y6
  replace y7 := cell_ext k2 y7
  replace y8 := cell_ext k2 y8
  replace kk := kk.trans k2
  clear hh hMB k2
  rw [hk.out] at y0
  go_wp2_with fail
  go_loop [19] (fun i => ∃ j : Nat, j ≤ 7 ∧ i = .int .i64 (j : Int) ∧ Hid (okL (hasL x) [true, false, false, false, true, false, false] = okL ((hasL x).drop j) (([true, false, false, false, true, false, false] : List Bool).drop j))) (fun i => 7 - (intOf i).toNat)
  case atStart => exact ⟨0, by omega, rfl, Lib.hid rfl⟩
  case round =>
    obtain ⟨j, hj, rfl, hF⟩ := hrel
    by_cases hlt : j < 7
    · obtain ⟨h, h1⟩ : ∃ h, (hasL x)[j]? = some h := ⟨_, List.getElem?_eq_getElem (show j < (hasL x).length from hlt)⟩
      obtain ⟨b, b1⟩ : ∃ b, ([true, false, false, false, true, false, false] : List Bool)[j]? = some b := ⟨_, List.getElem?_eq_getElem (show j < ([true, false, false, false, true, false, false] : List Bool).length from hlt)⟩
      have c0 := HH.out j h h1
      have c1 := MB.out j b b1
      have HD := Lib.hid (okL_drop h1 b1)
      clear h1 b1
      have i0 : (0 : Int) ≤ (j : Int) := by omega
      have i1 : (j : Int) < 7 := by omega
      cases h
      · have HR := Lib.hid (show okL (hasL x) [true, false, false, false, true, false, false] = okL ((hasL x).drop (j + 1)) (([true, false, false, false, true, false, false] : List Bool).drop (j + 1)) by rw [hF.out, HD.out]; rfl)
        go_wp2
        go_round
        case rel => exact ⟨j + 1, by omega, by go_num, HR⟩
        case measure => simp [intOf]; omega
      · cases b
        · have HR := Lib.hid (show formB x n = false by rw [FB.out, hF.out, HD.out]; rfl)
          go_wp2
          go_ret
          exact ⟨by show Ending.returned (.bool false) = _; rw [HR.out], kk⟩
        · have HR := Lib.hid (show okL (hasL x) [true, false, false, false, true, false, false] = okL ((hasL x).drop (j + 1)) (([true, false, false, false, true, false, false] : List Bool).drop (j + 1)) by rw [hF.out, HD.out]; rfl)
          go_wp2
          go_round
          case rel => exact ⟨j + 1, by omega, by go_num, HR⟩
          case measure => simp [intOf]; omega
    · obtain rfl : j = 7 := by omega
      have OK := Lib.hid (show okL (hasL x) [true, false, false, false, true, false, false] = true by rw [hF.out]; rfl)
      have m0 := MB.out 0 true rfl
      have m1 := MB.out 1 false rfl
      clear hF hlt hj
      by_cases pa : x.a < 0
      case pos =>
        have HR := Lib.hid (show formB x n = false by rw [FB.out, OK.out]; simp [behB, ahB, show ¬ 0 ≤ x.a by omega])
        go_wp2
        go_ret
        exact ⟨by show Ending.returned (.bool false) = _; rw [HR.out], kk⟩
      by_cases qa : (n : Int) ≤ x.a
      case pos =>
        have HR := Lib.hid (show formB x n = false by rw [FB.out, OK.out]; simp [behB, ahB, show ¬ x.a < (n : Int) by omega])
        go_wp2
        go_ret
        exact ⟨by show Ending.returned (.bool false) = _; rw [HR.out], kk⟩
      have BH := Lib.hid (show behB [true, false, false, false, true, false, false] x n = true by simp [behB, ahB, show 0 ≤ x.a by omega, show x.a < (n : Int) by omega])
      have FT := Lib.hid (show formB x n = (decide (1 ≤ x.sz)) by rw [FB.out, OK.out, BH.out, Bool.true_and, Bool.true_and]; unfold toldB; simp [hk.out])
      go_wp2
      go_ret
      exact ⟨by rw [FT.out]; rfl, kk⟩

set_option maxHeartbeats 8000000 in
theorem rform6 (x : Nd) (As Ad Ab : Option Addr) (cs cd cb : Nat) (w : World) (hX : Hid (NdX w x As Ad Ab cs cd cb)) (n : Nat) (hn : n ≤ 100000) (hk : Hid (x.k = 6)) :
    Calls Try.prog 46 #[.agg #[.int .i64 x.k, .int .i64 x.a, .int .i64 x.b, .slice As x.sh.length cs, .int .i64 x.lo, .int .i64 x.hi, .int .i64 x.sz, .slice Ad x.da.length cd, .slice Ab x.bi.length cb], .int .i64 (n : Int)] w fun e w' => e = .returned (.bool (formB x n)) ∧ Ext w w' := by
  obtain ⟨y0, y1, y2, y3, y4, y5, y6, y7, y8⟩ := nine_at w (.int .i64 x.k) (.int .i64 x.a) (.int .i64 x.b) (.slice As x.sh.length cs) (.int .i64 x.lo) (.int .i64 x.hi) (.int .i64 x.sz) (.slice Ad x.da.length cd) (.slice Ab x.bi.length cb) 40
  have L0 := hX.out.lsh
  have L1 := hX.out.lda
  have L2 := hX.out.lbi
  have FB := Lib.hid (show formB x n = (okL (hasL x) [true, true, false, false, false, false, false] && (behB [true, true, false, false, false, false, false] x n && toldB x)) by rw [formB, hk.out]; rfl)
  have kk : Ext w (w.alloc (.cells #[.int .i64 x.k, .int .i64 x.a, .int .i64 x.b, .slice As x.sh.length cs, .int .i64 x.lo, .int .i64 x.hi, .int .i64 x.sz, .slice Ad x.da.length cd, .slice Ab x.bi.length cb] 40)) := (Ext.refl w).alloc _
  go_enter Try.func46, Try.ntmps46
  go_wp2_with fail
  generalize w.alloc (.cells #[.int .i64 x.k, .int .i64 x.a, .int .i64 x.b, .slice As x.sh.length cs, .int .i64 x.lo, .int .i64 x.hi, .int .i64 x.sz, .slice Ad x.da.length cd, .slice Ab x.bi.length cb] 40) = V at *
  refine (may6 x.k hk.out V).mono ?_
  rintro e1 w1 ⟨rfl, rfl⟩
  have heq := Lib.run_eql_slice_nil (P := Try.prog) (V.alloc (.cells #[.bool true, .bool true, .bool false, .bool false, .bool false, .bool false, .bool false] 4)) 105 4 (some ⟨V.heap.size, 0, none⟩) 7 7 0 0 Try.underlying105
  have hMB : ∀ (i : Nat) (b : Bool), ([true, true, false, false, false, false, false] : List Bool)[i]? = some b → (V.alloc (.cells #[.bool true, .bool true, .bool false, .bool false, .bool false, .bool false, .bool false] 4)).cell? ⟨V.heap.size, i, none⟩ = some (.bool b) := fun i b hb => seven_at V _ _ _ _ _ _ _ 4 i _ (by rcases i with _ | _ | _ | _ | _ | _ | _ | i <;> simp at hb ⊢ <;> subst hb <;> rfl)
  have ka : Ext V (V.alloc (.cells #[.bool true, .bool true, .bool false, .bool false, .bool false, .bool false, .bool false] 4)) := (Ext.refl V).alloc _
  replace y0 := cell_ext ka y0
  replace y1 := cell_ext ka y1
  replace y2 := cell_ext ka y2
  replace y3 := cell_ext ka y3
  replace y4 := cell_ext ka y4
  replace y5 := cell_ext ka y5
  replace y6 := cell_ext ka y6
  replace y7 := cell_ext ka y7
  replace y8 := cell_ext ka y8
  replace kk := kk.trans ka
  clear ka
  go_wp2_with fail
  generalize (V.alloc (.cells #[.bool true, .bool true, .bool false, .bool false, .bool false, .bool false, .bool false] 4)) = V1 at *
  generalize V.heap.size = gm at *
  clear heq
  refine (has_any x As Ad Ab cs cd cb V1 (Lib.hid (hX.out.ext kk))).mono ?_
  rintro e2 w2 ⟨g, rfl, hh, k2⟩
  have HH := Lib.hid hh
  have MB := Lib.hid (show ∀ (i : Nat) (b : Bool), ([true, true, false, false, false, false, false] : List Bool)[i]? = some b → w2.cell? ⟨gm, i, none⟩ = some (.bool b) from fun i b hb => cell_ext k2 (hMB i b hb))
  replace y0 := cell_ext k2 y0
  replace y1 := cell_ext k2 y1
  replace y2 := cell_ext k2 y2
  replace y3 := cell_ext k2 y3
  replace y4 := cell_ext k2 y4
  replace y5 := cell_ext k2 y5
  replace y6 := cell_ext k2 y6
  replace y7 := cell_ext k2 y7
  replace y8 := cell_ext k2 y8
  replace kk := kk.trans k2
  clear hh hMB k2
  rw [hk.out] at y0
  go_wp2_with fail
  go_loop [19] (fun i => ∃ j : Nat, j ≤ 7 ∧ i = .int .i64 (j : Int) ∧ Hid (okL (hasL x) [true, true, false, false, false, false, false] = okL ((hasL x).drop j) (([true, true, false, false, false, false, false] : List Bool).drop j))) (fun i => 7 - (intOf i).toNat)
  case atStart => exact ⟨0, by omega, rfl, Lib.hid rfl⟩
  case round =>
    obtain ⟨j, hj, rfl, hF⟩ := hrel
    by_cases hlt : j < 7
    · obtain ⟨h, h1⟩ : ∃ h, (hasL x)[j]? = some h := ⟨_, List.getElem?_eq_getElem (show j < (hasL x).length from hlt)⟩
      obtain ⟨b, b1⟩ : ∃ b, ([true, true, false, false, false, false, false] : List Bool)[j]? = some b := ⟨_, List.getElem?_eq_getElem (show j < ([true, true, false, false, false, false, false] : List Bool).length from hlt)⟩
      have c0 := HH.out j h h1
      have c1 := MB.out j b b1
      have HD := Lib.hid (okL_drop h1 b1)
      clear h1 b1
      have i0 : (0 : Int) ≤ (j : Int) := by omega
      have i1 : (j : Int) < 7 := by omega
      cases h
      · have HR := Lib.hid (show okL (hasL x) [true, true, false, false, false, false, false] = okL ((hasL x).drop (j + 1)) (([true, true, false, false, false, false, false] : List Bool).drop (j + 1)) by rw [hF.out, HD.out]; rfl)
        go_wp2
        go_round
        case rel => exact ⟨j + 1, by omega, by go_num, HR⟩
        case measure => simp [intOf]; omega
      · cases b
        · have HR := Lib.hid (show formB x n = false by rw [FB.out, hF.out, HD.out]; rfl)
          go_wp2
          go_ret
          exact ⟨by show Ending.returned (.bool false) = _; rw [HR.out], kk⟩
        · have HR := Lib.hid (show okL (hasL x) [true, true, false, false, false, false, false] = okL ((hasL x).drop (j + 1)) (([true, true, false, false, false, false, false] : List Bool).drop (j + 1)) by rw [hF.out, HD.out]; rfl)
          go_wp2
          go_round
          case rel => exact ⟨j + 1, by omega, by go_num, HR⟩
          case measure => simp [intOf]; omega
    · obtain rfl : j = 7 := by omega
      have OK := Lib.hid (show okL (hasL x) [true, true, false, false, false, false, false] = true by rw [hF.out]; rfl)
      have m0 := MB.out 0 true rfl
      have m1 := MB.out 1 true rfl
      clear hF hlt hj
      by_cases pa : x.a < 0
      case pos =>
        have HR := Lib.hid (show formB x n = false by rw [FB.out, OK.out]; simp [behB, ahB, show ¬ 0 ≤ x.a by omega])
        go_wp2
        go_ret
        exact ⟨by show Ending.returned (.bool false) = _; rw [HR.out], kk⟩
      by_cases qa : (n : Int) ≤ x.a
      case pos =>
        have HR := Lib.hid (show formB x n = false by rw [FB.out, OK.out]; simp [behB, ahB, show ¬ x.a < (n : Int) by omega])
        go_wp2
        go_ret
        exact ⟨by show Ending.returned (.bool false) = _; rw [HR.out], kk⟩
      by_cases pb : x.b < 0
      case pos =>
        have HR := Lib.hid (show formB x n = false by rw [FB.out, OK.out]; simp [behB, ahB, show 0 ≤ x.a by omega, show x.a < (n : Int) by omega, show ¬ 0 ≤ x.b by omega])
        go_wp2
        go_ret
        exact ⟨by show Ending.returned (.bool false) = _; rw [HR.out], kk⟩
      by_cases qb : (n : Int) ≤ x.b
      case pos =>
        have HR := Lib.hid (show formB x n = false by rw [FB.out, OK.out]; simp [behB, ahB, show 0 ≤ x.a by omega, show x.a < (n : Int) by omega, show ¬ x.b < (n : Int) by omega])
        go_wp2
        go_ret
        exact ⟨by show Ending.returned (.bool false) = _; rw [HR.out], kk⟩
      have BH := Lib.hid (show behB [true, true, false, false, false, false, false] x n = true by simp [behB, ahB, show 0 ≤ x.a by omega, show x.a < (n : Int) by omega, show 0 ≤ x.b by omega, show x.b < (n : Int) by omega])
      have FT := Lib.hid (show formB x n = (true) by rw [FB.out, OK.out, BH.out, Bool.true_and, Bool.true_and]; unfold toldB; simp [hk.out])
      go_wp2
      go_ret
      exact ⟨by rw [FT.out]; rfl, kk⟩

set_option maxHeartbeats 8000000 in
theorem rform7 (x : Nd) (As Ad Ab : Option Addr) (cs cd cb : Nat) (w : World) (hX : Hid (NdX w x As Ad Ab cs cd cb)) (n : Nat) (hn : n ≤ 100000) (hk : Hid (x.k = 7)) :
    Calls Try.prog 46 #[.agg #[.int .i64 x.k, .int .i64 x.a, .int .i64 x.b, .slice As x.sh.length cs, .int .i64 x.lo, .int .i64 x.hi, .int .i64 x.sz, .slice Ad x.da.length cd, .slice Ab x.bi.length cb], .int .i64 (n : Int)] w fun e w' => e = .returned (.bool (formB x n)) ∧ Ext w w' := by
  obtain ⟨y0, y1, y2, y3, y4, y5, y6, y7, y8⟩ := nine_at w (.int .i64 x.k) (.int .i64 x.a) (.int .i64 x.b) (.slice As x.sh.length cs) (.int .i64 x.lo) (.int .i64 x.hi) (.int .i64 x.sz) (.slice Ad x.da.length cd) (.slice Ab x.bi.length cb) 40
  have L0 := hX.out.lsh
  have L1 := hX.out.lda
  have L2 := hX.out.lbi
  have FB := Lib.hid (show formB x n = (okL (hasL x) [true, false, false, false, false, true, false] && (behB [true, false, false, false, false, true, false] x n && toldB x)) by rw [formB, hk.out]; rfl)
  have kk : Ext w (w.alloc (.cells #[.int .i64 x.k, .int .i64 x.a, .int .i64 x.b, .slice As x.sh.length cs, .int .i64 x.lo, .int .i64 x.hi, .int .i64 x.sz, .slice Ad x.da.length cd, .slice Ab x.bi.length cb] 40)) := (Ext.refl w).alloc _
  go_enter Try.func46, Try.ntmps46
  go_wp2_with fail
  generalize w.alloc (.cells #[.int .i64 x.k, .int .i64 x.a, .int .i64 x.b, .slice As x.sh.length cs, .int .i64 x.lo, .int .i64 x.hi, .int .i64 x.sz, .slice Ad x.da.length cd, .slice Ab x.bi.length cb] 40) = V at *
  refine (may7 x.k hk.out V).mono ?_
  rintro e1 w1 ⟨rfl, rfl⟩
  have heq := Lib.run_eql_slice_nil (P := Try.prog) (V.alloc (.cells #[.bool true, .bool false, .bool false, .bool false, .bool false, .bool true, .bool false] 4)) 105 4 (some ⟨V.heap.size, 0, none⟩) 7 7 0 0 Try.underlying105
  have hMB : ∀ (i : Nat) (b : Bool), ([true, false, false, false, false, true, false] : List Bool)[i]? = some b → (V.alloc (.cells #[.bool true, .bool false, .bool false, .bool false, .bool false, .bool true, .bool false] 4)).cell? ⟨V.heap.size, i, none⟩ = some (.bool b) := fun i b hb => seven_at V _ _ _ _ _ _ _ 4 i _ (by rcases i with _ | _ | _ | _ | _ | _ | _ | i <;> simp at hb ⊢ <;> subst hb <;> rfl)
  have ka : Ext V (V.alloc (.cells #[.bool true, .bool false, .bool false, .bool false, .bool false, .bool true, .bool false] 4)) := (Ext.refl V).alloc _
  replace y0 := cell_ext ka y0
  replace y1 := cell_ext ka y1
  replace y2 := cell_ext ka y2
  replace y3 := cell_ext ka y3
  replace y4 := cell_ext ka y4
  replace y5 := cell_ext ka y5
  replace y6 := cell_ext ka y6
  replace y7 := cell_ext ka y7
  replace y8 := cell_ext ka y8
  replace kk := kk.trans ka
  clear ka
  go_wp2_with fail
  generalize (V.alloc (.cells #[.bool true, .bool false, .bool false, .bool false, .bool false, .bool true, .bool false] 4)) = V1 at *
  generalize V.heap.size = gm at *
  clear heq
  refine (has_any x As Ad Ab cs cd cb V1 (Lib.hid (hX.out.ext kk))).mono ?_
  rintro e2 w2 ⟨g, rfl, hh, k2⟩
  have HH := Lib.hid hh
  have MB := Lib.hid (show ∀ (i : Nat) (b : Bool), ([true, false, false, false, false, true, false] : List Bool)[i]? = some b → w2.cell? ⟨gm, i, none⟩ = some (.bool b) from fun i b hb => cell_ext k2 (hMB i b hb))
  replace y0 := cell_ext k2 y0
  replace y1 := cell_ext k2 y1
  replace y2 := cell_ext k2 y2
  replace y3 := cell_ext k2 y3
  replace y4 := cell_ext k2 y4
  replace y5 := cell_ext k2 y5
  replace y6 := cell_ext k2 y6
  replace y7 := cell_ext k2 y7
  replace y8 := cell_ext k2 y8
  replace kk := kk.trans k2
  clear hh hMB k2
  rw [hk.out] at y0
  go_wp2_with fail
  go_loop [19] (fun i => ∃ j : Nat, j ≤ 7 ∧ i = .int .i64 (j : Int) ∧ Hid (okL (hasL x) [true, false, false, false, false, true, false] = okL ((hasL x).drop j) (([true, false, false, false, false, true, false] : List Bool).drop j))) (fun i => 7 - (intOf i).toNat)
  case atStart => exact ⟨0, by omega, rfl, Lib.hid rfl⟩
  case round =>
    obtain ⟨j, hj, rfl, hF⟩ := hrel
    by_cases hlt : j < 7
    · obtain ⟨h, h1⟩ : ∃ h, (hasL x)[j]? = some h := ⟨_, List.getElem?_eq_getElem (show j < (hasL x).length from hlt)⟩
      obtain ⟨b, b1⟩ : ∃ b, ([true, false, false, false, false, true, false] : List Bool)[j]? = some b := ⟨_, List.getElem?_eq_getElem (show j < ([true, false, false, false, false, true, false] : List Bool).length from hlt)⟩
      have c0 := HH.out j h h1
      have c1 := MB.out j b b1
      have HD := Lib.hid (okL_drop h1 b1)
      clear h1 b1
      have i0 : (0 : Int) ≤ (j : Int) := by omega
      have i1 : (j : Int) < 7 := by omega
      cases h
      · have HR := Lib.hid (show okL (hasL x) [true, false, false, false, false, true, false] = okL ((hasL x).drop (j + 1)) (([true, false, false, false, false, true, false] : List Bool).drop (j + 1)) by rw [hF.out, HD.out]; rfl)
        go_wp2
        go_round
        case rel => exact ⟨j + 1, by omega, by go_num, HR⟩
        case measure => simp [intOf]; omega
      · cases b
        · have HR := Lib.hid (show formB x n = false by rw [FB.out, hF.out, HD.out]; rfl)
          go_wp2
          go_ret
          exact ⟨by show Ending.returned (.bool false) = _; rw [HR.out], kk⟩
        · have HR := Lib.hid (show okL (hasL x) [true, false, false, false, false, true, false] = okL ((hasL x).drop (j + 1)) (([true, false, false, false, false, true, false] : List Bool).drop (j + 1)) by rw [hF.out, HD.out]; rfl)
          go_wp2
          go_round
          case rel => exact ⟨j + 1, by omega, by go_num, HR⟩
          case measure => simp [intOf]; omega
    · obtain rfl : j = 7 := by omega
      have OK := Lib.hid (show okL (hasL x) [true, false, false, false, false, true, false] = true by rw [hF.out]; rfl)
      have m0 := MB.out 0 true rfl
      have m1 := MB.out 1 false rfl
      clear hF hlt hj
      by_cases pa : x.a < 0
      case pos =>
        have HR := Lib.hid (show formB x n = false by rw [FB.out, OK.out]; simp [behB, ahB, show ¬ 0 ≤ x.a by omega])
        go_wp2
        go_ret
        exact ⟨by show Ending.returned (.bool false) = _; rw [HR.out], kk⟩
      by_cases qa : (n : Int) ≤ x.a
      case pos =>
        have HR := Lib.hid (show formB x n = false by rw [FB.out, OK.out]; simp [behB, ahB, show ¬ x.a < (n : Int) by omega])
        go_wp2
        go_ret
        exact ⟨by show Ending.returned (.bool false) = _; rw [HR.out], kk⟩
      have BH := Lib.hid (show behB [true, false, false, false, false, true, false] x n = true by simp [behB, ahB, show 0 ≤ x.a by omega, show x.a < (n : Int) by omega])
      have FT := Lib.hid (show formB x n = (decide ((x.da.length : Int) = 1)) by rw [FB.out, OK.out, BH.out, Bool.true_and, Bool.true_and]; unfold toldB; simp [hk.out])
      go_wp2
      go_ret
      exact ⟨by rw [FT.out]; rfl, kk⟩

set_option maxHeartbeats 8000000 in
theorem rform8 (x : Nd) (As Ad Ab : Option Addr) (cs cd cb : Nat) (w : World) (hX : Hid (NdX w x As Ad Ab cs cd cb)) (n : Nat) (hn : n ≤ 100000) (hk : Hid (x.k = 8)) :
    Calls Try.prog 46 #[.agg #[.int .i64 x.k, .int .i64 x.a, .int .i64 x.b, .slice As x.sh.length cs, .int .i64 x.lo, .int .i64 x.hi, .int .i64 x.sz, .slice Ad x.da.length cd, .slice Ab x.bi.length cb], .int .i64 (n : Int)] w fun e w' => e = .returned (.bool (formB x n)) ∧ Ext w w' := by
  obtain ⟨y0, y1, y2, y3, y4, y5, y6, y7, y8⟩ := nine_at w (.int .i64 x.k) (.int .i64 x.a) (.int .i64 x.b) (.slice As x.sh.length cs) (.int .i64 x.lo) (.int .i64 x.hi) (.int .i64 x.sz) (.slice Ad x.da.length cd) (.slice Ab x.bi.length cb) 40
  have L0 := hX.out.lsh
  have L1 := hX.out.lda
  have L2 := hX.out.lbi
  have FB := Lib.hid (show formB x n = (okL (hasL x) [true, false, false, false, false, true, false] && (behB [true, false, false, false, false, true, false] x n && toldB x)) by rw [formB, hk.out]; rfl)
  have kk : Ext w (w.alloc (.cells #[.int .i64 x.k, .int .i64 x.a, .int .i64 x.b, .slice As x.sh.length cs, .int .i64 x.lo, .int .i64 x.hi, .int .i64 x.sz, .slice Ad x.da.length cd, .slice Ab x.bi.length cb] 40)) := (Ext.refl w).alloc _
  go_enter Try.func46, Try.ntmps46
  go_wp2_with fail
  generalize w.alloc (.cells #[.int .i64 x.k, .int .i64 x.a, .int .i64 x.b, .slice As x.sh.length cs, .int .i64 x.lo, .int .i64 x.hi, .int .i64 x.sz, .slice Ad x.da.length cd, .slice Ab x.bi.length cb] 40) = V at *
  refine (may8 x.k hk.out V).mono ?_
  rintro e1 w1 ⟨rfl, rfl⟩
  have heq := Lib.run_eql_slice_nil (P := Try.prog) (V.alloc (.cells #[.bool true, .bool false, .bool false, .bool false, .bool false, .bool true, .bool false] 4)) 105 4 (some ⟨V.heap.size, 0, none⟩) 7 7 0 0 Try.underlying105
  have hMB : ∀ (i : Nat) (b : Bool), ([true, false, false, false, false, true, false] : List Bool)[i]? = some b → (V.alloc (.cells #[.bool true, .bool false, .bool false, .bool false, .bool false, .bool true, .bool false] 4)).cell? ⟨V.heap.size, i, none⟩ = some (.bool b) := fun i b hb => seven_at V _ _ _ _ _ _ _ 4 i _ (by rcases i with _ | _ | _ | _ | _ | _ | _ | i <;> simp at hb ⊢ <;> subst hb <;> rfl)
  have ka : Ext V (V.alloc (.cells #[.bool true, .bool false, .bool false, .bool false, .bool false, .bool true, .bool false] 4)) := (Ext.refl V).alloc _
  replace y0 := cell_ext ka y0
  replace y1 := cell_ext ka y1
  replace y2 := cell_ext ka y2
  replace y3 := cell_ext ka y3
  replace y4 := cell_ext ka y4
  replace y5 := cell_ext ka y5
  replace y6 := cell_ext ka y6
  replace y7 := cell_ext ka y7
  replace y8 := cell_ext ka y8
  replace kk := kk.trans ka
  clear ka
  go_wp2_with fail
  generalize (V.alloc (.cells #[.bool true, .bool false, .bool false, .bool false, .bool false, .bool true, .bool false] 4)) = V1 at *
  generalize V.heap.size = gm at *
  clear heq
  refine (has_any x As Ad Ab cs cd cb V1 (Lib.hid (hX.out.ext kk))).mono ?_
  rintro e2 w2 ⟨g, rfl, hh, k2⟩
  have HH := Lib.hid hh
  have MB := Lib.hid (show ∀ (i : Nat) (b : Bool), ([true, false, false, false, false, true, false] : List Bool)[i]? = some b → w2.cell? ⟨gm, i, none⟩ = some (.bool b) from fun i b hb => cell_ext k2 (hMB i b hb))
  replace y0 := cell_ext k2 y0
  replace y1 := cell_ext k2 y1
  replace y2 := cell_ext k2 y2
  replace y3 := cell_ext k2 y3
  replace y4 := cell_ext k2 y4
  replace y5 := cell_ext k2 y5
  replace y6 := cell_ext k2 y6
  replace y7 := cell_ext k2 y7
  replace y8 := cell_ext k2 y8
  replace kk := kk.trans k2
  clear hh hMB k2
  rw [hk.out] at y0
  go_wp2_with fail
  go_loop [19] (fun i => ∃ j : Nat, j ≤ 7 ∧ i = .int .i64 (j : Int) ∧ Hid (okL (hasL x) [true, false, false, false, false, true, false] = okL ((hasL x).drop j) (([true, false, false, false, false, true, false] : List Bool).drop j))) (fun i => 7 - (intOf i).toNat)
  case atStart => exact ⟨0, by omega, rfl, Lib.hid rfl⟩
  case round =>
    obtain ⟨j, hj, rfl, hF⟩ := hrel
    by_cases hlt : j < 7
    · obtain ⟨h, h1⟩ : ∃ h, (hasL x)[j]? = some h := ⟨_, List.getElem?_eq_getElem (show j < (hasL x).length from hlt)⟩
      obtain ⟨b, b1⟩ : ∃ b, ([true, false, false, false, false, true, false] : List Bool)[j]? = some b := ⟨_, List.getElem?_eq_getElem (show j < ([true, false, false, false, false, true, false] : List Bool).length from hlt)⟩
      have c0 := HH.out j h h1
      have c1 := MB.out j b b1
      have HD := Lib.hid (okL_drop h1 b1)
      clear h1 b1
      have i0 : (0 : Int) ≤ (j : Int) := by omega
      have i1 : (j : Int) < 7 := by omega
      cases h
      · have HR := Lib.hid (show okL (hasL x) [true, false, false, false, false, true, false] = okL ((hasL x).drop (j + 1)) (([true, false, false, false, false, true, false] : List Bool).drop (j + 1)) by rw [hF.out, HD.out]; rfl)
        go_wp2
        go_round
        case rel => exact ⟨j + 1, by omega, by go_num, HR⟩
        case measure => simp [intOf]; omega
      · cases b
        · have HR := Lib.hid (show formB x n = false by rw [FB.out, hF.out, HD.out]; rfl)
          go_wp2
          go_ret
          exact ⟨by show Ending.returned (.bool false) = _; rw [HR.out], kk⟩
        · have HR := Lib.hid (show okL (hasL x) [true, false, false, false, false, true, false] = okL ((hasL x).drop (j + 1)) (([true, false, false, false, false, true, false] : List Bool).drop (j + 1)) by rw [hF.out, HD.out]; rfl)
          go_wp2
          go_round
          case rel => exact ⟨j + 1, by omega, by go_num, HR⟩
          case measure => simp [intOf]; omega
    · obtain rfl : j = 7 := by omega
      have OK := Lib.hid (show okL (hasL x) [true, false, false, false, false, true, false] = true by rw [hF.out]; rfl)
      have m0 := MB.out 0 true rfl
      have m1 := MB.out 1 false rfl
      clear hF hlt hj
      by_cases pa : x.a < 0
      case pos =>
        have HR := Lib.hid (show formB x n = false by rw [FB.out, OK.out]; simp [behB, ahB, show ¬ 0 ≤ x.a by omega])
        go_wp2
        go_ret
        exact ⟨by show Ending.returned (.bool false) = _; rw [HR.out], kk⟩
      by_cases qa : (n : Int) ≤ x.a
      case pos =>
        have HR := Lib.hid (show formB x n = false by rw [FB.out, OK.out]; simp [behB, ahB, show ¬ x.a < (n : Int) by omega])
        go_wp2
        go_ret
        exact ⟨by show Ending.returned (.bool false) = _; rw [HR.out], kk⟩
      have BH := Lib.hid (show behB [true, false, false, false, false, true, false] x n = true by simp [behB, ahB, show 0 ≤ x.a by omega, show x.a < (n : Int) by omega])
      have FT := Lib.hid (show formB x n = (decide ((x.da.length : Int) = 3)) by rw [FB.out, OK.out, BH.out, Bool.true_and, Bool.true_and]; unfold toldB; simp [hk.out])
      go_wp2
      go_ret
      exact ⟨by rw [FT.out]; rfl, kk⟩

set_option maxHeartbeats 8000000 in
theorem rform9 (x : Nd) (As Ad Ab : Option Addr) (cs cd cb : Nat) (w : World) (hX : Hid (NdX w x As Ad Ab cs cd cb)) (n : Nat) (hn : n ≤ 100000) (hk : Hid (x.k = 9)) :
    Calls Try.prog 46 #[.agg #[.int .i64 x.k, .int .i64 x.a, .int .i64 x.b, .slice As x.sh.length cs, .int .i64 x.lo, .int .i64 x.hi, .int .i64 x.sz, .slice Ad x.da.length cd, .slice Ab x.bi.length cb], .int .i64 (n : Int)] w fun e w' => e = .returned (.bool (formB x n)) ∧ Ext w w' := by
  obtain ⟨y0, y1, y2, y3, y4, y5, y6, y7, y8⟩ := nine_at w (.int .i64 x.k) (.int .i64 x.a) (.int .i64 x.b) (.slice As x.sh.length cs) (.int .i64 x.lo) (.int .i64 x.hi) (.int .i64 x.sz) (.slice Ad x.da.length cd) (.slice Ab x.bi.length cb) 40
  have L0 := hX.out.lsh
  have L1 := hX.out.lda
  have L2 := hX.out.lbi
  have FB := Lib.hid (show formB x n = (okL (hasL x) [true, false, true, false, false, false, false] && (behB [true, false, true, false, false, false, false] x n && toldB x)) by rw [formB, hk.out]; rfl)
  have kk : Ext w (w.alloc (.cells #[.int .i64 x.k, .int .i64 x.a, .int .i64 x.b, .slice As x.sh.length cs, .int .i64 x.lo, .int .i64 x.hi, .int .i64 x.sz, .slice Ad x.da.length cd, .slice Ab x.bi.length cb] 40)) := (Ext.refl w).alloc _
  go_enter Try.func46, Try.ntmps46
  go_wp2_with fail
  generalize w.alloc (.cells #[.int .i64 x.k, .int .i64 x.a, .int .i64 x.b, .slice As x.sh.length cs, .int .i64 x.lo, .int .i64 x.hi, .int .i64 x.sz, .slice Ad x.da.length cd, .slice Ab x.bi.length cb] 40) = V at *
  refine (may9 x.k hk.out V).mono ?_
  rintro e1 w1 ⟨rfl, rfl⟩
  have heq := Lib.run_eql_slice_nil (P := Try.prog) (V.alloc (.cells #[.bool true, .bool false, .bool true, .bool false, .bool false, .bool false, .bool false] 4)) 105 4 (some ⟨V.heap.size, 0, none⟩) 7 7 0 0 Try.underlying105
  have hMB : ∀ (i : Nat) (b : Bool), ([true, false, true, false, false, false, false] : List Bool)[i]? = some b → (V.alloc (.cells #[.bool true, .bool false, .bool true, .bool false, .bool false, .bool false, .bool false] 4)).cell? ⟨V.heap.size, i, none⟩ = some (.bool b) := fun i b hb => seven_at V _ _ _ _ _ _ _ 4 i _ (by rcases i with _ | _ | _ | _ | _ | _ | _ | i <;> simp at hb ⊢ <;> subst hb <;> rfl)
  have ka : Ext V (V.alloc (.cells #[.bool true, .bool false, .bool true, .bool false, .bool false, .bool false, .bool false] 4)) := (Ext.refl V).alloc _
  replace y0 := cell_ext ka y0
  replace y1 := cell_ext ka y1
  replace y2 := cell_ext ka y2
  replace y3 := cell_ext ka y3
  replace y4 := cell_ext ka y4
  replace y5 := cell_ext ka y5
  replace y6 := cell_ext ka y6
  replace y7 := cell_ext ka y7
  replace y8 := cell_ext ka y8
  replace kk := kk.trans ka
  clear ka
  go_wp2_with fail
  generalize (V.alloc (.cells #[.bool true, .bool false, .bool true, .bool false, .bool false, .bool false, .bool false] 4)) = V1 at *
  generalize V.heap.size = gm at *
  clear heq
  refine (has_any x As Ad Ab cs cd cb V1 (Lib.hid (hX.out.ext kk))).mono ?_
  rintro e2 w2 ⟨g, rfl, hh, k2⟩
  have HH := Lib.hid hh
  have MB := Lib.hid (show ∀ (i : Nat) (b : Bool), ([true, false, true, false, false, false, false] : List Bool)[i]? = some b → w2.cell? ⟨gm, i, none⟩ = some (.bool b) from fun i b hb => cell_ext k2 (hMB i b hb))
  replace y0 := cell_ext k2 y0
  replace y1 := cell_ext k2 y1
  replace y2 := cell_ext k2 y2
  replace y3 := cell_ext k2 y3
  replace y4 := cell_ext k2 y4
  replace y5 := cell_ext k2 y5
  replace y6 := cell_ext k2 y6
  replace y7 := cell_ext k2 y7
  replace y8 := cell_ext k2 y8
  replace kk := kk.trans k2
  clear hh hMB k2
  rw [hk.out] at y0
  go_wp2_with fail
  go_loop [19] (fun i => ∃ j : Nat, j ≤ 7 ∧ i = .int .i64 (j : Int) ∧ Hid (okL (hasL x) [true, false, true, false, false, false, false] = okL ((hasL x).drop j) (([true, false, true, false, false, false, false] : List Bool).drop j))) (fun i => 7 - (intOf i).toNat)
  case atStart => exact ⟨0, by omega, rfl, Lib.hid rfl⟩
  case round =>
    obtain ⟨j, hj, rfl, hF⟩ := hrel
    by_cases hlt : j < 7
    · obtain ⟨h, h1⟩ : ∃ h, (hasL x)[j]? = some h := ⟨_, List.getElem?_eq_getElem (show j < (hasL x).length from hlt)⟩
      obtain ⟨b, b1⟩ : ∃ b, ([true, false, true, false, false, false, false] : List Bool)[j]? = some b := ⟨_, List.getElem?_eq_getElem (show j < ([true, false, true, false, false, false, false] : List Bool).length from hlt)⟩
      have c0 := HH.out j h h1
      have c1 := MB.out j b b1
      have HD := Lib.hid (okL_drop h1 b1)
      clear h1 b1
      have i0 : (0 : Int) ≤ (j : Int) := by omega
      have i1 : (j : Int) < 7 := by omega
      cases h
      · have HR := Lib.hid (show okL (hasL x) [true, false, true, false, false, false, false] = okL ((hasL x).drop (j + 1)) (([true, false, true, false, false, false, false] : List Bool).drop (j + 1)) by rw [hF.out, HD.out]; rfl)
        go_wp2
        go_round
        case rel => exact ⟨j + 1, by omega, by go_num, HR⟩
        case measure => simp [intOf]; omega
      · cases b
        · have HR := Lib.hid (show formB x n = false by rw [FB.out, hF.out, HD.out]; rfl)
          go_wp2
          go_ret
          exact ⟨by show Ending.returned (.bool false) = _; rw [HR.out], kk⟩
        · have HR := Lib.hid (show okL (hasL x) [true, false, true, false, false, false, false] = okL ((hasL x).drop (j + 1)) (([true, false, true, false, false, false, false] : List Bool).drop (j + 1)) by rw [hF.out, HD.out]; rfl)
          go_wp2
          go_round
          case rel => exact ⟨j + 1, by omega, by go_num, HR⟩
          case measure => simp [intOf]; omega
    · obtain rfl : j = 7 := by omega
      have OK := Lib.hid (show okL (hasL x) [true, false, true, false, false, false, false] = true by rw [hF.out]; rfl)
      have m0 := MB.out 0 true rfl
      have m1 := MB.out 1 false rfl
      clear hF hlt hj
      by_cases pa : x.a < 0
      case pos =>
        have HR := Lib.hid (show formB x n = false by rw [FB.out, OK.out]; simp [behB, ahB, show ¬ 0 ≤ x.a by omega])
        go_wp2
        go_ret
        exact ⟨by show Ending.returned (.bool false) = _; rw [HR.out], kk⟩
      by_cases qa : (n : Int) ≤ x.a
      case pos =>
        have HR := Lib.hid (show formB x n = false by rw [FB.out, OK.out]; simp [behB, ahB, show ¬ x.a < (n : Int) by omega])
        go_wp2
        go_ret
        exact ⟨by show Ending.returned (.bool false) = _; rw [HR.out], kk⟩
      have BH := Lib.hid (show behB [true, false, true, false, false, false, false] x n = true by simp [behB, ahB, show 0 ≤ x.a by omega, show x.a < (n : Int) by omega])
      have FT := Lib.hid (show formB x n = (decide (0 < entN x.sh)) by rw [FB.out, OK.out, BH.out, Bool.true_and, Bool.true_and]; unfold toldB; simp [hk.out])
      go_wp2_with fail
      refine (rent_any As x.sh.length cs x.sh w2 (Lib.hid (hX.out.sh.ext kk))).mono ?_
      rintro e3 w3 ⟨rfl, rfl⟩
      go_wp2
      go_ret
      exact ⟨by rw [FT.out]; rfl, kk⟩
end Go.Proofs.Ytdnjjpkajiehgaa
