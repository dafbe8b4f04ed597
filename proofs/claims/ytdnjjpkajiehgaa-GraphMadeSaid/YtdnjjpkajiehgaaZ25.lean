/-
  What ruleOf answers.
-/
import Derived.Test.YtdnjjpkajiehgaaZ11
import Derived.Laws.EntriesVeiled
import Derived.Test.YtdnjjpkajiehgaaZ12
namespace Go.Proofs.Ytdnjjpkajiehgaa
open Go.RowKit
set_option linter.unusedVariables false
set_option maxRecDepth 100000

theorem rule1 (k : Int) (hk : k = 1) (w : World) : Calls Try.prog 67 #[.int .i64 k] w fun e w' => e = .returned (.agg #[.int .i64 12, .func (.func 91) #[] #[], .func (.func 92) #[] #[]]) ∧ Ext w w' := by
  subst hk
  go_enter Try.func67, Try.ntmps67
  go_wp2
  exact bodyPost_ret (v := .agg #[.int .i64 12, .func (.func 91) #[] #[], .func (.func 92) #[] #[]]) (by simp [results, Try.results67, go_sem]) rfl ⟨rfl, (Ext.refl w).alloc _⟩
theorem rule2 (k : Int) (hk : k = 2) (w : World) : Calls Try.prog 67 #[.int .i64 k] w fun e w' => e = .returned (.agg #[.int .i64 36, .func (.func 93) #[] #[], .func (.func 92) #[] #[]]) ∧ Ext w w' := by
  subst hk
  go_enter Try.func67, Try.ntmps67
  go_wp2
  exact bodyPost_ret (v := .agg #[.int .i64 36, .func (.func 93) #[] #[], .func (.func 92) #[] #[]]) (by simp [results, Try.results67, go_sem]) rfl ⟨rfl, (Ext.refl w).alloc _⟩
theorem rule3 (k : Int) (hk : k = 3) (w : World) : Calls Try.prog 67 #[.int .i64 k] w fun e w' => e = .returned (.agg #[.int .i64 97, .func (.func 94) #[] #[], .func (.func 95) #[] #[]]) ∧ Ext w w' := by
  subst hk
  go_enter Try.func67, Try.ntmps67
  go_wp2
  exact bodyPost_ret (v := .agg #[.int .i64 97, .func (.func 94) #[] #[], .func (.func 95) #[] #[]]) (by simp [results, Try.results67, go_sem]) rfl ⟨rfl, (Ext.refl w).alloc _⟩
theorem rule4 (k : Int) (hk : k = 4) (w : World) : Calls Try.prog 67 #[.int .i64 k] w fun e w' => e = .returned (.agg #[.int .i64 101, .func (.func 96) #[] #[], .func (.func 97) #[] #[]]) ∧ Ext w w' := by
  subst hk
  go_enter Try.func67, Try.ntmps67
  go_wp2
  exact bodyPost_ret (v := .agg #[.int .i64 101, .func (.func 96) #[] #[], .func (.func 97) #[] #[]]) (by simp [results, Try.results67, go_sem]) rfl ⟨rfl, (Ext.refl w).alloc _⟩
theorem rule5 (k : Int) (hk : k = 5) (w : World) : Calls Try.prog 67 #[.int .i64 k] w fun e w' => e = .returned (.agg #[.int .i64 17, .func (.func 98) #[] #[], .func (.func 99) #[] #[]]) ∧ Ext w w' := by
  subst hk
  go_enter Try.func67, Try.ntmps67
  go_wp2
  exact bodyPost_ret (v := .agg #[.int .i64 17, .func (.func 98) #[] #[], .func (.func 99) #[] #[]]) (by simp [results, Try.results67, go_sem]) rfl ⟨rfl, (Ext.refl w).alloc _⟩
theorem rule6 (k : Int) (hk : k = 6) (w : World) : Calls Try.prog 67 #[.int .i64 k] w fun e w' => e = .returned (.agg #[.int .i64 3, .func (.func 100) #[] #[], .func (.func 101) #[] #[]]) ∧ Ext w w' := by
  subst hk
  go_enter Try.func67, Try.ntmps67
  go_wp2
  exact bodyPost_ret (v := .agg #[.int .i64 3, .func (.func 100) #[] #[], .func (.func 101) #[] #[]]) (by simp [results, Try.results67, go_sem]) rfl ⟨rfl, (Ext.refl w).alloc _⟩
theorem rule7 (k : Int) (hk : k = 7) (w : World) : Calls Try.prog 67 #[.int .i64 k] w fun e w' => e = .returned (.agg #[.int .i64 33, .func (.func 102) #[] #[], .func (.func 103) #[] #[]]) ∧ Ext w w' := by
  subst hk
  go_enter Try.func67, Try.ntmps67
  go_wp2
  exact bodyPost_ret (v := .agg #[.int .i64 33, .func (.func 102) #[] #[], .func (.func 103) #[] #[]]) (by simp [results, Try.results67, go_sem]) rfl ⟨rfl, (Ext.refl w).alloc _⟩
theorem rule8 (k : Int) (hk : k = 8) (w : World) : Calls Try.prog 67 #[.int .i64 k] w fun e w' => e = .returned (.agg #[.int .i64 33, .func (.func 104) #[] #[], .func (.func 103) #[] #[]]) ∧ Ext w w' := by
  subst hk
  go_enter Try.func67, Try.ntmps67
  go_wp2
  exact bodyPost_ret (v := .agg #[.int .i64 33, .func (.func 104) #[] #[], .func (.func 103) #[] #[]]) (by simp [results, Try.results67, go_sem]) rfl ⟨rfl, (Ext.refl w).alloc _⟩
theorem rule9 (k : Int) (hk : k = 9) (w : World) : Calls Try.prog 67 #[.int .i64 k] w fun e w' => e = .returned (.agg #[.int .i64 5, .func (.func 91) #[] #[], .func (.func 105) #[] #[]]) ∧ Ext w w' := by
  subst hk
  go_enter Try.func67, Try.ntmps67
  go_wp2
  exact bodyPost_ret (v := .agg #[.int .i64 5, .func (.func 91) #[] #[], .func (.func 105) #[] #[]]) (by simp [results, Try.results67, go_sem]) rfl ⟨rfl, (Ext.refl w).alloc _⟩
theorem rule0 (k : Int) (hk : k ≠ 1 ∧ k ≠ 2 ∧ k ≠ 3 ∧ k ≠ 4 ∧ k ≠ 5 ∧ k ≠ 6 ∧ k ≠ 7 ∧ k ≠ 8 ∧ k ≠ 9) (w : World) : Calls Try.prog 67 #[.int .i64 k] w fun e w' => e = .returned (.agg #[.int .i64 0, .nilFunc, .nilFunc]) ∧ Ext w w' := by
  obtain ⟨h1, h2, h3, h4, h5, h6, h7, h8, h9⟩ := hk
  go_enter Try.func67, Try.ntmps67
  go_wp2
  exact bodyPost_ret (v := .agg #[.int .i64 0, .nilFunc, .nilFunc]) (by simp [results, Try.results67, go_sem]) rfl ⟨rfl, (Ext.refl w).alloc _⟩
end Go.Proofs.Ytdnjjpkajiehgaa

/-
  Check of a node of kind 1.
-/
namespace Go.Proofs.Ytdnjjpkajiehgaa
open Go.RowKit
set_option linter.unusedVariables false
set_option maxRecDepth 100000

set_option maxHeartbeats 8000000 in
theorem check1 (x : Nd) (As Ad Ab Ah : Option Addr) (cs cd cb ch : Nat) (shs : List (List Int)) (w : World) (hX : Hid (Plc w x As Ad Ab Ah cs cd cb ch shs)) (hk : Hid (x.k = 1)) :
    Calls Try.prog 45 #[.agg #[.int .i64 x.k, .int .i64 x.a, .int .i64 x.b, .slice As x.sh.length cs, .int .i64 x.lo, .int .i64 x.hi, .int .i64 x.sz, .slice Ad x.da.length cd, .slice Ab x.bi.length cb, .slice Ah shs.length ch]] w fun e w' => NodePost w (nodeR x shs) e w' := by
  obtain ⟨y0, y1, y2, y3, y4, y5, y6, y7, y8, y9⟩ := ten_at w (.int .i64 x.k) (.int .i64 x.a) (.int .i64 x.b) (.slice As x.sh.length cs) (.int .i64 x.lo) (.int .i64 x.hi) (.int .i64 x.sz) (.slice Ad x.da.length cd) (.slice Ab x.bi.length cb) (.slice Ah shs.length ch) 71
  have kk : Ext w (w.alloc (.cells #[.int .i64 x.k, .int .i64 x.a, .int .i64 x.b, .slice As x.sh.length cs, .int .i64 x.lo, .int .i64 x.hi, .int .i64 x.sz, .slice Ad x.da.length cd, .slice Ab x.bi.length cb, .slice Ah shs.length ch] 71)) := (Ext.refl w).alloc _
  go_enter Try.func45, Try.ntmps45
  go_wp2_with fail
  generalize w.alloc (.cells #[.int .i64 x.k, .int .i64 x.a, .int .i64 x.b, .slice As x.sh.length cs, .int .i64 x.lo, .int .i64 x.hi, .int .i64 x.sz, .slice Ad x.da.length cd, .slice Ab x.bi.length cb, .slice Ah shs.length ch] 71) = V at *
  refine (rule1 x.k hk.out V).mono ?_
  rintro e1 w1 ⟨rfl, k1⟩
  have k2 : Ext V (w1.alloc (.cells #[.int .i64 12, .func (.func 91) #[] #[], .func (.func 92) #[] #[]] 102)) := k1.alloc _
  replace y0 := cell_ext k2 y0
  replace y1 := cell_ext k2 y1
  replace y2 := cell_ext k2 y2
  replace y3 := cell_ext k2 y3
  replace y4 := cell_ext k2 y4
  replace y5 := cell_ext k2 y5
  replace y6 := cell_ext k2 y6
  replace y7 := cell_ext k2 y7
  replace y8 := cell_ext k2 y8
  replace y9 := cell_ext k2 y9
  obtain ⟨r0, r1, r2⟩ := three_at w1 (.int .i64 12) (.func (.func 91) #[] #[]) (.func (.func 92) #[] #[]) 102
  replace kk := kk.trans k2
  clear k1 k2
  go_wp2_with fail
  generalize w1.alloc (.cells #[.int .i64 12, .func (.func 91) #[] #[], .func (.func 92) #[] #[]] 102) = W at *
  generalize w1.heap.size = g at *
  refine (noMore12 x As Ad Ab Ah cs cd cb ch shs W (Lib.hid (hX.out.ext kk))).mono ?_
  rintro e w2 ⟨rfl, k⟩
  replace y0 := cell_ext k y0
  replace y1 := cell_ext k y1
  replace y2 := cell_ext k y2
  replace y3 := cell_ext k y3
  replace y4 := cell_ext k y4
  replace y5 := cell_ext k y5
  replace y6 := cell_ext k y6
  replace y7 := cell_ext k y7
  replace y8 := cell_ext k y8
  replace y9 := cell_ext k y9
  replace r0 := cell_ext k r0
  replace r1 := cell_ext k r1
  replace r2 := cell_ext k r2
  replace kk := kk.trans k
  clear k
  obtain ⟨b, hb⟩ : ∃ b, (okL (hasL x) [false, false, true, true, false, false, false]) = b := ⟨_, rfl⟩
  have B2 := Lib.hid hb
  rw [hb]
  clear hb
  cases b
  · have HR := Lib.hid (node_form (show formB x shs.length = false by rw [formB, hk.out]; show (okL (hasL x) [false, false, true, true, false, false, false] && (behB [false, false, true, true, false, false, false] x shs.length && toldB x)) = false; rw [B2.out]; rfl))
    go_wp2
    go_ret2
    exact .inr ⟨3, HR.out, by omega, rfl, kk⟩
  go_wp2_with fail
  refine (behind12 x As Ad Ab Ah cs cd cb ch shs w2 (Lib.hid (hX.out.ext kk))).mono ?_
  rintro e w3 ⟨rfl, k⟩
  replace y0 := cell_ext k y0
  replace y1 := cell_ext k y1
  replace y2 := cell_ext k y2
  replace y3 := cell_ext k y3
  replace y4 := cell_ext k y4
  replace y5 := cell_ext k y5
  replace y6 := cell_ext k y6
  replace y7 := cell_ext k y7
  replace y8 := cell_ext k y8
  replace y9 := cell_ext k y9
  replace r0 := cell_ext k r0
  replace r1 := cell_ext k r1
  replace r2 := cell_ext k r2
  replace kk := kk.trans k
  clear k
  obtain ⟨b, hb⟩ : ∃ b, (true) = b := ⟨_, rfl⟩
  have B3 := Lib.hid hb
  rw [hb]
  clear hb
  cases b
  · exact absurd B3.out (by decide)
  go_wp2_with fail
  refine (hasShape_any x As Ad Ab Ah cs cd cb ch shs w3 (Lib.hid (hX.out.ext kk))).mono ?_
  rintro e w4 ⟨rfl, k⟩
  replace y0 := cell_ext k y0
  replace y1 := cell_ext k y1
  replace y2 := cell_ext k y2
  replace y3 := cell_ext k y3
  replace y4 := cell_ext k y4
  replace y5 := cell_ext k y5
  replace y6 := cell_ext k y6
  replace y7 := cell_ext k y7
  replace y8 := cell_ext k y8
  replace y9 := cell_ext k y9
  replace r0 := cell_ext k r0
  replace r1 := cell_ext k r1
  replace r2 := cell_ext k r2
  replace kk := kk.trans k
  clear k
  obtain ⟨b, hb⟩ : ∃ b, (decide (0 < entN x.sh)) = b := ⟨_, rfl⟩
  have B4 := Lib.hid hb
  rw [hb]
  clear hb
  cases b
  · have HR := Lib.hid (node_form (show formB x shs.length = false by rw [formB, hk.out]; show (okL (hasL x) [false, false, true, true, false, false, false] && (behB [false, false, true, true, false, false, false] x shs.length && toldB x)) = false; rw [B2.out, show behB [false, false, true, true, false, false, false] x shs.length = true from rfl, show toldB x = (decide (0 < entN x.sh)) from by unfold toldB; simp [hk.out], B4.out]; rfl))
    go_wp2
    go_ret2
    exact .inr ⟨3, HR.out, by omega, rfl, kk⟩
  have FT := Lib.hid (show formB x shs.length = true by rw [formB, hk.out]; show (okL (hasL x) [false, false, true, true, false, false, false] && (behB [false, false, true, true, false, false, false] x shs.length && toldB x)) = true; rw [B2.out, show behB [false, false, true, true, false, false, false] x shs.length = true from rfl, show toldB x = (decide (0 < entN x.sh)) from by unfold toldB; simp [hk.out], B4.out]; rfl)
  go_wp2_with fail
  refine (own_any x As Ad Ab Ah cs cd cb ch shs w4 (Lib.hid (hX.out.ext kk))).mono ?_
  rintro e w5 ⟨A5, c5, rfl, hz, hf, k⟩
  have HSH := Lib.hid (show shapeO x shs = some x.sh from by unfold shapeO; simp [hk.out])
  have H5 := Lib.hid (And.intro hz hf)
  have hk5 := kk.size
  clear hz hf
  replace y0 := cell_ext k y0
  replace y1 := cell_ext k y1
  replace y2 := cell_ext k y2
  replace y3 := cell_ext k y3
  replace y4 := cell_ext k y4
  replace y5 := cell_ext k y5
  replace y6 := cell_ext k y6
  replace y7 := cell_ext k y7
  replace y8 := cell_ext k y8
  replace y9 := cell_ext k y9
  replace r0 := cell_ext k r0
  replace r1 := cell_ext k r1
  replace r2 := cell_ext k r2
  replace kk := kk.trans k
  clear k
  have HL := Lib.hid ((entN_len (show 0 < entN x.sh from by have := B4.out; revert this; by_cases h : 0 < entN x.sh <;> simp [h])).1)
  have hl : ¬ ((x.sh.length : Nat) : Int) = 0 := by have := HL.out; omega
  go_wp2_with fail
  refine (within_any x As Ad Ab Ah cs cd cb ch shs w5 (Lib.hid (hX.out.ext kk))).mono ?_
  rintro e w6 ⟨rfl, k⟩
  replace H5 := Lib.hid (And.intro (H5.out.1.ext k) H5.out.2)
  replace y0 := cell_ext k y0
  replace y1 := cell_ext k y1
  replace y2 := cell_ext k y2
  replace y3 := cell_ext k y3
  replace y4 := cell_ext k y4
  replace y5 := cell_ext k y5
  replace y6 := cell_ext k y6
  replace y7 := cell_ext k y7
  replace y8 := cell_ext k y8
  replace y9 := cell_ext k y9
  replace r0 := cell_ext k r0
  replace r1 := cell_ext k r1
  replace r2 := cell_ext k r2
  replace kk := kk.trans k
  clear k
  obtain ⟨b, hb⟩ : ∃ b, (nearOK x) = b := ⟨_, rfl⟩
  have B6 := Lib.hid hb
  rw [hb]
  clear hb
  cases b
  · have HR := Lib.hid (node_far FT.out HSH.out B6.out)
    go_wp2
    go_ret2
    exact .inr ⟨5, HR.out, by omega, rfl, kk⟩
  have HR := Lib.hid (node_ok FT.out HSH.out B6.out)
  go_wp2
  go_ret2
  exact .inl ⟨x.sh, A5, c5, HR.out, rfl, H5.out.1, fun ad e => by have := H5.out.2 ad e; omega, kk⟩
end Go.Proofs.Ytdnjjpkajiehgaa

/-
  Check of a node of kind 2.
-/
namespace Go.Proofs.Ytdnjjpkajiehgaa
open Go.RowKit
set_option linter.unusedVariables false
set_option maxRecDepth 100000

set_option maxHeartbeats 8000000 in
theorem check2 (x : Nd) (As Ad Ab Ah : Option Addr) (cs cd cb ch : Nat) (shs : List (List Int)) (w : World) (hX : Hid (Plc w x As Ad Ab Ah cs cd cb ch shs)) (hk : Hid (x.k = 2)) :
    Calls Try.prog 45 #[.agg #[.int .i64 x.k, .int .i64 x.a, .int .i64 x.b, .slice As x.sh.length cs, .int .i64 x.lo, .int .i64 x.hi, .int .i64 x.sz, .slice Ad x.da.length cd, .slice Ab x.bi.length cb, .slice Ah shs.length ch]] w fun e w' => NodePost w (nodeR x shs) e w' := by
  obtain ⟨y0, y1, y2, y3, y4, y5, y6, y7, y8, y9⟩ := ten_at w (.int .i64 x.k) (.int .i64 x.a) (.int .i64 x.b) (.slice As x.sh.length cs) (.int .i64 x.lo) (.int .i64 x.hi) (.int .i64 x.sz) (.slice Ad x.da.length cd) (.slice Ab x.bi.length cb) (.slice Ah shs.length ch) 71
  have kk : Ext w (w.alloc (.cells #[.int .i64 x.k, .int .i64 x.a, .int .i64 x.b, .slice As x.sh.length cs, .int .i64 x.lo, .int .i64 x.hi, .int .i64 x.sz, .slice Ad x.da.length cd, .slice Ab x.bi.length cb, .slice Ah shs.length ch] 71)) := (Ext.refl w).alloc _
  go_enter Try.func45, Try.ntmps45
  go_wp2_with fail
  generalize w.alloc (.cells #[.int .i64 x.k, .int .i64 x.a, .int .i64 x.b, .slice As x.sh.length cs, .int .i64 x.lo, .int .i64 x.hi, .int .i64 x.sz, .slice Ad x.da.length cd, .slice Ab x.bi.length cb, .slice Ah shs.length ch] 71) = V at *
  refine (rule2 x.k hk.out V).mono ?_
  rintro e1 w1 ⟨rfl, k1⟩
  have k2 : Ext V (w1.alloc (.cells #[.int .i64 36, .func (.func 93) #[] #[], .func (.func 92) #[] #[]] 102)) := k1.alloc _
  replace y0 := cell_ext k2 y0
  replace y1 := cell_ext k2 y1
  replace y2 := cell_ext k2 y2
  replace y3 := cell_ext k2 y3
  replace y4 := cell_ext k2 y4
  replace y5 := cell_ext k2 y5
  replace y6 := cell_ext k2 y6
  replace y7 := cell_ext k2 y7
  replace y8 := cell_ext k2 y8
  replace y9 := cell_ext k2 y9
  obtain ⟨r0, r1, r2⟩ := three_at w1 (.int .i64 36) (.func (.func 93) #[] #[]) (.func (.func 92) #[] #[]) 102
  replace kk := kk.trans k2
  clear k1 k2
  go_wp2_with fail
  generalize w1.alloc (.cells #[.int .i64 36, .func (.func 93) #[] #[], .func (.func 92) #[] #[]] 102) = W at *
  generalize w1.heap.size = g at *
  refine (noMore36 x As Ad Ab Ah cs cd cb ch shs W (Lib.hid (hX.out.ext kk))).mono ?_
  rintro e w2 ⟨rfl, k⟩
  replace y0 := cell_ext k y0
  replace y1 := cell_ext k y1
  replace y2 := cell_ext k y2
  replace y3 := cell_ext k y3
  replace y4 := cell_ext k y4
  replace y5 := cell_ext k y5
  replace y6 := cell_ext k y6
  replace y7 := cell_ext k y7
  replace y8 := cell_ext k y8
  replace y9 := cell_ext k y9
  replace r0 := cell_ext k r0
  replace r1 := cell_ext k r1
  replace r2 := cell_ext k r2
  replace kk := kk.trans k
  clear k
  obtain ⟨b, hb⟩ : ∃ b, (okL (hasL x) [false, false, true, false, false, true, false]) = b := ⟨_, rfl⟩
  have B2 := Lib.hid hb
  rw [hb]
  clear hb
  cases b
  · have HR := Lib.hid (node_form (show formB x shs.length = false by rw [formB, hk.out]; show (okL (hasL x) [false, false, true, false, false, true, false] && (behB [false, false, true, false, false, true, false] x shs.length && toldB x)) = false; rw [B2.out]; rfl))
    go_wp2
    go_ret2
    exact .inr ⟨3, HR.out, by omega, rfl, kk⟩
  go_wp2_with fail
  refine (behind36 x As Ad Ab Ah cs cd cb ch shs w2 (Lib.hid (hX.out.ext kk))).mono ?_
  rintro e w3 ⟨rfl, k⟩
  replace y0 := cell_ext k y0
  replace y1 := cell_ext k y1
  replace y2 := cell_ext k y2
  replace y3 := cell_ext k y3
  replace y4 := cell_ext k y4
  replace y5 := cell_ext k y5
  replace y6 := cell_ext k y6
  replace y7 := cell_ext k y7
  replace y8 := cell_ext k y8
  replace y9 := cell_ext k y9
  replace r0 := cell_ext k r0
  replace r1 := cell_ext k r1
  replace r2 := cell_ext k r2
  replace kk := kk.trans k
  clear k
  obtain ⟨b, hb⟩ : ∃ b, (true) = b := ⟨_, rfl⟩
  have B3 := Lib.hid hb
  rw [hb]
  clear hb
  cases b
  · exact absurd B3.out (by decide)
  go_wp2_with fail
  refine (hasNumbers_any x As Ad Ab Ah cs cd cb ch shs w3 (Lib.hid (hX.out.ext kk))).mono ?_
  rintro e w4 ⟨rfl, k⟩
  replace y0 := cell_ext k y0
  replace y1 := cell_ext k y1
  replace y2 := cell_ext k y2
  replace y3 := cell_ext k y3
  replace y4 := cell_ext k y4
  replace y5 := cell_ext k y5
  replace y6 := cell_ext k y6
  replace y7 := cell_ext k y7
  replace y8 := cell_ext k y8
  replace y9 := cell_ext k y9
  replace r0 := cell_ext k r0
  replace r1 := cell_ext k r1
  replace r2 := cell_ext k r2
  replace kk := kk.trans k
  clear k
  obtain ⟨b, hb⟩ : ∃ b, (decide (0 < entN x.sh) && decide ((x.da.length : Int) = entN x.sh)) = b := ⟨_, rfl⟩
  have B4 := Lib.hid hb
  rw [hb]
  clear hb
  cases b
  · have HR := Lib.hid (node_form (show formB x shs.length = false by rw [formB, hk.out]; show (okL (hasL x) [false, false, true, false, false, true, false] && (behB [false, false, true, false, false, true, false] x shs.length && toldB x)) = false; rw [B2.out, show behB [false, false, true, false, false, true, false] x shs.length = true from rfl, show toldB x = (decide (0 < entN x.sh) && decide ((x.da.length : Int) = entN x.sh)) from by unfold toldB; simp [hk.out], B4.out]; rfl))
    go_wp2
    go_ret2
    exact .inr ⟨3, HR.out, by omega, rfl, kk⟩
  have FT := Lib.hid (show formB x shs.length = true by rw [formB, hk.out]; show (okL (hasL x) [false, false, true, false, false, true, false] && (behB [false, false, true, false, false, true, false] x shs.length && toldB x)) = true; rw [B2.out, show behB [false, false, true, false, false, true, false] x shs.length = true from rfl, show toldB x = (decide (0 < entN x.sh) && decide ((x.da.length : Int) = entN x.sh)) from by unfold toldB; simp [hk.out], B4.out]; rfl)
  go_wp2_with fail
  refine (own_any x As Ad Ab Ah cs cd cb ch shs w4 (Lib.hid (hX.out.ext kk))).mono ?_
  rintro e w5 ⟨A5, c5, rfl, hz, hf, k⟩
  have HSH := Lib.hid (show shapeO x shs = some x.sh from by unfold shapeO; simp [hk.out])
  have H5 := Lib.hid (And.intro hz hf)
  have hk5 := kk.size
  clear hz hf
  replace y0 := cell_ext k y0
  replace y1 := cell_ext k y1
  replace y2 := cell_ext k y2
  replace y3 := cell_ext k y3
  replace y4 := cell_ext k y4
  replace y5 := cell_ext k y5
  replace y6 := cell_ext k y6
  replace y7 := cell_ext k y7
  replace y8 := cell_ext k y8
  replace y9 := cell_ext k y9
  replace r0 := cell_ext k r0
  replace r1 := cell_ext k r1
  replace r2 := cell_ext k r2
  replace kk := kk.trans k
  clear k
  have HL := Lib.hid ((entN_len (show 0 < entN x.sh from by have := B4.out; revert this; by_cases h : 0 < entN x.sh <;> simp [h])).1)
  have hl : ¬ ((x.sh.length : Nat) : Int) = 0 := by have := HL.out; omega
  go_wp2_with fail
  refine (within_any x As Ad Ab Ah cs cd cb ch shs w5 (Lib.hid (hX.out.ext kk))).mono ?_
  rintro e w6 ⟨rfl, k⟩
  replace H5 := Lib.hid (And.intro (H5.out.1.ext k) H5.out.2)
  replace y0 := cell_ext k y0
  replace y1 := cell_ext k y1
  replace y2 := cell_ext k y2
  replace y3 := cell_ext k y3
  replace y4 := cell_ext k y4
  replace y5 := cell_ext k y5
  replace y6 := cell_ext k y6
  replace y7 := cell_ext k y7
  replace y8 := cell_ext k y8
  replace y9 := cell_ext k y9
  replace r0 := cell_ext k r0
  replace r1 := cell_ext k r1
  replace r2 := cell_ext k r2
  replace kk := kk.trans k
  clear k
  obtain ⟨b, hb⟩ : ∃ b, (nearOK x) = b := ⟨_, rfl⟩
  have B6 := Lib.hid hb
  rw [hb]
  clear hb
  cases b
  · have HR := Lib.hid (node_far FT.out HSH.out B6.out)
    go_wp2
    go_ret2
    exact .inr ⟨5, HR.out, by omega, rfl, kk⟩
  have HR := Lib.hid (node_ok FT.out HSH.out B6.out)
  go_wp2
  go_ret2
  exact .inl ⟨x.sh, A5, c5, HR.out, rfl, H5.out.1, fun ad e => by have := H5.out.2 ad e; omega, kk⟩
end Go.Proofs.Ytdnjjpkajiehgaa

/-
  Check of a node of kind 3.
-/
namespace Go.Proofs.Ytdnjjpkajiehgaa
open Go.RowKit
set_option linter.unusedVariables false
set_option maxRecDepth 100000

set_option maxHeartbeats 8000000 in
theorem check3 (x : Nd) (As Ad Ab Ah : Option Addr) (cs cd cb ch : Nat) (shs : List (List Int)) (w : World) (hX : Hid (Plc w x As Ad Ab Ah cs cd cb ch shs)) (hk : Hid (x.k = 3)) :
    Calls Try.prog 45 #[.agg #[.int .i64 x.k, .int .i64 x.a, .int .i64 x.b, .slice As x.sh.length cs, .int .i64 x.lo, .int .i64 x.hi, .int .i64 x.sz, .slice Ad x.da.length cd, .slice Ab x.bi.length cb, .slice Ah shs.length ch]] w fun e w' => NodePost w (nodeR x shs) e w' := by
  obtain ⟨y0, y1, y2, y3, y4, y5, y6, y7, y8, y9⟩ := ten_at w (.int .i64 x.k) (.int .i64 x.a) (.int .i64 x.b) (.slice As x.sh.length cs) (.int .i64 x.lo) (.int .i64 x.hi) (.int .i64 x.sz) (.slice Ad x.da.length cd) (.slice Ab x.bi.length cb) (.slice Ah shs.length ch) 71
  have kk : Ext w (w.alloc (.cells #[.int .i64 x.k, .int .i64 x.a, .int .i64 x.b, .slice As x.sh.length cs, .int .i64 x.lo, .int .i64 x.hi, .int .i64 x.sz, .slice Ad x.da.length cd, .slice Ab x.bi.length cb, .slice Ah shs.length ch] 71)) := (Ext.refl w).alloc _
  go_enter Try.func45, Try.ntmps45
  go_wp2_with fail
  generalize w.alloc (.cells #[.int .i64 x.k, .int .i64 x.a, .int .i64 x.b, .slice As x.sh.length cs, .int .i64 x.lo, .int .i64 x.hi, .int .i64 x.sz, .slice Ad x.da.length cd, .slice Ab x.bi.length cb, .slice Ah shs.length ch] 71) = V at *
  refine (rule3 x.k hk.out V).mono ?_
  rintro e1 w1 ⟨rfl, k1⟩
  have k2 : Ext V (w1.alloc (.cells #[.int .i64 97, .func (.func 94) #[] #[], .func (.func 95) #[] #[]] 102)) := k1.alloc _
  replace y0 := cell_ext k2 y0
  replace y1 := cell_ext k2 y1
  replace y2 := cell_ext k2 y2
  replace y3 := cell_ext k2 y3
  replace y4 := cell_ext k2 y4
  replace y5 := cell_ext k2 y5
  replace y6 := cell_ext k2 y6
  replace y7 := cell_ext k2 y7
  replace y8 := cell_ext k2 y8
  replace y9 := cell_ext k2 y9
  obtain ⟨r0, r1, r2⟩ := three_at w1 (.int .i64 97) (.func (.func 94) #[] #[]) (.func (.func 95) #[] #[]) 102
  replace kk := kk.trans k2
  clear k1 k2
  go_wp2_with fail
  generalize w1.alloc (.cells #[.int .i64 97, .func (.func 94) #[] #[], .func (.func 95) #[] #[]] 102) = W at *
  generalize w1.heap.size = g at *
  refine (noMore97 x As Ad Ab Ah cs cd cb ch shs W (Lib.hid (hX.out.ext kk))).mono ?_
  rintro e w2 ⟨rfl, k⟩
  replace y0 := cell_ext k y0
  replace y1 := cell_ext k y1
  replace y2 := cell_ext k y2
  replace y3 := cell_ext k y3
  replace y4 := cell_ext k y4
  replace y5 := cell_ext k y5
  replace y6 := cell_ext k y6
  replace y7 := cell_ext k y7
  replace y8 := cell_ext k y8
  replace y9 := cell_ext k y9
  replace r0 := cell_ext k r0
  replace r1 := cell_ext k r1
  replace r2 := cell_ext k r2
  replace kk := kk.trans k
  clear k
  obtain ⟨b, hb⟩ : ∃ b, (okL (hasL x) [true, false, false, false, false, true, true]) = b := ⟨_, rfl⟩
  have B2 := Lib.hid hb
  rw [hb]
  clear hb
  cases b
  · have HR := Lib.hid (node_form (show formB x shs.length = false by rw [formB, hk.out]; show (okL (hasL x) [true, false, false, false, false, true, true] && (behB [true, false, false, false, false, true, true] x shs.length && toldB x)) = false; rw [B2.out]; rfl))
    go_wp2
    go_ret2
    exact .inr ⟨3, HR.out, by omega, rfl, kk⟩
  go_wp2_with fail
  refine (behind97 x As Ad Ab Ah cs cd cb ch shs w2 (Lib.hid (hX.out.ext kk))).mono ?_
  rintro e w3 ⟨rfl, k⟩
  replace y0 := cell_ext k y0
  replace y1 := cell_ext k y1
  replace y2 := cell_ext k y2
  replace y3 := cell_ext k y3
  replace y4 := cell_ext k y4
  replace y5 := cell_ext k y5
  replace y6 := cell_ext k y6
  replace y7 := cell_ext k y7
  replace y8 := cell_ext k y8
  replace y9 := cell_ext k y9
  replace r0 := cell_ext k r0
  replace r1 := cell_ext k r1
  replace r2 := cell_ext k r2
  replace kk := kk.trans k
  clear k
  obtain ⟨b, hb⟩ : ∃ b, (ahB x.a shs.length) = b := ⟨_, rfl⟩
  have B3 := Lib.hid hb
  rw [hb]
  clear hb
  cases b
  · have HR := Lib.hid (node_form (show formB x shs.length = false by rw [formB, hk.out]; show (okL (hasL x) [true, false, false, false, false, true, true] && (behB [true, false, false, false, false, true, true] x shs.length && toldB x)) = false; rw [B2.out, show behB [true, false, false, false, false, true, true] x shs.length = ahB x.a shs.length from by unfold behB; simp, B3.out]; rfl))
    go_wp2
    go_ret2
    exact .inr ⟨3, HR.out, by omega, rfl, kk⟩
  go_wp2_with fail
  refine (hasBiases_any x As Ad Ab Ah cs cd cb ch shs w3 (Lib.hid (hX.out.ext kk))).mono ?_
  rintro e w4 ⟨rfl, k⟩
  replace y0 := cell_ext k y0
  replace y1 := cell_ext k y1
  replace y2 := cell_ext k y2
  replace y3 := cell_ext k y3
  replace y4 := cell_ext k y4
  replace y5 := cell_ext k y5
  replace y6 := cell_ext k y6
  replace y7 := cell_ext k y7
  replace y8 := cell_ext k y8
  replace y9 := cell_ext k y9
  replace r0 := cell_ext k r0
  replace r1 := cell_ext k r1
  replace r2 := cell_ext k r2
  replace kk := kk.trans k
  clear k
  obtain ⟨b, hb⟩ : ∃ b, (decide (1 ≤ (x.bi.length : Int)) && decide ((x.bi.length : Int) ≤ 64)) = b := ⟨_, rfl⟩
  have B4 := Lib.hid hb
  rw [hb]
  clear hb
  cases b
  · have HR := Lib.hid (node_form (show formB x shs.length = false by rw [formB, hk.out]; show (okL (hasL x) [true, false, false, false, false, true, true] && (behB [true, false, false, false, false, true, true] x shs.length && toldB x)) = false; rw [B2.out, show behB [true, false, false, false, false, true, true] x shs.length = ahB x.a shs.length from by unfold behB; simp, B3.out, show toldB x = (decide (1 ≤ (x.bi.length : Int)) && decide ((x.bi.length : Int) ≤ 64)) from by unfold toldB; simp [hk.out], B4.out]; rfl))
    go_wp2
    go_ret2
    exact .inr ⟨3, HR.out, by omega, rfl, kk⟩
  have FT := Lib.hid (show formB x shs.length = true by rw [formB, hk.out]; show (okL (hasL x) [true, false, false, false, false, true, true] && (behB [true, false, false, false, false, true, true] x shs.length && toldB x)) = true; rw [B2.out, show behB [true, false, false, false, false, true, true] x shs.length = ahB x.a shs.length from by unfold behB; simp, B3.out, show toldB x = (decide (1 ≤ (x.bi.length : Int)) && decide ((x.bi.length : Int) ≤ 64)) from by unfold toldB; simp [hk.out], B4.out]; rfl)
  obtain ⟨i, hi, s, hs, hg⟩ := ahead_get (show ahB x.a shs.length = true from B3.out)
  have HI := Lib.hid hi
  have HS := Lib.hid hs
  have HG := Lib.hid hg
  clear hi hs hg
  go_wp2_with fail
  have HO := Lib.hid (show shapeO x shs = (if (x.da.length : Int) = x.bi.length * entN s then some [(x.bi.length : Int)] else none) by unfold shapeO; rw [HG.out]; simp [hk.out])
  refine (dense_any x As Ad Ab Ah cs cd cb ch shs w4 (Lib.hid (hX.out.ext kk)) i s HI HS).mono ?_
  rintro e w5 (⟨s5, A5, c5, ho, rfl, hz, hf, k⟩ | ⟨ho, rfl, k⟩)
  rotate_left
  · have HR := Lib.hid (node_none FT.out (HO.out.trans ho))
    clear ho
    replace y0 := cell_ext k y0
    replace y1 := cell_ext k y1
    replace y2 := cell_ext k y2
    replace y3 := cell_ext k y3
    replace y4 := cell_ext k y4
    replace y5 := cell_ext k y5
    replace y6 := cell_ext k y6
    replace y7 := cell_ext k y7
    replace y8 := cell_ext k y8
    replace y9 := cell_ext k y9
    replace r0 := cell_ext k r0
    replace r1 := cell_ext k r1
    replace r2 := cell_ext k r2
    replace kk := kk.trans k
    clear k
    go_wp2
    go_ret2
    exact .inr ⟨4, HR.out, by omega, rfl, kk⟩
  have HSH := Lib.hid (HO.out.trans ho)
  clear ho
  have H5 := Lib.hid (And.intro hz hf)
  have hk5 := kk.size
  clear hz hf
  replace y0 := cell_ext k y0
  replace y1 := cell_ext k y1
  replace y2 := cell_ext k y2
  replace y3 := cell_ext k y3
  replace y4 := cell_ext k y4
  replace y5 := cell_ext k y5
  replace y6 := cell_ext k y6
  replace y7 := cell_ext k y7
  replace y8 := cell_ext k y8
  replace y9 := cell_ext k y9
  replace r0 := cell_ext k r0
  replace r1 := cell_ext k r1
  replace r2 := cell_ext k r2
  replace kk := kk.trans k
  clear k
  have HL := Lib.hid ((entN_len (shape_right hX.out.ok FT.out HSH.out)).1)
  have hl : ¬ ((s5.length : Nat) : Int) = 0 := by have := HL.out; omega
  go_wp2_with fail
  refine (within_any x As Ad Ab Ah cs cd cb ch shs w5 (Lib.hid (hX.out.ext kk))).mono ?_
  rintro e w6 ⟨rfl, k⟩
  replace H5 := Lib.hid (And.intro (H5.out.1.ext k) H5.out.2)
  replace y0 := cell_ext k y0
  replace y1 := cell_ext k y1
  replace y2 := cell_ext k y2
  replace y3 := cell_ext k y3
  replace y4 := cell_ext k y4
  replace y5 := cell_ext k y5
  replace y6 := cell_ext k y6
  replace y7 := cell_ext k y7
  replace y8 := cell_ext k y8
  replace y9 := cell_ext k y9
  replace r0 := cell_ext k r0
  replace r1 := cell_ext k r1
  replace r2 := cell_ext k r2
  replace kk := kk.trans k
  clear k
  obtain ⟨b, hb⟩ : ∃ b, (nearOK x) = b := ⟨_, rfl⟩
  have B6 := Lib.hid hb
  rw [hb]
  clear hb
  cases b
  · have HR := Lib.hid (node_far FT.out HSH.out B6.out)
    go_wp2
    go_ret2
    exact .inr ⟨5, HR.out, by omega, rfl, kk⟩
  have HR := Lib.hid (node_ok FT.out HSH.out B6.out)
  go_wp2
  go_ret2
  exact .inl ⟨s5, A5, c5, HR.out, rfl, H5.out.1, fun ad e => by have := H5.out.2 ad e; omega, kk⟩
end Go.Proofs.Ytdnjjpkajiehgaa

/-
  Check of a node of kind 4.
-/
namespace Go.Proofs.Ytdnjjpkajiehgaa
open Go.RowKit
set_option linter.unusedVariables false
set_option maxRecDepth 100000

set_option maxHeartbeats 8000000 in
theorem check4 (x : Nd) (As Ad Ab Ah : Option Addr) (cs cd cb ch : Nat) (shs : List (List Int)) (w : World) (hX : Hid (Plc w x As Ad Ab Ah cs cd cb ch shs)) (hk : Hid (x.k = 4)) :
    Calls Try.prog 45 #[.agg #[.int .i64 x.k, .int .i64 x.a, .int .i64 x.b, .slice As x.sh.length cs, .int .i64 x.lo, .int .i64 x.hi, .int .i64 x.sz, .slice Ad x.da.length cd, .slice Ab x.bi.length cb, .slice Ah shs.length ch]] w fun e w' => NodePost w (nodeR x shs) e w' := by
  obtain ⟨y0, y1, y2, y3, y4, y5, y6, y7, y8, y9⟩ := ten_at w (.int .i64 x.k) (.int .i64 x.a) (.int .i64 x.b) (.slice As x.sh.length cs) (.int .i64 x.lo) (.int .i64 x.hi) (.int .i64 x.sz) (.slice Ad x.da.length cd) (.slice Ab x.bi.length cb) (.slice Ah shs.length ch) 71
  have kk : Ext w (w.alloc (.cells #[.int .i64 x.k, .int .i64 x.a, .int .i64 x.b, .slice As x.sh.length cs, .int .i64 x.lo, .int .i64 x.hi, .int .i64 x.sz, .slice Ad x.da.length cd, .slice Ab x.bi.length cb, .slice Ah shs.length ch] 71)) := (Ext.refl w).alloc _
  go_enter Try.func45, Try.ntmps45
  go_wp2_with fail
  generalize w.alloc (.cells #[.int .i64 x.k, .int .i64 x.a, .int .i64 x.b, .slice As x.sh.length cs, .int .i64 x.lo, .int .i64 x.hi, .int .i64 x.sz, .slice Ad x.da.length cd, .slice Ab x.bi.length cb, .slice Ah shs.length ch] 71) = V at *
  refine (rule4 x.k hk.out V).mono ?_
  rintro e1 w1 ⟨rfl, k1⟩
  have k2 : Ext V (w1.alloc (.cells #[.int .i64 101, .func (.func 96) #[] #[], .func (.func 97) #[] #[]] 102)) := k1.alloc _
  replace y0 := cell_ext k2 y0
  replace y1 := cell_ext k2 y1
  replace y2 := cell_ext k2 y2
  replace y3 := cell_ext k2 y3
  replace y4 := cell_ext k2 y4
  replace y5 := cell_ext k2 y5
  replace y6 := cell_ext k2 y6
  replace y7 := cell_ext k2 y7
  replace y8 := cell_ext k2 y8
  replace y9 := cell_ext k2 y9
  obtain ⟨r0, r1, r2⟩ := three_at w1 (.int .i64 101) (.func (.func 96) #[] #[]) (.func (.func 97) #[] #[]) 102
  replace kk := kk.trans k2
  clear k1 k2
  go_wp2_with fail
  generalize w1.alloc (.cells #[.int .i64 101, .func (.func 96) #[] #[], .func (.func 97) #[] #[]] 102) = W at *
  generalize w1.heap.size = g at *
  refine (noMore101 x As Ad Ab Ah cs cd cb ch shs W (Lib.hid (hX.out.ext kk))).mono ?_
  rintro e w2 ⟨rfl, k⟩
  replace y0 := cell_ext k y0
  replace y1 := cell_ext k y1
  replace y2 := cell_ext k y2
  replace y3 := cell_ext k y3
  replace y4 := cell_ext k y4
  replace y5 := cell_ext k y5
  replace y6 := cell_ext k y6
  replace y7 := cell_ext k y7
  replace y8 := cell_ext k y8
  replace y9 := cell_ext k y9
  replace r0 := cell_ext k r0
  replace r1 := cell_ext k r1
  replace r2 := cell_ext k r2
  replace kk := kk.trans k
  clear k
  obtain ⟨b, hb⟩ : ∃ b, (okL (hasL x) [true, false, true, false, false, true, true]) = b := ⟨_, rfl⟩
  have B2 := Lib.hid hb
  rw [hb]
  clear hb
  cases b
  · have HR := Lib.hid (node_form (show formB x shs.length = false by rw [formB, hk.out]; show (okL (hasL x) [true, false, true, false, false, true, true] && (behB [true, false, true, false, false, true, true] x shs.length && toldB x)) = false; rw [B2.out]; rfl))
    go_wp2
    go_ret2
    exact .inr ⟨3, HR.out, by omega, rfl, kk⟩
  go_wp2_with fail
  refine (behind101 x As Ad Ab Ah cs cd cb ch shs w2 (Lib.hid (hX.out.ext kk))).mono ?_
  rintro e w3 ⟨rfl, k⟩
  replace y0 := cell_ext k y0
  replace y1 := cell_ext k y1
  replace y2 := cell_ext k y2
  replace y3 := cell_ext k y3
  replace y4 := cell_ext k y4
  replace y5 := cell_ext k y5
  replace y6 := cell_ext k y6
  replace y7 := cell_ext k y7
  replace y8 := cell_ext k y8
  replace y9 := cell_ext k y9
  replace r0 := cell_ext k r0
  replace r1 := cell_ext k r1
  replace r2 := cell_ext k r2
  replace kk := kk.trans k
  clear k
  obtain ⟨b, hb⟩ : ∃ b, (ahB x.a shs.length) = b := ⟨_, rfl⟩
  have B3 := Lib.hid hb
  rw [hb]
  clear hb
  cases b
  · have HR := Lib.hid (node_form (show formB x shs.length = false by rw [formB, hk.out]; show (okL (hasL x) [true, false, true, false, false, true, true] && (behB [true, false, true, false, false, true, true] x shs.length && toldB x)) = false; rw [B2.out, show behB [true, false, true, false, false, true, true] x shs.length = ahB x.a shs.length from by unfold behB; simp, B3.out]; rfl))
    go_wp2
    go_ret2
    exact .inr ⟨3, HR.out, by omega, rfl, kk⟩
  go_wp2_with fail
  refine (hasKernel_any x As Ad Ab Ah cs cd cb ch shs w3 (Lib.hid (hX.out.ext kk))).mono ?_
  rintro e w4 ⟨rfl, k⟩
  replace y0 := cell_ext k y0
  replace y1 := cell_ext k y1
  replace y2 := cell_ext k y2
  replace y3 := cell_ext k y3
  replace y4 := cell_ext k y4
  replace y5 := cell_ext k y5
  replace y6 := cell_ext k y6
  replace y7 := cell_ext k y7
  replace y8 := cell_ext k y8
  replace y9 := cell_ext k y9
  replace r0 := cell_ext k r0
  replace r1 := cell_ext k r1
  replace r2 := cell_ext k r2
  replace kk := kk.trans k
  clear k
  obtain ⟨b, hb⟩ : ∃ b, (kernB x.sh x.da.length x.bi.length) = b := ⟨_, rfl⟩
  have B4 := Lib.hid hb
  rw [hb]
  clear hb
  cases b
  · have HR := Lib.hid (node_form (show formB x shs.length = false by rw [formB, hk.out]; show (okL (hasL x) [true, false, true, false, false, true, true] && (behB [true, false, true, false, false, true, true] x shs.length && toldB x)) = false; rw [B2.out, show behB [true, false, true, false, false, true, true] x shs.length = ahB x.a shs.length from by unfold behB; simp, B3.out, show toldB x = (kernB x.sh x.da.length x.bi.length) from by unfold toldB; simp [hk.out], B4.out]; rfl))
    go_wp2
    go_ret2
    exact .inr ⟨3, HR.out, by omega, rfl, kk⟩
  have FT := Lib.hid (show formB x shs.length = true by rw [formB, hk.out]; show (okL (hasL x) [true, false, true, false, false, true, true] && (behB [true, false, true, false, false, true, true] x shs.length && toldB x)) = true; rw [B2.out, show behB [true, false, true, false, false, true, true] x shs.length = ahB x.a shs.length from by unfold behB; simp, B3.out, show toldB x = (kernB x.sh x.da.length x.bi.length) from by unfold toldB; simp [hk.out], B4.out]; rfl)
  obtain ⟨i, hi, s, hs, hg⟩ := ahead_get (show ahB x.a shs.length = true from B3.out)
  have HI := Lib.hid hi
  have HS := Lib.hid hs
  have HG := Lib.hid hg
  clear hi hs hg
  go_wp2_with fail
  obtain ⟨k0, k1, k2, k3, hsh, hb⟩ := kernB_four B4.out
  have HK4 := Lib.hid hsh
  clear hsh
  have HO := Lib.hid (show shapeO x shs = (convO x.sh s) by unfold shapeO; rw [HG.out]; simp [hk.out])
  refine (conv_any x As Ad Ab Ah cs cd cb ch shs w4 (Lib.hid (hX.out.ext kk)) i s HI HS k0 k1 k2 k3 HK4 hb).mono ?_
  rintro e w5 (⟨s5, A5, c5, ho, rfl, hz, hf, k⟩ | ⟨ho, rfl, k⟩)
  rotate_left
  · have HR := Lib.hid (node_none FT.out (HO.out.trans ho))
    clear ho
    replace y0 := cell_ext k y0
    replace y1 := cell_ext k y1
    replace y2 := cell_ext k y2
    replace y3 := cell_ext k y3
    replace y4 := cell_ext k y4
    replace y5 := cell_ext k y5
    replace y6 := cell_ext k y6
    replace y7 := cell_ext k y7
    replace y8 := cell_ext k y8
    replace y9 := cell_ext k y9
    replace r0 := cell_ext k r0
    replace r1 := cell_ext k r1
    replace r2 := cell_ext k r2
    replace kk := kk.trans k
    clear k
    go_wp2
    go_ret2
    exact .inr ⟨4, HR.out, by omega, rfl, kk⟩
  have HSH := Lib.hid (HO.out.trans ho)
  clear ho
  have H5 := Lib.hid (And.intro hz hf)
  have hk5 := kk.size
  clear hz hf
  replace y0 := cell_ext k y0
  replace y1 := cell_ext k y1
  replace y2 := cell_ext k y2
  replace y3 := cell_ext k y3
  replace y4 := cell_ext k y4
  replace y5 := cell_ext k y5
  replace y6 := cell_ext k y6
  replace y7 := cell_ext k y7
  replace y8 := cell_ext k y8
  replace y9 := cell_ext k y9
  replace r0 := cell_ext k r0
  replace r1 := cell_ext k r1
  replace r2 := cell_ext k r2
  replace kk := kk.trans k
  clear k
  have HL := Lib.hid ((entN_len (shape_right hX.out.ok FT.out HSH.out)).1)
  have hl : ¬ ((s5.length : Nat) : Int) = 0 := by have := HL.out; omega
  go_wp2_with fail
  refine (within_any x As Ad Ab Ah cs cd cb ch shs w5 (Lib.hid (hX.out.ext kk))).mono ?_
  rintro e w6 ⟨rfl, k⟩
  replace H5 := Lib.hid (And.intro (H5.out.1.ext k) H5.out.2)
  replace y0 := cell_ext k y0
  replace y1 := cell_ext k y1
  replace y2 := cell_ext k y2
  replace y3 := cell_ext k y3
  replace y4 := cell_ext k y4
  replace y5 := cell_ext k y5
  replace y6 := cell_ext k y6
  replace y7 := cell_ext k y7
  replace y8 := cell_ext k y8
  replace y9 := cell_ext k y9
  replace r0 := cell_ext k r0
  replace r1 := cell_ext k r1
  replace r2 := cell_ext k r2
  replace kk := kk.trans k
  clear k
  obtain ⟨b, hb⟩ : ∃ b, (nearOK x) = b := ⟨_, rfl⟩
  have B6 := Lib.hid hb
  rw [hb]
  clear hb
  cases b
  · have HR := Lib.hid (node_far FT.out HSH.out B6.out)
    go_wp2
    go_ret2
    exact .inr ⟨5, HR.out, by omega, rfl, kk⟩
  have HR := Lib.hid (node_ok FT.out HSH.out B6.out)
  go_wp2
  go_ret2
  exact .inl ⟨s5, A5, c5, HR.out, rfl, H5.out.1, fun ad e => by have := H5.out.2 ad e; omega, kk⟩
end Go.Proofs.Ytdnjjpkajiehgaa

/-
  Check of a node of kind 5.
-/
namespace Go.Proofs.Ytdnjjpkajiehgaa
open Go.RowKit
set_option linter.unusedVariables false
set_option maxRecDepth 100000

set_option maxHeartbeats 8000000 in
theorem check5 (x : Nd) (As Ad Ab Ah : Option Addr) (cs cd cb ch : Nat) (shs : List (List Int)) (w : World) (hX : Hid (Plc w x As Ad Ab Ah cs cd cb ch shs)) (hk : Hid (x.k = 5)) :
    Calls Try.prog 45 #[.agg #[.int .i64 x.k, .int .i64 x.a, .int .i64 x.b, .slice As x.sh.length cs, .int .i64 x.lo, .int .i64 x.hi, .int .i64 x.sz, .slice Ad x.da.length cd, .slice Ab x.bi.length cb, .slice Ah shs.length ch]] w fun e w' => NodePost w (nodeR x shs) e w' := by
  obtain ⟨y0, y1, y2, y3, y4, y5, y6, y7, y8, y9⟩ := ten_at w (.int .i64 x.k) (.int .i64 x.a) (.int .i64 x.b) (.slice As x.sh.length cs) (.int .i64 x.lo) (.int .i64 x.hi) (.int .i64 x.sz) (.slice Ad x.da.length cd) (.slice Ab x.bi.length cb) (.slice Ah shs.length ch) 71
  have kk : Ext w (w.alloc (.cells #[.int .i64 x.k, .int .i64 x.a, .int .i64 x.b, .slice As x.sh.length cs, .int .i64 x.lo, .int .i64 x.hi, .int .i64 x.sz, .slice Ad x.da.length cd, .slice Ab x.bi.length cb, .slice Ah shs.length ch] 71)) := (Ext.refl w).alloc _
  go_enter Try.func45, Try.ntmps45
  go_wp2_with fail
  generalize w.alloc (.cells #[.int .i64 x.k, .int .i64 x.a, .int .i64 x.b, .slice As x.sh.length cs, .int .i64 x.lo, .int .i64 x.hi, .int .i64 x.sz, .slice Ad x.da.length cd, .slice Ab x.bi.length cb, .slice Ah shs.length ch] 71) = V at *
  refine (rule5 x.k hk.out V).mono ?_
  rintro e1 w1 ⟨rfl, k1⟩
  have k2 : Ext V (w1.alloc (.cells #[.int .i64 17, .func (.func 98) #[] #[], .func (.func 99) #[] #[]] 102)) := k1.alloc _
  replace y0 := cell_ext k2 y0
  replace y1 := cell_ext k2 y1
  replace y2 := cell_ext k2 y2
  replace y3 := cell_ext k2 y3
  replace y4 := cell_ext k2 y4
  replace y5 := cell_ext k2 y5
  replace y6 := cell_ext k2 y6
  replace y7 := cell_ext k2 y7
  replace y8 := cell_ext k2 y8
  replace y9 := cell_ext k2 y9
  obtain ⟨r0, r1, r2⟩ := three_at w1 (.int .i64 17) (.func (.func 98) #[] #[]) (.func (.func 99) #[] #[]) 102
  replace kk := kk.trans k2
  clear k1 k2
  go_wp2_with fail
  generalize w1.alloc (.cells #[.int .i64 17, .func (.func 98) #[] #[], .func (.func 99) #[] #[]] 102) = W at *
  generalize w1.heap.size = g at *
  refine (noMore17 x As Ad Ab Ah cs cd cb ch shs W (Lib.hid (hX.out.ext kk))).mono ?_
  rintro e w2 ⟨rfl, k⟩
  replace y0 := cell_ext k y0
  replace y1 := cell_ext k y1
  replace y2 := cell_ext k y2
  replace y3 := cell_ext k y3
  replace y4 := cell_ext k y4
  replace y5 := cell_ext k y5
  replace y6 := cell_ext k y6
  replace y7 := cell_ext k y7
  replace y8 := cell_ext k y8
  replace y9 := cell_ext k y9
  replace r0 := cell_ext k r0
  replace r1 := cell_ext k r1
  replace r2 := cell_ext k r2
  replace kk := kk.trans k
  clear k
  obtain ⟨b, hb⟩ : ∃ b, (okL (hasL x) [true, false, false, false, true, false, false]) = b := ⟨_, rfl⟩
  have B2 := Lib.hid hb
  rw [hb]
  clear hb
  cases b
  · have HR := Lib.hid (node_form (show formB x shs.length = false by rw [formB, hk.out]; show (okL (hasL x) [true, false, false, false, true, false, false] && (behB [true, false, false, false, true, false, false] x shs.length && toldB x)) = false; rw [B2.out]; rfl))
    go_wp2
    go_ret2
    exact .inr ⟨3, HR.out, by omega, rfl, kk⟩
  go_wp2_with fail
  refine (behind17 x As Ad Ab Ah cs cd cb ch shs w2 (Lib.hid (hX.out.ext kk))).mono ?_
  rintro e w3 ⟨rfl, k⟩
  replace y0 := cell_ext k y0
  replace y1 := cell_ext k y1
  replace y2 := cell_ext k y2
  replace y3 := cell_ext k y3
  replace y4 := cell_ext k y4
  replace y5 := cell_ext k y5
  replace y6 := cell_ext k y6
  replace y7 := cell_ext k y7
  replace y8 := cell_ext k y8
  replace y9 := cell_ext k y9
  replace r0 := cell_ext k r0
  replace r1 := cell_ext k r1
  replace r2 := cell_ext k r2
  replace kk := kk.trans k
  clear k
  obtain ⟨b, hb⟩ : ∃ b, (ahB x.a shs.length) = b := ⟨_, rfl⟩
  have B3 := Lib.hid hb
  rw [hb]
  clear hb
  cases b
  · have HR := Lib.hid (node_form (show formB x shs.length = false by rw [formB, hk.out]; show (okL (hasL x) [true, false, false, false, true, false, false] && (behB [true, false, false, false, true, false, false] x shs.length && toldB x)) = false; rw [B2.out, show behB [true, false, false, false, true, false, false] x shs.length = ahB x.a shs.length from by unfold behB; simp, B3.out]; rfl))
    go_wp2
    go_ret2
    exact .inr ⟨3, HR.out, by omega, rfl, kk⟩
  go_wp2_with fail
  refine (hasSize_any x As Ad Ab Ah cs cd cb ch shs w3 (Lib.hid (hX.out.ext kk))).mono ?_
  rintro e w4 ⟨rfl, k⟩
  replace y0 := cell_ext k y0
  replace y1 := cell_ext k y1
  replace y2 := cell_ext k y2
  replace y3 := cell_ext k y3
  replace y4 := cell_ext k y4
  replace y5 := cell_ext k y5
  replace y6 := cell_ext k y6
  replace y7 := cell_ext k y7
  replace y8 := cell_ext k y8
  replace y9 := cell_ext k y9
  replace r0 := cell_ext k r0
  replace r1 := cell_ext k r1
  replace r2 := cell_ext k r2
  replace kk := kk.trans k
  clear k
  obtain ⟨b, hb⟩ : ∃ b, (decide (1 ≤ x.sz)) = b := ⟨_, rfl⟩
  have B4 := Lib.hid hb
  rw [hb]
  clear hb
  cases b
  · have HR := Lib.hid (node_form (show formB x shs.length = false by rw [formB, hk.out]; show (okL (hasL x) [true, false, false, false, true, false, false] && (behB [true, false, false, false, true, false, false] x shs.length && toldB x)) = false; rw [B2.out, show behB [true, false, false, false, true, false, false] x shs.length = ahB x.a shs.length from by unfold behB; simp, B3.out, show toldB x = (decide (1 ≤ x.sz)) from by unfold toldB; simp [hk.out], B4.out]; rfl))
    go_wp2
    go_ret2
    exact .inr ⟨3, HR.out, by omega, rfl, kk⟩
  have FT := Lib.hid (show formB x shs.length = true by rw [formB, hk.out]; show (okL (hasL x) [true, false, false, false, true, false, false] && (behB [true, false, false, false, true, false, false] x shs.length && toldB x)) = true; rw [B2.out, show behB [true, false, false, false, true, false, false] x shs.length = ahB x.a shs.length from by unfold behB; simp, B3.out, show toldB x = (decide (1 ≤ x.sz)) from by unfold toldB; simp [hk.out], B4.out]; rfl)
  obtain ⟨i, hi, s, hs, hg⟩ := ahead_get (show ahB x.a shs.length = true from B3.out)
  have HI := Lib.hid hi
  have HS := Lib.hid hs
  have HG := Lib.hid hg
  clear hi hs hg
  go_wp2_with fail
  have HO := Lib.hid (show shapeO x shs = (poolO x.sz s) by unfold shapeO; rw [HG.out]; simp [hk.out])
  refine (pool_any x As Ad Ab Ah cs cd cb ch shs w4 (Lib.hid (hX.out.ext kk)) i s HI HS (by have := B4.out; simpa using this)).mono ?_
  rintro e w5 (⟨s5, A5, c5, ho, rfl, hz, hf, k⟩ | ⟨ho, rfl, k⟩)
  rotate_left
  · have HR := Lib.hid (node_none FT.out (HO.out.trans ho))
    clear ho
    replace y0 := cell_ext k y0
    replace y1 := cell_ext k y1
    replace y2 := cell_ext k y2
    replace y3 := cell_ext k y3
    replace y4 := cell_ext k y4
    replace y5 := cell_ext k y5
    replace y6 := cell_ext k y6
    replace y7 := cell_ext k y7
    replace y8 := cell_ext k y8
    replace y9 := cell_ext k y9
    replace r0 := cell_ext k r0
    replace r1 := cell_ext k r1
    replace r2 := cell_ext k r2
    replace kk := kk.trans k
    clear k
    go_wp2
    go_ret2
    exact .inr ⟨4, HR.out, by omega, rfl, kk⟩
  have HSH := Lib.hid (HO.out.trans ho)
  clear ho
  have H5 := Lib.hid (And.intro hz hf)
  have hk5 := kk.size
  clear hz hf
  replace y0 := cell_ext k y0
  replace y1 := cell_ext k y1
  replace y2 := cell_ext k y2
  replace y3 := cell_ext k y3
  replace y4 := cell_ext k y4
  replace y5 := cell_ext k y5
  replace y6 := cell_ext k y6
  replace y7 := cell_ext k y7
  replace y8 := cell_ext k y8
  replace y9 := cell_ext k y9
  replace r0 := cell_ext k r0
  replace r1 := cell_ext k r1
  replace r2 := cell_ext k r2
  replace kk := kk.trans k
  clear k
  have HL := Lib.hid ((entN_len (shape_right hX.out.ok FT.out HSH.out)).1)
  have hl : ¬ ((s5.length : Nat) : Int) = 0 := by have := HL.out; omega
  go_wp2_with fail
  refine (within_any x As Ad Ab Ah cs cd cb ch shs w5 (Lib.hid (hX.out.ext kk))).mono ?_
  rintro e w6 ⟨rfl, k⟩
  replace H5 := Lib.hid (And.intro (H5.out.1.ext k) H5.out.2)
  replace y0 := cell_ext k y0
  replace y1 := cell_ext k y1
  replace y2 := cell_ext k y2
  replace y3 := cell_ext k y3
  replace y4 := cell_ext k y4
  replace y5 := cell_ext k y5
  replace y6 := cell_ext k y6
  replace y7 := cell_ext k y7
  replace y8 := cell_ext k y8
  replace y9 := cell_ext k y9
  replace r0 := cell_ext k r0
  replace r1 := cell_ext k r1
  replace r2 := cell_ext k r2
  replace kk := kk.trans k
  clear k
  obtain ⟨b, hb⟩ : ∃ b, (nearOK x) = b := ⟨_, rfl⟩
  have B6 := Lib.hid hb
  rw [hb]
  clear hb
  cases b
  · have HR := Lib.hid (node_far FT.out HSH.out B6.out)
    go_wp2
    go_ret2
    exact .inr ⟨5, HR.out, by omega, rfl, kk⟩
  have HR := Lib.hid (node_ok FT.out HSH.out B6.out)
  go_wp2
  go_ret2
  exact .inl ⟨s5, A5, c5, HR.out, rfl, H5.out.1, fun ad e => by have := H5.out.2 ad e; omega, kk⟩
end Go.Proofs.Ytdnjjpkajiehgaa

/-
  Check of a node of kind 6.
-/
namespace Go.Proofs.Ytdnjjpkajiehgaa
open Go.RowKit
set_option linter.unusedVariables false
set_option maxRecDepth 100000

set_option maxHeartbeats 8000000 in
theorem check6 (x : Nd) (As Ad Ab Ah : Option Addr) (cs cd cb ch : Nat) (shs : List (List Int)) (w : World) (hX : Hid (Plc w x As Ad Ab Ah cs cd cb ch shs)) (hk : Hid (x.k = 6)) :
    Calls Try.prog 45 #[.agg #[.int .i64 x.k, .int .i64 x.a, .int .i64 x.b, .slice As x.sh.length cs, .int .i64 x.lo, .int .i64 x.hi, .int .i64 x.sz, .slice Ad x.da.length cd, .slice Ab x.bi.length cb, .slice Ah shs.length ch]] w fun e w' => NodePost w (nodeR x shs) e w' := by
  obtain ⟨y0, y1, y2, y3, y4, y5, y6, y7, y8, y9⟩ := ten_at w (.int .i64 x.k) (.int .i64 x.a) (.int .i64 x.b) (.slice As x.sh.length cs) (.int .i64 x.lo) (.int .i64 x.hi) (.int .i64 x.sz) (.slice Ad x.da.length cd) (.slice Ab x.bi.length cb) (.slice Ah shs.length ch) 71
  have kk : Ext w (w.alloc (.cells #[.int .i64 x.k, .int .i64 x.a, .int .i64 x.b, .slice As x.sh.length cs, .int .i64 x.lo, .int .i64 x.hi, .int .i64 x.sz, .slice Ad x.da.length cd, .slice Ab x.bi.length cb, .slice Ah shs.length ch] 71)) := (Ext.refl w).alloc _
  go_enter Try.func45, Try.ntmps45
  go_wp2_with fail
  generalize w.alloc (.cells #[.int .i64 x.k, .int .i64 x.a, .int .i64 x.b, .slice As x.sh.length cs, .int .i64 x.lo, .int .i64 x.hi, .int .i64 x.sz, .slice Ad x.da.length cd, .slice Ab x.bi.length cb, .slice Ah shs.length ch] 71) = V at *
  refine (rule6 x.k hk.out V).mono ?_
  rintro e1 w1 ⟨rfl, k1⟩
  have k2 : Ext V (w1.alloc (.cells #[.int .i64 3, .func (.func 100) #[] #[], .func (.func 101) #[] #[]] 102)) := k1.alloc _
  replace y0 := cell_ext k2 y0
  replace y1 := cell_ext k2 y1
  replace y2 := cell_ext k2 y2
  replace y3 := cell_ext k2 y3
  replace y4 := cell_ext k2 y4
  replace y5 := cell_ext k2 y5
  replace y6 := cell_ext k2 y6
  replace y7 := cell_ext k2 y7
  replace y8 := cell_ext k2 y8
  replace y9 := cell_ext k2 y9
  obtain ⟨r0, r1, r2⟩ := three_at w1 (.int .i64 3) (.func (.func 100) #[] #[]) (.func (.func 101) #[] #[]) 102
  replace kk := kk.trans k2
  clear k1 k2
  go_wp2_with fail
  generalize w1.alloc (.cells #[.int .i64 3, .func (.func 100) #[] #[], .func (.func 101) #[] #[]] 102) = W at *
  generalize w1.heap.size = g at *
  refine (noMore3 x As Ad Ab Ah cs cd cb ch shs W (Lib.hid (hX.out.ext kk))).mono ?_
  rintro e w2 ⟨rfl, k⟩
  replace y0 := cell_ext k y0
  replace y1 := cell_ext k y1
  replace y2 := cell_ext k y2
  replace y3 := cell_ext k y3
  replace y4 := cell_ext k y4
  replace y5 := cell_ext k y5
  replace y6 := cell_ext k y6
  replace y7 := cell_ext k y7
  replace y8 := cell_ext k y8
  replace y9 := cell_ext k y9
  replace r0 := cell_ext k r0
  replace r1 := cell_ext k r1
  replace r2 := cell_ext k r2
  replace kk := kk.trans k
  clear k
  obtain ⟨b, hb⟩ : ∃ b, (okL (hasL x) [true, true, false, false, false, false, false]) = b := ⟨_, rfl⟩
  have B2 := Lib.hid hb
  rw [hb]
  clear hb
  cases b
  · have HR := Lib.hid (node_form (show formB x shs.length = false by rw [formB, hk.out]; show (okL (hasL x) [true, true, false, false, false, false, false] && (behB [true, true, false, false, false, false, false] x shs.length && toldB x)) = false; rw [B2.out]; rfl))
    go_wp2
    go_ret2
    exact .inr ⟨3, HR.out, by omega, rfl, kk⟩
  go_wp2_with fail
  refine (behind3 x As Ad Ab Ah cs cd cb ch shs w2 (Lib.hid (hX.out.ext kk))).mono ?_
  rintro e w3 ⟨rfl, k⟩
  replace y0 := cell_ext k y0
  replace y1 := cell_ext k y1
  replace y2 := cell_ext k y2
  replace y3 := cell_ext k y3
  replace y4 := cell_ext k y4
  replace y5 := cell_ext k y5
  replace y6 := cell_ext k y6
  replace y7 := cell_ext k y7
  replace y8 := cell_ext k y8
  replace y9 := cell_ext k y9
  replace r0 := cell_ext k r0
  replace r1 := cell_ext k r1
  replace r2 := cell_ext k r2
  replace kk := kk.trans k
  clear k
  obtain ⟨b, hb⟩ : ∃ b, ((ahB x.a shs.length && ahB x.b shs.length)) = b := ⟨_, rfl⟩
  have B3 := Lib.hid hb
  rw [hb]
  clear hb
  cases b
  · have HR := Lib.hid (node_form (show formB x shs.length = false by rw [formB, hk.out]; show (okL (hasL x) [true, true, false, false, false, false, false] && (behB [true, true, false, false, false, false, false] x shs.length && toldB x)) = false; rw [B2.out, show behB [true, true, false, false, false, false, false] x shs.length = (ahB x.a shs.length && ahB x.b shs.length) from by unfold behB; simp, B3.out]; rfl))
    go_wp2
    go_ret2
    exact .inr ⟨3, HR.out, by omega, rfl, kk⟩
  go_wp2_with fail
  refine (hasAll_any x As Ad Ab Ah cs cd cb ch shs w3 (Lib.hid (hX.out.ext kk))).mono ?_
  rintro e w4 ⟨rfl, k⟩
  replace y0 := cell_ext k y0
  replace y1 := cell_ext k y1
  replace y2 := cell_ext k y2
  replace y3 := cell_ext k y3
  replace y4 := cell_ext k y4
  replace y5 := cell_ext k y5
  replace y6 := cell_ext k y6
  replace y7 := cell_ext k y7
  replace y8 := cell_ext k y8
  replace y9 := cell_ext k y9
  replace r0 := cell_ext k r0
  replace r1 := cell_ext k r1
  replace r2 := cell_ext k r2
  replace kk := kk.trans k
  clear k
  obtain ⟨b, hb⟩ : ∃ b, (true) = b := ⟨_, rfl⟩
  have B4 := Lib.hid hb
  rw [hb]
  clear hb
  cases b
  · exact absurd B4.out (by decide)
  have FT := Lib.hid (show formB x shs.length = true by rw [formB, hk.out]; show (okL (hasL x) [true, true, false, false, false, false, false] && (behB [true, true, false, false, false, false, false] x shs.length && toldB x)) = true; rw [B2.out, show behB [true, true, false, false, false, false, false] x shs.length = (ahB x.a shs.length && ahB x.b shs.length) from by unfold behB; simp, B3.out, show toldB x = (true) from by unfold toldB; simp [hk.out]]; rfl)
  obtain ⟨i, hi, s, hs, hg⟩ := ahead_get (show ahB x.a shs.length = true from by have := B3.out; revert this; cases ahB x.a shs.length <;> simp)
  obtain ⟨i2, hi2, s2, hs2, hg2⟩ := ahead_get (show ahB x.b shs.length = true from by have := B3.out; revert this; cases ahB x.a shs.length <;> simp)
  have HI := Lib.hid hi
  have HS := Lib.hid hs
  have HG := Lib.hid hg
  clear hi hs hg
  have HI2 := Lib.hid hi2
  have HS2 := Lib.hid hs2
  have HG2 := Lib.hid hg2
  clear hi2 hs2 hg2
  go_wp2_with fail
  have HO := Lib.hid (show shapeO x shs = (if s = s2 then some s else none) by unfold shapeO; rw [HG.out, HG2.out]; simp [hk.out])
  refine (add_any x As Ad Ab Ah cs cd cb ch shs w4 (Lib.hid (hX.out.ext kk)) i s HI HS i2 s2 HI2 HS2).mono ?_
  rintro e w5 (⟨s5, A5, c5, ho, rfl, hz, hf, k⟩ | ⟨ho, rfl, k⟩)
  rotate_left
  · have HR := Lib.hid (node_none FT.out (HO.out.trans ho))
    clear ho
    replace y0 := cell_ext k y0
    replace y1 := cell_ext k y1
    replace y2 := cell_ext k y2
    replace y3 := cell_ext k y3
    replace y4 := cell_ext k y4
    replace y5 := cell_ext k y5
    replace y6 := cell_ext k y6
    replace y7 := cell_ext k y7
    replace y8 := cell_ext k y8
    replace y9 := cell_ext k y9
    replace r0 := cell_ext k r0
    replace r1 := cell_ext k r1
    replace r2 := cell_ext k r2
    replace kk := kk.trans k
    clear k
    go_wp2
    go_ret2
    exact .inr ⟨4, HR.out, by omega, rfl, kk⟩
  have HSH := Lib.hid (HO.out.trans ho)
  clear ho
  have H5 := Lib.hid (And.intro hz hf)
  have hk5 := kk.size
  clear hz hf
  replace y0 := cell_ext k y0
  replace y1 := cell_ext k y1
  replace y2 := cell_ext k y2
  replace y3 := cell_ext k y3
  replace y4 := cell_ext k y4
  replace y5 := cell_ext k y5
  replace y6 := cell_ext k y6
  replace y7 := cell_ext k y7
  replace y8 := cell_ext k y8
  replace y9 := cell_ext k y9
  replace r0 := cell_ext k r0
  replace r1 := cell_ext k r1
  replace r2 := cell_ext k r2
  replace kk := kk.trans k
  clear k
  have HL := Lib.hid ((entN_len (shape_right hX.out.ok FT.out HSH.out)).1)
  have hl : ¬ ((s5.length : Nat) : Int) = 0 := by have := HL.out; omega
  go_wp2_with fail
  refine (within_any x As Ad Ab Ah cs cd cb ch shs w5 (Lib.hid (hX.out.ext kk))).mono ?_
  rintro e w6 ⟨rfl, k⟩
  replace H5 := Lib.hid (And.intro (H5.out.1.ext k) H5.out.2)
  replace y0 := cell_ext k y0
  replace y1 := cell_ext k y1
  replace y2 := cell_ext k y2
  replace y3 := cell_ext k y3
  replace y4 := cell_ext k y4
  replace y5 := cell_ext k y5
  replace y6 := cell_ext k y6
  replace y7 := cell_ext k y7
  replace y8 := cell_ext k y8
  replace y9 := cell_ext k y9
  replace r0 := cell_ext k r0
  replace r1 := cell_ext k r1
  replace r2 := cell_ext k r2
  replace kk := kk.trans k
  clear k
  obtain ⟨b, hb⟩ : ∃ b, (nearOK x) = b := ⟨_, rfl⟩
  have B6 := Lib.hid hb
  rw [hb]
  clear hb
  cases b
  · have HR := Lib.hid (node_far FT.out HSH.out B6.out)
    go_wp2
    go_ret2
    exact .inr ⟨5, HR.out, by omega, rfl, kk⟩
  have HR := Lib.hid (node_ok FT.out HSH.out B6.out)
  go_wp2
  go_ret2
  exact .inl ⟨s5, A5, c5, HR.out, rfl, H5.out.1, fun ad e => by have := H5.out.2 ad e; omega, kk⟩
end Go.Proofs.Ytdnjjpkajiehgaa

/-
  Check of a node of kind 7.
-/
namespace Go.Proofs.Ytdnjjpkajiehgaa
open Go.RowKit
set_option linter.unusedVariables false
set_option maxRecDepth 100000

set_option maxHeartbeats 8000000 in
theorem check7 (x : Nd) (As Ad Ab Ah : Option Addr) (cs cd cb ch : Nat) (shs : List (List Int)) (w : World) (hX : Hid (Plc w x As Ad Ab Ah cs cd cb ch shs)) (hk : Hid (x.k = 7)) :
    Calls Try.prog 45 #[.agg #[.int .i64 x.k, .int .i64 x.a, .int .i64 x.b, .slice As x.sh.length cs, .int .i64 x.lo, .int .i64 x.hi, .int .i64 x.sz, .slice Ad x.da.length cd, .slice Ab x.bi.length cb, .slice Ah shs.length ch]] w fun e w' => NodePost w (nodeR x shs) e w' := by
  obtain ⟨y0, y1, y2, y3, y4, y5, y6, y7, y8, y9⟩ := ten_at w (.int .i64 x.k) (.int .i64 x.a) (.int .i64 x.b) (.slice As x.sh.length cs) (.int .i64 x.lo) (.int .i64 x.hi) (.int .i64 x.sz) (.slice Ad x.da.length cd) (.slice Ab x.bi.length cb) (.slice Ah shs.length ch) 71
  have kk : Ext w (w.alloc (.cells #[.int .i64 x.k, .int .i64 x.a, .int .i64 x.b, .slice As x.sh.length cs, .int .i64 x.lo, .int .i64 x.hi, .int .i64 x.sz, .slice Ad x.da.length cd, .slice Ab x.bi.length cb, .slice Ah shs.length ch] 71)) := (Ext.refl w).alloc _
  go_enter Try.func45, Try.ntmps45
  go_wp2_with fail
  generalize w.alloc (.cells #[.int .i64 x.k, .int .i64 x.a, .int .i64 x.b, .slice As x.sh.length cs, .int .i64 x.lo, .int .i64 x.hi, .int .i64 x.sz, .slice Ad x.da.length cd, .slice Ab x.bi.length cb, .slice Ah shs.length ch] 71) = V at *
  refine (rule7 x.k hk.out V).mono ?_
  rintro e1 w1 ⟨rfl, k1⟩
  have k2 : Ext V (w1.alloc (.cells #[.int .i64 33, .func (.func 102) #[] #[], .func (.func 103) #[] #[]] 102)) := k1.alloc _
  replace y0 := cell_ext k2 y0
  replace y1 := cell_ext k2 y1
  replace y2 := cell_ext k2 y2
  replace y3 := cell_ext k2 y3
  replace y4 := cell_ext k2 y4
  replace y5 := cell_ext k2 y5
  replace y6 := cell_ext k2 y6
  replace y7 := cell_ext k2 y7
  replace y8 := cell_ext k2 y8
  replace y9 := cell_ext k2 y9
  obtain ⟨r0, r1, r2⟩ := three_at w1 (.int .i64 33) (.func (.func 102) #[] #[]) (.func (.func 103) #[] #[]) 102
  replace kk := kk.trans k2
  clear k1 k2
  go_wp2_with fail
  generalize w1.alloc (.cells #[.int .i64 33, .func (.func 102) #[] #[], .func (.func 103) #[] #[]] 102) = W at *
  generalize w1.heap.size = g at *
  refine (noMore33 x As Ad Ab Ah cs cd cb ch shs W (Lib.hid (hX.out.ext kk))).mono ?_
  rintro e w2 ⟨rfl, k⟩
  replace y0 := cell_ext k y0
  replace y1 := cell_ext k y1
  replace y2 := cell_ext k y2
  replace y3 := cell_ext k y3
  replace y4 := cell_ext k y4
  replace y5 := cell_ext k y5
  replace y6 := cell_ext k y6
  replace y7 := cell_ext k y7
  replace y8 := cell_ext k y8
  replace y9 := cell_ext k y9
  replace r0 := cell_ext k r0
  replace r1 := cell_ext k r1
  replace r2 := cell_ext k r2
  replace kk := kk.trans k
  clear k
  obtain ⟨b, hb⟩ : ∃ b, (okL (hasL x) [true, false, false, false, false, true, false]) = b := ⟨_, rfl⟩
  have B2 := Lib.hid hb
  rw [hb]
  clear hb
  cases b
  · have HR := Lib.hid (node_form (show formB x shs.length = false by rw [formB, hk.out]; show (okL (hasL x) [true, false, false, false, false, true, false] && (behB [true, false, false, false, false, true, false] x shs.length && toldB x)) = false; rw [B2.out]; rfl))
    go_wp2
    go_ret2
    exact .inr ⟨3, HR.out, by omega, rfl, kk⟩
  go_wp2_with fail
  refine (behind33 x As Ad Ab Ah cs cd cb ch shs w2 (Lib.hid (hX.out.ext kk))).mono ?_
  rintro e w3 ⟨rfl, k⟩
  replace y0 := cell_ext k y0
  replace y1 := cell_ext k y1
  replace y2 := cell_ext k y2
  replace y3 := cell_ext k y3
  replace y4 := cell_ext k y4
  replace y5 := cell_ext k y5
  replace y6 := cell_ext k y6
  replace y7 := cell_ext k y7
  replace y8 := cell_ext k y8
  replace y9 := cell_ext k y9
  replace r0 := cell_ext k r0
  replace r1 := cell_ext k r1
  replace r2 := cell_ext k r2
  replace kk := kk.trans k
  clear k
  obtain ⟨b, hb⟩ : ∃ b, (ahB x.a shs.length) = b := ⟨_, rfl⟩
  have B3 := Lib.hid hb
  rw [hb]
  clear hb
  cases b
  · have HR := Lib.hid (node_form (show formB x shs.length = false by rw [formB, hk.out]; show (okL (hasL x) [true, false, false, false, false, true, false] && (behB [true, false, false, false, false, true, false] x shs.length && toldB x)) = false; rw [B2.out, show behB [true, false, false, false, false, true, false] x shs.length = ahB x.a shs.length from by unfold behB; simp, B3.out]; rfl))
    go_wp2
    go_ret2
    exact .inr ⟨3, HR.out, by omega, rfl, kk⟩
  go_wp2_with fail
  refine (hasFactor_any x As Ad Ab Ah cs cd cb ch shs w3 (Lib.hid (hX.out.ext kk))).mono ?_
  rintro e w4 ⟨rfl, k⟩
  replace y0 := cell_ext k y0
  replace y1 := cell_ext k y1
  replace y2 := cell_ext k y2
  replace y3 := cell_ext k y3
  replace y4 := cell_ext k y4
  replace y5 := cell_ext k y5
  replace y6 := cell_ext k y6
  replace y7 := cell_ext k y7
  replace y8 := cell_ext k y8
  replace y9 := cell_ext k y9
  replace r0 := cell_ext k r0
  replace r1 := cell_ext k r1
  replace r2 := cell_ext k r2
  replace kk := kk.trans k
  clear k
  obtain ⟨b, hb⟩ : ∃ b, (decide ((x.da.length : Int) = 1)) = b := ⟨_, rfl⟩
  have B4 := Lib.hid hb
  rw [hb]
  clear hb
  cases b
  · have HR := Lib.hid (node_form (show formB x shs.length = false by rw [formB, hk.out]; show (okL (hasL x) [true, false, false, false, false, true, false] && (behB [true, false, false, false, false, true, false] x shs.length && toldB x)) = false; rw [B2.out, show behB [true, false, false, false, false, true, false] x shs.length = ahB x.a shs.length from by unfold behB; simp, B3.out, show toldB x = (decide ((x.da.length : Int) = 1)) from by unfold toldB; simp [hk.out], B4.out]; rfl))
    go_wp2
    go_ret2
    exact .inr ⟨3, HR.out, by omega, rfl, kk⟩
  have FT := Lib.hid (show formB x shs.length = true by rw [formB, hk.out]; show (okL (hasL x) [true, false, false, false, false, true, false] && (behB [true, false, false, false, false, true, false] x shs.length && toldB x)) = true; rw [B2.out, show behB [true, false, false, false, false, true, false] x shs.length = ahB x.a shs.length from by unfold behB; simp, B3.out, show toldB x = (decide ((x.da.length : Int) = 1)) from by unfold toldB; simp [hk.out], B4.out]; rfl)
  obtain ⟨i, hi, s, hs, hg⟩ := ahead_get (show ahB x.a shs.length = true from B3.out)
  have HI := Lib.hid hi
  have HS := Lib.hid hs
  have HG := Lib.hid hg
  clear hi hs hg
  go_wp2_with fail
  refine (taken_any x As Ad Ab Ah cs cd cb ch shs w4 (Lib.hid (hX.out.ext kk)) i s HI.out HS).mono ?_
  rintro e w5 ⟨A5, c5, rfl, hz, hf, k⟩
  have HSH := Lib.hid (show shapeO x shs = some s from by unfold shapeO; rw [HG.out]; simp [hk.out])
  have H5 := Lib.hid (And.intro hz hf)
  have hk5 := kk.size
  clear hz hf
  replace y0 := cell_ext k y0
  replace y1 := cell_ext k y1
  replace y2 := cell_ext k y2
  replace y3 := cell_ext k y3
  replace y4 := cell_ext k y4
  replace y5 := cell_ext k y5
  replace y6 := cell_ext k y6
  replace y7 := cell_ext k y7
  replace y8 := cell_ext k y8
  replace y9 := cell_ext k y9
  replace r0 := cell_ext k r0
  replace r1 := cell_ext k r1
  replace r2 := cell_ext k r2
  replace kk := kk.trans k
  clear k
  have HL := Lib.hid ((entN_len (hX.out.ok s (List.mem_of_getElem? HS.out))).1)
  have hl : ¬ ((s.length : Nat) : Int) = 0 := by have := HL.out; omega
  go_wp2_with fail
  refine (within_any x As Ad Ab Ah cs cd cb ch shs w5 (Lib.hid (hX.out.ext kk))).mono ?_
  rintro e w6 ⟨rfl, k⟩
  replace H5 := Lib.hid (And.intro (H5.out.1.ext k) H5.out.2)
  replace y0 := cell_ext k y0
  replace y1 := cell_ext k y1
  replace y2 := cell_ext k y2
  replace y3 := cell_ext k y3
  replace y4 := cell_ext k y4
  replace y5 := cell_ext k y5
  replace y6 := cell_ext k y6
  replace y7 := cell_ext k y7
  replace y8 := cell_ext k y8
  replace y9 := cell_ext k y9
  replace r0 := cell_ext k r0
  replace r1 := cell_ext k r1
  replace r2 := cell_ext k r2
  replace kk := kk.trans k
  clear k
  obtain ⟨b, hb⟩ : ∃ b, (nearOK x) = b := ⟨_, rfl⟩
  have B6 := Lib.hid hb
  rw [hb]
  clear hb
  cases b
  · have HR := Lib.hid (node_far FT.out HSH.out B6.out)
    go_wp2
    go_ret2
    exact .inr ⟨5, HR.out, by omega, rfl, kk⟩
  have HR := Lib.hid (node_ok FT.out HSH.out B6.out)
  go_wp2
  go_ret2
  exact .inl ⟨s, A5, c5, HR.out, rfl, H5.out.1, fun ad e => by have := H5.out.2 ad e; omega, kk⟩
end Go.Proofs.Ytdnjjpkajiehgaa
