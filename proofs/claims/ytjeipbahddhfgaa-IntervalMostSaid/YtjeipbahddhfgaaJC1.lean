/-
  Check of a node of kind 1.
-/
import Derived.Test.YtjeipbahddhfgaaJRl
import Derived.Test.YtjeipbahddhfgaaJMa
import Derived.Test.YtjeipbahddhfgaaJAh
namespace Go.Proofs.Ytjeipbahddhfgaa
open Go.RowKit
set_option linter.unusedVariables false
set_option maxRecDepth 100000

set_option maxHeartbeats 8000000 in
theorem check1 (x : Nd) (As Ad Ab Ah : Option Addr) (cs cd cb ch : Nat) (shs : List (List Int)) (w : World) (hX : Hid (Plc w x As Ad Ab Ah cs cd cb ch shs)) (hk : Hid (x.k = 1)) :
    Calls Try.prog 30 #[.agg #[.int .i64 x.k, .int .i64 x.a, .int .i64 x.b, .slice As x.sh.length cs, .int .i64 x.lo, .int .i64 x.hi, .int .i64 x.sz, .slice Ad x.da.length cd, .slice Ab x.bi.length cb, .slice Ah shs.length ch]] w fun e w' => NodePost w (nodeR x shs) e w' := by
  obtain ⟨y0, y1, y2, y3, y4, y5, y6, y7, y8, y9⟩ := ten_at w (.int .i64 x.k) (.int .i64 x.a) (.int .i64 x.b) (.slice As x.sh.length cs) (.int .i64 x.lo) (.int .i64 x.hi) (.int .i64 x.sz) (.slice Ad x.da.length cd) (.slice Ab x.bi.length cb) (.slice Ah shs.length ch) 65
  have kk : Ext w (w.alloc (.cells #[.int .i64 x.k, .int .i64 x.a, .int .i64 x.b, .slice As x.sh.length cs, .int .i64 x.lo, .int .i64 x.hi, .int .i64 x.sz, .slice Ad x.da.length cd, .slice Ab x.bi.length cb, .slice Ah shs.length ch] 65)) := (Ext.refl w).alloc _
  go_enter Try.func30, Try.ntmps30
  go_wp2_with fail
  generalize w.alloc (.cells #[.int .i64 x.k, .int .i64 x.a, .int .i64 x.b, .slice As x.sh.length cs, .int .i64 x.lo, .int .i64 x.hi, .int .i64 x.sz, .slice Ad x.da.length cd, .slice Ab x.bi.length cb, .slice Ah shs.length ch] 65) = V at *
  refine (rule1 x.k hk.out V).mono ?_
  rintro e1 w1 ⟨rfl, k1⟩
  have k2 : Ext V (w1.alloc (.cells #[.int .i64 12, .func (.func 63) #[] #[], .func (.func 64) #[] #[]] 87)) := k1.alloc _
  replace y0 := cell_ext k2 y0
  replace y1 := cell_ext k2 y1
  replace y2 := cell_ext k2 y2
  replace y3 := cell_ext k2 y3
  replace y4 := cell_ext k2 y4
  replace y5 := cell_ext k2 y5
  replace y6 := cell_ext k2 y6
  replace y7 := cell_ext k2 y7
  replace y8 := cell_ext k2 y8
  replace y9 := cell_ext k2 y9
  obtain ⟨r0, r1, r2⟩ := three_at w1 (.int .i64 12) (.func (.func 63) #[] #[]) (.func (.func 64) #[] #[]) 87
  replace kk := kk.trans k2
  clear k1 k2
  go_wp2_with fail
  generalize w1.alloc (.cells #[.int .i64 12, .func (.func 63) #[] #[], .func (.func 64) #[] #[]] 87) = W at *
  generalize w1.heap.size = g at *
  refine (noMore12 x As Ad Ab Ah cs cd cb ch shs W (Lib.hid (hX.out.ext kk))).mono ?_
  rintro e w2 ⟨rfl, k⟩
  replace y0 := cell_ext k y0
  replace y1 := cell_ext k y1
  replace y2 := cell_ext k y2
  replace y3 := cell_ext k y3
  replace y4 := cell_ext k y4
  replace y5 := cell_ext k y5
  replace y6 := cell_ext k y6
  replace y7 := cell_ext k y7
  replace y8 := cell_ext k y8
  replace y9 := cell_ext k y9
  replace r0 := cell_ext k r0
  replace r1 := cell_ext k r1
  replace r2 := cell_ext k r2
  replace kk := kk.trans k
  clear k
  obtain ⟨b, hb⟩ : ∃ b, (okL (hasL x) [false, false, true, true, false, false, false]) = b := ⟨_, rfl⟩
  have B2 := Lib.hid hb
  rw [hb]
  clear hb
  cases b
  · have HR := Lib.hid (node_form (show formB x shs.length = false by rw [formB, hk.out]; show (okL (hasL x) [false, false, true, true, false, false, false] && (behB [false, false, true, true, false, false, false] x shs.length && toldB x)) = false; rw [B2.out]; rfl))
    go_wp2
    go_ret2
    exact .inr ⟨3, HR.out, by omega, rfl, kk⟩
  go_wp2_with fail
  refine (behind12 x As Ad Ab Ah cs cd cb ch shs w2 (Lib.hid (hX.out.ext kk))).mono ?_
  rintro e w3 ⟨rfl, k⟩
  replace y0 := cell_ext k y0
  replace y1 := cell_ext k y1
  replace y2 := cell_ext k y2
  replace y3 := cell_ext k y3
  replace y4 := cell_ext k y4
  replace y5 := cell_ext k y5
  replace y6 := cell_ext k y6
  replace y7 := cell_ext k y7
  replace y8 := cell_ext k y8
  replace y9 := cell_ext k y9
  replace r0 := cell_ext k r0
  replace r1 := cell_ext k r1
  replace r2 := cell_ext k r2
  replace kk := kk.trans k
  clear k
  obtain ⟨b, hb⟩ : ∃ b, (true) = b := ⟨_, rfl⟩
  have B3 := Lib.hid hb
  rw [hb]
  clear hb
  cases b
  · exact absurd B3.out (by decide)
  go_wp2_with fail
  refine (hasShape_any x As Ad Ab Ah cs cd cb ch shs w3 (Lib.hid (hX.out.ext kk))).mono ?_
  rintro e w4 ⟨rfl, k⟩
  replace y0 := cell_ext k y0
  replace y1 := cell_ext k y1
  replace y2 := cell_ext k y2
  replace y3 := cell_ext k y3
  replace y4 := cell_ext k y4
  replace y5 := cell_ext k y5
  replace y6 := cell_ext k y6
  replace y7 := cell_ext k y7
  replace y8 := cell_ext k y8
  replace y9 := cell_ext k y9
  replace r0 := cell_ext k r0
  replace r1 := cell_ext k r1
  replace r2 := cell_ext k r2
  replace kk := kk.trans k
  clear k
  obtain ⟨b, hb⟩ : ∃ b, (decide (0 < entN x.sh)) = b := ⟨_, rfl⟩
  have B4 := Lib.hid hb
  rw [hb]
  clear hb
  cases b
  · have HR := Lib.hid (node_form (show formB x shs.length = false by rw [formB, hk.out]; show (okL (hasL x) [false, false, true, true, false, false, false] && (behB [false, false, true, true, false, false, false] x shs.length && toldB x)) = false; rw [B2.out, show behB [false, false, true, true, false, false, false] x shs.length = true from rfl, show toldB x = (decide (0 < entN x.sh)) from by unfold toldB; simp [hk.out], B4.out]; rfl))
    go_wp2
    go_ret2
    exact .inr ⟨3, HR.out, by omega, rfl, kk⟩
  have FT := Lib.hid (show formB x shs.length = true by rw [formB, hk.out]; show (okL (hasL x) [false, false, true, true, false, false, false] && (behB [false, false, true, true, false, false, false] x shs.length && toldB x)) = true; rw [B2.out, show behB [false, false, true, true, false, false, false] x shs.length = true from rfl, show toldB x = (decide (0 < entN x.sh)) from by unfold toldB; simp [hk.out], B4.out]; rfl)
  go_wp2_with fail
  refine (own_any x As Ad Ab Ah cs cd cb ch shs w4 (Lib.hid (hX.out.ext kk))).mono ?_
  rintro e w5 ⟨A5, c5, rfl, hz, hf, k⟩
  have HSH := Lib.hid (show shapeO x shs = some x.sh from by unfold shapeO; simp [hk.out])
  have H5 := Lib.hid (And.intro hz hf)
  have hk5 := kk.size
  clear hz hf
  replace y0 := cell_ext k y0
  replace y1 := cell_ext k y1
  replace y2 := cell_ext k y2
  replace y3 := cell_ext k y3
  replace y4 := cell_ext k y4
  replace y5 := cell_ext k y5
  replace y6 := cell_ext k y6
  replace y7 := cell_ext k y7
  replace y8 := cell_ext k y8
  replace y9 := cell_ext k y9
  replace r0 := cell_ext k r0
  replace r1 := cell_ext k r1
  replace r2 := cell_ext k r2
  replace kk := kk.trans k
  clear k
  have HL := Lib.hid ((entN_len (show 0 < entN x.sh from by have := B4.out; revert this; by_cases h : 0 < entN x.sh <;> simp [h])).1)
  have hl : ¬ ((x.sh.length : Nat) : Int) = 0 := by have := HL.out; omega
  go_wp2_with fail
  refine (within_any x As Ad Ab Ah cs cd cb ch shs w5 (Lib.hid (hX.out.ext kk))).mono ?_
  rintro e w6 ⟨rfl, k⟩
  replace H5 := Lib.hid (And.intro (H5.out.1.ext k) H5.out.2)
  replace y0 := cell_ext k y0
  replace y1 := cell_ext k y1
  replace y2 := cell_ext k y2
  replace y3 := cell_ext k y3
  replace y4 := cell_ext k y4
  replace y5 := cell_ext k y5
  replace y6 := cell_ext k y6
  replace y7 := cell_ext k y7
  replace y8 := cell_ext k y8
  replace y9 := cell_ext k y9
  replace r0 := cell_ext k r0
  replace r1 := cell_ext k r1
  replace r2 := cell_ext k r2
  replace kk := kk.trans k
  clear k
  obtain ⟨b, hb⟩ : ∃ b, (nearOK x) = b := ⟨_, rfl⟩
  have B6 := Lib.hid hb
  rw [hb]
  clear hb
  cases b
  · have HR := Lib.hid (node_far FT.out HSH.out B6.out)
    go_wp2
    go_ret2
    exact .inr ⟨5, HR.out, by omega, rfl, kk⟩
  have HR := Lib.hid (node_ok FT.out HSH.out B6.out)
  go_wp2
  go_ret2
  exact .inl ⟨x.sh, A5, c5, HR.out, rfl, H5.out.1, fun ad e => by have := H5.out.2 ad e; omega, kk⟩
end Go.Proofs.Ytjeipbahddhfgaa
