/-
  Check of a node of kind 8.
-/
import Derived.Test.YtdnjjpkajiehgaaZ25
import Derived.Test.YtdnjjpkajiehgaaZ12
import Derived.Test.YtdnjjpkajiehgaaZ11
import Derived.Test.YtdnjjpkajiehgaaZ15
namespace Go.Proofs.Ytdnjjpkajiehgaa
open Go.RowKit
set_option linter.unusedVariables false
set_option maxRecDepth 100000

set_option maxHeartbeats 8000000 in
theorem check8 (x : Nd) (As Ad Ab Ah : Option Addr) (cs cd cb ch : Nat) (shs : List (List Int)) (w : World) (hX : Hid (Plc w x As Ad Ab Ah cs cd cb ch shs)) (hk : Hid (x.k = 8)) :
    Calls Try.prog 45 #[.agg #[.int .i64 x.k, .int .i64 x.a, .int .i64 x.b, .slice As x.sh.length cs, .int .i64 x.lo, .int .i64 x.hi, .int .i64 x.sz, .slice Ad x.da.length cd, .slice Ab x.bi.length cb, .slice Ah shs.length ch]] w fun e w' => NodePost w (nodeR x shs) e w' := by
  obtain ⟨y0, y1, y2, y3, y4, y5, y6, y7, y8, y9⟩ := ten_at w (.int .i64 x.k) (.int .i64 x.a) (.int .i64 x.b) (.slice As x.sh.length cs) (.int .i64 x.lo) (.int .i64 x.hi) (.int .i64 x.sz) (.slice Ad x.da.length cd) (.slice Ab x.bi.length cb) (.slice Ah shs.length ch) 71
  have kk : Ext w (w.alloc (.cells #[.int .i64 x.k, .int .i64 x.a, .int .i64 x.b, .slice As x.sh.length cs, .int .i64 x.lo, .int .i64 x.hi, .int .i64 x.sz, .slice Ad x.da.length cd, .slice Ab x.bi.length cb, .slice Ah shs.length ch] 71)) := (Ext.refl w).alloc _
  go_enter Try.func45, Try.ntmps45
  go_wp2_with fail
  generalize w.alloc (.cells #[.int .i64 x.k, .int .i64 x.a, .int .i64 x.b, .slice As x.sh.length cs, .int .i64 x.lo, .int .i64 x.hi, .int .i64 x.sz, .slice Ad x.da.length cd, .slice Ab x.bi.length cb, .slice Ah shs.length ch] 71) = V at *
  refine (rule8 x.k hk.out V).mono ?_
  rintro e1 w1 ⟨rfl, k1⟩
  have k2 : Ext V (w1.alloc (.cells #[.int .i64 33, .func (.func 104) #[] #[], .func (.func 103) #[] #[]] 102)) := k1.alloc _
  replace y0 := cell_ext k2 y0
  replace y1 := cell_ext k2 y1
  replace y2 := cell_ext k2 y2
  replace y3 := cell_ext k2 y3
  replace y4 := cell_ext k2 y4
  replace y5 := cell_ext k2 y5
  replace y6 := cell_ext k2 y6
  replace y7 := cell_ext k2 y7
  replace y8 := cell_ext k2 y8
  replace y9 := cell_ext k2 y9
  obtain ⟨r0, r1, r2⟩ := three_at w1 (.int .i64 33) (.func (.func 104) #[] #[]) (.func (.func 103) #[] #[]) 102
  replace kk := kk.trans k2
  clear k1 k2
  go_wp2_with fail
  generalize w1.alloc (.cells #[.int .i64 33, .func (.func 104) #[] #[], .func (.func 103) #[] #[]] 102) = W at *
  generalize w1.heap.size = g at *
  refine (noMore33 x As Ad Ab Ah cs cd cb ch shs W (Lib.hid (hX.out.ext kk))).mono ?_
  rintro e w2 ⟨rfl, k⟩
  replace y0 := cell_ext k y0
  replace y1 := cell_ext k y1
  replace y2 := cell_ext k y2
  replace y3 := cell_ext k y3
  replace y4 := cell_ext k y4
  replace y5 := cell_ext k y5
  replace y6 := cell_ext k y6
  replace y7 := cell_ext k y7
  replace y8 := cell_ext k y8
  replace y9 := cell_ext k y9
  replace r0 := cell_ext k r0
  replace r1 := cell_ext k r1
  replace r2 := cell_ext k r2
  replace kk := kk.trans k
  clear k
  obtain ⟨b, hb⟩ : ∃ b, (okL (hasL x) [true, false, false, false, false, true, false]) = b := ⟨_, rfl⟩
  have B2 := Lib.hid hb
  rw [hb]
  clear hb
  cases b
  · have HR := Lib.hid (node_form (show formB x shs.length = false by rw [formB, hk.out]; show (okL (hasL x) [true, false, false, false, false, true, false] && (behB [true, false, false, false, false, true, false] x shs.length && toldB x)) = false; rw [B2.out]; rfl))
    go_wp2
    go_ret2
    exact .inr ⟨3, HR.out, by omega, rfl, kk⟩
  go_wp2_with fail
  refine (behind33 x As Ad Ab Ah cs cd cb ch shs w2 (Lib.hid (hX.out.ext kk))).mono ?_
  rintro e w3 ⟨rfl, k⟩
  replace y0 := cell_ext k y0
  replace y1 := cell_ext k y1
  replace y2 := cell_ext k y2
  replace y3 := cell_ext k y3
  replace y4 := cell_ext k y4
  replace y5 := cell_ext k y5
  replace y6 := cell_ext k y6
  replace y7 := cell_ext k y7
  replace y8 := cell_ext k y8
  replace y9 := cell_ext k y9
  replace r0 := cell_ext k r0
  replace r1 := cell_ext k r1
  replace r2 := cell_ext k r2
  replace kk := kk.trans k
  clear k
  obtain ⟨b, hb⟩ : ∃ b, (ahB x.a shs.length) = b := ⟨_, rfl⟩
  have B3 := Lib.hid hb
  rw [hb]
  clear hb
  cases b
  · have HR := Lib.hid (node_form (show formB x shs.length = false by rw [formB, hk.out]; show (okL (hasL x) [true, false, false, false, false, true, false] && (behB [true, false, false, false, false, true, false] x shs.length && toldB x)) = false; rw [B2.out, show behB [true, false, false, false, false, true, false] x shs.length = ahB x.a shs.length from by unfold behB; simp, B3.out]; rfl))
    go_wp2
    go_ret2
    exact .inr ⟨3, HR.out, by omega, rfl, kk⟩
  go_wp2_with fail
  refine (hasPowers_any x As Ad Ab Ah cs cd cb ch shs w3 (Lib.hid (hX.out.ext kk))).mono ?_
  rintro e w4 ⟨rfl, k⟩
  replace y0 := cell_ext k y0
  replace y1 := cell_ext k y1
  replace y2 := cell_ext k y2
  replace y3 := cell_ext k y3
  replace y4 := cell_ext k y4
  replace y5 := cell_ext k y5
  replace y6 := cell_ext k y6
  replace y7 := cell_ext k y7
  replace y8 := cell_ext k y8
  replace y9 := cell_ext k y9
  replace r0 := cell_ext k r0
  replace r1 := cell_ext k r1
  replace r2 := cell_ext k r2
  replace kk := kk.trans k
  clear k
  obtain ⟨b, hb⟩ : ∃ b, (decide ((x.da.length : Int) = 3)) = b := ⟨_, rfl⟩
  have B4 := Lib.hid hb
  rw [hb]
  clear hb
  cases b
  · have HR := Lib.hid (node_form (show formB x shs.length = false by rw [formB, hk.out]; show (okL (hasL x) [true, false, false, false, false, true, false] && (behB [true, false, false, false, false, true, false] x shs.length && toldB x)) = false; rw [B2.out, show behB [true, false, false, false, false, true, false] x shs.length = ahB x.a shs.length from by unfold behB; simp, B3.out, show toldB x = (decide ((x.da.length : Int) = 3)) from by unfold toldB; simp [hk.out], B4.out]; rfl))
    go_wp2
    go_ret2
    exact .inr ⟨3, HR.out, by omega, rfl, kk⟩
  have FT := Lib.hid (show formB x shs.length = true by rw [formB, hk.out]; show (okL (hasL x) [true, false, false, false, false, true, false] && (behB [true, false, false, false, false, true, false] x shs.length && toldB x)) = true; rw [B2.out, show behB [true, false, false, false, false, true, false] x shs.length = ahB x.a shs.length from by unfold behB; simp, B3.out, show toldB x = (decide ((x.da.length : Int) = 3)) from by unfold toldB; simp [hk.out], B4.out]; rfl)
  obtain ⟨i, hi, s, hs, hg⟩ := ahead_get (show ahB x.a shs.length = true from B3.out)
  have HI := Lib.hid hi
  have HS := Lib.hid hs
  have HG := Lib.hid hg
  clear hi hs hg
  go_wp2_with fail
  refine (taken_any x As Ad Ab Ah cs cd cb ch shs w4 (Lib.hid (hX.out.ext kk)) i s HI.out HS).mono ?_
  rintro e w5 ⟨A5, c5, rfl, hz, hf, k⟩
  have HSH := Lib.hid (show shapeO x shs = some s from by unfold shapeO; rw [HG.out]; simp [hk.out])
  have H5 := Lib.hid (And.intro hz hf)
  have hk5 := kk.size
  clear hz hf
  replace y0 := cell_ext k y0
  replace y1 := cell_ext k y1
  replace y2 := cell_ext k y2
  replace y3 := cell_ext k y3
  replace y4 := cell_ext k y4
  replace y5 := cell_ext k y5
  replace y6 := cell_ext k y6
  replace y7 := cell_ext k y7
  replace y8 := cell_ext k y8
  replace y9 := cell_ext k y9
  replace r0 := cell_ext k r0
  replace r1 := cell_ext k r1
  replace r2 := cell_ext k r2
  replace kk := kk.trans k
  clear k
  have HL := Lib.hid ((entN_len (hX.out.ok s (List.mem_of_getElem? HS.out))).1)
  have hl : ¬ ((s.length : Nat) : Int) = 0 := by have := HL.out; omega
  go_wp2_with fail
  refine (within_any x As Ad Ab Ah cs cd cb ch shs w5 (Lib.hid (hX.out.ext kk))).mono ?_
  rintro e w6 ⟨rfl, k⟩
  replace H5 := Lib.hid (And.intro (H5.out.1.ext k) H5.out.2)
  replace y0 := cell_ext k y0
  replace y1 := cell_ext k y1
  replace y2 := cell_ext k y2
  replace y3 := cell_ext k y3
  replace y4 := cell_ext k y4
  replace y5 := cell_ext k y5
  replace y6 := cell_ext k y6
  replace y7 := cell_ext k y7
  replace y8 := cell_ext k y8
  replace y9 := cell_ext k y9
  replace r0 := cell_ext k r0
  replace r1 := cell_ext k r1
  replace r2 := cell_ext k r2
  replace kk := kk.trans k
  clear k
  obtain ⟨b, hb⟩ : ∃ b, (nearOK x) = b := ⟨_, rfl⟩
  have B6 := Lib.hid hb
  rw [hb]
  clear hb
  cases b
  · have HR := Lib.hid (node_far FT.out HSH.out B6.out)
    go_wp2
    go_ret2
    exact .inr ⟨5, HR.out, by omega, rfl, kk⟩
  have HR := Lib.hid (node_ok FT.out HSH.out B6.out)
  go_wp2
  go_ret2
  exact .inl ⟨s, A5, c5, HR.out, rfl, H5.out.1, fun ad e => by have := H5.out.2 ad e; omega, kk⟩
end Go.Proofs.Ytdnjjpkajiehgaa

/-
  Check of a node of kind 9.
-/
namespace Go.Proofs.Ytdnjjpkajiehgaa
open Go.RowKit
set_option linter.unusedVariables false
set_option maxRecDepth 100000

set_option maxHeartbeats 8000000 in
theorem check9 (x : Nd) (As Ad Ab Ah : Option Addr) (cs cd cb ch : Nat) (shs : List (List Int)) (w : World) (hX : Hid (Plc w x As Ad Ab Ah cs cd cb ch shs)) (hk : Hid (x.k = 9)) :
    Calls Try.prog 45 #[.agg #[.int .i64 x.k, .int .i64 x.a, .int .i64 x.b, .slice As x.sh.length cs, .int .i64 x.lo, .int .i64 x.hi, .int .i64 x.sz, .slice Ad x.da.length cd, .slice Ab x.bi.length cb, .slice Ah shs.length ch]] w fun e w' => NodePost w (nodeR x shs) e w' := by
  obtain ⟨y0, y1, y2, y3, y4, y5, y6, y7, y8, y9⟩ := ten_at w (.int .i64 x.k) (.int .i64 x.a) (.int .i64 x.b) (.slice As x.sh.length cs) (.int .i64 x.lo) (.int .i64 x.hi) (.int .i64 x.sz) (.slice Ad x.da.length cd) (.slice Ab x.bi.length cb) (.slice Ah shs.length ch) 71
  have kk : Ext w (w.alloc (.cells #[.int .i64 x.k, .int .i64 x.a, .int .i64 x.b, .slice As x.sh.length cs, .int .i64 x.lo, .int .i64 x.hi, .int .i64 x.sz, .slice Ad x.da.length cd, .slice Ab x.bi.length cb, .slice Ah shs.length ch] 71)) := (Ext.refl w).alloc _
  go_enter Try.func45, Try.ntmps45
  go_wp2_with fail
  generalize w.alloc (.cells #[.int .i64 x.k, .int .i64 x.a, .int .i64 x.b, .slice As x.sh.length cs, .int .i64 x.lo, .int .i64 x.hi, .int .i64 x.sz, .slice Ad x.da.length cd, .slice Ab x.bi.length cb, .slice Ah shs.length ch] 71) = V at *
  refine (rule9 x.k hk.out V).mono ?_
  rintro e1 w1 ⟨rfl, k1⟩
  have k2 : Ext V (w1.alloc (.cells #[.int .i64 5, .func (.func 91) #[] #[], .func (.func 105) #[] #[]] 102)) := k1.alloc _
  replace y0 := cell_ext k2 y0
  replace y1 := cell_ext k2 y1
  replace y2 := cell_ext k2 y2
  replace y3 := cell_ext k2 y3
  replace y4 := cell_ext k2 y4
  replace y5 := cell_ext k2 y5
  replace y6 := cell_ext k2 y6
  replace y7 := cell_ext k2 y7
  replace y8 := cell_ext k2 y8
  replace y9 := cell_ext k2 y9
  obtain ⟨r0, r1, r2⟩ := three_at w1 (.int .i64 5) (.func (.func 91) #[] #[]) (.func (.func 105) #[] #[]) 102
  replace kk := kk.trans k2
  clear k1 k2
  go_wp2_with fail
  generalize w1.alloc (.cells #[.int .i64 5, .func (.func 91) #[] #[], .func (.func 105) #[] #[]] 102) = W at *
  generalize w1.heap.size = g at *
  refine (noMore5 x As Ad Ab Ah cs cd cb ch shs W (Lib.hid (hX.out.ext kk))).mono ?_
  rintro e w2 ⟨rfl, k⟩
  replace y0 := cell_ext k y0
  replace y1 := cell_ext k y1
  replace y2 := cell_ext k y2
  replace y3 := cell_ext k y3
  replace y4 := cell_ext k y4
  replace y5 := cell_ext k y5
  replace y6 := cell_ext k y6
  replace y7 := cell_ext k y7
  replace y8 := cell_ext k y8
  replace y9 := cell_ext k y9
  replace r0 := cell_ext k r0
  replace r1 := cell_ext k r1
  replace r2 := cell_ext k r2
  replace kk := kk.trans k
  clear k
  obtain ⟨b, hb⟩ : ∃ b, (okL (hasL x) [true, false, true, false, false, false, false]) = b := ⟨_, rfl⟩
  have B2 := Lib.hid hb
  rw [hb]
  clear hb
  cases b
  · have HR := Lib.hid (node_form (show formB x shs.length = false by rw [formB, hk.out]; show (okL (hasL x) [true, false, true, false, false, false, false] && (behB [true, false, true, false, false, false, false] x shs.length && toldB x)) = false; rw [B2.out]; rfl))
    go_wp2
    go_ret2
    exact .inr ⟨3, HR.out, by omega, rfl, kk⟩
  go_wp2_with fail
  refine (behind5 x As Ad Ab Ah cs cd cb ch shs w2 (Lib.hid (hX.out.ext kk))).mono ?_
  rintro e w3 ⟨rfl, k⟩
  replace y0 := cell_ext k y0
  replace y1 := cell_ext k y1
  replace y2 := cell_ext k y2
  replace y3 := cell_ext k y3
  replace y4 := cell_ext k y4
  replace y5 := cell_ext k y5
  replace y6 := cell_ext k y6
  replace y7 := cell_ext k y7
  replace y8 := cell_ext k y8
  replace y9 := cell_ext k y9
  replace r0 := cell_ext k r0
  replace r1 := cell_ext k r1
  replace r2 := cell_ext k r2
  replace kk := kk.trans k
  clear k
  obtain ⟨b, hb⟩ : ∃ b, (ahB x.a shs.length) = b := ⟨_, rfl⟩
  have B3 := Lib.hid hb
  rw [hb]
  clear hb
  cases b
  · have HR := Lib.hid (node_form (show formB x shs.length = false by rw [formB, hk.out]; show (okL (hasL x) [true, false, true, false, false, false, false] && (behB [true, false, true, false, false, false, false] x shs.length && toldB x)) = false; rw [B2.out, show behB [true, false, true, false, false, false, false] x shs.length = ahB x.a shs.length from by unfold behB; simp, B3.out]; rfl))
    go_wp2
    go_ret2
    exact .inr ⟨3, HR.out, by omega, rfl, kk⟩
  go_wp2_with fail
  refine (hasShape_any x As Ad Ab Ah cs cd cb ch shs w3 (Lib.hid (hX.out.ext kk))).mono ?_
  rintro e w4 ⟨rfl, k⟩
  replace y0 := cell_ext k y0
  replace y1 := cell_ext k y1
  replace y2 := cell_ext k y2
  replace y3 := cell_ext k y3
  replace y4 := cell_ext k y4
  replace y5 := cell_ext k y5
  replace y6 := cell_ext k y6
  replace y7 := cell_ext k y7
  replace y8 := cell_ext k y8
  replace y9 := cell_ext k y9
  replace r0 := cell_ext k r0
  replace r1 := cell_ext k r1
  replace r2 := cell_ext k r2
  replace kk := kk.trans k
  clear k
  obtain ⟨b, hb⟩ : ∃ b, (decide (0 < entN x.sh)) = b := ⟨_, rfl⟩
  have B4 := Lib.hid hb
  rw [hb]
  clear hb
  cases b
  · have HR := Lib.hid (node_form (show formB x shs.length = false by rw [formB, hk.out]; show (okL (hasL x) [true, false, true, false, false, false, false] && (behB [true, false, true, false, false, false, false] x shs.length && toldB x)) = false; rw [B2.out, show behB [true, false, true, false, false, false, false] x shs.length = ahB x.a shs.length from by unfold behB; simp, B3.out, show toldB x = (decide (0 < entN x.sh)) from by unfold toldB; simp [hk.out], B4.out]; rfl))
    go_wp2
    go_ret2
    exact .inr ⟨3, HR.out, by omega, rfl, kk⟩
  have FT := Lib.hid (show formB x shs.length = true by rw [formB, hk.out]; show (okL (hasL x) [true, false, true, false, false, false, false] && (behB [true, false, true, false, false, false, false] x shs.length && toldB x)) = true; rw [B2.out, show behB [true, false, true, false, false, false, false] x shs.length = ahB x.a shs.length from by unfold behB; simp, B3.out, show toldB x = (decide (0 < entN x.sh)) from by unfold toldB; simp [hk.out], B4.out]; rfl)
  obtain ⟨i, hi, s, hs, hg⟩ := ahead_get (show ahB x.a shs.length = true from B3.out)
  have HI := Lib.hid hi
  have HS := Lib.hid hs
  have HG := Lib.hid hg
  clear hi hs hg
  go_wp2_with fail
  have HO := Lib.hid (show shapeO x shs = (if entN x.sh = entN s then some x.sh else none) by unfold shapeO; rw [HG.out]; simp [hk.out])
  refine (flat_any x As Ad Ab Ah cs cd cb ch shs w4 (Lib.hid (hX.out.ext kk)) i s HI HS).mono ?_
  rintro e w5 (⟨s5, A5, c5, ho, rfl, hz, hf, k⟩ | ⟨ho, rfl, k⟩)
  rotate_left
  · have HR := Lib.hid (node_none FT.out (HO.out.trans ho))
    clear ho
    replace y0 := cell_ext k y0
    replace y1 := cell_ext k y1
    replace y2 := cell_ext k y2
    replace y3 := cell_ext k y3
    replace y4 := cell_ext k y4
    replace y5 := cell_ext k y5
    replace y6 := cell_ext k y6
    replace y7 := cell_ext k y7
    replace y8 := cell_ext k y8
    replace y9 := cell_ext k y9
    replace r0 := cell_ext k r0
    replace r1 := cell_ext k r1
    replace r2 := cell_ext k r2
    replace kk := kk.trans k
    clear k
    go_wp2
    go_ret2
    exact .inr ⟨4, HR.out, by omega, rfl, kk⟩
  have HSH := Lib.hid (HO.out.trans ho)
  clear ho
  have H5 := Lib.hid (And.intro hz hf)
  have hk5 := kk.size
  clear hz hf
  replace y0 := cell_ext k y0
  replace y1 := cell_ext k y1
  replace y2 := cell_ext k y2
  replace y3 := cell_ext k y3
  replace y4 := cell_ext k y4
  replace y5 := cell_ext k y5
  replace y6 := cell_ext k y6
  replace y7 := cell_ext k y7
  replace y8 := cell_ext k y8
  replace y9 := cell_ext k y9
  replace r0 := cell_ext k r0
  replace r1 := cell_ext k r1
  replace r2 := cell_ext k r2
  replace kk := kk.trans k
  clear k
  have HL := Lib.hid ((entN_len (shape_right hX.out.ok FT.out HSH.out)).1)
  have hl : ¬ ((s5.length : Nat) : Int) = 0 := by have := HL.out; omega
  go_wp2_with fail
  refine (within_any x As Ad Ab Ah cs cd cb ch shs w5 (Lib.hid (hX.out.ext kk))).mono ?_
  rintro e w6 ⟨rfl, k⟩
  replace H5 := Lib.hid (And.intro (H5.out.1.ext k) H5.out.2)
  replace y0 := cell_ext k y0
  replace y1 := cell_ext k y1
  replace y2 := cell_ext k y2
  replace y3 := cell_ext k y3
  replace y4 := cell_ext k y4
  replace y5 := cell_ext k y5
  replace y6 := cell_ext k y6
  replace y7 := cell_ext k y7
  replace y8 := cell_ext k y8
  replace y9 := cell_ext k y9
  replace r0 := cell_ext k r0
  replace r1 := cell_ext k r1
  replace r2 := cell_ext k r2
  replace kk := kk.trans k
  clear k
  obtain ⟨b, hb⟩ : ∃ b, (nearOK x) = b := ⟨_, rfl⟩
  have B6 := Lib.hid hb
  rw [hb]
  clear hb
  cases b
  · have HR := Lib.hid (node_far FT.out HSH.out B6.out)
    go_wp2
    go_ret2
    exact .inr ⟨5, HR.out, by omega, rfl, kk⟩
  have HR := Lib.hid (node_ok FT.out HSH.out B6.out)
  go_wp2
  go_ret2
  exact .inl ⟨s5, A5, c5, HR.out, rfl, H5.out.1, fun ad e => by have := H5.out.2 ad e; omega, kk⟩
end Go.Proofs.Ytdnjjpkajiehgaa

/-
  The check of any node.
-/
namespace Go.Proofs.Ytdnjjpkajiehgaa
open Go.RowKit
set_option linter.unusedVariables false
set_option maxRecDepth 100000

set_option maxHeartbeats 4000000 in
theorem check0 (x : Nd) (As Ad Ab Ah : Option Addr) (cs cd cb ch : Nat) (shs : List (List Int)) (w : World) (hX : Hid (Plc w x As Ad Ab Ah cs cd cb ch shs)) (hk : Hid (x.k ≠ 1 ∧ x.k ≠ 2 ∧ x.k ≠ 3 ∧ x.k ≠ 4 ∧ x.k ≠ 5 ∧ x.k ≠ 6 ∧ x.k ≠ 7 ∧ x.k ≠ 8 ∧ x.k ≠ 9)) :
    Calls Try.prog 45 #[.agg #[.int .i64 x.k, .int .i64 x.a, .int .i64 x.b, .slice As x.sh.length cs, .int .i64 x.lo, .int .i64 x.hi, .int .i64 x.sz, .slice Ad x.da.length cd, .slice Ab x.bi.length cb, .slice Ah shs.length ch]] w fun e w' => NodePost w (nodeR x shs) e w' := by
  obtain ⟨y0, y1, y2, y3, y4, y5, y6, y7, y8, y9⟩ := ten_at w (.int .i64 x.k) (.int .i64 x.a) (.int .i64 x.b) (.slice As x.sh.length cs) (.int .i64 x.lo) (.int .i64 x.hi) (.int .i64 x.sz) (.slice Ad x.da.length cd) (.slice Ab x.bi.length cb) (.slice Ah shs.length ch) 71
  have kk : Ext w (w.alloc (.cells #[.int .i64 x.k, .int .i64 x.a, .int .i64 x.b, .slice As x.sh.length cs, .int .i64 x.lo, .int .i64 x.hi, .int .i64 x.sz, .slice Ad x.da.length cd, .slice Ab x.bi.length cb, .slice Ah shs.length ch] 71)) := (Ext.refl w).alloc _
  go_enter Try.func45, Try.ntmps45
  go_wp2_with fail
  generalize w.alloc (.cells #[.int .i64 x.k, .int .i64 x.a, .int .i64 x.b, .slice As x.sh.length cs, .int .i64 x.lo, .int .i64 x.hi, .int .i64 x.sz, .slice Ad x.da.length cd, .slice Ab x.bi.length cb, .slice Ah shs.length ch] 71) = V at *
  refine (rule0 x.k hk.out V).mono ?_
  rintro e1 w1 ⟨rfl, k1⟩
  have HR := Lib.hid (node_form (show formB x shs.length = false by unfold formB mayL; simp [hk.out]))
  go_wp2
  go_ret2
  exact .inr ⟨3, HR.out, by omega, rfl, kk.trans (k1.trans ((Ext.refl _).alloc _))⟩
theorem check_any (x : Nd) : Checks x := fun As Ad Ab Ah cs cd cb ch shs w hX => by
  by_cases k1 : x.k = 1
  · exact check1 x As Ad Ab Ah cs cd cb ch shs w hX (Lib.hid k1)
  by_cases k2 : x.k = 2
  · exact check2 x As Ad Ab Ah cs cd cb ch shs w hX (Lib.hid k2)
  by_cases k3 : x.k = 3
  · exact check3 x As Ad Ab Ah cs cd cb ch shs w hX (Lib.hid k3)
  by_cases k4 : x.k = 4
  · exact check4 x As Ad Ab Ah cs cd cb ch shs w hX (Lib.hid k4)
  by_cases k5 : x.k = 5
  · exact check5 x As Ad Ab Ah cs cd cb ch shs w hX (Lib.hid k5)
  by_cases k6 : x.k = 6
  · exact check6 x As Ad Ab Ah cs cd cb ch shs w hX (Lib.hid k6)
  by_cases k7 : x.k = 7
  · exact check7 x As Ad Ab Ah cs cd cb ch shs w hX (Lib.hid k7)
  by_cases k8 : x.k = 8
  · exact check8 x As Ad Ab Ah cs cd cb ch shs w hX (Lib.hid k8)
  by_cases k9 : x.k = 9
  · exact check9 x As Ad Ab Ah cs cd cb ch shs w hX (Lib.hid k9)
  · exact check0 x As Ad Ab Ah cs cd cb ch shs w hX (Lib.hid ⟨k1, k2, k3, k4, k5, k6, k7, k8, k9⟩)
theorem graphCheck (nodes : List Nd) (A : Option Addr) (c : Nat) (out : Int) (w : World) (hG : Hid (GX w A c nodes)) (hn : nodes.length ≤ 1000) :
    Calls Try.prog 17 #[.agg #[.slice A nodes.length c, .int .i64 out]] w fun e w' => ChkPost w nodes.length (checkR nodes out) e w' :=
  check_loop nodes A c out w hG hn (Lib.hid fun x _ => check_any x)
end Go.Proofs.Ytdnjjpkajiehgaa
