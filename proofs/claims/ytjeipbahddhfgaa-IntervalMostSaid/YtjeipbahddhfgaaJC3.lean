/-
  Check of a node of kind 3.
-/
import Derived.Test.YtjeipbahddhfgaaJRl
import Derived.Test.YtjeipbahddhfgaaJMb
import Derived.Test.YtjeipbahddhfgaaJAh
namespace Go.Proofs.Ytjeipbahddhfgaa
open Go.RowKit
set_option linter.unusedVariables false
set_option maxRecDepth 100000

set_option maxHeartbeats 8000000 in
theorem check3 (x : Nd) (As Ad Ab Ah : Option Addr) (cs cd cb ch : Nat) (shs : List (List Int)) (w : World) (hX : Hid (Plc w x As Ad Ab Ah cs cd cb ch shs)) (hk : Hid (x.k = 3)) :
    Calls Try.prog 30 #[.agg #[.int .i64 x.k, .int .i64 x.a, .int .i64 x.b, .slice As x.sh.length cs, .int .i64 x.lo, .int .i64 x.hi, .int .i64 x.sz, .slice Ad x.da.length cd, .slice Ab x.bi.length cb, .slice Ah shs.length ch]] w fun e w' => NodePost w (nodeR x shs) e w' := by
  obtain ⟨y0, y1, y2, y3, y4, y5, y6, y7, y8, y9⟩ := ten_at w (.int .i64 x.k) (.int .i64 x.a) (.int .i64 x.b) (.slice As x.sh.length cs) (.int .i64 x.lo) (.int .i64 x.hi) (.int .i64 x.sz) (.slice Ad x.da.length cd) (.slice Ab x.bi.length cb) (.slice Ah shs.length ch) 65
  have kk : Ext w (w.alloc (.cells #[.int .i64 x.k, .int .i64 x.a, .int .i64 x.b, .slice As x.sh.length cs, .int .i64 x.lo, .int .i64 x.hi, .int .i64 x.sz, .slice Ad x.da.length cd, .slice Ab x.bi.length cb, .slice Ah shs.length ch] 65)) := (Ext.refl w).alloc _
  go_enter Try.func30, Try.ntmps30
  go_wp2_with fail
  generalize w.alloc (.cells #[.int .i64 x.k, .int .i64 x.a, .int .i64 x.b, .slice As x.sh.length cs, .int .i64 x.lo, .int .i64 x.hi, .int .i64 x.sz, .slice Ad x.da.length cd, .slice Ab x.bi.length cb, .slice Ah shs.length ch] 65) = V at *
  refine (rule3 x.k hk.out V).mono ?_
  rintro e1 w1 ⟨rfl, k1⟩
  have k2 : Ext V (w1.alloc (.cells #[.int .i64 97, .func (.func 66) #[] #[], .func (.func 67) #[] #[]] 87)) := k1.alloc _
  replace y0 := cell_ext k2 y0
  replace y1 := cell_ext k2 y1
  replace y2 := cell_ext k2 y2
  replace y3 := cell_ext k2 y3
  replace y4 := cell_ext k2 y4
  replace y5 := cell_ext k2 y5
  replace y6 := cell_ext k2 y6
  replace y7 := cell_ext k2 y7
  replace y8 := cell_ext k2 y8
  replace y9 := cell_ext k2 y9
  obtain ⟨r0, r1, r2⟩ := three_at w1 (.int .i64 97) (.func (.func 66) #[] #[]) (.func (.func 67) #[] #[]) 87
  replace kk := kk.trans k2
  clear k1 k2
  go_wp2_with fail
  generalize w1.alloc (.cells #[.int .i64 97, .func (.func 66) #[] #[], .func (.func 67) #[] #[]] 87) = W at *
  generalize w1.heap.size = g at *
  refine (noMore97 x As Ad Ab Ah cs cd cb ch shs W (Lib.hid (hX.out.ext kk))).mono ?_
  rintro e w2 ⟨rfl, k⟩
  replace y0 := cell_ext k y0
  replace y1 := cell_ext k y1
  replace y2 := cell_ext k y2
  replace y3 := cell_ext k y3
  replace y4 := cell_ext k y4
  replace y5 := cell_ext k y5
  replace y6 := cell_ext k y6
  replace y7 := cell_ext k y7
  replace y8 := cell_ext k y8
  replace y9 := cell_ext k y9
  replace r0 := cell_ext k r0
  replace r1 := cell_ext k r1
  replace r2 := cell_ext k r2
  replace kk := kk.trans k
  clear k
  obtain ⟨b, hb⟩ : ∃ b, (okL (hasL x) [true, false, false, false, false, true, true]) = b := ⟨_, rfl⟩
  have B2 := Lib.hid hb
  rw [hb]
  clear hb
  cases b
  · have HR := Lib.hid (node_form (show formB x shs.length = false by rw [formB, hk.out]; show (okL (hasL x) [true, false, false, false, false, true, true] && (behB [true, false, false, false, false, true, true] x shs.length && toldB x)) = false; rw [B2.out]; rfl))
    go_wp2
    go_ret2
    exact .inr ⟨3, HR.out, by omega, rfl, kk⟩
  go_wp2_with fail
  refine (behind97 x As Ad Ab Ah cs cd cb ch shs w2 (Lib.hid (hX.out.ext kk))).mono ?_
  rintro e w3 ⟨rfl, k⟩
  replace y0 := cell_ext k y0
  replace y1 := cell_ext k y1
  replace y2 := cell_ext k y2
  replace y3 := cell_ext k y3
  replace y4 := cell_ext k y4
  replace y5 := cell_ext k y5
  replace y6 := cell_ext k y6
  replace y7 := cell_ext k y7
  replace y8 := cell_ext k y8
  replace y9 := cell_ext k y9
  replace r0 := cell_ext k r0
  replace r1 := cell_ext k r1
  replace r2 := cell_ext k r2
  replace kk := kk.trans k
  clear k
  obtain ⟨b, hb⟩ : ∃ b, (ahB x.a shs.length) = b := ⟨_, rfl⟩
  have B3 := Lib.hid hb
  rw [hb]
  clear hb
  cases b
  · have HR := Lib.hid (node_form (show formB x shs.length = false by rw [formB, hk.out]; show (okL (hasL x) [true, false, false, false, false, true, true] && (behB [true, false, false, false, false, true, true] x shs.length && toldB x)) = false; rw [B2.out, show behB [true, false, false, false, false, true, true] x shs.length = ahB x.a shs.length from by unfold behB; simp, B3.out]; rfl))
    go_wp2
    go_ret2
    exact .inr ⟨3, HR.out, by omega, rfl, kk⟩
  go_wp2_with fail
  refine (hasBiases_any x As Ad Ab Ah cs cd cb ch shs w3 (Lib.hid (hX.out.ext kk))).mono ?_
  rintro e w4 ⟨rfl, k⟩
  replace y0 := cell_ext k y0
  replace y1 := cell_ext k y1
  replace y2 := cell_ext k y2
  replace y3 := cell_ext k y3
  replace y4 := cell_ext k y4
  replace y5 := cell_ext k y5
  replace y6 := cell_ext k y6
  replace y7 := cell_ext k y7
  replace y8 := cell_ext k y8
  replace y9 := cell_ext k y9
  replace r0 := cell_ext k r0
  replace r1 := cell_ext k r1
  replace r2 := cell_ext k r2
  replace kk := kk.trans k
  clear k
  obtain ⟨b, hb⟩ : ∃ b, (decide (1 ≤ (x.bi.length : Int)) && decide ((x.bi.length : Int) ≤ 64)) = b := ⟨_, rfl⟩
  have B4 := Lib.hid hb
  rw [hb]
  clear hb
  cases b
  · have HR := Lib.hid (node_form (show formB x shs.length = false by rw [formB, hk.out]; show (okL (hasL x) [true, false, false, false, false, true, true] && (behB [true, false, false, false, false, true, true] x shs.length && toldB x)) = false; rw [B2.out, show behB [true, false, false, false, false, true, true] x shs.length = ahB x.a shs.length from by unfold behB; simp, B3.out, show toldB x = (decide (1 ≤ (x.bi.length : Int)) && decide ((x.bi.length : Int) ≤ 64)) from by unfold toldB; simp [hk.out], B4.out]; rfl))
    go_wp2
    go_ret2
    exact .inr ⟨3, HR.out, by omega, rfl, kk⟩
  have FT := Lib.hid (show formB x shs.length = true by rw [formB, hk.out]; show (okL (hasL x) [true, false, false, false, false, true, true] && (behB [true, false, false, false, false, true, true] x shs.length && toldB x)) = true; rw [B2.out, show behB [true, false, false, false, false, true, true] x shs.length = ahB x.a shs.length from by unfold behB; simp, B3.out, show toldB x = (decide (1 ≤ (x.bi.length : Int)) && decide ((x.bi.length : Int) ≤ 64)) from by unfold toldB; simp [hk.out], B4.out]; rfl)
  obtain ⟨i, hi, s, hs, hg⟩ := ahead_get (show ahB x.a shs.length = true from B3.out)
  have HI := Lib.hid hi
  have HS := Lib.hid hs
  have HG := Lib.hid hg
  clear hi hs hg
  go_wp2_with fail
  have HO := Lib.hid (show shapeO x shs = (if (x.da.length : Int) = x.bi.length * entN s then some [(x.bi.length : Int)] else none) by unfold shapeO; rw [HG.out]; simp [hk.out])
  refine (dense_any x As Ad Ab Ah cs cd cb ch shs w4 (Lib.hid (hX.out.ext kk)) i s HI HS).mono ?_
  rintro e w5 (⟨s5, A5, c5, ho, rfl, hz, hf, k⟩ | ⟨ho, rfl, k⟩)
  rotate_left
  · have HR := Lib.hid (node_none FT.out (HO.out.trans ho))
    clear ho
    replace y0 := cell_ext k y0
    replace y1 := cell_ext k y1
    replace y2 := cell_ext k y2
    replace y3 := cell_ext k y3
    replace y4 := cell_ext k y4
    replace y5 := cell_ext k y5
    replace y6 := cell_ext k y6
    replace y7 := cell_ext k y7
    replace y8 := cell_ext k y8
    replace y9 := cell_ext k y9
    replace r0 := cell_ext k r0
    replace r1 := cell_ext k r1
    replace r2 := cell_ext k r2
    replace kk := kk.trans k
    clear k
    go_wp2
    go_ret2
    exact .inr ⟨4, HR.out, by omega, rfl, kk⟩
  have HSH := Lib.hid (HO.out.trans ho)
  clear ho
  have H5 := Lib.hid (And.intro hz hf)
  have hk5 := kk.size
  clear hz hf
  replace y0 := cell_ext k y0
  replace y1 := cell_ext k y1
  replace y2 := cell_ext k y2
  replace y3 := cell_ext k y3
  replace y4 := cell_ext k y4
  replace y5 := cell_ext k y5
  replace y6 := cell_ext k y6
  replace y7 := cell_ext k y7
  replace y8 := cell_ext k y8
  replace y9 := cell_ext k y9
  replace r0 := cell_ext k r0
  replace r1 := cell_ext k r1
  replace r2 := cell_ext k r2
  replace kk := kk.trans k
  clear k
  have HL := Lib.hid ((entN_len (shape_right hX.out.ok FT.out HSH.out)).1)
  have hl : ¬ ((s5.length : Nat) : Int) = 0 := by have := HL.out; omega
  go_wp2_with fail
  refine (within_any x As Ad Ab Ah cs cd cb ch shs w5 (Lib.hid (hX.out.ext kk))).mono ?_
  rintro e w6 ⟨rfl, k⟩
  replace H5 := Lib.hid (And.intro (H5.out.1.ext k) H5.out.2)
  replace y0 := cell_ext k y0
  replace y1 := cell_ext k y1
  replace y2 := cell_ext k y2
  replace y3 := cell_ext k y3
  replace y4 := cell_ext k y4
  replace y5 := cell_ext k y5
  replace y6 := cell_ext k y6
  replace y7 := cell_ext k y7
  replace y8 := cell_ext k y8
  replace y9 := cell_ext k y9
  replace r0 := cell_ext k r0
  replace r1 := cell_ext k r1
  replace r2 := cell_ext k r2
  replace kk := kk.trans k
  clear k
  obtain ⟨b, hb⟩ : ∃ b, (nearOK x) = b := ⟨_, rfl⟩
  have B6 := Lib.hid hb
  rw [hb]
  clear hb
  cases b
  · have HR := Lib.hid (node_far FT.out HSH.out B6.out)
    go_wp2
    go_ret2
    exact .inr ⟨5, HR.out, by omega, rfl, kk⟩
  have HR := Lib.hid (node_ok FT.out HSH.out B6.out)
  go_wp2
  go_ret2
  exact .inl ⟨s5, A5, c5, HR.out, rfl, H5.out.1, fun ad e => by have := H5.out.2 ad e; omega, kk⟩
end Go.Proofs.Ytjeipbahddhfgaa
