/-
  Where a kind's numbers come from: a function value, or none.
-/
import Derived.Test.YtjeipbahddhfgaaIWy
namespace Go.Proofs.Ytjeipbahddhfgaa
open Go.RowKit
set_option linter.unusedVariables false
set_option maxRecDepth 100000

/-- The function value by which a place of kind k tells where its numbers come from. -/
def srcV (k : Int) (P : Value) : Value :=
  if k = 2 then .func (.func 81) #[P] #[] else if k = 3 then .func (.func 82) #[P] #[] else if k = 4 then .func (.func 83) #[P] #[] else if k = 5 then .func (.func 84) #[P] #[] else if k = 6 then .func (.func 85) #[P] #[] else if k = 7 then .func (.func 86) #[P] #[] else if k = 9 then .func (.func 87) #[P] #[] else .nilFunc
set_option maxHeartbeats 1000000 in
theorem sums2_any (x : Nd) (As Ad Ab Ah At : Option Addr) (cs cd cb ch ct : Nat) (s t : List Int) (S : Value) (w : World) (hk : Hid (x.k = 2)) :
    Calls Try.prog 51 #[.agg #[.int .i64 x.k, .int .i64 x.a, .int .i64 x.b, .slice As x.sh.length cs, .int .i64 x.lo, .int .i64 x.hi, .int .i64 x.sz, .slice Ad x.da.length cd, .slice Ab x.bi.length cb, .slice Ah s.length ch, .slice At t.length ct, S]] w fun e w' => e = .returned (.func (.func 81) #[.agg #[.int .i64 x.k, .int .i64 x.a, .int .i64 x.b, .slice As x.sh.length cs, .int .i64 x.lo, .int .i64 x.hi, .int .i64 x.sz, .slice Ad x.da.length cd, .slice Ab x.bi.length cb, .slice Ah s.length ch, .slice At t.length ct, S]] #[]) ∧ Ext w w' := by
  obtain ⟨k, a, b, sh, lo, hv, sz, da, bi⟩ := x
  dsimp only at *
  obtain rfl := hk.out
  obtain ⟨y0, y1, y2, y3, y4, y5, y6, y7, y8, y9, y10, y11⟩ := twelve_at w (.int .i64 2) (.int .i64 a) (.int .i64 b) (.slice As sh.length cs) (.int .i64 lo) (.int .i64 hv) (.int .i64 sz) (.slice Ad da.length cd) (.slice Ab bi.length cb) (.slice Ah s.length ch) (.slice At t.length ct) S 77
  go_enter Try.func51, Try.ntmps51
  go_wp2
  go_ret
  exact ⟨rfl, (Ext.refl w).alloc _⟩
set_option maxHeartbeats 1000000 in
theorem sums3_any (x : Nd) (As Ad Ab Ah At : Option Addr) (cs cd cb ch ct : Nat) (s t : List Int) (S : Value) (w : World) (hk : Hid (x.k = 3)) :
    Calls Try.prog 51 #[.agg #[.int .i64 x.k, .int .i64 x.a, .int .i64 x.b, .slice As x.sh.length cs, .int .i64 x.lo, .int .i64 x.hi, .int .i64 x.sz, .slice Ad x.da.length cd, .slice Ab x.bi.length cb, .slice Ah s.length ch, .slice At t.length ct, S]] w fun e w' => e = .returned (.func (.func 82) #[.agg #[.int .i64 x.k, .int .i64 x.a, .int .i64 x.b, .slice As x.sh.length cs, .int .i64 x.lo, .int .i64 x.hi, .int .i64 x.sz, .slice Ad x.da.length cd, .slice Ab x.bi.length cb, .slice Ah s.length ch, .slice At t.length ct, S]] #[]) ∧ Ext w w' := by
  obtain ⟨k, a, b, sh, lo, hv, sz, da, bi⟩ := x
  dsimp only at *
  obtain rfl := hk.out
  obtain ⟨y0, y1, y2, y3, y4, y5, y6, y7, y8, y9, y10, y11⟩ := twelve_at w (.int .i64 3) (.int .i64 a) (.int .i64 b) (.slice As sh.length cs) (.int .i64 lo) (.int .i64 hv) (.int .i64 sz) (.slice Ad da.length cd) (.slice Ab bi.length cb) (.slice Ah s.length ch) (.slice At t.length ct) S 77
  go_enter Try.func51, Try.ntmps51
  go_wp2
  go_ret
  exact ⟨rfl, (Ext.refl w).alloc _⟩
set_option maxHeartbeats 1000000 in
theorem sums4_any (x : Nd) (As Ad Ab Ah At : Option Addr) (cs cd cb ch ct : Nat) (s t : List Int) (S : Value) (w : World) (hk : Hid (x.k = 4)) :
    Calls Try.prog 51 #[.agg #[.int .i64 x.k, .int .i64 x.a, .int .i64 x.b, .slice As x.sh.length cs, .int .i64 x.lo, .int .i64 x.hi, .int .i64 x.sz, .slice Ad x.da.length cd, .slice Ab x.bi.length cb, .slice Ah s.length ch, .slice At t.length ct, S]] w fun e w' => e = .returned (.func (.func 83) #[.agg #[.int .i64 x.k, .int .i64 x.a, .int .i64 x.b, .slice As x.sh.length cs, .int .i64 x.lo, .int .i64 x.hi, .int .i64 x.sz, .slice Ad x.da.length cd, .slice Ab x.bi.length cb, .slice Ah s.length ch, .slice At t.length ct, S]] #[]) ∧ Ext w w' := by
  obtain ⟨k, a, b, sh, lo, hv, sz, da, bi⟩ := x
  dsimp only at *
  obtain rfl := hk.out
  obtain ⟨y0, y1, y2, y3, y4, y5, y6, y7, y8, y9, y10, y11⟩ := twelve_at w (.int .i64 4) (.int .i64 a) (.int .i64 b) (.slice As sh.length cs) (.int .i64 lo) (.int .i64 hv) (.int .i64 sz) (.slice Ad da.length cd) (.slice Ab bi.length cb) (.slice Ah s.length ch) (.slice At t.length ct) S 77
  go_enter Try.func51, Try.ntmps51
  go_wp2
  go_ret
  exact ⟨rfl, (Ext.refl w).alloc _⟩
set_option maxHeartbeats 1000000 in
theorem sums5_any (x : Nd) (As Ad Ab Ah At : Option Addr) (cs cd cb ch ct : Nat) (s t : List Int) (S : Value) (w : World) (hk : Hid (x.k = 5)) :
    Calls Try.prog 51 #[.agg #[.int .i64 x.k, .int .i64 x.a, .int .i64 x.b, .slice As x.sh.length cs, .int .i64 x.lo, .int .i64 x.hi, .int .i64 x.sz, .slice Ad x.da.length cd, .slice Ab x.bi.length cb, .slice Ah s.length ch, .slice At t.length ct, S]] w fun e w' => e = .returned (.func (.func 84) #[.agg #[.int .i64 x.k, .int .i64 x.a, .int .i64 x.b, .slice As x.sh.length cs, .int .i64 x.lo, .int .i64 x.hi, .int .i64 x.sz, .slice Ad x.da.length cd, .slice Ab x.bi.length cb, .slice Ah s.length ch, .slice At t.length ct, S]] #[]) ∧ Ext w w' := by
  obtain ⟨k, a, b, sh, lo, hv, sz, da, bi⟩ := x
  dsimp only at *
  obtain rfl := hk.out
  obtain ⟨y0, y1, y2, y3, y4, y5, y6, y7, y8, y9, y10, y11⟩ := twelve_at w (.int .i64 5) (.int .i64 a) (.int .i64 b) (.slice As sh.length cs) (.int .i64 lo) (.int .i64 hv) (.int .i64 sz) (.slice Ad da.length cd) (.slice Ab bi.length cb) (.slice Ah s.length ch) (.slice At t.length ct) S 77
  go_enter Try.func51, Try.ntmps51
  go_wp2
  go_ret
  exact ⟨rfl, (Ext.refl w).alloc _⟩
set_option maxHeartbeats 1000000 in
theorem sums6_any (x : Nd) (As Ad Ab Ah At : Option Addr) (cs cd cb ch ct : Nat) (s t : List Int) (S : Value) (w : World) (hk : Hid (x.k = 6)) :
    Calls Try.prog 51 #[.agg #[.int .i64 x.k, .int .i64 x.a, .int .i64 x.b, .slice As x.sh.length cs, .int .i64 x.lo, .int .i64 x.hi, .int .i64 x.sz, .slice Ad x.da.length cd, .slice Ab x.bi.length cb, .slice Ah s.length ch, .slice At t.length ct, S]] w fun e w' => e = .returned (.func (.func 85) #[.agg #[.int .i64 x.k, .int .i64 x.a, .int .i64 x.b, .slice As x.sh.length cs, .int .i64 x.lo, .int .i64 x.hi, .int .i64 x.sz, .slice Ad x.da.length cd, .slice Ab x.bi.length cb, .slice Ah s.length ch, .slice At t.length ct, S]] #[]) ∧ Ext w w' := by
  obtain ⟨k, a, b, sh, lo, hv, sz, da, bi⟩ := x
  dsimp only at *
  obtain rfl := hk.out
  obtain ⟨y0, y1, y2, y3, y4, y5, y6, y7, y8, y9, y10, y11⟩ := twelve_at w (.int .i64 6) (.int .i64 a) (.int .i64 b) (.slice As sh.length cs) (.int .i64 lo) (.int .i64 hv) (.int .i64 sz) (.slice Ad da.length cd) (.slice Ab bi.length cb) (.slice Ah s.length ch) (.slice At t.length ct) S 77
  go_enter Try.func51, Try.ntmps51
  go_wp2
  go_ret
  exact ⟨rfl, (Ext.refl w).alloc _⟩
set_option maxHeartbeats 1000000 in
theorem sums7_any (x : Nd) (As Ad Ab Ah At : Option Addr) (cs cd cb ch ct : Nat) (s t : List Int) (S : Value) (w : World) (hk : Hid (x.k = 7)) :
    Calls Try.prog 51 #[.agg #[.int .i64 x.k, .int .i64 x.a, .int .i64 x.b, .slice As x.sh.length cs, .int .i64 x.lo, .int .i64 x.hi, .int .i64 x.sz, .slice Ad x.da.length cd, .slice Ab x.bi.length cb, .slice Ah s.length ch, .slice At t.length ct, S]] w fun e w' => e = .returned (.func (.func 86) #[.agg #[.int .i64 x.k, .int .i64 x.a, .int .i64 x.b, .slice As x.sh.length cs, .int .i64 x.lo, .int .i64 x.hi, .int .i64 x.sz, .slice Ad x.da.length cd, .slice Ab x.bi.length cb, .slice Ah s.length ch, .slice At t.length ct, S]] #[]) ∧ Ext w w' := by
  obtain ⟨k, a, b, sh, lo, hv, sz, da, bi⟩ := x
  dsimp only at *
  obtain rfl := hk.out
  obtain ⟨y0, y1, y2, y3, y4, y5, y6, y7, y8, y9, y10, y11⟩ := twelve_at w (.int .i64 7) (.int .i64 a) (.int .i64 b) (.slice As sh.length cs) (.int .i64 lo) (.int .i64 hv) (.int .i64 sz) (.slice Ad da.length cd) (.slice Ab bi.length cb) (.slice Ah s.length ch) (.slice At t.length ct) S 77
  go_enter Try.func51, Try.ntmps51
  go_wp2
  go_ret
  exact ⟨rfl, (Ext.refl w).alloc _⟩
set_option maxHeartbeats 1000000 in
theorem sums9_any (x : Nd) (As Ad Ab Ah At : Option Addr) (cs cd cb ch ct : Nat) (s t : List Int) (S : Value) (w : World) (hk : Hid (x.k = 9)) :
    Calls Try.prog 51 #[.agg #[.int .i64 x.k, .int .i64 x.a, .int .i64 x.b, .slice As x.sh.length cs, .int .i64 x.lo, .int .i64 x.hi, .int .i64 x.sz, .slice Ad x.da.length cd, .slice Ab x.bi.length cb, .slice Ah s.length ch, .slice At t.length ct, S]] w fun e w' => e = .returned (.func (.func 87) #[.agg #[.int .i64 x.k, .int .i64 x.a, .int .i64 x.b, .slice As x.sh.length cs, .int .i64 x.lo, .int .i64 x.hi, .int .i64 x.sz, .slice Ad x.da.length cd, .slice Ab x.bi.length cb, .slice Ah s.length ch, .slice At t.length ct, S]] #[]) ∧ Ext w w' := by
  obtain ⟨k, a, b, sh, lo, hv, sz, da, bi⟩ := x
  dsimp only at *
  obtain rfl := hk.out
  obtain ⟨y0, y1, y2, y3, y4, y5, y6, y7, y8, y9, y10, y11⟩ := twelve_at w (.int .i64 9) (.int .i64 a) (.int .i64 b) (.slice As sh.length cs) (.int .i64 lo) (.int .i64 hv) (.int .i64 sz) (.slice Ad da.length cd) (.slice Ab bi.length cb) (.slice Ah s.length ch) (.slice At t.length ct) S 77
  go_enter Try.func51, Try.ntmps51
  go_wp2
  go_ret
  exact ⟨rfl, (Ext.refl w).alloc _⟩
set_option maxHeartbeats 1000000 in
theorem sums0_any (x : Nd) (As Ad Ab Ah At : Option Addr) (cs cd cb ch ct : Nat) (s t : List Int) (S : Value) (w : World) (hk : Hid (x.k ≠ 2 ∧ x.k ≠ 3 ∧ x.k ≠ 4 ∧ x.k ≠ 5 ∧ x.k ≠ 6 ∧ x.k ≠ 7 ∧ x.k ≠ 9)) :
    Calls Try.prog 51 #[.agg #[.int .i64 x.k, .int .i64 x.a, .int .i64 x.b, .slice As x.sh.length cs, .int .i64 x.lo, .int .i64 x.hi, .int .i64 x.sz, .slice Ad x.da.length cd, .slice Ab x.bi.length cb, .slice Ah s.length ch, .slice At t.length ct, S]] w fun e w' => e = .returned .nilFunc ∧ Ext w w' := by
  obtain ⟨n2, n3, n4, n5, n6, n7, n9⟩ := hk.out
  obtain ⟨y0, y1, y2, y3, y4, y5, y6, y7, y8, y9, y10, y11⟩ := twelve_at w (.int .i64 x.k) (.int .i64 x.a) (.int .i64 x.b) (.slice As x.sh.length cs) (.int .i64 x.lo) (.int .i64 x.hi) (.int .i64 x.sz) (.slice Ad x.da.length cd) (.slice Ab x.bi.length cb) (.slice Ah s.length ch) (.slice At t.length ct) S 77
  go_enter Try.func51, Try.ntmps51
  go_wp2
  go_ret
  exact ⟨rfl, (Ext.refl w).alloc _⟩
theorem sums_any (x : Nd) (As Ad Ab Ah At : Option Addr) (cs cd cb ch ct : Nat) (s t : List Int) (S : Value) (w : World) :
    Calls Try.prog 51 #[.agg #[.int .i64 x.k, .int .i64 x.a, .int .i64 x.b, .slice As x.sh.length cs, .int .i64 x.lo, .int .i64 x.hi, .int .i64 x.sz, .slice Ad x.da.length cd, .slice Ab x.bi.length cb, .slice Ah s.length ch, .slice At t.length ct, S]] w fun e w' => e = .returned (srcV x.k (.agg #[.int .i64 x.k, .int .i64 x.a, .int .i64 x.b, .slice As x.sh.length cs, .int .i64 x.lo, .int .i64 x.hi, .int .i64 x.sz, .slice Ad x.da.length cd, .slice Ab x.bi.length cb, .slice Ah s.length ch, .slice At t.length ct, S])) ∧ Ext w w' := by
  by_cases h2 : x.k = 2
  · refine (sums2_any x As Ad Ab Ah At cs cd cb ch ct s t S w (Lib.hid h2)).mono ?_
    rintro e w1 ⟨rfl, k1⟩
    exact ⟨by unfold srcV; rw [if_pos h2], k1⟩
  by_cases h3 : x.k = 3
  · refine (sums3_any x As Ad Ab Ah At cs cd cb ch ct s t S w (Lib.hid h3)).mono ?_
    rintro e w1 ⟨rfl, k1⟩
    exact ⟨by unfold srcV; rw [if_neg h2, if_pos h3], k1⟩
  by_cases h4 : x.k = 4
  · refine (sums4_any x As Ad Ab Ah At cs cd cb ch ct s t S w (Lib.hid h4)).mono ?_
    rintro e w1 ⟨rfl, k1⟩
    exact ⟨by unfold srcV; rw [if_neg h2, if_neg h3, if_pos h4], k1⟩
  by_cases h5 : x.k = 5
  · refine (sums5_any x As Ad Ab Ah At cs cd cb ch ct s t S w (Lib.hid h5)).mono ?_
    rintro e w1 ⟨rfl, k1⟩
    exact ⟨by unfold srcV; rw [if_neg h2, if_neg h3, if_neg h4, if_pos h5], k1⟩
  by_cases h6 : x.k = 6
  · refine (sums6_any x As Ad Ab Ah At cs cd cb ch ct s t S w (Lib.hid h6)).mono ?_
    rintro e w1 ⟨rfl, k1⟩
    exact ⟨by unfold srcV; rw [if_neg h2, if_neg h3, if_neg h4, if_neg h5, if_pos h6], k1⟩
  by_cases h7 : x.k = 7
  · refine (sums7_any x As Ad Ab Ah At cs cd cb ch ct s t S w (Lib.hid h7)).mono ?_
    rintro e w1 ⟨rfl, k1⟩
    exact ⟨by unfold srcV; rw [if_neg h2, if_neg h3, if_neg h4, if_neg h5, if_neg h6, if_pos h7], k1⟩
  by_cases h9 : x.k = 9
  · refine (sums9_any x As Ad Ab Ah At cs cd cb ch ct s t S w (Lib.hid h9)).mono ?_
    rintro e w1 ⟨rfl, k1⟩
    exact ⟨by unfold srcV; rw [if_neg h2, if_neg h3, if_neg h4, if_neg h5, if_neg h6, if_neg h7, if_pos h9], k1⟩
  refine (sums0_any x As Ad Ab Ah At cs cd cb ch ct s t S w (Lib.hid ⟨h2, h3, h4, h5, h6, h7, h9⟩)).mono ?_
  rintro e w1 ⟨rfl, k1⟩
  exact ⟨by unfold srcV; rw [if_neg h2, if_neg h3, if_neg h4, if_neg h5, if_neg h6, if_neg h7, if_neg h9], k1⟩
end Go.Proofs.Ytjeipbahddhfgaa
