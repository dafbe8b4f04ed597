/-
  Whether a place's numbers are within the bound.
-/
import Derived.Test.YtjeipbahddhfgaaJMr
namespace Go.Proofs.Ytjeipbahddhfgaa
open Go.RowKit
set_option linter.unusedVariables false
set_option maxRecDepth 100000

set_option maxHeartbeats 4000000 in
theorem within_any (x : Nd) (As Ad Ab Ah : Option Addr) (cs cd cb ch : Nat) (shs : List (List Int)) (w : World) (hX : Hid (Plc w x As Ad Ab Ah cs cd cb ch shs)) :
    Calls Try.prog 48 #[.agg #[.int .i64 x.k, .int .i64 x.a, .int .i64 x.b, .slice As x.sh.length cs, .int .i64 x.lo, .int .i64 x.hi, .int .i64 x.sz, .slice Ad x.da.length cd, .slice Ab x.bi.length cb, .slice Ah shs.length ch]] w fun e w' => e = .returned (.bool (nearOK x)) ∧ Ext w w' := by
  obtain ⟨y0, y1, y2, y3, y4, y5, y6, y7, y8, y9⟩ := ten_at w (.int .i64 x.k) (.int .i64 x.a) (.int .i64 x.b) (.slice As x.sh.length cs) (.int .i64 x.lo) (.int .i64 x.hi) (.int .i64 x.sz) (.slice Ad x.da.length cd) (.slice Ab x.bi.length cb) (.slice Ah shs.length ch) 65
  go_enter Try.func48, Try.ntmps48
  have L1 := hX.out.nd.lda
  have L2 := hX.out.nd.lbi
  by_cases h : x.lo ≤ x.hi
  · have H := Lib.hid h
    go_wp2_with fail
    refine (beyond_any x.lo _).mono ?_
    rintro e1 w1 ⟨rfl, rfl⟩
    obtain ⟨b, hb⟩ : ∃ b, (decide (-1048576 ≤ x.lo) && decide (x.lo ≤ 1048576)) = b := ⟨_, rfl⟩
    have B1 := Lib.hid (show near1 x.lo = b from hb)
    rw [hb]
    clear hb
    cases b
    · have HR := Lib.hid (show nearOK x = false by rw [nearOK, B1.out, Bool.false_and, Bool.and_false])
      go_wp2
      go_ret
      exact ⟨by show Ending.returned (.bool false) = _; rw [HR.out], (Ext.refl w).alloc _⟩
    · go_wp2_with fail
      refine (beyond_any x.hi _).mono ?_
      rintro e1 w1 ⟨rfl, rfl⟩
      obtain ⟨b, hb⟩ : ∃ b, (decide (-1048576 ≤ x.hi) && decide (x.hi ≤ 1048576)) = b := ⟨_, rfl⟩
      have B2 := Lib.hid (show near1 x.hi = b from hb)
      rw [hb]
      clear hb
      cases b
      · have HR := Lib.hid (show nearOK x = false by rw [nearOK, B2.out, Bool.false_and, Bool.and_false, Bool.and_false])
        go_wp2
        go_ret
        exact ⟨by show Ending.returned (.bool false) = _; rw [HR.out], (Ext.refl w).alloc _⟩
      · go_wp2_with fail
        refine (contains_any Ad x.da.length cd x.da _ (Lib.hid (hX.out.nd.da.ext ((Ext.refl w).alloc _))) L1).mono ?_
        rintro e1 w1 ⟨rfl, rfl⟩
        obtain ⟨b, hb⟩ : ∃ b, nearB x.da = b := ⟨_, rfl⟩
        have B3 := Lib.hid hb
        rw [hb]
        clear hb
        cases b
        · have HR := Lib.hid (show nearOK x = false by rw [nearOK, B3.out, Bool.false_and, Bool.and_false, Bool.and_false, Bool.and_false])
          go_wp2
          go_ret
          exact ⟨by show Ending.returned (.bool false) = _; rw [HR.out], (Ext.refl w).alloc _⟩
        · go_wp2_with fail
          refine (contains_any Ab x.bi.length cb x.bi _ (Lib.hid (hX.out.nd.bi.ext ((Ext.refl w).alloc _))) L2).mono ?_
          rintro e1 w1 ⟨rfl, rfl⟩
          obtain ⟨b, hb⟩ : ∃ b, nearB x.bi = b := ⟨_, rfl⟩
          have HR := Lib.hid (show nearOK x = b by rw [nearOK, decide_eq_true H.out, B1.out, B2.out, B3.out, hb]; cases b <;> rfl)
          rw [hb]
          clear hb
          cases b
          · go_wp2
            go_ret
            exact ⟨by show Ending.returned (.bool false) = _; rw [HR.out], (Ext.refl w).alloc _⟩
          · go_wp2
            go_ret
            exact ⟨by show Ending.returned (.bool true) = _; rw [HR.out], (Ext.refl w).alloc _⟩
  · have HR := Lib.hid (show nearOK x = false by rw [nearOK, decide_eq_false h, Bool.false_and])
    go_wp2
    go_ret
    exact ⟨by show Ending.returned (.bool false) = _; rw [HR.out], (Ext.refl w).alloc _⟩
end Go.Proofs.Ytjeipbahddhfgaa
