/-
  What a place has no more, what it stands behind, and whether its numbers are within.
-/
import Derived.Test.YtdnjjpkajiehgaaZ9
namespace Go.Proofs.Ytdnjjpkajiehgaa
open Go.RowKit
set_option linter.unusedVariables false
set_option maxRecDepth 100000

set_option maxHeartbeats 4000000 in
theorem noMore12 (x : Nd) (As Ad Ab Ah : Option Addr) (cs cd cb ch : Nat) (shs : List (List Int)) (w : World) (hX : Hid (Plc w x As Ad Ab Ah cs cd cb ch shs)) :
    Calls Try.prog 68 #[.agg #[.int .i64 x.k, .int .i64 x.a, .int .i64 x.b, .slice As x.sh.length cs, .int .i64 x.lo, .int .i64 x.hi, .int .i64 x.sz, .slice Ad x.da.length cd, .slice Ab x.bi.length cb, .slice Ah shs.length ch], .int .i64 12] w fun e w' => e = .returned (.bool (okL (hasL x) [false, false, true, true, false, false, false])) ∧ Ext w w' := by
  obtain ⟨y0, y1, y2, y3, y4, y5, y6, y7, y8, y9⟩ := ten_at w (.int .i64 x.k) (.int .i64 x.a) (.int .i64 x.b) (.slice As x.sh.length cs) (.int .i64 x.lo) (.int .i64 x.hi) (.int .i64 x.sz) (.slice Ad x.da.length cd) (.slice Ab x.bi.length cb) (.slice Ah shs.length ch) 71
  have L0 := hX.out.nd.lsh
  have L1 := hX.out.nd.lda
  have L2 := hX.out.nd.lbi
  have L3 := hX.out.lah
  by_cases ha : x.a = 0
  case neg =>
    have HR := Lib.hid (show okL (hasL x) [false, false, true, true, false, false, false] = false by simp [okL, hasL, ha])
    try clear hsh
    try clear hda
    try clear hbi
    go_enter Try.func68, Try.ntmps68
    go_wp2
    go_ret
    exact ⟨by show Ending.returned (.bool false) = _; rw [HR.out], (by repeat (first | exact Ext.refl _ | refine Ext.alloc ?_ _))⟩
  by_cases hb : x.b = 0
  case neg =>
    have HR := Lib.hid (show okL (hasL x) [false, false, true, true, false, false, false] = false by simp [okL, hasL, ha, hb])
    try clear hsh
    try clear hda
    try clear hbi
    go_enter Try.func68, Try.ntmps68
    go_wp2
    go_ret
    exact ⟨by show Ending.returned (.bool false) = _; rw [HR.out], (by repeat (first | exact Ext.refl _ | refine Ext.alloc ?_ _))⟩
  by_cases hsz : x.sz = 0
  case neg =>
    have HR := Lib.hid (show okL (hasL x) [false, false, true, true, false, false, false] = false by simp [okL, hasL, ha, hb, hsz])
    try clear hsh
    try clear hda
    try clear hbi
    go_enter Try.func68, Try.ntmps68
    go_wp2
    go_ret
    exact ⟨by show Ending.returned (.bool false) = _; rw [HR.out], (by repeat (first | exact Ext.refl _ | refine Ext.alloc ?_ _))⟩
  by_cases hda : x.da.length = 0
  case neg =>
    have ida : (0 : Int) < (x.da.length : Int) := by omega
    have HR := Lib.hid (show okL (hasL x) [false, false, true, true, false, false, false] = false by simp [okL, hasL, ha, hb, hsz, Nat.pos_of_ne_zero hda])
    try clear hsh
    try clear hda
    try clear hbi
    go_enter Try.func68, Try.ntmps68
    go_wp2
    go_ret
    exact ⟨by show Ending.returned (.bool false) = _; rw [HR.out], (by repeat (first | exact Ext.refl _ | refine Ext.alloc ?_ _))⟩
  have ida : ¬ (0 : Int) < (x.da.length : Int) := by omega
  by_cases hbi : x.bi.length = 0
  case neg =>
    have ibi : (0 : Int) < (x.bi.length : Int) := by omega
    have HR := Lib.hid (show okL (hasL x) [false, false, true, true, false, false, false] = false by simp [okL, hasL, ha, hb, hsz, hda, Nat.pos_of_ne_zero hbi])
    try clear hsh
    try clear hda
    try clear hbi
    go_enter Try.func68, Try.ntmps68
    go_wp2
    go_ret
    exact ⟨by show Ending.returned (.bool false) = _; rw [HR.out], (by repeat (first | exact Ext.refl _ | refine Ext.alloc ?_ _))⟩
  have ibi : ¬ (0 : Int) < (x.bi.length : Int) := by omega
  have HR := Lib.hid (show okL (hasL x) [false, false, true, true, false, false, false] = true by simp [okL, hasL, ha, hb, hsz, hda, hbi])
  try clear hsh
  try clear hda
  try clear hbi
  go_enter Try.func68, Try.ntmps68
  go_wp2
  go_ret
  exact ⟨by show Ending.returned (.bool true) = _; rw [HR.out], (by repeat (first | exact Ext.refl _ | refine Ext.alloc ?_ _))⟩
set_option maxHeartbeats 4000000 in
theorem behind12 (x : Nd) (As Ad Ab Ah : Option Addr) (cs cd cb ch : Nat) (shs : List (List Int)) (w : World) (hX : Hid (Plc w x As Ad Ab Ah cs cd cb ch shs)) :
    Calls Try.prog 69 #[.agg #[.int .i64 x.k, .int .i64 x.a, .int .i64 x.b, .slice As x.sh.length cs, .int .i64 x.lo, .int .i64 x.hi, .int .i64 x.sz, .slice Ad x.da.length cd, .slice Ab x.bi.length cb, .slice Ah shs.length ch], .int .i64 12] w fun e w' => e = .returned (.bool true) ∧ Ext w w' := by
  obtain ⟨y0, y1, y2, y3, y4, y5, y6, y7, y8, y9⟩ := ten_at w (.int .i64 x.k) (.int .i64 x.a) (.int .i64 x.b) (.slice As x.sh.length cs) (.int .i64 x.lo) (.int .i64 x.hi) (.int .i64 x.sz) (.slice Ad x.da.length cd) (.slice Ab x.bi.length cb) (.slice Ah shs.length ch) 71
  have L0 := hX.out.nd.lsh
  have L1 := hX.out.nd.lda
  have L2 := hX.out.nd.lbi
  have L3 := hX.out.lah
  go_enter Try.func69, Try.ntmps69
  go_wp2
  go_ret
  exact ⟨rfl, (by repeat (first | exact Ext.refl _ | refine Ext.alloc ?_ _))⟩
set_option maxHeartbeats 4000000 in
theorem noMore36 (x : Nd) (As Ad Ab Ah : Option Addr) (cs cd cb ch : Nat) (shs : List (List Int)) (w : World) (hX : Hid (Plc w x As Ad Ab Ah cs cd cb ch shs)) :
    Calls Try.prog 68 #[.agg #[.int .i64 x.k, .int .i64 x.a, .int .i64 x.b, .slice As x.sh.length cs, .int .i64 x.lo, .int .i64 x.hi, .int .i64 x.sz, .slice Ad x.da.length cd, .slice Ab x.bi.length cb, .slice Ah shs.length ch], .int .i64 36] w fun e w' => e = .returned (.bool (okL (hasL x) [false, false, true, false, false, true, false])) ∧ Ext w w' := by
  obtain ⟨y0, y1, y2, y3, y4, y5, y6, y7, y8, y9⟩ := ten_at w (.int .i64 x.k) (.int .i64 x.a) (.int .i64 x.b) (.slice As x.sh.length cs) (.int .i64 x.lo) (.int .i64 x.hi) (.int .i64 x.sz) (.slice Ad x.da.length cd) (.slice Ab x.bi.length cb) (.slice Ah shs.length ch) 71
  have L0 := hX.out.nd.lsh
  have L1 := hX.out.nd.lda
  have L2 := hX.out.nd.lbi
  have L3 := hX.out.lah
  by_cases ha : x.a = 0
  case neg =>
    have HR := Lib.hid (show okL (hasL x) [false, false, true, false, false, true, false] = false by simp [okL, hasL, ha])
    try clear hsh
    try clear hda
    try clear hbi
    go_enter Try.func68, Try.ntmps68
    go_wp2
    go_ret
    exact ⟨by show Ending.returned (.bool false) = _; rw [HR.out], (by repeat (first | exact Ext.refl _ | refine Ext.alloc ?_ _))⟩
  by_cases hb : x.b = 0
  case neg =>
    have HR := Lib.hid (show okL (hasL x) [false, false, true, false, false, true, false] = false by simp [okL, hasL, ha, hb])
    try clear hsh
    try clear hda
    try clear hbi
    go_enter Try.func68, Try.ntmps68
    go_wp2
    go_ret
    exact ⟨by show Ending.returned (.bool false) = _; rw [HR.out], (by repeat (first | exact Ext.refl _ | refine Ext.alloc ?_ _))⟩
  by_cases hlo : x.lo = 0
  case neg =>
    have HR := Lib.hid (show okL (hasL x) [false, false, true, false, false, true, false] = false by simp [okL, hasL, ha, hb, hlo])
    try clear hsh
    try clear hda
    try clear hbi
    go_enter Try.func68, Try.ntmps68
    go_wp2
    go_ret
    exact ⟨by show Ending.returned (.bool false) = _; rw [HR.out], (by repeat (first | exact Ext.refl _ | refine Ext.alloc ?_ _))⟩
  by_cases hhi : x.hi = 0
  case neg =>
    have HR := Lib.hid (show okL (hasL x) [false, false, true, false, false, true, false] = false by simp [okL, hasL, ha, hb, hlo, hhi])
    try clear hsh
    try clear hda
    try clear hbi
    go_enter Try.func68, Try.ntmps68
    go_wp2
    go_ret
    exact ⟨by show Ending.returned (.bool false) = _; rw [HR.out], (by repeat (first | exact Ext.refl _ | refine Ext.alloc ?_ _))⟩
  by_cases hsz : x.sz = 0
  case neg =>
    have HR := Lib.hid (show okL (hasL x) [false, false, true, false, false, true, false] = false by simp [okL, hasL, ha, hb, hlo, hhi, hsz])
    try clear hsh
    try clear hda
    try clear hbi
    go_enter Try.func68, Try.ntmps68
    go_wp2
    go_ret
    exact ⟨by show Ending.returned (.bool false) = _; rw [HR.out], (by repeat (first | exact Ext.refl _ | refine Ext.alloc ?_ _))⟩
  by_cases hbi : x.bi.length = 0
  case neg =>
    have ibi : (0 : Int) < (x.bi.length : Int) := by omega
    have HR := Lib.hid (show okL (hasL x) [false, false, true, false, false, true, false] = false by simp [okL, hasL, ha, hb, hlo, hhi, hsz, Nat.pos_of_ne_zero hbi])
    try clear hsh
    try clear hda
    try clear hbi
    go_enter Try.func68, Try.ntmps68
    go_wp2
    go_ret
    exact ⟨by show Ending.returned (.bool false) = _; rw [HR.out], (by repeat (first | exact Ext.refl _ | refine Ext.alloc ?_ _))⟩
  have ibi : ¬ (0 : Int) < (x.bi.length : Int) := by omega
  have HR := Lib.hid (show okL (hasL x) [false, false, true, false, false, true, false] = true by simp [okL, hasL, ha, hb, hlo, hhi, hsz, hbi])
  try clear hsh
  try clear hda
  try clear hbi
  go_enter Try.func68, Try.ntmps68
  go_wp2
  go_ret
  exact ⟨by show Ending.returned (.bool true) = _; rw [HR.out], (by repeat (first | exact Ext.refl _ | refine Ext.alloc ?_ _))⟩
set_option maxHeartbeats 4000000 in
theorem behind36 (x : Nd) (As Ad Ab Ah : Option Addr) (cs cd cb ch : Nat) (shs : List (List Int)) (w : World) (hX : Hid (Plc w x As Ad Ab Ah cs cd cb ch shs)) :
    Calls Try.prog 69 #[.agg #[.int .i64 x.k, .int .i64 x.a, .int .i64 x.b, .slice As x.sh.length cs, .int .i64 x.lo, .int .i64 x.hi, .int .i64 x.sz, .slice Ad x.da.length cd, .slice Ab x.bi.length cb, .slice Ah shs.length ch], .int .i64 36] w fun e w' => e = .returned (.bool true) ∧ Ext w w' := by
  obtain ⟨y0, y1, y2, y3, y4, y5, y6, y7, y8, y9⟩ := ten_at w (.int .i64 x.k) (.int .i64 x.a) (.int .i64 x.b) (.slice As x.sh.length cs) (.int .i64 x.lo) (.int .i64 x.hi) (.int .i64 x.sz) (.slice Ad x.da.length cd) (.slice Ab x.bi.length cb) (.slice Ah shs.length ch) 71
  have L0 := hX.out.nd.lsh
  have L1 := hX.out.nd.lda
  have L2 := hX.out.nd.lbi
  have L3 := hX.out.lah
  go_enter Try.func69, Try.ntmps69
  go_wp2
  go_ret
  exact ⟨rfl, (by repeat (first | exact Ext.refl _ | refine Ext.alloc ?_ _))⟩
end Go.Proofs.Ytdnjjpkajiehgaa

/-
  What a place has no more, what it stands behind, and whether its numbers are within.
-/
namespace Go.Proofs.Ytdnjjpkajiehgaa
open Go.RowKit
set_option linter.unusedVariables false
set_option maxRecDepth 100000

set_option maxHeartbeats 4000000 in
theorem noMore97 (x : Nd) (As Ad Ab Ah : Option Addr) (cs cd cb ch : Nat) (shs : List (List Int)) (w : World) (hX : Hid (Plc w x As Ad Ab Ah cs cd cb ch shs)) :
    Calls Try.prog 68 #[.agg #[.int .i64 x.k, .int .i64 x.a, .int .i64 x.b, .slice As x.sh.length cs, .int .i64 x.lo, .int .i64 x.hi, .int .i64 x.sz, .slice Ad x.da.length cd, .slice Ab x.bi.length cb, .slice Ah shs.length ch], .int .i64 97] w fun e w' => e = .returned (.bool (okL (hasL x) [true, false, false, false, false, true, true])) ∧ Ext w w' := by
  obtain ⟨y0, y1, y2, y3, y4, y5, y6, y7, y8, y9⟩ := ten_at w (.int .i64 x.k) (.int .i64 x.a) (.int .i64 x.b) (.slice As x.sh.length cs) (.int .i64 x.lo) (.int .i64 x.hi) (.int .i64 x.sz) (.slice Ad x.da.length cd) (.slice Ab x.bi.length cb) (.slice Ah shs.length ch) 71
  have L0 := hX.out.nd.lsh
  have L1 := hX.out.nd.lda
  have L2 := hX.out.nd.lbi
  have L3 := hX.out.lah
  by_cases hb : x.b = 0
  case neg =>
    have HR := Lib.hid (show okL (hasL x) [true, false, false, false, false, true, true] = false by simp [okL, hasL, hb])
    try clear hsh
    try clear hda
    try clear hbi
    go_enter Try.func68, Try.ntmps68
    go_wp2
    go_ret
    exact ⟨by show Ending.returned (.bool false) = _; rw [HR.out], (by repeat (first | exact Ext.refl _ | refine Ext.alloc ?_ _))⟩
  by_cases hsh : x.sh.length = 0
  case neg =>
    have ish : (0 : Int) < (x.sh.length : Int) := by omega
    have HR := Lib.hid (show okL (hasL x) [true, false, false, false, false, true, true] = false by simp [okL, hasL, hb, Nat.pos_of_ne_zero hsh])
    try clear hsh
    try clear hda
    try clear hbi
    go_enter Try.func68, Try.ntmps68
    go_wp2
    go_ret
    exact ⟨by show Ending.returned (.bool false) = _; rw [HR.out], (by repeat (first | exact Ext.refl _ | refine Ext.alloc ?_ _))⟩
  have ish : ¬ (0 : Int) < (x.sh.length : Int) := by omega
  by_cases hlo : x.lo = 0
  case neg =>
    have HR := Lib.hid (show okL (hasL x) [true, false, false, false, false, true, true] = false by simp [okL, hasL, hb, hsh, hlo])
    try clear hsh
    try clear hda
    try clear hbi
    go_enter Try.func68, Try.ntmps68
    go_wp2
    go_ret
    exact ⟨by show Ending.returned (.bool false) = _; rw [HR.out], (by repeat (first | exact Ext.refl _ | refine Ext.alloc ?_ _))⟩
  by_cases hhi : x.hi = 0
  case neg =>
    have HR := Lib.hid (show okL (hasL x) [true, false, false, false, false, true, true] = false by simp [okL, hasL, hb, hsh, hlo, hhi])
    try clear hsh
    try clear hda
    try clear hbi
    go_enter Try.func68, Try.ntmps68
    go_wp2
    go_ret
    exact ⟨by show Ending.returned (.bool false) = _; rw [HR.out], (by repeat (first | exact Ext.refl _ | refine Ext.alloc ?_ _))⟩
  by_cases hsz : x.sz = 0
  case neg =>
    have HR := Lib.hid (show okL (hasL x) [true, false, false, false, false, true, true] = false by simp [okL, hasL, hb, hsh, hlo, hhi, hsz])
    try clear hsh
    try clear hda
    try clear hbi
    go_enter Try.func68, Try.ntmps68
    go_wp2
    go_ret
    exact ⟨by show Ending.returned (.bool false) = _; rw [HR.out], (by repeat (first | exact Ext.refl _ | refine Ext.alloc ?_ _))⟩
  have HR := Lib.hid (show okL (hasL x) [true, false, false, false, false, true, true] = true by simp [okL, hasL, hb, hsh, hlo, hhi, hsz])
  try clear hsh
  try clear hda
  try clear hbi
  go_enter Try.func68, Try.ntmps68
  go_wp2
  go_ret
  exact ⟨by show Ending.returned (.bool true) = _; rw [HR.out], (by repeat (first | exact Ext.refl _ | refine Ext.alloc ?_ _))⟩
set_option maxHeartbeats 4000000 in
theorem behind97 (x : Nd) (As Ad Ab Ah : Option Addr) (cs cd cb ch : Nat) (shs : List (List Int)) (w : World) (hX : Hid (Plc w x As Ad Ab Ah cs cd cb ch shs)) :
    Calls Try.prog 69 #[.agg #[.int .i64 x.k, .int .i64 x.a, .int .i64 x.b, .slice As x.sh.length cs, .int .i64 x.lo, .int .i64 x.hi, .int .i64 x.sz, .slice Ad x.da.length cd, .slice Ab x.bi.length cb, .slice Ah shs.length ch], .int .i64 97] w fun e w' => e = .returned (.bool (ahB x.a shs.length)) ∧ Ext w w' := by
  obtain ⟨y0, y1, y2, y3, y4, y5, y6, y7, y8, y9⟩ := ten_at w (.int .i64 x.k) (.int .i64 x.a) (.int .i64 x.b) (.slice As x.sh.length cs) (.int .i64 x.lo) (.int .i64 x.hi) (.int .i64 x.sz) (.slice Ad x.da.length cd) (.slice Ab x.bi.length cb) (.slice Ah shs.length ch) 71
  have L0 := hX.out.nd.lsh
  have L1 := hX.out.nd.lda
  have L2 := hX.out.nd.lbi
  have L3 := hX.out.lah
  by_cases pa : 0 ≤ x.a
  case neg =>
    have HR := Lib.hid (show (ahB x.a shs.length) = false by simp [ahB, pa])
    go_enter Try.func69, Try.ntmps69
    go_wp2
    go_ret
    exact ⟨by show Ending.returned (.bool false) = _; rw [HR.out], (by repeat (first | exact Ext.refl _ | refine Ext.alloc ?_ _))⟩
  by_cases qa : x.a < (shs.length : Int)
  case neg =>
    have HR := Lib.hid (show (ahB x.a shs.length) = false by simp [ahB, pa, qa])
    go_enter Try.func69, Try.ntmps69
    go_wp2
    go_ret
    exact ⟨by show Ending.returned (.bool false) = _; rw [HR.out], (by repeat (first | exact Ext.refl _ | refine Ext.alloc ?_ _))⟩
  have HR := Lib.hid (show (ahB x.a shs.length) = true by simp [ahB, pa, qa])
  go_enter Try.func69, Try.ntmps69
  go_wp2
  go_ret
  exact ⟨by show Ending.returned (.bool true) = _; rw [HR.out], (by repeat (first | exact Ext.refl _ | refine Ext.alloc ?_ _))⟩
set_option maxHeartbeats 4000000 in
theorem noMore17 (x : Nd) (As Ad Ab Ah : Option Addr) (cs cd cb ch : Nat) (shs : List (List Int)) (w : World) (hX : Hid (Plc w x As Ad Ab Ah cs cd cb ch shs)) :
    Calls Try.prog 68 #[.agg #[.int .i64 x.k, .int .i64 x.a, .int .i64 x.b, .slice As x.sh.length cs, .int .i64 x.lo, .int .i64 x.hi, .int .i64 x.sz, .slice Ad x.da.length cd, .slice Ab x.bi.length cb, .slice Ah shs.length ch], .int .i64 17] w fun e w' => e = .returned (.bool (okL (hasL x) [true, false, false, false, true, false, false])) ∧ Ext w w' := by
  obtain ⟨y0, y1, y2, y3, y4, y5, y6, y7, y8, y9⟩ := ten_at w (.int .i64 x.k) (.int .i64 x.a) (.int .i64 x.b) (.slice As x.sh.length cs) (.int .i64 x.lo) (.int .i64 x.hi) (.int .i64 x.sz) (.slice Ad x.da.length cd) (.slice Ab x.bi.length cb) (.slice Ah shs.length ch) 71
  have L0 := hX.out.nd.lsh
  have L1 := hX.out.nd.lda
  have L2 := hX.out.nd.lbi
  have L3 := hX.out.lah
  by_cases hb : x.b = 0
  case neg =>
    have HR := Lib.hid (show okL (hasL x) [true, false, false, false, true, false, false] = false by simp [okL, hasL, hb])
    try clear hsh
    try clear hda
    try clear hbi
    go_enter Try.func68, Try.ntmps68
    go_wp2
    go_ret
    exact ⟨by show Ending.returned (.bool false) = _; rw [HR.out], (by repeat (first | exact Ext.refl _ | refine Ext.alloc ?_ _))⟩
  by_cases hsh : x.sh.length = 0
  case neg =>
    have ish : (0 : Int) < (x.sh.length : Int) := by omega
    have HR := Lib.hid (show okL (hasL x) [true, false, false, false, true, false, false] = false by simp [okL, hasL, hb, Nat.pos_of_ne_zero hsh])
    try clear hsh
    try clear hda
    try clear hbi
    go_enter Try.func68, Try.ntmps68
    go_wp2
    go_ret
    exact ⟨by show Ending.returned (.bool false) = _; rw [HR.out], (by repeat (first | exact Ext.refl _ | refine Ext.alloc ?_ _))⟩
  have ish : ¬ (0 : Int) < (x.sh.length : Int) := by omega
  by_cases hlo : x.lo = 0
  case neg =>
    have HR := Lib.hid (show okL (hasL x) [true, false, false, false, true, false, false] = false by simp [okL, hasL, hb, hsh, hlo])
    try clear hsh
    try clear hda
    try clear hbi
    go_enter Try.func68, Try.ntmps68
    go_wp2
    go_ret
    exact ⟨by show Ending.returned (.bool false) = _; rw [HR.out], (by repeat (first | exact Ext.refl _ | refine Ext.alloc ?_ _))⟩
  by_cases hhi : x.hi = 0
  case neg =>
    have HR := Lib.hid (show okL (hasL x) [true, false, false, false, true, false, false] = false by simp [okL, hasL, hb, hsh, hlo, hhi])
    try clear hsh
    try clear hda
    try clear hbi
    go_enter Try.func68, Try.ntmps68
    go_wp2
    go_ret
    exact ⟨by show Ending.returned (.bool false) = _; rw [HR.out], (by repeat (first | exact Ext.refl _ | refine Ext.alloc ?_ _))⟩
  by_cases hda : x.da.length = 0
  case neg =>
    have ida : (0 : Int) < (x.da.length : Int) := by omega
    have HR := Lib.hid (show okL (hasL x) [true, false, false, false, true, false, false] = false by simp [okL, hasL, hb, hsh, hlo, hhi, Nat.pos_of_ne_zero hda])
    try clear hsh
    try clear hda
    try clear hbi
    go_enter Try.func68, Try.ntmps68
    go_wp2
    go_ret
    exact ⟨by show Ending.returned (.bool false) = _; rw [HR.out], (by repeat (first | exact Ext.refl _ | refine Ext.alloc ?_ _))⟩
  have ida : ¬ (0 : Int) < (x.da.length : Int) := by omega
  by_cases hbi : x.bi.length = 0
  case neg =>
    have ibi : (0 : Int) < (x.bi.length : Int) := by omega
    have HR := Lib.hid (show okL (hasL x) [true, false, false, false, true, false, false] = false by simp [okL, hasL, hb, hsh, hlo, hhi, hda, Nat.pos_of_ne_zero hbi])
    try clear hsh
    try clear hda
    try clear hbi
    go_enter Try.func68, Try.ntmps68
    go_wp2
    go_ret
    exact ⟨by show Ending.returned (.bool false) = _; rw [HR.out], (by repeat (first | exact Ext.refl _ | refine Ext.alloc ?_ _))⟩
  have ibi : ¬ (0 : Int) < (x.bi.length : Int) := by omega
  have HR := Lib.hid (show okL (hasL x) [true, false, false, false, true, false, false] = true by simp [okL, hasL, hb, hsh, hlo, hhi, hda, hbi])
  try clear hsh
  try clear hda
  try clear hbi
  go_enter Try.func68, Try.ntmps68
  go_wp2
  go_ret
  exact ⟨by show Ending.returned (.bool true) = _; rw [HR.out], (by repeat (first | exact Ext.refl _ | refine Ext.alloc ?_ _))⟩
set_option maxHeartbeats 4000000 in
theorem behind17 (x : Nd) (As Ad Ab Ah : Option Addr) (cs cd cb ch : Nat) (shs : List (List Int)) (w : World) (hX : Hid (Plc w x As Ad Ab Ah cs cd cb ch shs)) :
    Calls Try.prog 69 #[.agg #[.int .i64 x.k, .int .i64 x.a, .int .i64 x.b, .slice As x.sh.length cs, .int .i64 x.lo, .int .i64 x.hi, .int .i64 x.sz, .slice Ad x.da.length cd, .slice Ab x.bi.length cb, .slice Ah shs.length ch], .int .i64 17] w fun e w' => e = .returned (.bool (ahB x.a shs.length)) ∧ Ext w w' := by
  obtain ⟨y0, y1, y2, y3, y4, y5, y6, y7, y8, y9⟩ := ten_at w (.int .i64 x.k) (.int .i64 x.a) (.int .i64 x.b) (.slice As x.sh.length cs) (.int .i64 x.lo) (.int .i64 x.hi) (.int .i64 x.sz) (.slice Ad x.da.length cd) (.slice Ab x.bi.length cb) (.slice Ah shs.length ch) 71
  have L0 := hX.out.nd.lsh
  have L1 := hX.out.nd.lda
  have L2 := hX.out.nd.lbi
  have L3 := hX.out.lah
  by_cases pa : 0 ≤ x.a
  case neg =>
    have HR := Lib.hid (show (ahB x.a shs.length) = false by simp [ahB, pa])
    go_enter Try.func69, Try.ntmps69
    go_wp2
    go_ret
    exact ⟨by show Ending.returned (.bool false) = _; rw [HR.out], (by repeat (first | exact Ext.refl _ | refine Ext.alloc ?_ _))⟩
  by_cases qa : x.a < (shs.length : Int)
  case neg =>
    have HR := Lib.hid (show (ahB x.a shs.length) = false by simp [ahB, pa, qa])
    go_enter Try.func69, Try.ntmps69
    go_wp2
    go_ret
    exact ⟨by show Ending.returned (.bool false) = _; rw [HR.out], (by repeat (first | exact Ext.refl _ | refine Ext.alloc ?_ _))⟩
  have HR := Lib.hid (show (ahB x.a shs.length) = true by simp [ahB, pa, qa])
  go_enter Try.func69, Try.ntmps69
  go_wp2
  go_ret
  exact ⟨by show Ending.returned (.bool true) = _; rw [HR.out], (by repeat (first | exact Ext.refl _ | refine Ext.alloc ?_ _))⟩
end Go.Proofs.Ytdnjjpkajiehgaa

/-
  What a place has no more, what it stands behind, and whether its numbers are within.
-/
namespace Go.Proofs.Ytdnjjpkajiehgaa
open Go.RowKit
set_option linter.unusedVariables false
set_option maxRecDepth 100000

set_option maxHeartbeats 4000000 in
theorem noMore101 (x : Nd) (As Ad Ab Ah : Option Addr) (cs cd cb ch : Nat) (shs : List (List Int)) (w : World) (hX : Hid (Plc w x As Ad Ab Ah cs cd cb ch shs)) :
    Calls Try.prog 68 #[.agg #[.int .i64 x.k, .int .i64 x.a, .int .i64 x.b, .slice As x.sh.length cs, .int .i64 x.lo, .int .i64 x.hi, .int .i64 x.sz, .slice Ad x.da.length cd, .slice Ab x.bi.length cb, .slice Ah shs.length ch], .int .i64 101] w fun e w' => e = .returned (.bool (okL (hasL x) [true, false, true, false, false, true, true])) ∧ Ext w w' := by
  obtain ⟨y0, y1, y2, y3, y4, y5, y6, y7, y8, y9⟩ := ten_at w (.int .i64 x.k) (.int .i64 x.a) (.int .i64 x.b) (.slice As x.sh.length cs) (.int .i64 x.lo) (.int .i64 x.hi) (.int .i64 x.sz) (.slice Ad x.da.length cd) (.slice Ab x.bi.length cb) (.slice Ah shs.length ch) 71
  have L0 := hX.out.nd.lsh
  have L1 := hX.out.nd.lda
  have L2 := hX.out.nd.lbi
  have L3 := hX.out.lah
  by_cases hb : x.b = 0
  case neg =>
    have HR := Lib.hid (show okL (hasL x) [true, false, true, false, false, true, true] = false by simp [okL, hasL, hb])
    try clear hsh
    try clear hda
    try clear hbi
    go_enter Try.func68, Try.ntmps68
    go_wp2
    go_ret
    exact ⟨by show Ending.returned (.bool false) = _; rw [HR.out], (by repeat (first | exact Ext.refl _ | refine Ext.alloc ?_ _))⟩
  by_cases hlo : x.lo = 0
  case neg =>
    have HR := Lib.hid (show okL (hasL x) [true, false, true, false, false, true, true] = false by simp [okL, hasL, hb, hlo])
    try clear hsh
    try clear hda
    try clear hbi
    go_enter Try.func68, Try.ntmps68
    go_wp2
    go_ret
    exact ⟨by show Ending.returned (.bool false) = _; rw [HR.out], (by repeat (first | exact Ext.refl _ | refine Ext.alloc ?_ _))⟩
  by_cases hhi : x.hi = 0
  case neg =>
    have HR := Lib.hid (show okL (hasL x) [true, false, true, false, false, true, true] = false by simp [okL, hasL, hb, hlo, hhi])
    try clear hsh
    try clear hda
    try clear hbi
    go_enter Try.func68, Try.ntmps68
    go_wp2
    go_ret
    exact ⟨by show Ending.returned (.bool false) = _; rw [HR.out], (by repeat (first | exact Ext.refl _ | refine Ext.alloc ?_ _))⟩
  by_cases hsz : x.sz = 0
  case neg =>
    have HR := Lib.hid (show okL (hasL x) [true, false, true, false, false, true, true] = false by simp [okL, hasL, hb, hlo, hhi, hsz])
    try clear hsh
    try clear hda
    try clear hbi
    go_enter Try.func68, Try.ntmps68
    go_wp2
    go_ret
    exact ⟨by show Ending.returned (.bool false) = _; rw [HR.out], (by repeat (first | exact Ext.refl _ | refine Ext.alloc ?_ _))⟩
  have HR := Lib.hid (show okL (hasL x) [true, false, true, false, false, true, true] = true by simp [okL, hasL, hb, hlo, hhi, hsz])
  try clear hsh
  try clear hda
  try clear hbi
  go_enter Try.func68, Try.ntmps68
  go_wp2
  go_ret
  exact ⟨by show Ending.returned (.bool true) = _; rw [HR.out], (by repeat (first | exact Ext.refl _ | refine Ext.alloc ?_ _))⟩
set_option maxHeartbeats 4000000 in
theorem behind101 (x : Nd) (As Ad Ab Ah : Option Addr) (cs cd cb ch : Nat) (shs : List (List Int)) (w : World) (hX : Hid (Plc w x As Ad Ab Ah cs cd cb ch shs)) :
    Calls Try.prog 69 #[.agg #[.int .i64 x.k, .int .i64 x.a, .int .i64 x.b, .slice As x.sh.length cs, .int .i64 x.lo, .int .i64 x.hi, .int .i64 x.sz, .slice Ad x.da.length cd, .slice Ab x.bi.length cb, .slice Ah shs.length ch], .int .i64 101] w fun e w' => e = .returned (.bool (ahB x.a shs.length)) ∧ Ext w w' := by
  obtain ⟨y0, y1, y2, y3, y4, y5, y6, y7, y8, y9⟩ := ten_at w (.int .i64 x.k) (.int .i64 x.a) (.int .i64 x.b) (.slice As x.sh.length cs) (.int .i64 x.lo) (.int .i64 x.hi) (.int .i64 x.sz) (.slice Ad x.da.length cd) (.slice Ab x.bi.length cb) (.slice Ah shs.length ch) 71
  have L0 := hX.out.nd.lsh
  have L1 := hX.out.nd.lda
  have L2 := hX.out.nd.lbi
  have L3 := hX.out.lah
  by_cases pa : 0 ≤ x.a
  case neg =>
    have HR := Lib.hid (show (ahB x.a shs.length) = false by simp [ahB, pa])
    go_enter Try.func69, Try.ntmps69
    go_wp2
    go_ret
    exact ⟨by show Ending.returned (.bool false) = _; rw [HR.out], (by repeat (first | exact Ext.refl _ | refine Ext.alloc ?_ _))⟩
  by_cases qa : x.a < (shs.length : Int)
  case neg =>
    have HR := Lib.hid (show (ahB x.a shs.length) = false by simp [ahB, pa, qa])
    go_enter Try.func69, Try.ntmps69
    go_wp2
    go_ret
    exact ⟨by show Ending.returned (.bool false) = _; rw [HR.out], (by repeat (first | exact Ext.refl _ | refine Ext.alloc ?_ _))⟩
  have HR := Lib.hid (show (ahB x.a shs.length) = true by simp [ahB, pa, qa])
  go_enter Try.func69, Try.ntmps69
  go_wp2
  go_ret
  exact ⟨by show Ending.returned (.bool true) = _; rw [HR.out], (by repeat (first | exact Ext.refl _ | refine Ext.alloc ?_ _))⟩
set_option maxHeartbeats 4000000 in
theorem noMore3 (x : Nd) (As Ad Ab Ah : Option Addr) (cs cd cb ch : Nat) (shs : List (List Int)) (w : World) (hX : Hid (Plc w x As Ad Ab Ah cs cd cb ch shs)) :
    Calls Try.prog 68 #[.agg #[.int .i64 x.k, .int .i64 x.a, .int .i64 x.b, .slice As x.sh.length cs, .int .i64 x.lo, .int .i64 x.hi, .int .i64 x.sz, .slice Ad x.da.length cd, .slice Ab x.bi.length cb, .slice Ah shs.length ch], .int .i64 3] w fun e w' => e = .returned (.bool (okL (hasL x) [true, true, false, false, false, false, false])) ∧ Ext w w' := by
  obtain ⟨y0, y1, y2, y3, y4, y5, y6, y7, y8, y9⟩ := ten_at w (.int .i64 x.k) (.int .i64 x.a) (.int .i64 x.b) (.slice As x.sh.length cs) (.int .i64 x.lo) (.int .i64 x.hi) (.int .i64 x.sz) (.slice Ad x.da.length cd) (.slice Ab x.bi.length cb) (.slice Ah shs.length ch) 71
  have L0 := hX.out.nd.lsh
  have L1 := hX.out.nd.lda
  have L2 := hX.out.nd.lbi
  have L3 := hX.out.lah
  by_cases hsh : x.sh.length = 0
  case neg =>
    have ish : (0 : Int) < (x.sh.length : Int) := by omega
    have HR := Lib.hid (show okL (hasL x) [true, true, false, false, false, false, false] = false by simp [okL, hasL, Nat.pos_of_ne_zero hsh])
    try clear hsh
    try clear hda
    try clear hbi
    go_enter Try.func68, Try.ntmps68
    go_wp2
    go_ret
    exact ⟨by show Ending.returned (.bool false) = _; rw [HR.out], (by repeat (first | exact Ext.refl _ | refine Ext.alloc ?_ _))⟩
  have ish : ¬ (0 : Int) < (x.sh.length : Int) := by omega
  by_cases hlo : x.lo = 0
  case neg =>
    have HR := Lib.hid (show okL (hasL x) [true, true, false, false, false, false, false] = false by simp [okL, hasL, hsh, hlo])
    try clear hsh
    try clear hda
    try clear hbi
    go_enter Try.func68, Try.ntmps68
    go_wp2
    go_ret
    exact ⟨by show Ending.returned (.bool false) = _; rw [HR.out], (by repeat (first | exact Ext.refl _ | refine Ext.alloc ?_ _))⟩
  by_cases hhi : x.hi = 0
  case neg =>
    have HR := Lib.hid (show okL (hasL x) [true, true, false, false, false, false, false] = false by simp [okL, hasL, hsh, hlo, hhi])
    try clear hsh
    try clear hda
    try clear hbi
    go_enter Try.func68, Try.ntmps68
    go_wp2
    go_ret
    exact ⟨by show Ending.returned (.bool false) = _; rw [HR.out], (by repeat (first | exact Ext.refl _ | refine Ext.alloc ?_ _))⟩
  by_cases hsz : x.sz = 0
  case neg =>
    have HR := Lib.hid (show okL (hasL x) [true, true, false, false, false, false, false] = false by simp [okL, hasL, hsh, hlo, hhi, hsz])
    try clear hsh
    try clear hda
    try clear hbi
    go_enter Try.func68, Try.ntmps68
    go_wp2
    go_ret
    exact ⟨by show Ending.returned (.bool false) = _; rw [HR.out], (by repeat (first | exact Ext.refl _ | refine Ext.alloc ?_ _))⟩
  by_cases hda : x.da.length = 0
  case neg =>
    have ida : (0 : Int) < (x.da.length : Int) := by omega
    have HR := Lib.hid (show okL (hasL x) [true, true, false, false, false, false, false] = false by simp [okL, hasL, hsh, hlo, hhi, hsz, Nat.pos_of_ne_zero hda])
    try clear hsh
    try clear hda
    try clear hbi
    go_enter Try.func68, Try.ntmps68
    go_wp2
    go_ret
    exact ⟨by show Ending.returned (.bool false) = _; rw [HR.out], (by repeat (first | exact Ext.refl _ | refine Ext.alloc ?_ _))⟩
  have ida : ¬ (0 : Int) < (x.da.length : Int) := by omega
  by_cases hbi : x.bi.length = 0
  case neg =>
    have ibi : (0 : Int) < (x.bi.length : Int) := by omega
    have HR := Lib.hid (show okL (hasL x) [true, true, false, false, false, false, false] = false by simp [okL, hasL, hsh, hlo, hhi, hsz, hda, Nat.pos_of_ne_zero hbi])
    try clear hsh
    try clear hda
    try clear hbi
    go_enter Try.func68, Try.ntmps68
    go_wp2
    go_ret
    exact ⟨by show Ending.returned (.bool false) = _; rw [HR.out], (by repeat (first | exact Ext.refl _ | refine Ext.alloc ?_ _))⟩
  have ibi : ¬ (0 : Int) < (x.bi.length : Int) := by omega
  have HR := Lib.hid (show okL (hasL x) [true, true, false, false, false, false, false] = true by simp [okL, hasL, hsh, hlo, hhi, hsz, hda, hbi])
  try clear hsh
  try clear hda
  try clear hbi
  go_enter Try.func68, Try.ntmps68
  go_wp2
  go_ret
  exact ⟨by show Ending.returned (.bool true) = _; rw [HR.out], (by repeat (first | exact Ext.refl _ | refine Ext.alloc ?_ _))⟩
set_option maxHeartbeats 4000000 in
theorem behind3 (x : Nd) (As Ad Ab Ah : Option Addr) (cs cd cb ch : Nat) (shs : List (List Int)) (w : World) (hX : Hid (Plc w x As Ad Ab Ah cs cd cb ch shs)) :
    Calls Try.prog 69 #[.agg #[.int .i64 x.k, .int .i64 x.a, .int .i64 x.b, .slice As x.sh.length cs, .int .i64 x.lo, .int .i64 x.hi, .int .i64 x.sz, .slice Ad x.da.length cd, .slice Ab x.bi.length cb, .slice Ah shs.length ch], .int .i64 3] w fun e w' => e = .returned (.bool (ahB x.a shs.length && ahB x.b shs.length)) ∧ Ext w w' := by
  obtain ⟨y0, y1, y2, y3, y4, y5, y6, y7, y8, y9⟩ := ten_at w (.int .i64 x.k) (.int .i64 x.a) (.int .i64 x.b) (.slice As x.sh.length cs) (.int .i64 x.lo) (.int .i64 x.hi) (.int .i64 x.sz) (.slice Ad x.da.length cd) (.slice Ab x.bi.length cb) (.slice Ah shs.length ch) 71
  have L0 := hX.out.nd.lsh
  have L1 := hX.out.nd.lda
  have L2 := hX.out.nd.lbi
  have L3 := hX.out.lah
  by_cases pa : 0 ≤ x.a
  case neg =>
    have HR := Lib.hid (show (ahB x.a shs.length && ahB x.b shs.length) = false by simp [ahB, pa])
    go_enter Try.func69, Try.ntmps69
    go_wp2
    go_ret
    exact ⟨by show Ending.returned (.bool false) = _; rw [HR.out], (by repeat (first | exact Ext.refl _ | refine Ext.alloc ?_ _))⟩
  by_cases qa : x.a < (shs.length : Int)
  case neg =>
    have HR := Lib.hid (show (ahB x.a shs.length && ahB x.b shs.length) = false by simp [ahB, pa, qa])
    go_enter Try.func69, Try.ntmps69
    go_wp2
    go_ret
    exact ⟨by show Ending.returned (.bool false) = _; rw [HR.out], (by repeat (first | exact Ext.refl _ | refine Ext.alloc ?_ _))⟩
  by_cases pb : 0 ≤ x.b
  case neg =>
    have HR := Lib.hid (show (ahB x.a shs.length && ahB x.b shs.length) = false by simp [ahB, pa, qa, pb])
    go_enter Try.func69, Try.ntmps69
    go_wp2
    go_ret
    exact ⟨by show Ending.returned (.bool false) = _; rw [HR.out], (by repeat (first | exact Ext.refl _ | refine Ext.alloc ?_ _))⟩
  by_cases qb : x.b < (shs.length : Int)
  case neg =>
    have HR := Lib.hid (show (ahB x.a shs.length && ahB x.b shs.length) = false by simp [ahB, pa, qa, pb, qb])
    go_enter Try.func69, Try.ntmps69
    go_wp2
    go_ret
    exact ⟨by show Ending.returned (.bool false) = _; rw [HR.out], (by repeat (first | exact Ext.refl _ | refine Ext.alloc ?_ _))⟩
  have HR := Lib.hid (show (ahB x.a shs.length && ahB x.b shs.length) = true by simp [ahB, pa, qa, pb, qb])
  go_enter Try.func69, Try.ntmps69
  go_wp2
  go_ret
  exact ⟨by show Ending.returned (.bool true) = _; rw [HR.out], (by repeat (first | exact Ext.refl _ | refine Ext.alloc ?_ _))⟩
end Go.Proofs.Ytdnjjpkajiehgaa

/-
  What a place has no more, what it stands behind, and whether its numbers are within.
-/
namespace Go.Proofs.Ytdnjjpkajiehgaa
open Go.RowKit
set_option linter.unusedVariables false
set_option maxRecDepth 100000

set_option maxHeartbeats 4000000 in
theorem noMore33 (x : Nd) (As Ad Ab Ah : Option Addr) (cs cd cb ch : Nat) (shs : List (List Int)) (w : World) (hX : Hid (Plc w x As Ad Ab Ah cs cd cb ch shs)) :
    Calls Try.prog 68 #[.agg #[.int .i64 x.k, .int .i64 x.a, .int .i64 x.b, .slice As x.sh.length cs, .int .i64 x.lo, .int .i64 x.hi, .int .i64 x.sz, .slice Ad x.da.length cd, .slice Ab x.bi.length cb, .slice Ah shs.length ch], .int .i64 33] w fun e w' => e = .returned (.bool (okL (hasL x) [true, false, false, false, false, true, false])) ∧ Ext w w' := by
  obtain ⟨y0, y1, y2, y3, y4, y5, y6, y7, y8, y9⟩ := ten_at w (.int .i64 x.k) (.int .i64 x.a) (.int .i64 x.b) (.slice As x.sh.length cs) (.int .i64 x.lo) (.int .i64 x.hi) (.int .i64 x.sz) (.slice Ad x.da.length cd) (.slice Ab x.bi.length cb) (.slice Ah shs.length ch) 71
  have L0 := hX.out.nd.lsh
  have L1 := hX.out.nd.lda
  have L2 := hX.out.nd.lbi
  have L3 := hX.out.lah
  by_cases hb : x.b = 0
  case neg =>
    have HR := Lib.hid (show okL (hasL x) [true, false, false, false, false, true, false] = false by simp [okL, hasL, hb])
    try clear hsh
    try clear hda
    try clear hbi
    go_enter Try.func68, Try.ntmps68
    go_wp2
    go_ret
    exact ⟨by show Ending.returned (.bool false) = _; rw [HR.out], (by repeat (first | exact Ext.refl _ | refine Ext.alloc ?_ _))⟩
  by_cases hsh : x.sh.length = 0
  case neg =>
    have ish : (0 : Int) < (x.sh.length : Int) := by omega
    have HR := Lib.hid (show okL (hasL x) [true, false, false, false, false, true, false] = false by simp [okL, hasL, hb, Nat.pos_of_ne_zero hsh])
    try clear hsh
    try clear hda
    try clear hbi
    go_enter Try.func68, Try.ntmps68
    go_wp2
    go_ret
    exact ⟨by show Ending.returned (.bool false) = _; rw [HR.out], (by repeat (first | exact Ext.refl _ | refine Ext.alloc ?_ _))⟩
  have ish : ¬ (0 : Int) < (x.sh.length : Int) := by omega
  by_cases hlo : x.lo = 0
  case neg =>
    have HR := Lib.hid (show okL (hasL x) [true, false, false, false, false, true, false] = false by simp [okL, hasL, hb, hsh, hlo])
    try clear hsh
    try clear hda
    try clear hbi
    go_enter Try.func68, Try.ntmps68
    go_wp2
    go_ret
    exact ⟨by show Ending.returned (.bool false) = _; rw [HR.out], (by repeat (first | exact Ext.refl _ | refine Ext.alloc ?_ _))⟩
  by_cases hhi : x.hi = 0
  case neg =>
    have HR := Lib.hid (show okL (hasL x) [true, false, false, false, false, true, false] = false by simp [okL, hasL, hb, hsh, hlo, hhi])
    try clear hsh
    try clear hda
    try clear hbi
    go_enter Try.func68, Try.ntmps68
    go_wp2
    go_ret
    exact ⟨by show Ending.returned (.bool false) = _; rw [HR.out], (by repeat (first | exact Ext.refl _ | refine Ext.alloc ?_ _))⟩
  by_cases hsz : x.sz = 0
  case neg =>
    have HR := Lib.hid (show okL (hasL x) [true, false, false, false, false, true, false] = false by simp [okL, hasL, hb, hsh, hlo, hhi, hsz])
    try clear hsh
    try clear hda
    try clear hbi
    go_enter Try.func68, Try.ntmps68
    go_wp2
    go_ret
    exact ⟨by show Ending.returned (.bool false) = _; rw [HR.out], (by repeat (first | exact Ext.refl _ | refine Ext.alloc ?_ _))⟩
  by_cases hbi : x.bi.length = 0
  case neg =>
    have ibi : (0 : Int) < (x.bi.length : Int) := by omega
    have HR := Lib.hid (show okL (hasL x) [true, false, false, false, false, true, false] = false by simp [okL, hasL, hb, hsh, hlo, hhi, hsz, Nat.pos_of_ne_zero hbi])
    try clear hsh
    try clear hda
    try clear hbi
    go_enter Try.func68, Try.ntmps68
    go_wp2
    go_ret
    exact ⟨by show Ending.returned (.bool false) = _; rw [HR.out], (by repeat (first | exact Ext.refl _ | refine Ext.alloc ?_ _))⟩
  have ibi : ¬ (0 : Int) < (x.bi.length : Int) := by omega
  have HR := Lib.hid (show okL (hasL x) [true, false, false, false, false, true, false] = true by simp [okL, hasL, hb, hsh, hlo, hhi, hsz, hbi])
  try clear hsh
  try clear hda
  try clear hbi
  go_enter Try.func68, Try.ntmps68
  go_wp2
  go_ret
  exact ⟨by show Ending.returned (.bool true) = _; rw [HR.out], (by repeat (first | exact Ext.refl _ | refine Ext.alloc ?_ _))⟩
set_option maxHeartbeats 4000000 in
theorem behind33 (x : Nd) (As Ad Ab Ah : Option Addr) (cs cd cb ch : Nat) (shs : List (List Int)) (w : World) (hX : Hid (Plc w x As Ad Ab Ah cs cd cb ch shs)) :
    Calls Try.prog 69 #[.agg #[.int .i64 x.k, .int .i64 x.a, .int .i64 x.b, .slice As x.sh.length cs, .int .i64 x.lo, .int .i64 x.hi, .int .i64 x.sz, .slice Ad x.da.length cd, .slice Ab x.bi.length cb, .slice Ah shs.length ch], .int .i64 33] w fun e w' => e = .returned (.bool (ahB x.a shs.length)) ∧ Ext w w' := by
  obtain ⟨y0, y1, y2, y3, y4, y5, y6, y7, y8, y9⟩ := ten_at w (.int .i64 x.k) (.int .i64 x.a) (.int .i64 x.b) (.slice As x.sh.length cs) (.int .i64 x.lo) (.int .i64 x.hi) (.int .i64 x.sz) (.slice Ad x.da.length cd) (.slice Ab x.bi.length cb) (.slice Ah shs.length ch) 71
  have L0 := hX.out.nd.lsh
  have L1 := hX.out.nd.lda
  have L2 := hX.out.nd.lbi
  have L3 := hX.out.lah
  by_cases pa : 0 ≤ x.a
  case neg =>
    have HR := Lib.hid (show (ahB x.a shs.length) = false by simp [ahB, pa])
    go_enter Try.func69, Try.ntmps69
    go_wp2
    go_ret
    exact ⟨by show Ending.returned (.bool false) = _; rw [HR.out], (by repeat (first | exact Ext.refl _ | refine Ext.alloc ?_ _))⟩
  by_cases qa : x.a < (shs.length : Int)
  case neg =>
    have HR := Lib.hid (show (ahB x.a shs.length) = false by simp [ahB, pa, qa])
    go_enter Try.func69, Try.ntmps69
    go_wp2
    go_ret
    exact ⟨by show Ending.returned (.bool false) = _; rw [HR.out], (by repeat (first | exact Ext.refl _ | refine Ext.alloc ?_ _))⟩
  have HR := Lib.hid (show (ahB x.a shs.length) = true by simp [ahB, pa, qa])
  go_enter Try.func69, Try.ntmps69
  go_wp2
  go_ret
  exact ⟨by show Ending.returned (.bool true) = _; rw [HR.out], (by repeat (first | exact Ext.refl _ | refine Ext.alloc ?_ _))⟩
set_option maxHeartbeats 4000000 in
theorem noMore5 (x : Nd) (As Ad Ab Ah : Option Addr) (cs cd cb ch : Nat) (shs : List (List Int)) (w : World) (hX : Hid (Plc w x As Ad Ab Ah cs cd cb ch shs)) :
    Calls Try.prog 68 #[.agg #[.int .i64 x.k, .int .i64 x.a, .int .i64 x.b, .slice As x.sh.length cs, .int .i64 x.lo, .int .i64 x.hi, .int .i64 x.sz, .slice Ad x.da.length cd, .slice Ab x.bi.length cb, .slice Ah shs.length ch], .int .i64 5] w fun e w' => e = .returned (.bool (okL (hasL x) [true, false, true, false, false, false, false])) ∧ Ext w w' := by
  obtain ⟨y0, y1, y2, y3, y4, y5, y6, y7, y8, y9⟩ := ten_at w (.int .i64 x.k) (.int .i64 x.a) (.int .i64 x.b) (.slice As x.sh.length cs) (.int .i64 x.lo) (.int .i64 x.hi) (.int .i64 x.sz) (.slice Ad x.da.length cd) (.slice Ab x.bi.length cb) (.slice Ah shs.length ch) 71
  have L0 := hX.out.nd.lsh
  have L1 := hX.out.nd.lda
  have L2 := hX.out.nd.lbi
  have L3 := hX.out.lah
  by_cases hb : x.b = 0
  case neg =>
    have HR := Lib.hid (show okL (hasL x) [true, false, true, false, false, false, false] = false by simp [okL, hasL, hb])
    try clear hsh
    try clear hda
    try clear hbi
    go_enter Try.func68, Try.ntmps68
    go_wp2
    go_ret
    exact ⟨by show Ending.returned (.bool false) = _; rw [HR.out], (by repeat (first | exact Ext.refl _ | refine Ext.alloc ?_ _))⟩
  by_cases hlo : x.lo = 0
  case neg =>
    have HR := Lib.hid (show okL (hasL x) [true, false, true, false, false, false, false] = false by simp [okL, hasL, hb, hlo])
    try clear hsh
    try clear hda
    try clear hbi
    go_enter Try.func68, Try.ntmps68
    go_wp2
    go_ret
    exact ⟨by show Ending.returned (.bool false) = _; rw [HR.out], (by repeat (first | exact Ext.refl _ | refine Ext.alloc ?_ _))⟩
  by_cases hhi : x.hi = 0
  case neg =>
    have HR := Lib.hid (show okL (hasL x) [true, false, true, false, false, false, false] = false by simp [okL, hasL, hb, hlo, hhi])
    try clear hsh
    try clear hda
    try clear hbi
    go_enter Try.func68, Try.ntmps68
    go_wp2
    go_ret
    exact ⟨by show Ending.returned (.bool false) = _; rw [HR.out], (by repeat (first | exact Ext.refl _ | refine Ext.alloc ?_ _))⟩
  by_cases hsz : x.sz = 0
  case neg =>
    have HR := Lib.hid (show okL (hasL x) [true, false, true, false, false, false, false] = false by simp [okL, hasL, hb, hlo, hhi, hsz])
    try clear hsh
    try clear hda
    try clear hbi
    go_enter Try.func68, Try.ntmps68
    go_wp2
    go_ret
    exact ⟨by show Ending.returned (.bool false) = _; rw [HR.out], (by repeat (first | exact Ext.refl _ | refine Ext.alloc ?_ _))⟩
  by_cases hda : x.da.length = 0
  case neg =>
    have ida : (0 : Int) < (x.da.length : Int) := by omega
    have HR := Lib.hid (show okL (hasL x) [true, false, true, false, false, false, false] = false by simp [okL, hasL, hb, hlo, hhi, hsz, Nat.pos_of_ne_zero hda])
    try clear hsh
    try clear hda
    try clear hbi
    go_enter Try.func68, Try.ntmps68
    go_wp2
    go_ret
    exact ⟨by show Ending.returned (.bool false) = _; rw [HR.out], (by repeat (first | exact Ext.refl _ | refine Ext.alloc ?_ _))⟩
  have ida : ¬ (0 : Int) < (x.da.length : Int) := by omega
  by_cases hbi : x.bi.length = 0
  case neg =>
    have ibi : (0 : Int) < (x.bi.length : Int) := by omega
    have HR := Lib.hid (show okL (hasL x) [true, false, true, false, false, false, false] = false by simp [okL, hasL, hb, hlo, hhi, hsz, hda, Nat.pos_of_ne_zero hbi])
    try clear hsh
    try clear hda
    try clear hbi
    go_enter Try.func68, Try.ntmps68
    go_wp2
    go_ret
    exact ⟨by show Ending.returned (.bool false) = _; rw [HR.out], (by repeat (first | exact Ext.refl _ | refine Ext.alloc ?_ _))⟩
  have ibi : ¬ (0 : Int) < (x.bi.length : Int) := by omega
  have HR := Lib.hid (show okL (hasL x) [true, false, true, false, false, false, false] = true by simp [okL, hasL, hb, hlo, hhi, hsz, hda, hbi])
  try clear hsh
  try clear hda
  try clear hbi
  go_enter Try.func68, Try.ntmps68
  go_wp2
  go_ret
  exact ⟨by show Ending.returned (.bool true) = _; rw [HR.out], (by repeat (first | exact Ext.refl _ | refine Ext.alloc ?_ _))⟩
set_option maxHeartbeats 4000000 in
theorem behind5 (x : Nd) (As Ad Ab Ah : Option Addr) (cs cd cb ch : Nat) (shs : List (List Int)) (w : World) (hX : Hid (Plc w x As Ad Ab Ah cs cd cb ch shs)) :
    Calls Try.prog 69 #[.agg #[.int .i64 x.k, .int .i64 x.a, .int .i64 x.b, .slice As x.sh.length cs, .int .i64 x.lo, .int .i64 x.hi, .int .i64 x.sz, .slice Ad x.da.length cd, .slice Ab x.bi.length cb, .slice Ah shs.length ch], .int .i64 5] w fun e w' => e = .returned (.bool (ahB x.a shs.length)) ∧ Ext w w' := by
  obtain ⟨y0, y1, y2, y3, y4, y5, y6, y7, y8, y9⟩ := ten_at w (.int .i64 x.k) (.int .i64 x.a) (.int .i64 x.b) (.slice As x.sh.length cs) (.int .i64 x.lo) (.int .i64 x.hi) (.int .i64 x.sz) (.slice Ad x.da.length cd) (.slice Ab x.bi.length cb) (.slice Ah shs.length ch) 71
  have L0 := hX.out.nd.lsh
  have L1 := hX.out.nd.lda
  have L2 := hX.out.nd.lbi
  have L3 := hX.out.lah
  by_cases pa : 0 ≤ x.a
  case neg =>
    have HR := Lib.hid (show (ahB x.a shs.length) = false by simp [ahB, pa])
    go_enter Try.func69, Try.ntmps69
    go_wp2
    go_ret
    exact ⟨by show Ending.returned (.bool false) = _; rw [HR.out], (by repeat (first | exact Ext.refl _ | refine Ext.alloc ?_ _))⟩
  by_cases qa : x.a < (shs.length : Int)
  case neg =>
    have HR := Lib.hid (show (ahB x.a shs.length) = false by simp [ahB, pa, qa])
    go_enter Try.func69, Try.ntmps69
    go_wp2
    go_ret
    exact ⟨by show Ending.returned (.bool false) = _; rw [HR.out], (by repeat (first | exact Ext.refl _ | refine Ext.alloc ?_ _))⟩
  have HR := Lib.hid (show (ahB x.a shs.length) = true by simp [ahB, pa, qa])
  go_enter Try.func69, Try.ntmps69
  go_wp2
  go_ret
  exact ⟨by show Ending.returned (.bool true) = _; rw [HR.out], (by repeat (first | exact Ext.refl _ | refine Ext.alloc ?_ _))⟩
end Go.Proofs.Ytdnjjpkajiehgaa
