/-
  What is told of a place's numbers.
-/
import Derived.Test.YtjeipbahddhfgaaJSh2
namespace Go.Proofs.Ytjeipbahddhfgaa
open Go.RowKit
set_option linter.unusedVariables false
set_option maxRecDepth 100000

set_option maxHeartbeats 4000000 in
theorem hasNumbers_any (x : Nd) (As Ad Ab Ah : Option Addr) (cs cd cb ch : Nat) (shs : List (List Int)) (w : World) (hX : Hid (Plc w x As Ad Ab Ah cs cd cb ch shs)) :
    Calls Try.prog 65 #[.agg #[.int .i64 x.k, .int .i64 x.a, .int .i64 x.b, .slice As x.sh.length cs, .int .i64 x.lo, .int .i64 x.hi, .int .i64 x.sz, .slice Ad x.da.length cd, .slice Ab x.bi.length cb, .slice Ah shs.length ch]] w fun e w' => e = .returned (.bool (decide (0 < entN x.sh) && decide ((x.da.length : Int) = entN x.sh))) ∧ Ext w w' := by
  obtain ⟨y0, y1, y2, y3, y4, y5, y6, y7, y8, y9⟩ := ten_at w (.int .i64 x.k) (.int .i64 x.a) (.int .i64 x.b) (.slice As x.sh.length cs) (.int .i64 x.lo) (.int .i64 x.hi) (.int .i64 x.sz) (.slice Ad x.da.length cd) (.slice Ab x.bi.length cb) (.slice Ah shs.length ch) 65
  have kk : Ext w (w.alloc (.cells #[.int .i64 x.k, .int .i64 x.a, .int .i64 x.b, .slice As x.sh.length cs, .int .i64 x.lo, .int .i64 x.hi, .int .i64 x.sz, .slice Ad x.da.length cd, .slice Ab x.bi.length cb, .slice Ah shs.length ch] 65)) := (Ext.refl w).alloc _
  go_enter Try.func65, Try.ntmps65
  go_wp2_with fail
  generalize w.alloc (.cells #[.int .i64 x.k, .int .i64 x.a, .int .i64 x.b, .slice As x.sh.length cs, .int .i64 x.lo, .int .i64 x.hi, .int .i64 x.sz, .slice Ad x.da.length cd, .slice Ab x.bi.length cb, .slice Ah shs.length ch] 65) = V at *
  by_cases hp : 0 < entN x.sh
  · have HP := Lib.hid hp
    clear hp
    refine wp_region_held_drew (S := (fun w' => Ext V w')) (by kernel_rfl) ?_ (fun hHeld => ?_)
    · (try dsimp only); repeat (first | exact Ext.refl _ | assumption | refine Ext.drew ?_ | refine Ext.drewN ?_ _ | refine Ext.alloc ?_ _)
    refine wpAnyH_take (i := 0) (oi := _) (v := ?_) rfl (by kernel_rfl) (by kernel_rfl) (by kernel_rfl) (fun _ _ _ h => h) (Or.inl ⟨by first | kernel_rfl | rfl, ?_⟩) (by assumption) ?_
    rotate_left
    · (intro wS hSw; (try dsimp only at hSw); have z0 := cell_ext hSw y0; have z1 := cell_ext hSw y1; have z2 := cell_ext hSw y2; have z3 := cell_ext hSw y3; have z4 := cell_ext hSw y4; have z5 := cell_ext hSw y5; have z6 := cell_ext hSw y6; have z7 := cell_ext hSw y7; have z8 := cell_ext hSw y8; have z9 := cell_ext hSw y9; (try go_simp); (try with_reducible rfl))
    try simp only [Act.put, s1, s2, s3]
    refine wpAnyH_ready (rs := [1]) (by kernel_rfl) (by simp) ?_
    refine AllReadyH.cons rfl (fun KQ hKQ => ?_) AllReadyH.nil
    go_simp
    (refine (hasShape_any x As Ad Ab Ah cs cd cb ch shs _ (Lib.hid (hX.out.ext (kk.trans (by repeat (first | exact Ext.refl _ | assumption | refine Ext.drew ?_ | refine Ext.drewN ?_ _ | refine Ext.alloc ?_ _)))))).mono ?_; rintro e5 w5 ⟨rfl, k5⟩; rw [decide_eq_true HP.out]; have kc : Ext V w5 := Ext.trans (by repeat (first | exact Ext.refl _ | assumption | refine Ext.drew ?_ | refine Ext.drewN ?_ _ | refine Ext.alloc ?_ _)) k5)
    refine hKQ.out _ _ ?_ (fun hHeld => ?_)
    · (try dsimp only); repeat (first | exact Ext.refl _ | assumption | refine Ext.drew ?_ | refine Ext.drewN ?_ _ | refine Ext.alloc ?_ _)
    clear hKQ KQ
    try simp only [Act.put, s1, s2, s3]
    refine wpAnyH_take (i := 2) (oi := _) (v := ?_) rfl (by kernel_rfl) (by kernel_rfl) (by kernel_rfl) (fun _ _ _ h => h) (Or.inl ⟨by first | kernel_rfl | rfl, ?_⟩) (by assumption) ?_
    rotate_left
    · (intro wS hSw; (try dsimp only at hSw); have z0 := cell_ext hSw y0; have z1 := cell_ext hSw y1; have z2 := cell_ext hSw y2; have z3 := cell_ext hSw y3; have z4 := cell_ext hSw y4; have z5 := cell_ext hSw y5; have z6 := cell_ext hSw y6; have z7 := cell_ext hSw y7; have z8 := cell_ext hSw y8; have z9 := cell_ext hSw y9; (try go_simp); (try with_reducible rfl))
    try simp only [Act.put, s1, s2, s3]
    refine wpAnyH_take (i := 3) (oi := _) (v := ?_) rfl (by kernel_rfl) (by kernel_rfl) (by kernel_rfl) (fun _ _ _ h => h) (Or.inl ⟨by first | kernel_rfl | rfl, ?_⟩) (by assumption) ?_
    rotate_left
    · (intro wS hSw; (try dsimp only at hSw); have z0 := cell_ext hSw y0; have z1 := cell_ext hSw y1; have z2 := cell_ext hSw y2; have z3 := cell_ext hSw y3; have z4 := cell_ext hSw y4; have z5 := cell_ext hSw y5; have z6 := cell_ext hSw y6; have z7 := cell_ext hSw y7; have z8 := cell_ext hSw y8; have z9 := cell_ext hSw y9; (try go_simp); (try with_reducible rfl))
    try simp only [Act.put, s1, s2, s3]
    refine wpAnyH_take (i := 4) (oi := _) (v := ?_) rfl (by kernel_rfl) (by kernel_rfl) (by kernel_rfl) (fun _ _ _ h => h) (Or.inl ⟨by first | kernel_rfl | rfl, ?_⟩) (by assumption) ?_
    rotate_left
    · (intro wS hSw; (try dsimp only at hSw); have z0 := cell_ext hSw y0; have z1 := cell_ext hSw y1; have z2 := cell_ext hSw y2; have z3 := cell_ext hSw y3; have z4 := cell_ext hSw y4; have z5 := cell_ext hSw y5; have z6 := cell_ext hSw y6; have z7 := cell_ext hSw y7; have z8 := cell_ext hSw y8; have z9 := cell_ext hSw y9; (try go_simp); (try with_reducible rfl))
    try simp only [Act.put, s1, s2, s3]
    refine wpAnyH_take (i := 5) (oi := _) (v := ?_) rfl (by kernel_rfl) (by kernel_rfl) (by kernel_rfl) (fun _ _ _ h => h) (Or.inl ⟨by first | kernel_rfl | rfl, ?_⟩) (by assumption) ?_
    rotate_left
    · (intro wS hSw; (try dsimp only at hSw); have z0 := cell_ext hSw y0; have z1 := cell_ext hSw y1; have z2 := cell_ext hSw y2; have z3 := cell_ext hSw y3; have z4 := cell_ext hSw y4; have z5 := cell_ext hSw y5; have z6 := cell_ext hSw y6; have z7 := cell_ext hSw y7; have z8 := cell_ext hSw y8; have z9 := cell_ext hSw y9; (try go_simp); (try with_reducible rfl))
    try simp only [Act.put, s1, s2, s3]
    refine wpAnyH_take (i := 6) (oi := _) (v := ?_) rfl (by kernel_rfl) (by kernel_rfl) (by kernel_rfl) (fun _ _ _ h => h) (Or.inl ⟨by first | kernel_rfl | rfl, ?_⟩) (by assumption) ?_
    rotate_left
    · (intro wS hSw; (try dsimp only at hSw); have z0 := cell_ext hSw y0; have z1 := cell_ext hSw y1; have z2 := cell_ext hSw y2; have z3 := cell_ext hSw y3; have z4 := cell_ext hSw y4; have z5 := cell_ext hSw y5; have z6 := cell_ext hSw y6; have z7 := cell_ext hSw y7; have z8 := cell_ext hSw y8; have z9 := cell_ext hSw y9; (try go_simp); (try with_reducible rfl))
    try simp only [Act.put, s1, s2, s3]
    refine wpAnyH_take (i := 7) (oi := _) (v := ?_) rfl (by kernel_rfl) (by kernel_rfl) (by kernel_rfl) (fun _ _ _ h => h) (Or.inl ⟨by first | kernel_rfl | rfl, ?_⟩) (by assumption) ?_
    rotate_left
    · (intro wS hSw; (try dsimp only at hSw); have z0 := cell_ext hSw y0; have z1 := cell_ext hSw y1; have z2 := cell_ext hSw y2; have z3 := cell_ext hSw y3; have z4 := cell_ext hSw y4; have z5 := cell_ext hSw y5; have z6 := cell_ext hSw y6; have z7 := cell_ext hSw y7; have z8 := cell_ext hSw y8; have z9 := cell_ext hSw y9; (try go_simp); (try with_reducible rfl))
    try simp only [Act.put, s1, s2, s3]
    refine wpAnyH_take (i := 8) (oi := _) (v := ?_) rfl (by kernel_rfl) (by kernel_rfl) (by kernel_rfl) (fun _ _ _ h => h) (Or.inl ⟨by first | kernel_rfl | rfl, ?_⟩) (by assumption) ?_
    rotate_left
    · (intro wS hSw; (try dsimp only at hSw); have z0 := cell_ext hSw y0; have z1 := cell_ext hSw y1; have z2 := cell_ext hSw y2; have z3 := cell_ext hSw y3; have z4 := cell_ext hSw y4; have z5 := cell_ext hSw y5; have z6 := cell_ext hSw y6; have z7 := cell_ext hSw y7; have z8 := cell_ext hSw y8; have z9 := cell_ext hSw y9; (try go_simp); (try with_reducible rfl))
    try simp only [Act.put, s1, s2, s3]
    refine wpAnyH_take (i := 9) (oi := _) (v := ?_) rfl (by kernel_rfl) (by kernel_rfl) (by kernel_rfl) (fun _ _ _ h => h) (Or.inl ⟨by first | kernel_rfl | rfl, ?_⟩) (by assumption) ?_
    rotate_left
    · (intro wS hSw; (try dsimp only at hSw); have z0 := cell_ext hSw y0; have z1 := cell_ext hSw y1; have z2 := cell_ext hSw y2; have z3 := cell_ext hSw y3; have z4 := cell_ext hSw y4; have z5 := cell_ext hSw y5; have z6 := cell_ext hSw y6; have z7 := cell_ext hSw y7; have z8 := cell_ext hSw y8; have z9 := cell_ext hSw y9; (try go_simp); (try with_reducible rfl))
    try simp only [Act.put, s1, s2, s3]
    refine wpAnyH_ready (rs := [10]) (by kernel_rfl) (by simp) ?_
    refine AllReadyH.cons rfl (fun KQ hKQ => ?_) AllReadyH.nil
    go_simp
    (refine (ent_any As x.sh.length cs x.sh _ (Lib.hid (hX.out.nd.sh.ext (kk.trans (kc.trans (by repeat (first | exact Ext.refl _ | assumption | refine Ext.drew ?_ | refine Ext.drewN ?_ _ | refine Ext.alloc ?_ _))))))).mono ?_; rintro e7 w7 ⟨rfl, rfl⟩)
    refine hKQ.out _ _ ?_ (fun hHeld => ?_)
    · (try dsimp only); repeat (first | exact Ext.refl _ | assumption | refine Ext.drew ?_ | refine Ext.drewN ?_ _ | refine Ext.alloc ?_ _)
    clear hKQ KQ
    try simp only [Act.put, s1, s2, s3]
    refine wpAnyH_take (i := 11) (oi := _) (v := ?_) rfl (by kernel_rfl) (by kernel_rfl) (by kernel_rfl) (fun _ _ _ h => h) (Or.inl ⟨by first | kernel_rfl | rfl, ?_⟩) (by assumption) ?_
    rotate_left
    · (intro wS hSw; (try dsimp only at hSw); have z0 := cell_ext hSw y0; have z1 := cell_ext hSw y1; have z2 := cell_ext hSw y2; have z3 := cell_ext hSw y3; have z4 := cell_ext hSw y4; have z5 := cell_ext hSw y5; have z6 := cell_ext hSw y6; have z7 := cell_ext hSw y7; have z8 := cell_ext hSw y8; have z9 := cell_ext hSw y9; (try go_simp); (try with_reducible rfl))
    try simp only [Act.put, s1, s2, s3]
    refine wpAnyH_take (i := 12) (oi := _) (v := ?_) rfl (by kernel_rfl) (by kernel_rfl) (by kernel_rfl) (fun _ _ _ h => h) (Or.inl ⟨by first | kernel_rfl | rfl, ?_⟩) (by assumption) ?_
    rotate_left
    · (intro wS hSw; (try dsimp only at hSw); have z0 := cell_ext hSw y0; have z1 := cell_ext hSw y1; have z2 := cell_ext hSw y2; have z3 := cell_ext hSw y3; have z4 := cell_ext hSw y4; have z5 := cell_ext hSw y5; have z6 := cell_ext hSw y6; have z7 := cell_ext hSw y7; have z8 := cell_ext hSw y8; have z9 := cell_ext hSw y9; (try go_simp); (try with_reducible rfl))
    try simp only [Act.put, s1, s2, s3]
    refine wpAnyH_ready (rs := [13]) (by kernel_rfl) (by simp) ?_
    refine AllReadyH.cons rfl (fun KQ hKQ => ?_) AllReadyH.nil
    go_simp
    refine hKQ.out _ _ ?_ (fun hHeld => ?_)
    · (try dsimp only); repeat (first | exact Ext.refl _ | assumption | refine Ext.drew ?_ | refine Ext.drewN ?_ _ | refine Ext.alloc ?_ _)
    clear hKQ KQ
    try simp only [Act.put, s1, s2, s3]
    refine wpAnyH_done (by kernel_rfl) ?_ _
    go_wp2
    go_ret
    exact ⟨by show Ending.returned (.bool (decide ((x.da.length : Int) = entN x.sh))) = _; rw [decide_eq_true HP.out, Bool.true_and], kk.trans (kc.trans (by repeat (first | exact Ext.refl _ | assumption | refine Ext.drew ?_ | refine Ext.drewN ?_ _ | refine Ext.alloc ?_ _)))⟩
  · have HP := Lib.hid hp
    clear hp
    refine wp_region_held_drew (S := (fun w' => Ext V w')) (by kernel_rfl) ?_ (fun hHeld => ?_)
    · (try dsimp only); repeat (first | exact Ext.refl _ | assumption | refine Ext.drew ?_ | refine Ext.drewN ?_ _ | refine Ext.alloc ?_ _)
    refine wpAnyH_take (i := 0) (oi := _) (v := ?_) rfl (by kernel_rfl) (by kernel_rfl) (by kernel_rfl) (fun _ _ _ h => h) (Or.inl ⟨by first | kernel_rfl | rfl, ?_⟩) (by assumption) ?_
    rotate_left
    · (intro wS hSw; (try dsimp only at hSw); have z0 := cell_ext hSw y0; have z1 := cell_ext hSw y1; have z2 := cell_ext hSw y2; have z3 := cell_ext hSw y3; have z4 := cell_ext hSw y4; have z5 := cell_ext hSw y5; have z6 := cell_ext hSw y6; have z7 := cell_ext hSw y7; have z8 := cell_ext hSw y8; have z9 := cell_ext hSw y9; (try go_simp); (try with_reducible rfl))
    try simp only [Act.put, s1, s2, s3]
    refine wpAnyH_ready (rs := [1]) (by kernel_rfl) (by simp) ?_
    refine AllReadyH.cons rfl (fun KQ hKQ => ?_) AllReadyH.nil
    go_simp
    (refine (hasShape_any x As Ad Ab Ah cs cd cb ch shs _ (Lib.hid (hX.out.ext (kk.trans (by repeat (first | exact Ext.refl _ | assumption | refine Ext.drew ?_ | refine Ext.drewN ?_ _ | refine Ext.alloc ?_ _)))))).mono ?_; rintro e5 w5 ⟨rfl, k5⟩; rw [decide_eq_false HP.out]; have kc : Ext V w5 := Ext.trans (by repeat (first | exact Ext.refl _ | assumption | refine Ext.drew ?_ | refine Ext.drewN ?_ _ | refine Ext.alloc ?_ _)) k5)
    refine hKQ.out _ _ ?_ (fun hHeld => ?_)
    · (try dsimp only); repeat (first | exact Ext.refl _ | assumption | refine Ext.drew ?_ | refine Ext.drewN ?_ _ | refine Ext.alloc ?_ _)
    clear hKQ KQ
    try simp only [Act.put, s1, s2, s3]
    refine wpAnyH_take (i := 2) (oi := _) (v := ?_) rfl (by kernel_rfl) (by kernel_rfl) (by kernel_rfl) (fun _ _ _ h => h) (Or.inl ⟨by first | kernel_rfl | rfl, ?_⟩) (by assumption) ?_
    rotate_left
    · (intro wS hSw; (try dsimp only at hSw); have z0 := cell_ext hSw y0; have z1 := cell_ext hSw y1; have z2 := cell_ext hSw y2; have z3 := cell_ext hSw y3; have z4 := cell_ext hSw y4; have z5 := cell_ext hSw y5; have z6 := cell_ext hSw y6; have z7 := cell_ext hSw y7; have z8 := cell_ext hSw y8; have z9 := cell_ext hSw y9; (try go_simp); (try with_reducible rfl))
    try simp only [Act.put, s1, s2, s3]
    refine wpAnyH_take (i := 3) (oi := _) (v := undef) rfl (by kernel_rfl) (by kernel_rfl) (by kernel_rfl) (fun _ _ _ h => h) (Or.inr ⟨by kernel_rfl, rfl⟩) (by assumption) ?_
    try simp only [Act.put, s1, s2, s3]
    refine wpAnyH_take (i := 4) (oi := _) (v := undef) rfl (by kernel_rfl) (by kernel_rfl) (by kernel_rfl) (fun _ _ _ h => h) (Or.inr ⟨by kernel_rfl, rfl⟩) (by assumption) ?_
    try simp only [Act.put, s1, s2, s3]
    refine wpAnyH_take (i := 5) (oi := _) (v := undef) rfl (by kernel_rfl) (by kernel_rfl) (by kernel_rfl) (fun _ _ _ h => h) (Or.inr ⟨by kernel_rfl, rfl⟩) (by assumption) ?_
    try simp only [Act.put, s1, s2, s3]
    refine wpAnyH_take (i := 6) (oi := _) (v := undef) rfl (by kernel_rfl) (by kernel_rfl) (by kernel_rfl) (fun _ _ _ h => h) (Or.inr ⟨by kernel_rfl, rfl⟩) (by assumption) ?_
    try simp only [Act.put, s1, s2, s3]
    refine wpAnyH_take (i := 7) (oi := _) (v := undef) rfl (by kernel_rfl) (by kernel_rfl) (by kernel_rfl) (fun _ _ _ h => h) (Or.inr ⟨by kernel_rfl, rfl⟩) (by assumption) ?_
    try simp only [Act.put, s1, s2, s3]
    refine wpAnyH_take (i := 8) (oi := _) (v := undef) rfl (by kernel_rfl) (by kernel_rfl) (by kernel_rfl) (fun _ _ _ h => h) (Or.inr ⟨by kernel_rfl, rfl⟩) (by assumption) ?_
    try simp only [Act.put, s1, s2, s3]
    refine wpAnyH_take (i := 9) (oi := _) (v := undef) rfl (by kernel_rfl) (by kernel_rfl) (by kernel_rfl) (fun _ _ _ h => h) (Or.inr ⟨by kernel_rfl, rfl⟩) (by assumption) ?_
    try simp only [Act.put, s1, s2, s3]
    refine wpAnyH_take (i := 10) (oi := _) (v := undef) rfl (by kernel_rfl) (by kernel_rfl) (by kernel_rfl) (fun _ _ _ h => h) (Or.inr ⟨by kernel_rfl, rfl⟩) (by assumption) ?_
    try simp only [Act.put, s1, s2, s3]
    refine wpAnyH_take (i := 11) (oi := _) (v := undef) rfl (by kernel_rfl) (by kernel_rfl) (by kernel_rfl) (fun _ _ _ h => h) (Or.inr ⟨by kernel_rfl, rfl⟩) (by assumption) ?_
    try simp only [Act.put, s1, s2, s3]
    refine wpAnyH_take (i := 12) (oi := _) (v := ?_) rfl (by kernel_rfl) (by kernel_rfl) (by kernel_rfl) (fun _ _ _ h => h) (Or.inl ⟨by first | kernel_rfl | rfl, ?_⟩) (by assumption) ?_
    rotate_left
    · (intro wS hSw; (try dsimp only at hSw); have z0 := cell_ext hSw y0; have z1 := cell_ext hSw y1; have z2 := cell_ext hSw y2; have z3 := cell_ext hSw y3; have z4 := cell_ext hSw y4; have z5 := cell_ext hSw y5; have z6 := cell_ext hSw y6; have z7 := cell_ext hSw y7; have z8 := cell_ext hSw y8; have z9 := cell_ext hSw y9; (try go_simp); (try with_reducible rfl))
    try simp only [Act.put, s1, s2, s3]
    refine wpAnyH_ready (rs := [13]) (by kernel_rfl) (by simp) ?_
    refine AllReadyH.cons rfl (fun KQ hKQ => ?_) AllReadyH.nil
    go_simp
    refine hKQ.out _ _ ?_ (fun hHeld => ?_)
    · (try dsimp only); repeat (first | exact Ext.refl _ | assumption | refine Ext.drew ?_ | refine Ext.drewN ?_ _ | refine Ext.alloc ?_ _)
    clear hKQ KQ
    try simp only [Act.put, s1, s2, s3]
    refine wpAnyH_done (by kernel_rfl) ?_ _
    go_wp2
    go_ret
    exact ⟨by show Ending.returned (.bool false) = _; rw [decide_eq_false (show ¬ 0 < entN x.sh by have := HP.out; omega), Bool.false_and], kk.trans (kc.trans (by repeat (first | exact Ext.refl _ | assumption | refine Ext.drew ?_ | refine Ext.drewN ?_ _ | refine Ext.alloc ?_ _)))⟩
/-- May these be a kernel's numbers? -/
def cntB (l : List Int) : Bool := l.all fun d => decide (1 ≤ d) && decide (d ≤ 64)
def prodL : List Int → Int
  | [] => 1
  | d :: r => d * prodL r
def kernB (sh : List Int) (nd nb : Int) : Bool := decide (sh.length = 4) && cntB sh && (decide (nd = prodL sh) && decide (nb = sh.getD 0 0))
theorem cntB_cons (d : Int) (l : List Int) : cntB (d :: l) = ((decide (1 ≤ d) && decide (d ≤ 64)) && cntB l) := rfl
theorem four_list {s : List Int} (h : s.length = 4) : ∃ a b c d, s = [a, b, c, d] := by
  match s, h with
  | [a, b, c, d], _ => exact ⟨a, b, c, d, rfl⟩
theorem pow_in {k : Nat} (h : k < 4) : (64 : Int) ^ k ≤ 262144 := by
  rcases (show k = 0 ∨ k = 1 ∨ k = 2 ∨ k = 3 by omega) with rfl | rfl | rfl | rfl <;> decide
theorem mul_in {a b : Int} {A : Int} (h0 : 1 ≤ a) (h1 : a ≤ A) (h2 : 1 ≤ b) (h3 : b ≤ 64) : 1 ≤ a * b ∧ a * b ≤ A * 64 := by
  have u := Int.mul_le_mul h0 h2 (by omega) (by omega)
  have v := Int.mul_le_mul h1 h3 (by omega) (by omega)
  omega
set_option maxHeartbeats 4000000 in
theorem hasKernel_any (x : Nd) (As Ad Ab Ah : Option Addr) (cs cd cb ch : Nat) (shs : List (List Int)) (w : World) (hX : Hid (Plc w x As Ad Ab Ah cs cd cb ch shs)) :
    Calls Try.prog 68 #[.agg #[.int .i64 x.k, .int .i64 x.a, .int .i64 x.b, .slice As x.sh.length cs, .int .i64 x.lo, .int .i64 x.hi, .int .i64 x.sz, .slice Ad x.da.length cd, .slice Ab x.bi.length cb, .slice Ah shs.length ch]] w fun e w' => e = .returned (.bool (kernB x.sh x.da.length x.bi.length)) ∧ Ext w w' := by
  obtain ⟨y0, y1, y2, y3, y4, y5, y6, y7, y8, y9⟩ := ten_at w (.int .i64 x.k) (.int .i64 x.a) (.int .i64 x.b) (.slice As x.sh.length cs) (.int .i64 x.lo) (.int .i64 x.hi) (.int .i64 x.sz) (.slice Ad x.da.length cd) (.slice Ab x.bi.length cb) (.slice Ah shs.length ch) 65
  have kk : Ext w (w.alloc (.cells #[.int .i64 x.k, .int .i64 x.a, .int .i64 x.b, .slice As x.sh.length cs, .int .i64 x.lo, .int .i64 x.hi, .int .i64 x.sz, .slice Ad x.da.length cd, .slice Ab x.bi.length cb, .slice Ah shs.length ch] 65)) := (Ext.refl w).alloc _
  go_enter Try.func68, Try.ntmps68
  have L1 := hX.out.nd.lda
  have L2 := hX.out.nd.lbi
  by_cases h4 : x.sh.length = 4
  · have hl4 : (x.sh.length : Int) = 4 := by omega
    obtain ⟨k0, k1, k2, k3, hsh⟩ := four_list h4
    have HS := Lib.hid hsh
    clear hsh
    obtain ⟨ads, has, hcs⟩ := (hX.out.nd.sh.ext kk).cells (by omega)
    have q0 := hcs 0 k0 (by rw [HS.out]; rfl)
    rw [add0J] at q0
    have HCS := Lib.hid hcs
    clear hcs
    obtain rfl := has
    have n0 : (0 : Int) < (x.sh.length : Int) := by omega
    have HR0 := Lib.hid (show kernB x.sh x.da.length x.bi.length = (cntB x.sh && (decide ((x.da.length : Int) = prodL x.sh) && decide ((x.bi.length : Int) = k0))) by rw [kernB, decide_eq_true h4, Bool.true_and, show x.sh.getD 0 0 = k0 by rw [HS.out]; rfl])
    have H4 := Lib.hid h4
    clear h4
    go_wp2_with fail
    go_loop [3, 15] (fun m i => ∃ (k : Nat) (z : Int), k ≤ 4 ∧ 1 ≤ z ∧ z ≤ 64 ^ k ∧ i = .int .i64 (k : Int) ∧ m = .int .i64 z ∧ Hid (cntB x.sh = cntB (x.sh.drop k)) ∧ Hid (prodL x.sh = z * prodL (x.sh.drop k))) (fun _ i => 4 - (intOf i).toNat)
    case atStart => exact ⟨0, 1, by omega, by omega, by simp, rfl, rfl, Lib.hid rfl, Lib.hid (by rw [Int.one_mul]; rfl)⟩
    case round =>
      obtain ⟨k, z, hk, hz1, hz2, rfl, rfl, hC, hP⟩ := hrel
      by_cases hlt : k < 4
      · obtain ⟨v, hv⟩ : ∃ v, x.sh[k]? = some v := ⟨_, List.getElem?_eq_getElem (by have := H4.out; omega)⟩
        have hdr := Lib.hid (drop_at hv)
        have hc := HCS.out k v hv
        have hzz : z ≤ 262144 := Int.le_trans hz2 (pow_in hlt)
        have hz3 := Lib.hid hz2
        clear hv hz2
        have u0 : (0 : Int) ≤ (k : Int) := by omega
        have u1 : (k : Int) < (x.sh.length : Int) := by have := H4.out; omega
        go_wp2_with fail
        refine (isCount_any v _).mono ?_
        rintro e5 w5 ⟨rfl, rfl⟩
        obtain ⟨b, hb⟩ : ∃ b, (decide (1 ≤ v) && decide (v ≤ 64)) = b := ⟨_, rfl⟩
        have HB := Lib.hid hb
        rw [hb]
        clear hb
        cases b
        · have HR := Lib.hid (show kernB x.sh x.da.length x.bi.length = false by rw [HR0.out, hC.out, hdr.out, cntB_cons, HB.out, Bool.false_and, Bool.false_and])
          go_wp2
          go_ret
          exact ⟨by show Ending.returned (.bool false) = _; rw [HR.out], kk⟩
        · obtain ⟨v1, v2⟩ : 1 ≤ v ∧ v ≤ 64 := by simpa using HB.out
          obtain ⟨m1, m2⟩ := mul_in hz1 hzz v1 v2
          have HC2 := Lib.hid (show cntB x.sh = cntB (x.sh.drop (k + 1)) by rw [hC.out, hdr.out, cntB_cons, HB.out, Bool.true_and])
          have HP2 := Lib.hid (show prodL x.sh = z * v * prodL (x.sh.drop (k + 1)) by rw [hP.out, hdr.out, prodL, Int.mul_assoc])
          have HZ2 := Lib.hid (show z * v ≤ 64 ^ (k + 1) from (mul_in hz1 hz3.out v1 v2).2)
          go_wp2
          go_round
          case rel => exact ⟨k + 1, z * v, by omega, by omega, HZ2.out, by go_num, by first | rfl | go_num, HC2, HP2⟩
          case measure => simp [intOf]; omega
      · obtain rfl : k = 4 := by omega
        have hd : x.sh.drop 4 = [] := List.drop_eq_nil_of_le (by have := H4.out; omega)
        have hpz : prodL x.sh = z := by rw [hP.out, hd]; exact Int.mul_one _
        have HR := Lib.hid (show kernB x.sh x.da.length x.bi.length = (decide ((x.da.length : Int) = z) && decide ((x.bi.length : Int) = k0)) by rw [HR0.out, hC.out, hd, hpz]; rfl)
        clear hd hpz hz2
        by_cases e1 : (x.da.length : Int) = z
        · have E1 := Lib.hid e1
          go_wp2_with fail
          go_quiet (fail)
          go_wp2
          go_ret
          exact ⟨by show Ending.returned (.bool (decide ((x.bi.length : Int) = k0))) = _; rw [HR.out, decide_eq_true E1.out, Bool.true_and], kk.trans (by repeat (first | exact Ext.refl _ | refine Ext.drewN ?_ _))⟩
        · have E1 := Lib.hid e1
          go_wp2_with fail
          go_quiet (fail)
          go_wp2
          go_ret
          exact ⟨by show Ending.returned (.bool false) = _; rw [HR.out, decide_eq_false E1.out, Bool.false_and], kk.trans (by repeat (first | exact Ext.refl _ | refine Ext.drewN ?_ _))⟩
  · have hl4 : ¬ (x.sh.length : Int) = 4 := by omega
    have HR := Lib.hid (show kernB x.sh x.da.length x.bi.length = false by unfold kernB; rw [decide_eq_false h4]; rfl)
    clear h4
    go_wp2
    go_ret
    exact ⟨by show Ending.returned (.bool false) = _; rw [HR.out], kk⟩
end Go.Proofs.Ytjeipbahddhfgaa
