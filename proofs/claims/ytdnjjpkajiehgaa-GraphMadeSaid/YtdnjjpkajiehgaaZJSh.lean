/-
  The shapes that a place's kinds tell.
-/
import Derived.Test.YtdnjjpkajiehgaaZ9
namespace Go.Proofs.Ytdnjjpkajiehgaa
open Go.RowKit
set_option linter.unusedVariables false
set_option maxRecDepth 100000

/-- A shape that is told, or none. -/
def ShO (w : World) (o : Option (List Int)) (e : Ending) (w' : World) : Prop :=
  (∃ s A c, o = some s ∧ e = .returned (.slice A s.length c) ∧ ZX w' A s.length c s ∧ Frsh w.heap.size A ∧ Ext w w') ∨ (o = none ∧ e = .returned (.slice none 0 0) ∧ Ext w w')
theorem zx_new1 (w : World) (z : Int) : ZX (w.alloc (.cells #[.int .i64 z] 3)) (some ⟨w.heap.size, 0, none⟩) 1 1 [z] :=
  ⟨rfl, Nat.le_refl _, fun _ => ⟨_, rfl, fun j x hx => by
    rcases j with _ | j
    · simp at hx
      subst hx
      rw [Addr.add_lit]
      simp
    · simp at hx⟩⟩
theorem zx_new3 (w : World) (a b c : Int) : ZX (w.alloc (.cells #[.int .i64 a, .int .i64 b, .int .i64 c] 3)) (some ⟨w.heap.size, 0, none⟩) 3 3 [a, b, c] :=
  ⟨rfl, Nat.le_refl _, fun _ => ⟨_, rfl, fun j x hx => by
    rcases j with _ | _ | _ | j
    · simp at hx
      subst hx
      rw [Addr.add_lit]
      simp
    · simp at hx
      subst hx
      rw [Addr.add_lit]
      simp
    · simp at hx
      subst hx
      rw [Addr.add_lit]
      simp
    · simp at hx⟩⟩
set_option maxHeartbeats 1000000 in
theorem dense_any (x : Nd) (As Ad Ab Ah : Option Addr) (cs cd cb ch : Nat) (shs : List (List Int)) (w : World) (hX : Hid (Plc w x As Ad Ab Ah cs cd cb ch shs)) (i : Nat) (s : List Int) (hi : Hid (x.a = (i : Int))) (hs : Hid (shs[i]? = some s)) :
    Calls Try.prog 95 #[.agg #[.int .i64 x.k, .int .i64 x.a, .int .i64 x.b, .slice As x.sh.length cs, .int .i64 x.lo, .int .i64 x.hi, .int .i64 x.sz, .slice Ad x.da.length cd, .slice Ab x.bi.length cb, .slice Ah shs.length ch]] w fun e w' => ShO w (if (x.da.length : Int) = x.bi.length * entN s then some [(x.bi.length : Int)] else none) e w' := by
  obtain ⟨q0, q1⟩ := entN_le s
  have l1 := hX.out.nd.lbi
  have l2 := hX.out.nd.lda
  have p0 : (0 : Int) ≤ (x.bi.length : Int) * entN s := Int.mul_nonneg (by omega) q0
  have p1 : (x.bi.length : Int) * entN s ≤ 100000 * 64 := Int.mul_le_mul (by omega) q1 q0 (by omega)
  obtain ⟨y0, y1, y2, y3, y4, y5, y6, y7, y8, y9⟩ := ten_at w (.int .i64 x.k) (.int .i64 x.a) (.int .i64 x.b) (.slice As x.sh.length cs) (.int .i64 x.lo) (.int .i64 x.hi) (.int .i64 x.sz) (.slice Ad x.da.length cd) (.slice Ab x.bi.length cb) (.slice Ah shs.length ch) 71
  have kk : Ext w (w.alloc (.cells #[.int .i64 x.k, .int .i64 x.a, .int .i64 x.b, .slice As x.sh.length cs, .int .i64 x.lo, .int .i64 x.hi, .int .i64 x.sz, .slice Ad x.da.length cd, .slice Ab x.bi.length cb, .slice Ah shs.length ch] 71)) := (Ext.refl w).alloc _
  go_enter Try.func95, Try.ntmps95
  go_wp2_with fail
  generalize w.alloc (.cells #[.int .i64 x.k, .int .i64 x.a, .int .i64 x.b, .slice As x.sh.length cs, .int .i64 x.lo, .int .i64 x.hi, .int .i64 x.sz, .slice Ad x.da.length cd, .slice Ab x.bi.length cb, .slice Ah shs.length ch] 71) = V at *
  by_cases hdd : (x.da.length : Int) = (x.bi.length : Int) * entN s
  all_goals have hd := Lib.hid hdd; clear hdd
  · refine wp_region_held_drew (S := (fun w' => Ext V w')) (by kernel_rfl) ?_ (fun hHeld => ?_)
    · (try dsimp only); repeat (first | exact Ext.refl _ | assumption | refine Ext.drew ?_ | refine Ext.alloc ?_ _)
    refine wpAnyH_take (i := 0) (oi := _) (v := ?_) rfl (by kernel_rfl) (by kernel_rfl) (by kernel_rfl) (fun _ _ _ h => h) (Or.inl ⟨by rfl, ?_⟩) (by assumption) ?_
    rotate_left
    · (intro wS hSw; (try dsimp only at hSw); have z0 := cell_ext hSw y0; have z1 := cell_ext hSw y1; have z2 := cell_ext hSw y2; have z3 := cell_ext hSw y3; have z4 := cell_ext hSw y4; have z5 := cell_ext hSw y5; have z6 := cell_ext hSw y6; have z7 := cell_ext hSw y7; have z8 := cell_ext hSw y8; have z9 := cell_ext hSw y9; (try go_simp); (try with_reducible rfl))
    try simp only [Act.put, s1, s2, s3]
    refine wpAnyH_take (i := 1) (oi := _) (v := ?_) rfl (by kernel_rfl) (by kernel_rfl) (by kernel_rfl) (fun _ _ _ h => h) (Or.inl ⟨by rfl, ?_⟩) (by assumption) ?_
    rotate_left
    · (intro wS hSw; (try dsimp only at hSw); have z0 := cell_ext hSw y0; have z1 := cell_ext hSw y1; have z2 := cell_ext hSw y2; have z3 := cell_ext hSw y3; have z4 := cell_ext hSw y4; have z5 := cell_ext hSw y5; have z6 := cell_ext hSw y6; have z7 := cell_ext hSw y7; have z8 := cell_ext hSw y8; have z9 := cell_ext hSw y9; (try go_simp); (try with_reducible rfl))
    try simp only [Act.put, s1, s2, s3]
    refine wpAnyH_take (i := 2) (oi := _) (v := ?_) rfl (by kernel_rfl) (by kernel_rfl) (by kernel_rfl) (fun _ _ _ h => h) (Or.inl ⟨by rfl, ?_⟩) (by assumption) ?_
    rotate_left
    · (intro wS hSw; (try dsimp only at hSw); have z0 := cell_ext hSw y0; have z1 := cell_ext hSw y1; have z2 := cell_ext hSw y2; have z3 := cell_ext hSw y3; have z4 := cell_ext hSw y4; have z5 := cell_ext hSw y5; have z6 := cell_ext hSw y6; have z7 := cell_ext hSw y7; have z8 := cell_ext hSw y8; have z9 := cell_ext hSw y9; (try go_simp); (try with_reducible rfl))
    try simp only [Act.put, s1, s2, s3]
    refine wpAnyH_take (i := 3) (oi := _) (v := ?_) rfl (by kernel_rfl) (by kernel_rfl) (by kernel_rfl) (fun _ _ _ h => h) (Or.inl ⟨by rfl, ?_⟩) (by assumption) ?_
    rotate_left
    · (intro wS hSw; (try dsimp only at hSw); have z0 := cell_ext hSw y0; have z1 := cell_ext hSw y1; have z2 := cell_ext hSw y2; have z3 := cell_ext hSw y3; have z4 := cell_ext hSw y4; have z5 := cell_ext hSw y5; have z6 := cell_ext hSw y6; have z7 := cell_ext hSw y7; have z8 := cell_ext hSw y8; have z9 := cell_ext hSw y9; (try go_simp); (try with_reducible rfl))
    try simp only [Act.put, s1, s2, s3]
    refine wpAnyH_take (i := 4) (oi := _) (v := ?_) rfl (by kernel_rfl) (by kernel_rfl) (by kernel_rfl) (fun _ _ _ h => h) (Or.inl ⟨by rfl, ?_⟩) (by assumption) ?_
    rotate_left
    · (intro wS hSw; (try dsimp only at hSw); have z0 := cell_ext hSw y0; have z1 := cell_ext hSw y1; have z2 := cell_ext hSw y2; have z3 := cell_ext hSw y3; have z4 := cell_ext hSw y4; have z5 := cell_ext hSw y5; have z6 := cell_ext hSw y6; have z7 := cell_ext hSw y7; have z8 := cell_ext hSw y8; have z9 := cell_ext hSw y9; (try go_simp); (try with_reducible rfl))
    try simp only [Act.put, s1, s2, s3]
    refine wpAnyH_take (i := 5) (oi := _) (v := ?_) rfl (by kernel_rfl) (by kernel_rfl) (by kernel_rfl) (fun _ _ _ h => h) (Or.inl ⟨by rfl, ?_⟩) (by assumption) ?_
    rotate_left
    · (intro wS hSw; (try dsimp only at hSw); have z0 := cell_ext hSw y0; have z1 := cell_ext hSw y1; have z2 := cell_ext hSw y2; have z3 := cell_ext hSw y3; have z4 := cell_ext hSw y4; have z5 := cell_ext hSw y5; have z6 := cell_ext hSw y6; have z7 := cell_ext hSw y7; have z8 := cell_ext hSw y8; have z9 := cell_ext hSw y9; (try go_simp); (try with_reducible rfl))
    try simp only [Act.put, s1, s2, s3]
    refine wpAnyH_take (i := 6) (oi := _) (v := ?_) rfl (by kernel_rfl) (by kernel_rfl) (by kernel_rfl) (fun _ _ _ h => h) (Or.inl ⟨by rfl, ?_⟩) (by assumption) ?_
    rotate_left
    · (intro wS hSw; (try dsimp only at hSw); have z0 := cell_ext hSw y0; have z1 := cell_ext hSw y1; have z2 := cell_ext hSw y2; have z3 := cell_ext hSw y3; have z4 := cell_ext hSw y4; have z5 := cell_ext hSw y5; have z6 := cell_ext hSw y6; have z7 := cell_ext hSw y7; have z8 := cell_ext hSw y8; have z9 := cell_ext hSw y9; (try go_simp); (try with_reducible rfl))
    try simp only [Act.put, s1, s2, s3]
    refine wpAnyH_take (i := 7) (oi := _) (v := ?_) rfl (by kernel_rfl) (by kernel_rfl) (by kernel_rfl) (fun _ _ _ h => h) (Or.inl ⟨by rfl, ?_⟩) (by assumption) ?_
    rotate_left
    · (intro wS hSw; (try dsimp only at hSw); have z0 := cell_ext hSw y0; have z1 := cell_ext hSw y1; have z2 := cell_ext hSw y2; have z3 := cell_ext hSw y3; have z4 := cell_ext hSw y4; have z5 := cell_ext hSw y5; have z6 := cell_ext hSw y6; have z7 := cell_ext hSw y7; have z8 := cell_ext hSw y8; have z9 := cell_ext hSw y9; (try go_simp); (try with_reducible rfl))
    try simp only [Act.put, s1, s2, s3]
    refine wpAnyH_take (i := 8) (oi := _) (v := ?_) rfl (by kernel_rfl) (by kernel_rfl) (by kernel_rfl) (fun _ _ _ h => h) (Or.inl ⟨by rfl, ?_⟩) (by assumption) ?_
    rotate_left
    · (intro wS hSw; (try dsimp only at hSw); have z0 := cell_ext hSw y0; have z1 := cell_ext hSw y1; have z2 := cell_ext hSw y2; have z3 := cell_ext hSw y3; have z4 := cell_ext hSw y4; have z5 := cell_ext hSw y5; have z6 := cell_ext hSw y6; have z7 := cell_ext hSw y7; have z8 := cell_ext hSw y8; have z9 := cell_ext hSw y9; (try go_simp); (try with_reducible rfl))
    try simp only [Act.put, s1, s2, s3]
    refine wpAnyH_ready (rs := [9]) (by kernel_rfl) (by simp) ?_
    refine AllReadyH.cons rfl (fun KQ hKQ => ?_) AllReadyH.nil
    go_simp
    (refine (taken_any x As Ad Ab Ah cs cd cb ch shs _ (Lib.hid (hX.out.ext (kk.trans (by repeat (first | exact Ext.refl _ | assumption | refine Ext.drew ?_ | refine Ext.alloc ?_ _))))) i s hi.out hs).mono ?_; rintro e5 w5 ⟨A5, c5, rfl, hz5, hf5, k5⟩; have kc : Ext V w5 := Ext.trans (by repeat (first | exact Ext.refl _ | assumption | refine Ext.drew ?_ | refine Ext.alloc ?_ _)) k5; have H5 := Lib.hid hz5; clear hz5 hf5)
    refine hKQ.out _ _ ?_ (fun hHeld => ?_)
    · (try dsimp only); repeat (first | exact Ext.refl _ | assumption | refine Ext.drew ?_ | refine Ext.alloc ?_ _)
    clear hKQ KQ
    try simp only [Act.put, s1, s2, s3]
    refine wpAnyH_ready (rs := [10]) (by kernel_rfl) (by simp) ?_
    refine AllReadyH.cons rfl (fun KQ hKQ => ?_) AllReadyH.nil
    go_simp
    (refine (ent_any A5 s.length c5 s _ (Lib.hid (H5.out.ext (by repeat (first | exact Ext.refl _ | refine Ext.drew ?_))))).mono ?_; rintro e6 w6 ⟨rfl, rfl⟩)
    refine hKQ.out _ _ ?_ (fun hHeld => ?_)
    · (try dsimp only); repeat (first | exact Ext.refl _ | assumption | refine Ext.drew ?_ | refine Ext.alloc ?_ _)
    clear hKQ KQ
    try simp only [Act.put, s1, s2, s3]
    refine wpAnyH_take (i := 11) (oi := _) (v := ?_) rfl (by kernel_rfl) (by kernel_rfl) (by kernel_rfl) (fun _ _ _ h => h) (Or.inl ⟨by rfl, ?_⟩) (by assumption) ?_
    rotate_left
    · (intro wS hSw; (try dsimp only at hSw); have z0 := cell_ext hSw y0; have z1 := cell_ext hSw y1; have z2 := cell_ext hSw y2; have z3 := cell_ext hSw y3; have z4 := cell_ext hSw y4; have z5 := cell_ext hSw y5; have z6 := cell_ext hSw y6; have z7 := cell_ext hSw y7; have z8 := cell_ext hSw y8; have z9 := cell_ext hSw y9; (try go_simp); (try with_reducible rfl))
    try simp only [Act.put, s1, s2, s3]
    refine wpAnyH_ready (rs := [12]) (by kernel_rfl) (by simp) ?_
    refine AllReadyH.cons rfl (fun KQ hKQ => ?_) AllReadyH.nil
    go_simp
    refine hKQ.out _ _ ?_ (fun hHeld => ?_)
    · (try dsimp only); repeat (first | exact Ext.refl _ | assumption | refine Ext.drew ?_ | refine Ext.alloc ?_ _)
    clear hKQ KQ
    try simp only [Act.put, s1, s2, s3]
    refine wpAnyH_done (by kernel_rfl) ?_ _
    have hdd := hd.out
    have hw : IntKind.i64.wrap ((x.bi.length : Int) * entN s) = (x.bi.length : Int) * entN s := by rw [IntKind.wrap_i64]; omega
    replace y8 := cell_ext kc y8
    go_wp2
    go_ret
    refine .inl ⟨[(x.bi.length : Int)], _, _, (by first | rfl | exact if_pos hd.out), rfl, zx_new1 _ _, ?_, ?_⟩
    · intro ad e; injection e with e; subst e; have := kk.size; have := kc.size; simp; omega
    · exact kk.trans (kc.trans (by repeat (first | exact Ext.refl _ | assumption | refine Ext.drew ?_ | refine Ext.alloc ?_ _)))
  · refine wp_region_held_drew (S := (fun w' => Ext V w')) (by kernel_rfl) ?_ (fun hHeld => ?_)
    · (try dsimp only); repeat (first | exact Ext.refl _ | assumption | refine Ext.drew ?_ | refine Ext.alloc ?_ _)
    refine wpAnyH_take (i := 0) (oi := _) (v := ?_) rfl (by kernel_rfl) (by kernel_rfl) (by kernel_rfl) (fun _ _ _ h => h) (Or.inl ⟨by rfl, ?_⟩) (by assumption) ?_
    rotate_left
    · (intro wS hSw; (try dsimp only at hSw); have z0 := cell_ext hSw y0; have z1 := cell_ext hSw y1; have z2 := cell_ext hSw y2; have z3 := cell_ext hSw y3; have z4 := cell_ext hSw y4; have z5 := cell_ext hSw y5; have z6 := cell_ext hSw y6; have z7 := cell_ext hSw y7; have z8 := cell_ext hSw y8; have z9 := cell_ext hSw y9; (try go_simp); (try with_reducible rfl))
    try simp only [Act.put, s1, s2, s3]
    refine wpAnyH_take (i := 1) (oi := _) (v := ?_) rfl (by kernel_rfl) (by kernel_rfl) (by kernel_rfl) (fun _ _ _ h => h) (Or.inl ⟨by rfl, ?_⟩) (by assumption) ?_
    rotate_left
    · (intro wS hSw; (try dsimp only at hSw); have z0 := cell_ext hSw y0; have z1 := cell_ext hSw y1; have z2 := cell_ext hSw y2; have z3 := cell_ext hSw y3; have z4 := cell_ext hSw y4; have z5 := cell_ext hSw y5; have z6 := cell_ext hSw y6; have z7 := cell_ext hSw y7; have z8 := cell_ext hSw y8; have z9 := cell_ext hSw y9; (try go_simp); (try with_reducible rfl))
    try simp only [Act.put, s1, s2, s3]
    refine wpAnyH_take (i := 2) (oi := _) (v := ?_) rfl (by kernel_rfl) (by kernel_rfl) (by kernel_rfl) (fun _ _ _ h => h) (Or.inl ⟨by rfl, ?_⟩) (by assumption) ?_
    rotate_left
    · (intro wS hSw; (try dsimp only at hSw); have z0 := cell_ext hSw y0; have z1 := cell_ext hSw y1; have z2 := cell_ext hSw y2; have z3 := cell_ext hSw y3; have z4 := cell_ext hSw y4; have z5 := cell_ext hSw y5; have z6 := cell_ext hSw y6; have z7 := cell_ext hSw y7; have z8 := cell_ext hSw y8; have z9 := cell_ext hSw y9; (try go_simp); (try with_reducible rfl))
    try simp only [Act.put, s1, s2, s3]
    refine wpAnyH_take (i := 3) (oi := _) (v := ?_) rfl (by kernel_rfl) (by kernel_rfl) (by kernel_rfl) (fun _ _ _ h => h) (Or.inl ⟨by rfl, ?_⟩) (by assumption) ?_
    rotate_left
    · (intro wS hSw; (try dsimp only at hSw); have z0 := cell_ext hSw y0; have z1 := cell_ext hSw y1; have z2 := cell_ext hSw y2; have z3 := cell_ext hSw y3; have z4 := cell_ext hSw y4; have z5 := cell_ext hSw y5; have z6 := cell_ext hSw y6; have z7 := cell_ext hSw y7; have z8 := cell_ext hSw y8; have z9 := cell_ext hSw y9; (try go_simp); (try with_reducible rfl))
    try simp only [Act.put, s1, s2, s3]
    refine wpAnyH_take (i := 4) (oi := _) (v := ?_) rfl (by kernel_rfl) (by kernel_rfl) (by kernel_rfl) (fun _ _ _ h => h) (Or.inl ⟨by rfl, ?_⟩) (by assumption) ?_
    rotate_left
    · (intro wS hSw; (try dsimp only at hSw); have z0 := cell_ext hSw y0; have z1 := cell_ext hSw y1; have z2 := cell_ext hSw y2; have z3 := cell_ext hSw y3; have z4 := cell_ext hSw y4; have z5 := cell_ext hSw y5; have z6 := cell_ext hSw y6; have z7 := cell_ext hSw y7; have z8 := cell_ext hSw y8; have z9 := cell_ext hSw y9; (try go_simp); (try with_reducible rfl))
    try simp only [Act.put, s1, s2, s3]
    refine wpAnyH_take (i := 5) (oi := _) (v := ?_) rfl (by kernel_rfl) (by kernel_rfl) (by kernel_rfl) (fun _ _ _ h => h) (Or.inl ⟨by rfl, ?_⟩) (by assumption) ?_
    rotate_left
    · (intro wS hSw; (try dsimp only at hSw); have z0 := cell_ext hSw y0; have z1 := cell_ext hSw y1; have z2 := cell_ext hSw y2; have z3 := cell_ext hSw y3; have z4 := cell_ext hSw y4; have z5 := cell_ext hSw y5; have z6 := cell_ext hSw y6; have z7 := cell_ext hSw y7; have z8 := cell_ext hSw y8; have z9 := cell_ext hSw y9; (try go_simp); (try with_reducible rfl))
    try simp only [Act.put, s1, s2, s3]
    refine wpAnyH_take (i := 6) (oi := _) (v := ?_) rfl (by kernel_rfl) (by kernel_rfl) (by kernel_rfl) (fun _ _ _ h => h) (Or.inl ⟨by rfl, ?_⟩) (by assumption) ?_
    rotate_left
    · (intro wS hSw; (try dsimp only at hSw); have z0 := cell_ext hSw y0; have z1 := cell_ext hSw y1; have z2 := cell_ext hSw y2; have z3 := cell_ext hSw y3; have z4 := cell_ext hSw y4; have z5 := cell_ext hSw y5; have z6 := cell_ext hSw y6; have z7 := cell_ext hSw y7; have z8 := cell_ext hSw y8; have z9 := cell_ext hSw y9; (try go_simp); (try with_reducible rfl))
    try simp only [Act.put, s1, s2, s3]
    refine wpAnyH_take (i := 7) (oi := _) (v := ?_) rfl (by kernel_rfl) (by kernel_rfl) (by kernel_rfl) (fun _ _ _ h => h) (Or.inl ⟨by rfl, ?_⟩) (by assumption) ?_
    rotate_left
    · (intro wS hSw; (try dsimp only at hSw); have z0 := cell_ext hSw y0; have z1 := cell_ext hSw y1; have z2 := cell_ext hSw y2; have z3 := cell_ext hSw y3; have z4 := cell_ext hSw y4; have z5 := cell_ext hSw y5; have z6 := cell_ext hSw y6; have z7 := cell_ext hSw y7; have z8 := cell_ext hSw y8; have z9 := cell_ext hSw y9; (try go_simp); (try with_reducible rfl))
    try simp only [Act.put, s1, s2, s3]
    refine wpAnyH_take (i := 8) (oi := _) (v := ?_) rfl (by kernel_rfl) (by kernel_rfl) (by kernel_rfl) (fun _ _ _ h => h) (Or.inl ⟨by rfl, ?_⟩) (by assumption) ?_
    rotate_left
    · (intro wS hSw; (try dsimp only at hSw); have z0 := cell_ext hSw y0; have z1 := cell_ext hSw y1; have z2 := cell_ext hSw y2; have z3 := cell_ext hSw y3; have z4 := cell_ext hSw y4; have z5 := cell_ext hSw y5; have z6 := cell_ext hSw y6; have z7 := cell_ext hSw y7; have z8 := cell_ext hSw y8; have z9 := cell_ext hSw y9; (try go_simp); (try with_reducible rfl))
    try simp only [Act.put, s1, s2, s3]
    refine wpAnyH_ready (rs := [9]) (by kernel_rfl) (by simp) ?_
    refine AllReadyH.cons rfl (fun KQ hKQ => ?_) AllReadyH.nil
    go_simp
    (refine (taken_any x As Ad Ab Ah cs cd cb ch shs _ (Lib.hid (hX.out.ext (kk.trans (by repeat (first | exact Ext.refl _ | assumption | refine Ext.drew ?_ | refine Ext.alloc ?_ _))))) i s hi.out hs).mono ?_; rintro e5 w5 ⟨A5, c5, rfl, hz5, hf5, k5⟩; have kc : Ext V w5 := Ext.trans (by repeat (first | exact Ext.refl _ | assumption | refine Ext.drew ?_ | refine Ext.alloc ?_ _)) k5; have H5 := Lib.hid hz5; clear hz5 hf5)
    refine hKQ.out _ _ ?_ (fun hHeld => ?_)
    · (try dsimp only); repeat (first | exact Ext.refl _ | assumption | refine Ext.drew ?_ | refine Ext.alloc ?_ _)
    clear hKQ KQ
    try simp only [Act.put, s1, s2, s3]
    refine wpAnyH_ready (rs := [10]) (by kernel_rfl) (by simp) ?_
    refine AllReadyH.cons rfl (fun KQ hKQ => ?_) AllReadyH.nil
    go_simp
    (refine (ent_any A5 s.length c5 s _ (Lib.hid (H5.out.ext (by repeat (first | exact Ext.refl _ | refine Ext.drew ?_))))).mono ?_; rintro e6 w6 ⟨rfl, rfl⟩)
    refine hKQ.out _ _ ?_ (fun hHeld => ?_)
    · (try dsimp only); repeat (first | exact Ext.refl _ | assumption | refine Ext.drew ?_ | refine Ext.alloc ?_ _)
    clear hKQ KQ
    try simp only [Act.put, s1, s2, s3]
    refine wpAnyH_take (i := 11) (oi := _) (v := ?_) rfl (by kernel_rfl) (by kernel_rfl) (by kernel_rfl) (fun _ _ _ h => h) (Or.inl ⟨by rfl, ?_⟩) (by assumption) ?_
    rotate_left
    · (intro wS hSw; (try dsimp only at hSw); have z0 := cell_ext hSw y0; have z1 := cell_ext hSw y1; have z2 := cell_ext hSw y2; have z3 := cell_ext hSw y3; have z4 := cell_ext hSw y4; have z5 := cell_ext hSw y5; have z6 := cell_ext hSw y6; have z7 := cell_ext hSw y7; have z8 := cell_ext hSw y8; have z9 := cell_ext hSw y9; (try go_simp); (try with_reducible rfl))
    try simp only [Act.put, s1, s2, s3]
    refine wpAnyH_ready (rs := [12]) (by kernel_rfl) (by simp) ?_
    refine AllReadyH.cons rfl (fun KQ hKQ => ?_) AllReadyH.nil
    go_simp
    refine hKQ.out _ _ ?_ (fun hHeld => ?_)
    · (try dsimp only); repeat (first | exact Ext.refl _ | assumption | refine Ext.drew ?_ | refine Ext.alloc ?_ _)
    clear hKQ KQ
    try simp only [Act.put, s1, s2, s3]
    refine wpAnyH_done (by kernel_rfl) ?_ _
    have hdd := hd.out
    have hw : IntKind.i64.wrap ((x.bi.length : Int) * entN s) = (x.bi.length : Int) * entN s := by rw [IntKind.wrap_i64]; omega
    go_wp2
    go_ret
    exact .inr ⟨(by first | rfl | exact if_neg hd.out), rfl, kk.trans (kc.trans (by repeat (first | exact Ext.refl _ | assumption | refine Ext.drew ?_ | refine Ext.alloc ?_ _)))⟩
set_option maxHeartbeats 1000000 in
theorem add_any (x : Nd) (As Ad Ab Ah : Option Addr) (cs cd cb ch : Nat) (shs : List (List Int)) (w : World) (hX : Hid (Plc w x As Ad Ab Ah cs cd cb ch shs)) (i : Nat) (s : List Int) (hi : Hid (x.a = (i : Int))) (hs : Hid (shs[i]? = some s)) (i2 : Nat) (s2 : List Int) (hi2 : Hid (x.b = (i2 : Int))) (hs2 : Hid (shs[i2]? = some s2)) :
    Calls Try.prog 101 #[.agg #[.int .i64 x.k, .int .i64 x.a, .int .i64 x.b, .slice As x.sh.length cs, .int .i64 x.lo, .int .i64 x.hi, .int .i64 x.sz, .slice Ad x.da.length cd, .slice Ab x.bi.length cb, .slice Ah shs.length ch]] w fun e w' => ShO w (if s = s2 then some s else none) e w' := by
  obtain ⟨y0, y1, y2, y3, y4, y5, y6, y7, y8, y9⟩ := ten_at w (.int .i64 x.k) (.int .i64 x.a) (.int .i64 x.b) (.slice As x.sh.length cs) (.int .i64 x.lo) (.int .i64 x.hi) (.int .i64 x.sz) (.slice Ad x.da.length cd) (.slice Ab x.bi.length cb) (.slice Ah shs.length ch) 71
  have kk : Ext w (w.alloc (.cells #[.int .i64 x.k, .int .i64 x.a, .int .i64 x.b, .slice As x.sh.length cs, .int .i64 x.lo, .int .i64 x.hi, .int .i64 x.sz, .slice Ad x.da.length cd, .slice Ab x.bi.length cb, .slice Ah shs.length ch] 71)) := (Ext.refl w).alloc _
  go_enter Try.func101, Try.ntmps101
  go_wp2_with fail
  generalize w.alloc (.cells #[.int .i64 x.k, .int .i64 x.a, .int .i64 x.b, .slice As x.sh.length cs, .int .i64 x.lo, .int .i64 x.hi, .int .i64 x.sz, .slice Ad x.da.length cd, .slice Ab x.bi.length cb, .slice Ah shs.length ch] 71) = V at *
  obtain ⟨ad, B, d, ha, hc, hz, hr⟩ := (hX.out.ext kk).shape hs.out
  obtain ⟨ad', B2, d2, ha', hc2, hz2, hr2⟩ := (hX.out.ext kk).shape hs2.out
  have HZ := Lib.hid hz
  have HZ2 := Lib.hid hz2
  have l1 := entN_len hr
  have l2 := entN_len hr2
  have e1 := (List.getElem?_eq_some_iff.1 hs.out).1
  have e2 := (List.getElem?_eq_some_iff.1 hs2.out).1
  have l3 := hX.out.lah
  have HAH := Lib.hid ha
  obtain rfl : ad = ad' := by rw [ha] at ha'; injection ha'
  clear hz hz2 hr hr2 ha ha'
  rw [hi.out] at y1
  rw [hi2.out] at y2
  rw [HAH.out] at y9
  have i0 : (0 : Int) ≤ (i : Int) := by omega
  have i1 : (i : Int) < (shs.length : Int) := by omega
  have i2' : (0 : Int) ≤ (i2 : Int) := by omega
  have i3 : (i2 : Int) < (shs.length : Int) := by omega
  by_cases hdd : s = s2
  all_goals have hd := Lib.hid hdd; clear hdd
  · obtain rfl : s = s2 := hd.out
    have HB := Lib.hid (decide_eq_true (Eq.refl s))
    refine wp_region_held_drew (S := (fun w' => Ext V w')) (by kernel_rfl) ?_ (fun hHeld => ?_)
    · (try dsimp only); repeat (first | exact Ext.refl _ | assumption | refine Ext.drew ?_ | refine Ext.alloc ?_ _)
    refine wpAnyH_take (i := 0) (oi := _) (v := ?_) rfl (by kernel_rfl) (by kernel_rfl) (by kernel_rfl) (fun _ _ _ h => h) (Or.inl ⟨by rfl, ?_⟩) (by assumption) ?_
    rotate_left
    · (intro wS hSw; (try dsimp only at hSw); have z1 := cell_ext hSw y1; have z2 := cell_ext hSw y2; have z9 := cell_ext hSw y9; have zc := cell_ext hSw hc; have zc2 := cell_ext hSw hc2; (try go_simp); (try with_reducible rfl))
    try simp only [Act.put, s1, s2, s3]
    refine wpAnyH_take (i := 1) (oi := _) (v := ?_) rfl (by kernel_rfl) (by kernel_rfl) (by kernel_rfl) (fun _ _ _ h => h) (Or.inl ⟨by rfl, ?_⟩) (by assumption) ?_
    rotate_left
    · (intro wS hSw; (try dsimp only at hSw); have z1 := cell_ext hSw y1; have z2 := cell_ext hSw y2; have z9 := cell_ext hSw y9; have zc := cell_ext hSw hc; have zc2 := cell_ext hSw hc2; (try go_simp); (try with_reducible rfl))
    try simp only [Act.put, s1, s2, s3]
    refine wpAnyH_take (i := 2) (oi := _) (v := ?_) rfl (by kernel_rfl) (by kernel_rfl) (by kernel_rfl) (fun _ _ _ h => h) (Or.inl ⟨by rfl, ?_⟩) (by assumption) ?_
    rotate_left
    · (intro wS hSw; (try dsimp only at hSw); have z1 := cell_ext hSw y1; have z2 := cell_ext hSw y2; have z9 := cell_ext hSw y9; have zc := cell_ext hSw hc; have zc2 := cell_ext hSw hc2; (try go_simp); (try with_reducible rfl))
    try simp only [Act.put, s1, s2, s3]
    refine wpAnyH_take (i := 3) (oi := _) (v := ?_) rfl (by kernel_rfl) (by kernel_rfl) (by kernel_rfl) (fun _ _ _ h => h) (Or.inl ⟨by rfl, ?_⟩) (by assumption) ?_
    rotate_left
    · (intro wS hSw; (try dsimp only at hSw); have z1 := cell_ext hSw y1; have z2 := cell_ext hSw y2; have z9 := cell_ext hSw y9; have zc := cell_ext hSw hc; have zc2 := cell_ext hSw hc2; (try go_simp); (try with_reducible rfl))
    try simp only [Act.put, s1, s2, s3]
    refine wpAnyH_take (i := 4) (oi := _) (v := ?_) rfl (by kernel_rfl) (by kernel_rfl) (by kernel_rfl) (fun _ _ _ h => h) (Or.inl ⟨by rfl, ?_⟩) (by assumption) ?_
    rotate_left
    · (intro wS hSw; (try dsimp only at hSw); have z1 := cell_ext hSw y1; have z2 := cell_ext hSw y2; have z9 := cell_ext hSw y9; have zc := cell_ext hSw hc; have zc2 := cell_ext hSw hc2; (try go_simp); (try with_reducible rfl))
    try simp only [Act.put, s1, s2, s3]
    refine wpAnyH_take (i := 5) (oi := _) (v := ?_) rfl (by kernel_rfl) (by kernel_rfl) (by kernel_rfl) (fun _ _ _ h => h) (Or.inl ⟨by rfl, ?_⟩) (by assumption) ?_
    rotate_left
    · (intro wS hSw; (try dsimp only at hSw); have z1 := cell_ext hSw y1; have z2 := cell_ext hSw y2; have z9 := cell_ext hSw y9; have zc := cell_ext hSw hc; have zc2 := cell_ext hSw hc2; (try go_simp); (try with_reducible rfl))
    try simp only [Act.put, s1, s2, s3]
    refine wpAnyH_take (i := 6) (oi := _) (v := ?_) rfl (by kernel_rfl) (by kernel_rfl) (by kernel_rfl) (fun _ _ _ h => h) (Or.inl ⟨by rfl, ?_⟩) (by assumption) ?_
    rotate_left
    · (intro wS hSw; (try dsimp only at hSw); have z1 := cell_ext hSw y1; have z2 := cell_ext hSw y2; have z9 := cell_ext hSw y9; have zc := cell_ext hSw hc; have zc2 := cell_ext hSw hc2; (try go_simp); (try with_reducible rfl))
    try simp only [Act.put, s1, s2, s3]
    refine wpAnyH_take (i := 7) (oi := _) (v := ?_) rfl (by kernel_rfl) (by kernel_rfl) (by kernel_rfl) (fun _ _ _ h => h) (Or.inl ⟨by rfl, ?_⟩) (by assumption) ?_
    rotate_left
    · (intro wS hSw; (try dsimp only at hSw); have z1 := cell_ext hSw y1; have z2 := cell_ext hSw y2; have z9 := cell_ext hSw y9; have zc := cell_ext hSw hc; have zc2 := cell_ext hSw hc2; (try go_simp); (try with_reducible rfl))
    try simp only [Act.put, s1, s2, s3]
    refine wpAnyH_take (i := 8) (oi := _) (v := ?_) rfl (by kernel_rfl) (by kernel_rfl) (by kernel_rfl) (fun _ _ _ h => h) (Or.inl ⟨by rfl, ?_⟩) (by assumption) ?_
    rotate_left
    · (intro wS hSw; (try dsimp only at hSw); have z1 := cell_ext hSw y1; have z2 := cell_ext hSw y2; have z9 := cell_ext hSw y9; have zc := cell_ext hSw hc; have zc2 := cell_ext hSw hc2; (try go_simp); (try with_reducible rfl))
    try simp only [Act.put, s1, s2, s3]
    refine wpAnyH_take (i := 9) (oi := _) (v := ?_) rfl (by kernel_rfl) (by kernel_rfl) (by kernel_rfl) (fun _ _ _ h => h) (Or.inl ⟨by rfl, ?_⟩) (by assumption) ?_
    rotate_left
    · (intro wS hSw; (try dsimp only at hSw); have z1 := cell_ext hSw y1; have z2 := cell_ext hSw y2; have z9 := cell_ext hSw y9; have zc := cell_ext hSw hc; have zc2 := cell_ext hSw hc2; (try go_simp); (try with_reducible rfl))
    try simp only [Act.put, s1, s2, s3]
    refine wpAnyH_take (i := 10) (oi := _) (v := ?_) rfl (by kernel_rfl) (by kernel_rfl) (by kernel_rfl) (fun _ _ _ h => h) (Or.inl ⟨by rfl, ?_⟩) (by assumption) ?_
    rotate_left
    · (intro wS hSw; (try dsimp only at hSw); have z1 := cell_ext hSw y1; have z2 := cell_ext hSw y2; have z9 := cell_ext hSw y9; have zc := cell_ext hSw hc; have zc2 := cell_ext hSw hc2; (try go_simp); (try with_reducible rfl))
    try simp only [Act.put, s1, s2, s3]
    refine wpAnyH_take (i := 11) (oi := _) (v := ?_) rfl (by kernel_rfl) (by kernel_rfl) (by kernel_rfl) (fun _ _ _ h => h) (Or.inl ⟨by rfl, ?_⟩) (by assumption) ?_
    rotate_left
    · (intro wS hSw; (try dsimp only at hSw); have z1 := cell_ext hSw y1; have z2 := cell_ext hSw y2; have z9 := cell_ext hSw y9; have zc := cell_ext hSw hc; have zc2 := cell_ext hSw hc2; (try go_simp); (try with_reducible rfl))
    try simp only [Act.put, s1, s2, s3]
    refine wpAnyH_take (i := 12) (oi := _) (v := ?_) rfl (by kernel_rfl) (by kernel_rfl) (by kernel_rfl) (fun _ _ _ h => h) (Or.inl ⟨by rfl, ?_⟩) (by assumption) ?_
    rotate_left
    · (intro wS hSw; (try dsimp only at hSw); have z1 := cell_ext hSw y1; have z2 := cell_ext hSw y2; have z9 := cell_ext hSw y9; have zc := cell_ext hSw hc; have zc2 := cell_ext hSw hc2; (try go_simp); (try with_reducible rfl))
    try simp only [Act.put, s1, s2, s3]
    refine wpAnyH_take (i := 13) (oi := _) (v := ?_) rfl (by kernel_rfl) (by kernel_rfl) (by kernel_rfl) (fun _ _ _ h => h) (Or.inl ⟨by rfl, ?_⟩) (by assumption) ?_
    rotate_left
    · (intro wS hSw; (try dsimp only at hSw); have z1 := cell_ext hSw y1; have z2 := cell_ext hSw y2; have z9 := cell_ext hSw y9; have zc := cell_ext hSw hc; have zc2 := cell_ext hSw hc2; (try go_simp); (try with_reducible rfl))
    try simp only [Act.put, s1, s2, s3]
    refine wpAnyH_ready (rs := [14]) (by kernel_rfl) (by simp) ?_
    refine AllReadyH.cons rfl (fun KQ hKQ => ?_) AllReadyH.nil
    go_simp
    (refine (equal_any B B2 s.length s.length d d2 s s _ (Lib.hid (HZ.out.ext (by repeat (first | exact Ext.refl _ | assumption | refine Ext.drew ?_ | refine Ext.alloc ?_ _)))) (Lib.hid (HZ2.out.ext (by repeat (first | exact Ext.refl _ | assumption | refine Ext.drew ?_ | refine Ext.alloc ?_ _)))) (by omega) (by omega)).mono ?_; rintro e8 w8 ⟨rfl, k8⟩; rw [HB.out]; have kc : Ext V w8 := Ext.trans (by repeat (first | exact Ext.refl _ | assumption | refine Ext.drew ?_ | refine Ext.alloc ?_ _)) k8)
    refine hKQ.out _ _ ?_ (fun hHeld => ?_)
    · (try dsimp only); repeat (first | exact Ext.refl _ | assumption | refine Ext.drew ?_ | refine Ext.alloc ?_ _)
    clear hKQ KQ
    try simp only [Act.put, s1, s2, s3]
    refine wpAnyH_ready (rs := [15]) (by kernel_rfl) (by simp) ?_
    refine AllReadyH.cons rfl (fun KQ hKQ => ?_) AllReadyH.nil
    go_simp
    refine hKQ.out _ _ ?_ (fun hHeld => ?_)
    · (try dsimp only); repeat (first | exact Ext.refl _ | assumption | refine Ext.drew ?_ | refine Ext.alloc ?_ _)
    clear hKQ KQ
    try simp only [Act.put, s1, s2, s3]
    refine wpAnyH_done (by kernel_rfl) ?_ _
    replace y0 := cell_ext kc y0
    replace y1 := cell_ext kc y1
    replace y2 := cell_ext kc y2
    replace y3 := cell_ext kc y3
    replace y4 := cell_ext kc y4
    replace y5 := cell_ext kc y5
    replace y6 := cell_ext kc y6
    replace y7 := cell_ext kc y7
    replace y8 := cell_ext kc y8
    replace y9 := cell_ext kc y9
    go_wp2_with fail
    rw [← hi.out, ← hi2.out, ← HAH.out]
    refine (taken_any x As Ad Ab Ah cs cd cb ch shs _ (Lib.hid (hX.out.ext (kk.trans (kc.trans (by repeat (first | exact Ext.refl _ | assumption | refine Ext.drew ?_ | refine Ext.alloc ?_ _)))))) i s hi.out hs).mono ?_
    rintro e5 w5 ⟨A5, c5, rfl, hz5, hf5, k5⟩
    have H5 := Lib.hid (And.intro hz5 hf5)
    clear hz5 hf5
    go_wp2
    go_ret
    exact .inl ⟨s, A5, c5, (by first | rfl | exact if_pos hd.out | simp), rfl, H5.out.1, fun ad e => (by have := H5.out.2 ad e; have := kk.size; have := kc.size; simp at *; omega), kk.trans (kc.trans (Ext.trans (by repeat (first | exact Ext.refl _ | assumption | refine Ext.drew ?_ | refine Ext.alloc ?_ _)) k5))⟩
  · have HB := Lib.hid (decide_eq_false hd.out)
    refine wp_region_held_drew (S := (fun w' => Ext V w')) (by kernel_rfl) ?_ (fun hHeld => ?_)
    · (try dsimp only); repeat (first | exact Ext.refl _ | assumption | refine Ext.drew ?_ | refine Ext.alloc ?_ _)
    refine wpAnyH_take (i := 0) (oi := _) (v := ?_) rfl (by kernel_rfl) (by kernel_rfl) (by kernel_rfl) (fun _ _ _ h => h) (Or.inl ⟨by rfl, ?_⟩) (by assumption) ?_
    rotate_left
    · (intro wS hSw; (try dsimp only at hSw); have z1 := cell_ext hSw y1; have z2 := cell_ext hSw y2; have z9 := cell_ext hSw y9; have zc := cell_ext hSw hc; have zc2 := cell_ext hSw hc2; (try go_simp); (try with_reducible rfl))
    try simp only [Act.put, s1, s2, s3]
    refine wpAnyH_take (i := 1) (oi := _) (v := ?_) rfl (by kernel_rfl) (by kernel_rfl) (by kernel_rfl) (fun _ _ _ h => h) (Or.inl ⟨by rfl, ?_⟩) (by assumption) ?_
    rotate_left
    · (intro wS hSw; (try dsimp only at hSw); have z1 := cell_ext hSw y1; have z2 := cell_ext hSw y2; have z9 := cell_ext hSw y9; have zc := cell_ext hSw hc; have zc2 := cell_ext hSw hc2; (try go_simp); (try with_reducible rfl))
    try simp only [Act.put, s1, s2, s3]
    refine wpAnyH_take (i := 2) (oi := _) (v := ?_) rfl (by kernel_rfl) (by kernel_rfl) (by kernel_rfl) (fun _ _ _ h => h) (Or.inl ⟨by rfl, ?_⟩) (by assumption) ?_
    rotate_left
    · (intro wS hSw; (try dsimp only at hSw); have z1 := cell_ext hSw y1; have z2 := cell_ext hSw y2; have z9 := cell_ext hSw y9; have zc := cell_ext hSw hc; have zc2 := cell_ext hSw hc2; (try go_simp); (try with_reducible rfl))
    try simp only [Act.put, s1, s2, s3]
    refine wpAnyH_take (i := 3) (oi := _) (v := ?_) rfl (by kernel_rfl) (by kernel_rfl) (by kernel_rfl) (fun _ _ _ h => h) (Or.inl ⟨by rfl, ?_⟩) (by assumption) ?_
    rotate_left
    · (intro wS hSw; (try dsimp only at hSw); have z1 := cell_ext hSw y1; have z2 := cell_ext hSw y2; have z9 := cell_ext hSw y9; have zc := cell_ext hSw hc; have zc2 := cell_ext hSw hc2; (try go_simp); (try with_reducible rfl))
    try simp only [Act.put, s1, s2, s3]
    refine wpAnyH_take (i := 4) (oi := _) (v := ?_) rfl (by kernel_rfl) (by kernel_rfl) (by kernel_rfl) (fun _ _ _ h => h) (Or.inl ⟨by rfl, ?_⟩) (by assumption) ?_
    rotate_left
    · (intro wS hSw; (try dsimp only at hSw); have z1 := cell_ext hSw y1; have z2 := cell_ext hSw y2; have z9 := cell_ext hSw y9; have zc := cell_ext hSw hc; have zc2 := cell_ext hSw hc2; (try go_simp); (try with_reducible rfl))
    try simp only [Act.put, s1, s2, s3]
    refine wpAnyH_take (i := 5) (oi := _) (v := ?_) rfl (by kernel_rfl) (by kernel_rfl) (by kernel_rfl) (fun _ _ _ h => h) (Or.inl ⟨by rfl, ?_⟩) (by assumption) ?_
    rotate_left
    · (intro wS hSw; (try dsimp only at hSw); have z1 := cell_ext hSw y1; have z2 := cell_ext hSw y2; have z9 := cell_ext hSw y9; have zc := cell_ext hSw hc; have zc2 := cell_ext hSw hc2; (try go_simp); (try with_reducible rfl))
    try simp only [Act.put, s1, s2, s3]
    refine wpAnyH_take (i := 6) (oi := _) (v := ?_) rfl (by kernel_rfl) (by kernel_rfl) (by kernel_rfl) (fun _ _ _ h => h) (Or.inl ⟨by rfl, ?_⟩) (by assumption) ?_
    rotate_left
    · (intro wS hSw; (try dsimp only at hSw); have z1 := cell_ext hSw y1; have z2 := cell_ext hSw y2; have z9 := cell_ext hSw y9; have zc := cell_ext hSw hc; have zc2 := cell_ext hSw hc2; (try go_simp); (try with_reducible rfl))
    try simp only [Act.put, s1, s2, s3]
    refine wpAnyH_take (i := 7) (oi := _) (v := ?_) rfl (by kernel_rfl) (by kernel_rfl) (by kernel_rfl) (fun _ _ _ h => h) (Or.inl ⟨by rfl, ?_⟩) (by assumption) ?_
    rotate_left
    · (intro wS hSw; (try dsimp only at hSw); have z1 := cell_ext hSw y1; have z2 := cell_ext hSw y2; have z9 := cell_ext hSw y9; have zc := cell_ext hSw hc; have zc2 := cell_ext hSw hc2; (try go_simp); (try with_reducible rfl))
    try simp only [Act.put, s1, s2, s3]
    refine wpAnyH_take (i := 8) (oi := _) (v := ?_) rfl (by kernel_rfl) (by kernel_rfl) (by kernel_rfl) (fun _ _ _ h => h) (Or.inl ⟨by rfl, ?_⟩) (by assumption) ?_
    rotate_left
    · (intro wS hSw; (try dsimp only at hSw); have z1 := cell_ext hSw y1; have z2 := cell_ext hSw y2; have z9 := cell_ext hSw y9; have zc := cell_ext hSw hc; have zc2 := cell_ext hSw hc2; (try go_simp); (try with_reducible rfl))
    try simp only [Act.put, s1, s2, s3]
    refine wpAnyH_take (i := 9) (oi := _) (v := ?_) rfl (by kernel_rfl) (by kernel_rfl) (by kernel_rfl) (fun _ _ _ h => h) (Or.inl ⟨by rfl, ?_⟩) (by assumption) ?_
    rotate_left
    · (intro wS hSw; (try dsimp only at hSw); have z1 := cell_ext hSw y1; have z2 := cell_ext hSw y2; have z9 := cell_ext hSw y9; have zc := cell_ext hSw hc; have zc2 := cell_ext hSw hc2; (try go_simp); (try with_reducible rfl))
    try simp only [Act.put, s1, s2, s3]
    refine wpAnyH_take (i := 10) (oi := _) (v := ?_) rfl (by kernel_rfl) (by kernel_rfl) (by kernel_rfl) (fun _ _ _ h => h) (Or.inl ⟨by rfl, ?_⟩) (by assumption) ?_
    rotate_left
    · (intro wS hSw; (try dsimp only at hSw); have z1 := cell_ext hSw y1; have z2 := cell_ext hSw y2; have z9 := cell_ext hSw y9; have zc := cell_ext hSw hc; have zc2 := cell_ext hSw hc2; (try go_simp); (try with_reducible rfl))
    try simp only [Act.put, s1, s2, s3]
    refine wpAnyH_take (i := 11) (oi := _) (v := ?_) rfl (by kernel_rfl) (by kernel_rfl) (by kernel_rfl) (fun _ _ _ h => h) (Or.inl ⟨by rfl, ?_⟩) (by assumption) ?_
    rotate_left
    · (intro wS hSw; (try dsimp only at hSw); have z1 := cell_ext hSw y1; have z2 := cell_ext hSw y2; have z9 := cell_ext hSw y9; have zc := cell_ext hSw hc; have zc2 := cell_ext hSw hc2; (try go_simp); (try with_reducible rfl))
    try simp only [Act.put, s1, s2, s3]
    refine wpAnyH_take (i := 12) (oi := _) (v := ?_) rfl (by kernel_rfl) (by kernel_rfl) (by kernel_rfl) (fun _ _ _ h => h) (Or.inl ⟨by rfl, ?_⟩) (by assumption) ?_
    rotate_left
    · (intro wS hSw; (try dsimp only at hSw); have z1 := cell_ext hSw y1; have z2 := cell_ext hSw y2; have z9 := cell_ext hSw y9; have zc := cell_ext hSw hc; have zc2 := cell_ext hSw hc2; (try go_simp); (try with_reducible rfl))
    try simp only [Act.put, s1, s2, s3]
    refine wpAnyH_take (i := 13) (oi := _) (v := ?_) rfl (by kernel_rfl) (by kernel_rfl) (by kernel_rfl) (fun _ _ _ h => h) (Or.inl ⟨by rfl, ?_⟩) (by assumption) ?_
    rotate_left
    · (intro wS hSw; (try dsimp only at hSw); have z1 := cell_ext hSw y1; have z2 := cell_ext hSw y2; have z9 := cell_ext hSw y9; have zc := cell_ext hSw hc; have zc2 := cell_ext hSw hc2; (try go_simp); (try with_reducible rfl))
    try simp only [Act.put, s1, s2, s3]
    refine wpAnyH_ready (rs := [14]) (by kernel_rfl) (by simp) ?_
    refine AllReadyH.cons rfl (fun KQ hKQ => ?_) AllReadyH.nil
    go_simp
    (refine (equal_any B B2 s.length s2.length d d2 s s2 _ (Lib.hid (HZ.out.ext (by repeat (first | exact Ext.refl _ | assumption | refine Ext.drew ?_ | refine Ext.alloc ?_ _)))) (Lib.hid (HZ2.out.ext (by repeat (first | exact Ext.refl _ | assumption | refine Ext.drew ?_ | refine Ext.alloc ?_ _)))) (by omega) (by omega)).mono ?_; rintro e8 w8 ⟨rfl, k8⟩; rw [HB.out]; have kc : Ext V w8 := Ext.trans (by repeat (first | exact Ext.refl _ | assumption | refine Ext.drew ?_ | refine Ext.alloc ?_ _)) k8)
    refine hKQ.out _ _ ?_ (fun hHeld => ?_)
    · (try dsimp only); repeat (first | exact Ext.refl _ | assumption | refine Ext.drew ?_ | refine Ext.alloc ?_ _)
    clear hKQ KQ
    try simp only [Act.put, s1, s2, s3]
    refine wpAnyH_ready (rs := [15]) (by kernel_rfl) (by simp) ?_
    refine AllReadyH.cons rfl (fun KQ hKQ => ?_) AllReadyH.nil
    go_simp
    refine hKQ.out _ _ ?_ (fun hHeld => ?_)
    · (try dsimp only); repeat (first | exact Ext.refl _ | assumption | refine Ext.drew ?_ | refine Ext.alloc ?_ _)
    clear hKQ KQ
    try simp only [Act.put, s1, s2, s3]
    refine wpAnyH_done (by kernel_rfl) ?_ _
    go_wp2
    go_ret
    exact .inr ⟨(by first | rfl | exact if_neg hd.out), rfl, kk.trans (kc.trans (by repeat (first | exact Ext.refl _ | assumption | refine Ext.drew ?_ | refine Ext.alloc ?_ _)))⟩
set_option maxHeartbeats 1000000 in
theorem flat_any (x : Nd) (As Ad Ab Ah : Option Addr) (cs cd cb ch : Nat) (shs : List (List Int)) (w : World) (hX : Hid (Plc w x As Ad Ab Ah cs cd cb ch shs)) (i : Nat) (s : List Int) (hi : Hid (x.a = (i : Int))) (hs : Hid (shs[i]? = some s)) :
    Calls Try.prog 105 #[.agg #[.int .i64 x.k, .int .i64 x.a, .int .i64 x.b, .slice As x.sh.length cs, .int .i64 x.lo, .int .i64 x.hi, .int .i64 x.sz, .slice Ad x.da.length cd, .slice Ab x.bi.length cb, .slice Ah shs.length ch]] w fun e w' => ShO w (if entN x.sh = entN s then some x.sh else none) e w' := by
  obtain ⟨y0, y1, y2, y3, y4, y5, y6, y7, y8, y9⟩ := ten_at w (.int .i64 x.k) (.int .i64 x.a) (.int .i64 x.b) (.slice As x.sh.length cs) (.int .i64 x.lo) (.int .i64 x.hi) (.int .i64 x.sz) (.slice Ad x.da.length cd) (.slice Ab x.bi.length cb) (.slice Ah shs.length ch) 71
  have kk : Ext w (w.alloc (.cells #[.int .i64 x.k, .int .i64 x.a, .int .i64 x.b, .slice As x.sh.length cs, .int .i64 x.lo, .int .i64 x.hi, .int .i64 x.sz, .slice Ad x.da.length cd, .slice Ab x.bi.length cb, .slice Ah shs.length ch] 71)) := (Ext.refl w).alloc _
  go_enter Try.func105, Try.ntmps105
  go_wp2_with fail
  generalize w.alloc (.cells #[.int .i64 x.k, .int .i64 x.a, .int .i64 x.b, .slice As x.sh.length cs, .int .i64 x.lo, .int .i64 x.hi, .int .i64 x.sz, .slice Ad x.da.length cd, .slice Ab x.bi.length cb, .slice Ah shs.length ch] 71) = V at *
  by_cases hdd : entN x.sh = entN s
  all_goals have hd := Lib.hid hdd; clear hdd
  · refine wp_region_held_drew (S := (fun w' => Ext V w')) (by kernel_rfl) ?_ (fun hHeld => ?_)
    · (try dsimp only); repeat (first | exact Ext.refl _ | assumption | refine Ext.drew ?_ | refine Ext.alloc ?_ _)
    refine wpAnyH_take (i := 0) (oi := _) (v := ?_) rfl (by kernel_rfl) (by kernel_rfl) (by kernel_rfl) (fun _ _ _ h => h) (Or.inl ⟨by rfl, ?_⟩) (by assumption) ?_
    rotate_left
    · (intro wS hSw; (try dsimp only at hSw); have z0 := cell_ext hSw y0; have z1 := cell_ext hSw y1; have z2 := cell_ext hSw y2; have z3 := cell_ext hSw y3; have z4 := cell_ext hSw y4; have z5 := cell_ext hSw y5; have z6 := cell_ext hSw y6; have z7 := cell_ext hSw y7; have z8 := cell_ext hSw y8; have z9 := cell_ext hSw y9; (try go_simp); (try with_reducible rfl))
    try simp only [Act.put, s1, s2, s3]
    refine wpAnyH_take (i := 1) (oi := _) (v := ?_) rfl (by kernel_rfl) (by kernel_rfl) (by kernel_rfl) (fun _ _ _ h => h) (Or.inl ⟨by rfl, ?_⟩) (by assumption) ?_
    rotate_left
    · (intro wS hSw; (try dsimp only at hSw); have z0 := cell_ext hSw y0; have z1 := cell_ext hSw y1; have z2 := cell_ext hSw y2; have z3 := cell_ext hSw y3; have z4 := cell_ext hSw y4; have z5 := cell_ext hSw y5; have z6 := cell_ext hSw y6; have z7 := cell_ext hSw y7; have z8 := cell_ext hSw y8; have z9 := cell_ext hSw y9; (try go_simp); (try with_reducible rfl))
    try simp only [Act.put, s1, s2, s3]
    refine wpAnyH_take (i := 2) (oi := _) (v := ?_) rfl (by kernel_rfl) (by kernel_rfl) (by kernel_rfl) (fun _ _ _ h => h) (Or.inl ⟨by rfl, ?_⟩) (by assumption) ?_
    rotate_left
    · (intro wS hSw; (try dsimp only at hSw); have z0 := cell_ext hSw y0; have z1 := cell_ext hSw y1; have z2 := cell_ext hSw y2; have z3 := cell_ext hSw y3; have z4 := cell_ext hSw y4; have z5 := cell_ext hSw y5; have z6 := cell_ext hSw y6; have z7 := cell_ext hSw y7; have z8 := cell_ext hSw y8; have z9 := cell_ext hSw y9; (try go_simp); (try with_reducible rfl))
    try simp only [Act.put, s1, s2, s3]
    refine wpAnyH_take (i := 4) (oi := _) (v := ?_) rfl (by kernel_rfl) (by kernel_rfl) (by kernel_rfl) (fun _ _ _ h => h) (Or.inl ⟨by rfl, ?_⟩) (by assumption) ?_
    rotate_left
    · (intro wS hSw; (try dsimp only at hSw); have z0 := cell_ext hSw y0; have z1 := cell_ext hSw y1; have z2 := cell_ext hSw y2; have z3 := cell_ext hSw y3; have z4 := cell_ext hSw y4; have z5 := cell_ext hSw y5; have z6 := cell_ext hSw y6; have z7 := cell_ext hSw y7; have z8 := cell_ext hSw y8; have z9 := cell_ext hSw y9; (try go_simp); (try with_reducible rfl))
    try simp only [Act.put, s1, s2, s3]
    refine wpAnyH_ready (rs := [3]) (by kernel_rfl) (by simp) ?_
    refine AllReadyH.cons rfl (fun KQ hKQ => ?_) AllReadyH.nil
    go_simp
    (refine (ent_any As x.sh.length cs x.sh _ (Lib.hid (hX.out.nd.sh.ext (kk.trans (by repeat (first | exact Ext.refl _ | assumption | refine Ext.drew ?_ | refine Ext.alloc ?_ _)))))).mono ?_; rintro e7 w7 ⟨rfl, rfl⟩)
    refine hKQ.out _ _ ?_ (fun hHeld => ?_)
    · (try dsimp only); repeat (first | exact Ext.refl _ | assumption | refine Ext.drew ?_ | refine Ext.alloc ?_ _)
    clear hKQ KQ
    try simp only [Act.put, s1, s2, s3]
    refine wpAnyH_ready (rs := [5]) (by kernel_rfl) (by simp) ?_
    refine AllReadyH.cons rfl (fun KQ hKQ => ?_) AllReadyH.nil
    go_simp
    (refine (taken_any x As Ad Ab Ah cs cd cb ch shs _ (Lib.hid (hX.out.ext (kk.trans (by repeat (first | exact Ext.refl _ | assumption | refine Ext.drew ?_ | refine Ext.alloc ?_ _))))) i s hi.out hs).mono ?_; rintro e5 w5 ⟨A5, c5, rfl, hz5, hf5, k5⟩; have kc : Ext V w5 := Ext.trans (by repeat (first | exact Ext.refl _ | assumption | refine Ext.drew ?_ | refine Ext.alloc ?_ _)) k5; have H5 := Lib.hid hz5; clear hz5 hf5)
    refine hKQ.out _ _ ?_ (fun hHeld => ?_)
    · (try dsimp only); repeat (first | exact Ext.refl _ | assumption | refine Ext.drew ?_ | refine Ext.alloc ?_ _)
    clear hKQ KQ
    try simp only [Act.put, s1, s2, s3]
    refine wpAnyH_ready (rs := [6]) (by kernel_rfl) (by simp) ?_
    refine AllReadyH.cons rfl (fun KQ hKQ => ?_) AllReadyH.nil
    go_simp
    (refine (ent_any A5 s.length c5 s _ (Lib.hid (H5.out.ext (by repeat (first | exact Ext.refl _ | refine Ext.drew ?_))))).mono ?_; rintro e6 w6 ⟨rfl, rfl⟩)
    refine hKQ.out _ _ ?_ (fun hHeld => ?_)
    · (try dsimp only); repeat (first | exact Ext.refl _ | assumption | refine Ext.drew ?_ | refine Ext.alloc ?_ _)
    clear hKQ KQ
    try simp only [Act.put, s1, s2, s3]
    refine wpAnyH_ready (rs := [7]) (by kernel_rfl) (by simp) ?_
    refine AllReadyH.cons rfl (fun KQ hKQ => ?_) AllReadyH.nil
    go_simp
    refine hKQ.out _ _ ?_ (fun hHeld => ?_)
    · (try dsimp only); repeat (first | exact Ext.refl _ | assumption | refine Ext.drew ?_ | refine Ext.alloc ?_ _)
    clear hKQ KQ
    try simp only [Act.put, s1, s2, s3]
    refine wpAnyH_done (by kernel_rfl) ?_ _
    have hdd := hd.out
    replace y0 := cell_ext kc y0
    replace y1 := cell_ext kc y1
    replace y2 := cell_ext kc y2
    replace y3 := cell_ext kc y3
    replace y4 := cell_ext kc y4
    replace y5 := cell_ext kc y5
    replace y6 := cell_ext kc y6
    replace y7 := cell_ext kc y7
    replace y8 := cell_ext kc y8
    replace y9 := cell_ext kc y9
    go_wp2_with fail
    refine (own_any x As Ad Ab Ah cs cd cb ch shs _ (Lib.hid (hX.out.ext (kk.trans (kc.trans (by repeat (first | exact Ext.refl _ | assumption | refine Ext.drew ?_ | refine Ext.alloc ?_ _))))))).mono ?_
    rintro e9 w9 ⟨A9, c9, rfl, hz9, hf9, k9⟩
    have H9 := Lib.hid (And.intro hz9 hf9)
    clear hz9 hf9
    go_wp2
    go_ret
    exact .inl ⟨x.sh, A9, c9, (by first | rfl | exact if_pos hd.out), rfl, H9.out.1, fun ad e => (by have := H9.out.2 ad e; have := kk.size; have := kc.size; simp at *; omega), kk.trans (kc.trans (Ext.trans (by repeat (first | exact Ext.refl _ | assumption | refine Ext.drew ?_ | refine Ext.alloc ?_ _)) k9))⟩
  · refine wp_region_held_drew (S := (fun w' => Ext V w')) (by kernel_rfl) ?_ (fun hHeld => ?_)
    · (try dsimp only); repeat (first | exact Ext.refl _ | assumption | refine Ext.drew ?_ | refine Ext.alloc ?_ _)
    refine wpAnyH_take (i := 0) (oi := _) (v := ?_) rfl (by kernel_rfl) (by kernel_rfl) (by kernel_rfl) (fun _ _ _ h => h) (Or.inl ⟨by rfl, ?_⟩) (by assumption) ?_
    rotate_left
    · (intro wS hSw; (try dsimp only at hSw); have z0 := cell_ext hSw y0; have z1 := cell_ext hSw y1; have z2 := cell_ext hSw y2; have z3 := cell_ext hSw y3; have z4 := cell_ext hSw y4; have z5 := cell_ext hSw y5; have z6 := cell_ext hSw y6; have z7 := cell_ext hSw y7; have z8 := cell_ext hSw y8; have z9 := cell_ext hSw y9; (try go_simp); (try with_reducible rfl))
    try simp only [Act.put, s1, s2, s3]
    refine wpAnyH_take (i := 1) (oi := _) (v := ?_) rfl (by kernel_rfl) (by kernel_rfl) (by kernel_rfl) (fun _ _ _ h => h) (Or.inl ⟨by rfl, ?_⟩) (by assumption) ?_
    rotate_left
    · (intro wS hSw; (try dsimp only at hSw); have z0 := cell_ext hSw y0; have z1 := cell_ext hSw y1; have z2 := cell_ext hSw y2; have z3 := cell_ext hSw y3; have z4 := cell_ext hSw y4; have z5 := cell_ext hSw y5; have z6 := cell_ext hSw y6; have z7 := cell_ext hSw y7; have z8 := cell_ext hSw y8; have z9 := cell_ext hSw y9; (try go_simp); (try with_reducible rfl))
    try simp only [Act.put, s1, s2, s3]
    refine wpAnyH_take (i := 2) (oi := _) (v := ?_) rfl (by kernel_rfl) (by kernel_rfl) (by kernel_rfl) (fun _ _ _ h => h) (Or.inl ⟨by rfl, ?_⟩) (by assumption) ?_
    rotate_left
    · (intro wS hSw; (try dsimp only at hSw); have z0 := cell_ext hSw y0; have z1 := cell_ext hSw y1; have z2 := cell_ext hSw y2; have z3 := cell_ext hSw y3; have z4 := cell_ext hSw y4; have z5 := cell_ext hSw y5; have z6 := cell_ext hSw y6; have z7 := cell_ext hSw y7; have z8 := cell_ext hSw y8; have z9 := cell_ext hSw y9; (try go_simp); (try with_reducible rfl))
    try simp only [Act.put, s1, s2, s3]
    refine wpAnyH_take (i := 4) (oi := _) (v := ?_) rfl (by kernel_rfl) (by kernel_rfl) (by kernel_rfl) (fun _ _ _ h => h) (Or.inl ⟨by rfl, ?_⟩) (by assumption) ?_
    rotate_left
    · (intro wS hSw; (try dsimp only at hSw); have z0 := cell_ext hSw y0; have z1 := cell_ext hSw y1; have z2 := cell_ext hSw y2; have z3 := cell_ext hSw y3; have z4 := cell_ext hSw y4; have z5 := cell_ext hSw y5; have z6 := cell_ext hSw y6; have z7 := cell_ext hSw y7; have z8 := cell_ext hSw y8; have z9 := cell_ext hSw y9; (try go_simp); (try with_reducible rfl))
    try simp only [Act.put, s1, s2, s3]
    refine wpAnyH_ready (rs := [3]) (by kernel_rfl) (by simp) ?_
    refine AllReadyH.cons rfl (fun KQ hKQ => ?_) AllReadyH.nil
    go_simp
    (refine (ent_any As x.sh.length cs x.sh _ (Lib.hid (hX.out.nd.sh.ext (kk.trans (by repeat (first | exact Ext.refl _ | assumption | refine Ext.drew ?_ | refine Ext.alloc ?_ _)))))).mono ?_; rintro e7 w7 ⟨rfl, rfl⟩)
    refine hKQ.out _ _ ?_ (fun hHeld => ?_)
    · (try dsimp only); repeat (first | exact Ext.refl _ | assumption | refine Ext.drew ?_ | refine Ext.alloc ?_ _)
    clear hKQ KQ
    try simp only [Act.put, s1, s2, s3]
    refine wpAnyH_ready (rs := [5]) (by kernel_rfl) (by simp) ?_
    refine AllReadyH.cons rfl (fun KQ hKQ => ?_) AllReadyH.nil
    go_simp
    (refine (taken_any x As Ad Ab Ah cs cd cb ch shs _ (Lib.hid (hX.out.ext (kk.trans (by repeat (first | exact Ext.refl _ | assumption | refine Ext.drew ?_ | refine Ext.alloc ?_ _))))) i s hi.out hs).mono ?_; rintro e5 w5 ⟨A5, c5, rfl, hz5, hf5, k5⟩; have kc : Ext V w5 := Ext.trans (by repeat (first | exact Ext.refl _ | assumption | refine Ext.drew ?_ | refine Ext.alloc ?_ _)) k5; have H5 := Lib.hid hz5; clear hz5 hf5)
    refine hKQ.out _ _ ?_ (fun hHeld => ?_)
    · (try dsimp only); repeat (first | exact Ext.refl _ | assumption | refine Ext.drew ?_ | refine Ext.alloc ?_ _)
    clear hKQ KQ
    try simp only [Act.put, s1, s2, s3]
    refine wpAnyH_ready (rs := [6]) (by kernel_rfl) (by simp) ?_
    refine AllReadyH.cons rfl (fun KQ hKQ => ?_) AllReadyH.nil
    go_simp
    (refine (ent_any A5 s.length c5 s _ (Lib.hid (H5.out.ext (by repeat (first | exact Ext.refl _ | refine Ext.drew ?_))))).mono ?_; rintro e6 w6 ⟨rfl, rfl⟩)
    refine hKQ.out _ _ ?_ (fun hHeld => ?_)
    · (try dsimp only); repeat (first | exact Ext.refl _ | assumption | refine Ext.drew ?_ | refine Ext.alloc ?_ _)
    clear hKQ KQ
    try simp only [Act.put, s1, s2, s3]
    refine wpAnyH_ready (rs := [7]) (by kernel_rfl) (by simp) ?_
    refine AllReadyH.cons rfl (fun KQ hKQ => ?_) AllReadyH.nil
    go_simp
    refine hKQ.out _ _ ?_ (fun hHeld => ?_)
    · (try dsimp only); repeat (first | exact Ext.refl _ | assumption | refine Ext.drew ?_ | refine Ext.alloc ?_ _)
    clear hKQ KQ
    try simp only [Act.put, s1, s2, s3]
    refine wpAnyH_done (by kernel_rfl) ?_ _
    have hdd := hd.out
    go_wp2
    go_ret
    exact .inr ⟨(by first | rfl | exact if_neg hd.out), rfl, kk.trans (kc.trans (by repeat (first | exact Ext.refl _ | assumption | refine Ext.drew ?_ | refine Ext.alloc ?_ _)))⟩
end Go.Proofs.Ytdnjjpkajiehgaa
