/-
  The shapes of a convolution and of a pool.
-/
import Derived.Test.YtdnjjpkajiehgaaZJSh
import Derived.Test.YtdnjjpkajiehgaaZ9
namespace Go.Proofs.Ytdnjjpkajiehgaa
open Go.RowKit
set_option linter.unusedVariables false
set_option maxRecDepth 100000

/-- A convolution's shape. -/
def convO : List Int → List Int → Option (List Int)
  | [k0, k1, k2, k3], [a0, a1, a2] => if a0 = k1 then (if entN [k0, a1 - k2 + 1, a2 - k3 + 1] = 0 then none else some [k0, a1 - k2 + 1, a2 - k3 + 1]) else none
  | _, _ => none
/-- A pool's shape. -/
def poolO (z : Int) : List Int → Option (List Int)
  | [a0, a1, a2] => if a1 % z = 0 then (if a2 % z = 0 then some [a0, a1 / z, a2 / z] else none) else none
  | _ => none
theorem add0J (ad : Addr) : ad.add 0 = ad := by
  unfold Addr.add
  split <;> simp_all
theorem three_list {s : List Int} (h : s.length = 3) : ∃ a b c, s = [a, b, c] := by
  match s, h with
  | [a, b, c], _ => exact ⟨a, b, c, rfl⟩
theorem convO_no {k s : List Int} (h : s.length ≠ 3) : convO k s = none := by
  unfold convO
  split
  · simp at h
  · rfl
theorem poolO_no {z : Int} {s : List Int} (h : s.length ≠ 3) : poolO z s = none := by
  unfold poolO
  split
  · simp at h
  · rfl
set_option maxHeartbeats 4000000 in
theorem conv_any (x : Nd) (As Ad Ab Ah : Option Addr) (cs cd cb ch : Nat) (shs : List (List Int)) (w : World) (hX : Hid (Plc w x As Ad Ab Ah cs cd cb ch shs)) (i : Nat) (s : List Int) (hi : Hid (x.a = (i : Int))) (hs : Hid (shs[i]? = some s)) (k0 k1 k2 k3 : Int) (hk : Hid (x.sh = [k0, k1, k2, k3])) (hb : (1 ≤ k0 ∧ k0 ≤ 64) ∧ (1 ≤ k1 ∧ k1 ≤ 64) ∧ (1 ≤ k2 ∧ k2 ≤ 64) ∧ 1 ≤ k3 ∧ k3 ≤ 64) :
    Calls Try.prog 97 #[.agg #[.int .i64 x.k, .int .i64 x.a, .int .i64 x.b, .slice As x.sh.length cs, .int .i64 x.lo, .int .i64 x.hi, .int .i64 x.sz, .slice Ad x.da.length cd, .slice Ab x.bi.length cb, .slice Ah shs.length ch]] w fun e w' => ShO w (convO x.sh s) e w' := by
  obtain ⟨y0, y1, y2, y3, y4, y5, y6, y7, y8, y9⟩ := ten_at w (.int .i64 x.k) (.int .i64 x.a) (.int .i64 x.b) (.slice As x.sh.length cs) (.int .i64 x.lo) (.int .i64 x.hi) (.int .i64 x.sz) (.slice Ad x.da.length cd) (.slice Ab x.bi.length cb) (.slice Ah shs.length ch) 71
  have kk : Ext w (w.alloc (.cells #[.int .i64 x.k, .int .i64 x.a, .int .i64 x.b, .slice As x.sh.length cs, .int .i64 x.lo, .int .i64 x.hi, .int .i64 x.sz, .slice Ad x.da.length cd, .slice Ab x.bi.length cb, .slice Ah shs.length ch] 71)) := (Ext.refl w).alloc _
  go_enter Try.func97, Try.ntmps97
  go_wp2_with fail
  generalize w.alloc (.cells #[.int .i64 x.k, .int .i64 x.a, .int .i64 x.b, .slice As x.sh.length cs, .int .i64 x.lo, .int .i64 x.hi, .int .i64 x.sz, .slice Ad x.da.length cd, .slice Ab x.bi.length cb, .slice Ah shs.length ch] 71) = V at *
  refine (taken_any x As Ad Ab Ah cs cd cb ch shs _ (Lib.hid (hX.out.ext kk)) i s hi.out hs).mono ?_
  rintro e5 w5 ⟨A5, c5, rfl, hz5, hf5, kc⟩
  have H5 := Lib.hid hz5
  clear hz5 hf5
  replace y0 := cell_ext kc y0
  replace y1 := cell_ext kc y1
  replace y2 := cell_ext kc y2
  replace y3 := cell_ext kc y3
  replace y4 := cell_ext kc y4
  replace y5 := cell_ext kc y5
  replace y6 := cell_ext kc y6
  replace y7 := cell_ext kc y7
  replace y8 := cell_ext kc y8
  replace y9 := cell_ext kc y9
  have HM := Lib.hid (hX.out.ok s (List.mem_of_getElem? hs.out))
  have HK := Lib.hid (kk.trans kc)
  have he := (kk.trans kc).size
  clear kk kc
  have hl4 : x.sh.length = 4 := by rw [hk.out]; rfl
  obtain ⟨ads, has, hcs⟩ := (hX.out.nd.sh.ext HK.out).cells (by omega)
  have q0 := hcs 0 k0 (by rw [hk.out]; rfl)
  rw [add0J] at q0
  have q1 : w5.cell? ⟨ads.block, ads.off + 1, none⟩ = some (.int .i64 k1) := hcs 1 k1 (by rw [hk.out]; rfl)
  have q2 : w5.cell? ⟨ads.block, ads.off + 2, none⟩ = some (.int .i64 k2) := hcs 2 k2 (by rw [hk.out]; rfl)
  have q3 : w5.cell? ⟨ads.block, ads.off + 3, none⟩ = some (.int .i64 k3) := hcs 3 k3 (by rw [hk.out]; rfl)
  rw [has] at y3
  clear hcs has
  have i0 : (0 : Int) < (x.sh.length : Int) := by omega
  have i1 : (1 : Int) < (x.sh.length : Int) := by omega
  have i2 : (2 : Int) < (x.sh.length : Int) := by omega
  have i3 : (3 : Int) < (x.sh.length : Int) := by omega
  have n0 : 0 < x.sh.length := by omega
  have n1 : 1 < x.sh.length := by omega
  have n2 : 2 < x.sh.length := by omega
  have n3 : 3 < x.sh.length := by omega
  clear hl4
  by_cases h3 : s.length = 3
  · obtain ⟨a0, a1, a2, rfl⟩ := three_list h3
    clear h3
    have d1 := entN_dims HM.out a1 (by simp)
    have d2 := entN_dims HM.out a2 (by simp)
    obtain ⟨ad5, rfl, hc5⟩ := H5.out.cells (by simp)
    have r0 := hc5 0 a0 rfl
    rw [add0J] at r0
    have r1 : w5.cell? ⟨ad5.block, ad5.off + 1, none⟩ = some (.int .i64 a1) := hc5 1 a1 rfl
    have r2 : w5.cell? ⟨ad5.block, ad5.off + 2, none⟩ = some (.int .i64 a2) := hc5 2 a2 rfl
    clear hc5
    by_cases ha : a0 = k1
    · subst ha
      have HC : Hid (convO x.sh [a0, a1, a2] = if entN [k0, a1 - k2 + 1, a2 - k3 + 1] = 0 then none else some [k0, a1 - k2 + 1, a2 - k3 + 1]) := Lib.hid (by rw [hk.out]; exact if_pos rfl)
      have lx := entN_le [k0, a1 - k2 + 1, a2 - k3 + 1]
      go_wp2_with fail
      go_quiet (fail)
      go_wp2_with fail
      skip
      refine wp_region_held_drew (S := (fun w' => Ext w5 w')) (by kernel_rfl) ?_ (fun hHeld => ?_)
      · (try dsimp only); repeat (first | exact Ext.refl _ | assumption | refine Ext.drew ?_ | refine Ext.drewN ?_ _ | refine Ext.alloc ?_ _)
      refine wpAnyH_take (i := 0) (oi := _) (v := ?_) rfl (by kernel_rfl) (by kernel_rfl) (by kernel_rfl) (fun _ _ _ h => h) (Or.inl ⟨by rfl, ?_⟩) (by assumption) ?_
      rotate_left
      · (intro wS hSw; (try dsimp only at hSw); have z3 := cell_ext hSw y3; have s0 := cell_ext hSw q0; have s2 := cell_ext hSw q2; have s3 := cell_ext hSw q3; have u1 := cell_ext hSw r1; have u2 := cell_ext hSw r2; (try go_simp); (try with_reducible rfl))
      try simp only [Act.put, s1, s2, s3]
      refine wpAnyH_take (i := 1) (oi := _) (v := ?_) rfl (by kernel_rfl) (by kernel_rfl) (by kernel_rfl) (fun _ _ _ h => h) (Or.inl ⟨by rfl, ?_⟩) (by assumption) ?_
      rotate_left
      · (intro wS hSw; (try dsimp only at hSw); have z3 := cell_ext hSw y3; have s0 := cell_ext hSw q0; have s2 := cell_ext hSw q2; have s3 := cell_ext hSw q3; have u1 := cell_ext hSw r1; have u2 := cell_ext hSw r2; (try go_simp); (try with_reducible rfl))
      try simp only [Act.put, s1, s2, s3]
      refine wpAnyH_take (i := 2) (oi := _) (v := ?_) rfl (by kernel_rfl) (by kernel_rfl) (by kernel_rfl) (fun _ _ _ h => h) (Or.inl ⟨by rfl, ?_⟩) (by assumption) ?_
      rotate_left
      · (intro wS hSw; (try dsimp only at hSw); have z3 := cell_ext hSw y3; have s0 := cell_ext hSw q0; have s2 := cell_ext hSw q2; have s3 := cell_ext hSw q3; have u1 := cell_ext hSw r1; have u2 := cell_ext hSw r2; (try go_simp); (try with_reducible rfl))
      try simp only [Act.put, s1, s2, s3]
      refine wpAnyH_take (i := 3) (oi := _) (v := ?_) rfl (by kernel_rfl) (by kernel_rfl) (by kernel_rfl) (fun _ _ _ h => h) (Or.inl ⟨by rfl, ?_⟩) (by assumption) ?_
      rotate_left
      · (intro wS hSw; (try dsimp only at hSw); have z3 := cell_ext hSw y3; have s0 := cell_ext hSw q0; have s2 := cell_ext hSw q2; have s3 := cell_ext hSw q3; have u1 := cell_ext hSw r1; have u2 := cell_ext hSw r2; (try go_simp); (try with_reducible rfl))
      try simp only [Act.put, s1, s2, s3]
      refine wpAnyH_take (i := 4) (oi := _) (v := ?_) rfl (by kernel_rfl) (by kernel_rfl) (by kernel_rfl) (fun _ _ _ h => h) (Or.inl ⟨by rfl, ?_⟩) (by assumption) ?_
      rotate_left
      · (intro wS hSw; (try dsimp only at hSw); have z3 := cell_ext hSw y3; have s0 := cell_ext hSw q0; have s2 := cell_ext hSw q2; have s3 := cell_ext hSw q3; have u1 := cell_ext hSw r1; have u2 := cell_ext hSw r2; (try go_simp); (try with_reducible rfl))
      try simp only [Act.put, s1, s2, s3]
      refine wpAnyH_take (i := 5) (oi := _) (v := ?_) rfl (by kernel_rfl) (by kernel_rfl) (by kernel_rfl) (fun _ _ _ h => h) (Or.inl ⟨by rfl, ?_⟩) (by assumption) ?_
      rotate_left
      · (intro wS hSw; (try dsimp only at hSw); have z3 := cell_ext hSw y3; have s0 := cell_ext hSw q0; have s2 := cell_ext hSw q2; have s3 := cell_ext hSw q3; have u1 := cell_ext hSw r1; have u2 := cell_ext hSw r2; (try go_simp); (try with_reducible rfl))
      try simp only [Act.put, s1, s2, s3]
      refine wpAnyH_take (i := 6) (oi := _) (v := ?_) rfl (by kernel_rfl) (by kernel_rfl) (by kernel_rfl) (fun _ _ _ h => h) (Or.inl ⟨by rfl, ?_⟩) (by assumption) ?_
      rotate_left
      · (intro wS hSw; (try dsimp only at hSw); have z3 := cell_ext hSw y3; have s0 := cell_ext hSw q0; have s2 := cell_ext hSw q2; have s3 := cell_ext hSw q3; have u1 := cell_ext hSw r1; have u2 := cell_ext hSw r2; (try go_simp); (try with_reducible rfl))
      try simp only [Act.put, s1, s2, s3]
      refine wpAnyH_take (i := 7) (oi := _) (v := ?_) rfl (by kernel_rfl) (by kernel_rfl) (by kernel_rfl) (fun _ _ _ h => h) (Or.inl ⟨by rfl, ?_⟩) (by assumption) ?_
      rotate_left
      · (intro wS hSw; (try dsimp only at hSw); have z3 := cell_ext hSw y3; have s0 := cell_ext hSw q0; have s2 := cell_ext hSw q2; have s3 := cell_ext hSw q3; have u1 := cell_ext hSw r1; have u2 := cell_ext hSw r2; (try go_simp); (try with_reducible rfl))
      try simp only [Act.put, s1, s2, s3]
      refine wpAnyH_take (i := 8) (oi := _) (v := ?_) rfl (by kernel_rfl) (by kernel_rfl) (by kernel_rfl) (fun _ _ _ h => h) (Or.inl ⟨by rfl, ?_⟩) (by assumption) ?_
      rotate_left
      · (intro wS hSw; (try dsimp only at hSw); have z3 := cell_ext hSw y3; have s0 := cell_ext hSw q0; have s2 := cell_ext hSw q2; have s3 := cell_ext hSw q3; have u1 := cell_ext hSw r1; have u2 := cell_ext hSw r2; (try go_simp); (try with_reducible rfl))
      try simp only [Act.put, s1, s2, s3]
      refine wpAnyH_take (i := 9) (oi := _) (v := ?_) rfl (by kernel_rfl) (by kernel_rfl) (by kernel_rfl) (fun _ _ _ h => h) (Or.inl ⟨by rfl, ?_⟩) (by assumption) ?_
      rotate_left
      · (intro wS hSw; (try dsimp only at hSw); have z3 := cell_ext hSw y3; have s0 := cell_ext hSw q0; have s2 := cell_ext hSw q2; have s3 := cell_ext hSw q3; have u1 := cell_ext hSw r1; have u2 := cell_ext hSw r2; (try go_simp); (try with_reducible rfl))
      try simp only [Act.put, s1, s2, s3]
      refine wpAnyH_take (i := 10) (oi := _) (v := ?_) rfl (by kernel_rfl) (by kernel_rfl) (by kernel_rfl) (fun _ _ _ h => h) (Or.inl ⟨by rfl, ?_⟩) (by assumption) ?_
      rotate_left
      · (intro wS hSw; (try dsimp only at hSw); have z3 := cell_ext hSw y3; have s0 := cell_ext hSw q0; have s2 := cell_ext hSw q2; have s3 := cell_ext hSw q3; have u1 := cell_ext hSw r1; have u2 := cell_ext hSw r2; (try go_simp); (try with_reducible rfl))
      try simp only [Act.put, s1, s2, s3]
      refine wpAnyH_take (i := 11) (oi := _) (v := ?_) rfl (by kernel_rfl) (by kernel_rfl) (by kernel_rfl) (fun _ _ _ h => h) (Or.inl ⟨by rfl, ?_⟩) (by assumption) ?_
      rotate_left
      · (intro wS hSw; (try dsimp only at hSw); have z3 := cell_ext hSw y3; have s0 := cell_ext hSw q0; have s2 := cell_ext hSw q2; have s3 := cell_ext hSw q3; have u1 := cell_ext hSw r1; have u2 := cell_ext hSw r2; (try go_simp); (try with_reducible rfl))
      try simp only [Act.put, s1, s2, s3]
      refine wpAnyH_take (i := 12) (oi := _) (v := ?_) rfl (by kernel_rfl) (by kernel_rfl) (by kernel_rfl) (fun _ _ _ h => h) (Or.inl ⟨by rfl, ?_⟩) (by assumption) ?_
      rotate_left
      · (intro wS hSw; (try dsimp only at hSw); have z3 := cell_ext hSw y3; have s0 := cell_ext hSw q0; have s2 := cell_ext hSw q2; have s3 := cell_ext hSw q3; have u1 := cell_ext hSw r1; have u2 := cell_ext hSw r2; (try go_simp); (try with_reducible rfl))
      try simp only [Act.put, s1, s2, s3]
      refine wpAnyH_take (i := 13) (oi := _) (v := ?_) rfl (by kernel_rfl) (by kernel_rfl) (by kernel_rfl) (fun _ _ _ h => h) (Or.inl ⟨by rfl, ?_⟩) (by assumption) ?_
      rotate_left
      · (intro wS hSw; (try dsimp only at hSw); have z3 := cell_ext hSw y3; have s0 := cell_ext hSw q0; have s2 := cell_ext hSw q2; have s3 := cell_ext hSw q3; have u1 := cell_ext hSw r1; have u2 := cell_ext hSw r2; (try go_simp); (try with_reducible rfl))
      try simp only [Act.put, s1, s2, s3]
      refine wpAnyH_take (i := 14) (oi := _) (v := ?_) rfl (by kernel_rfl) (by kernel_rfl) (by kernel_rfl) (fun _ _ _ h => h) (Or.inl ⟨by rfl, ?_⟩) (by assumption) ?_
      rotate_left
      · (intro wS hSw; (try dsimp only at hSw); have z3 := cell_ext hSw y3; have s0 := cell_ext hSw q0; have s2 := cell_ext hSw q2; have s3 := cell_ext hSw q3; have u1 := cell_ext hSw r1; have u2 := cell_ext hSw r2; (try go_simp); (try with_reducible rfl))
      try simp only [Act.put, s1, s2, s3]
      refine wpAnyH_take (i := 15) (oi := _) (v := ?_) rfl (by kernel_rfl) (by kernel_rfl) (by kernel_rfl) (fun _ _ _ h => h) (Or.inl ⟨by rfl, ?_⟩) (by assumption) ?_
      rotate_left
      · (intro wS hSw; (try dsimp only at hSw); have z3 := cell_ext hSw y3; have s0 := cell_ext hSw q0; have s2 := cell_ext hSw q2; have s3 := cell_ext hSw q3; have u1 := cell_ext hSw r1; have u2 := cell_ext hSw r2; (try go_simp); (try with_reducible rfl))
      try simp only [Act.put, s1, s2, s3]
      refine wpAnyH_take (i := 16) (oi := _) (v := ?_) rfl (by kernel_rfl) (by kernel_rfl) (by kernel_rfl) (fun _ _ _ h => h) (Or.inl ⟨by rfl, ?_⟩) (by assumption) ?_
      rotate_left
      · (intro wS hSw; (try dsimp only at hSw); have z3 := cell_ext hSw y3; have s0 := cell_ext hSw q0; have s2 := cell_ext hSw q2; have s3 := cell_ext hSw q3; have u1 := cell_ext hSw r1; have u2 := cell_ext hSw r2; (try go_simp); (try with_reducible rfl))
      try simp only [Act.put, s1, s2, s3]
      refine wpAnyH_take (i := 17) (oi := _) (v := ?_) rfl (by kernel_rfl) (by kernel_rfl) (by kernel_rfl) (fun _ _ _ h => h) (Or.inl ⟨by rfl, ?_⟩) (by assumption) ?_
      rotate_left
      · (intro wS hSw; (try dsimp only at hSw); have z3 := cell_ext hSw y3; have s0 := cell_ext hSw q0; have s2 := cell_ext hSw q2; have s3 := cell_ext hSw q3; have u1 := cell_ext hSw r1; have u2 := cell_ext hSw r2; (try go_simp); (try with_reducible rfl))
      try simp only [Act.put, s1, s2, s3]
      refine wpAnyH_take (i := 18) (oi := _) (v := ?_) rfl (by kernel_rfl) (by kernel_rfl) (by kernel_rfl) (fun _ _ _ h => h) (Or.inl ⟨by rfl, ?_⟩) (by assumption) ?_
      rotate_left
      · (intro wS hSw; (try dsimp only at hSw); have z3 := cell_ext hSw y3; have s0 := cell_ext hSw q0; have s2 := cell_ext hSw q2; have s3 := cell_ext hSw q3; have u1 := cell_ext hSw r1; have u2 := cell_ext hSw r2; (try go_simp); (try with_reducible rfl))
      try simp only [Act.put, s1, s2, s3]
      refine wpAnyH_take (i := 19) (oi := _) (v := ?_) rfl (by kernel_rfl) (by kernel_rfl) (by kernel_rfl) (fun _ _ _ h => h) (Or.inl ⟨by rfl, ?_⟩) (by assumption) ?_
      rotate_left
      · (intro wS hSw; (try dsimp only at hSw); have z3 := cell_ext hSw y3; have s0 := cell_ext hSw q0; have s2 := cell_ext hSw q2; have s3 := cell_ext hSw q3; have u1 := cell_ext hSw r1; have u2 := cell_ext hSw r2; (try go_simp); (try with_reducible rfl))
      try simp only [Act.put, s1, s2, s3]
      refine wpAnyH_take (i := 20) (oi := _) (v := ?_) rfl (by kernel_rfl) (by kernel_rfl) (by kernel_rfl) (fun _ _ _ h => h) (Or.inl ⟨by rfl, ?_⟩) (by assumption) ?_
      rotate_left
      · (intro wS hSw; (try dsimp only at hSw); have z3 := cell_ext hSw y3; have s0 := cell_ext hSw q0; have s2 := cell_ext hSw q2; have s3 := cell_ext hSw q3; have u1 := cell_ext hSw r1; have u2 := cell_ext hSw r2; (try go_simp); (try with_reducible rfl))
      try simp only [Act.put, s1, s2, s3]
      refine wpAnyH_take (i := 21) (oi := _) (v := ?_) rfl (by kernel_rfl) (by kernel_rfl) (by kernel_rfl) (fun _ _ _ h => h) (Or.inl ⟨by rfl, ?_⟩) (by assumption) ?_
      rotate_left
      · (intro wS hSw; (try dsimp only at hSw); have z3 := cell_ext hSw y3; have s0 := cell_ext hSw q0; have s2 := cell_ext hSw q2; have s3 := cell_ext hSw q3; have u1 := cell_ext hSw r1; have u2 := cell_ext hSw r2; (try go_simp); (try with_reducible rfl))
      try simp only [Act.put, s1, s2, s3]
      refine wpAnyH_take (i := 22) (oi := _) (v := ?_) rfl (by kernel_rfl) (by kernel_rfl) (by kernel_rfl) (fun _ _ _ h => h) (Or.inl ⟨by rfl, ?_⟩) (by assumption) ?_
      rotate_left
      · (intro wS hSw; (try dsimp only at hSw); have z3 := cell_ext hSw y3; have s0 := cell_ext hSw q0; have s2 := cell_ext hSw q2; have s3 := cell_ext hSw q3; have u1 := cell_ext hSw r1; have u2 := cell_ext hSw r2; (try go_simp); (try with_reducible rfl))
      try simp only [Act.put, s1, s2, s3]
      refine wpAnyH_take (i := 23) (oi := _) (v := ?_) rfl (by kernel_rfl) (by kernel_rfl) (by kernel_rfl) (fun _ _ _ h => h) (Or.inl ⟨by rfl, ?_⟩) (by assumption) ?_
      rotate_left
      · (intro wS hSw; (try dsimp only at hSw); have z3 := cell_ext hSw y3; have s0 := cell_ext hSw q0; have s2 := cell_ext hSw q2; have s3 := cell_ext hSw q3; have u1 := cell_ext hSw r1; have u2 := cell_ext hSw r2; (try go_simp); (try with_reducible rfl))
      try simp only [Act.put, s1, s2, s3]
      refine wpAnyH_take (i := 24) (oi := _) (v := ?_) rfl (by kernel_rfl) (by kernel_rfl) (by kernel_rfl) (fun _ _ _ h => h) (Or.inl ⟨by rfl, ?_⟩) (by assumption) ?_
      rotate_left
      · (intro wS hSw; (try dsimp only at hSw); have z3 := cell_ext hSw y3; have s0 := cell_ext hSw q0; have s2 := cell_ext hSw q2; have s3 := cell_ext hSw q3; have u1 := cell_ext hSw r1; have u2 := cell_ext hSw r2; (try go_simp); (try with_reducible rfl))
      try simp only [Act.put, s1, s2, s3]
      refine wpAnyH_ready (rs := [25]) (by kernel_rfl) (by simp) ?_
      refine AllReadyH.cons rfl (fun KQ hKQ => ?_) AllReadyH.nil
      go_simp
      refine hKQ.out _ _ ?_ (fun hHeld => ?_)
      · (try dsimp only); repeat (first | exact Ext.refl _ | assumption | refine Ext.drew ?_ | refine Ext.drewN ?_ _ | refine Ext.alloc ?_ _)
      clear hKQ KQ
      try simp only [Act.put, s1, s2, s3]
      refine wpAnyH_ready (rs := [26]) (by kernel_rfl) (by simp) ?_
      refine AllReadyH.cons rfl (fun KQ hKQ => ?_) AllReadyH.nil
      go_simp
      refine hKQ.out _ _ ?_ (fun hHeld => ?_)
      · (try dsimp only); repeat (first | exact Ext.refl _ | assumption | refine Ext.drew ?_ | refine Ext.drewN ?_ _ | refine Ext.alloc ?_ _)
      clear hKQ KQ
      try simp only [Act.put, s1, s2, s3]
      refine wpAnyH_done (by kernel_rfl) ?_ _
      go_wp2_with fail
      refine (ent_any _ 3 3 [k0, a1 - k2 + 1, a2 - k3 + 1] _ (Lib.hid (zx_new3 _ _ _ _))).mono ?_
      rintro e6 w6 ⟨rfl, rfl⟩
      by_cases h0 : entN [k0, a1 - k2 + 1, a2 - k3 + 1] = 0
      · go_wp2
        go_ret
        exact .inr ⟨by rw [HC.out, if_pos h0], rfl, HK.out.trans (by repeat (first | exact Ext.refl _ | assumption | refine Ext.drew ?_ | refine Ext.drewN ?_ _ | refine Ext.alloc ?_ _))⟩
      · go_wp2
        go_ret
        refine .inl ⟨[k0, a1 - k2 + 1, a2 - k3 + 1], _, _, by rw [HC.out, if_neg h0], rfl, zx_new3 _ _ _ _, fun ad e => ?_, HK.out.trans (by repeat (first | exact Ext.refl _ | assumption | refine Ext.drew ?_ | refine Ext.drewN ?_ _ | refine Ext.alloc ?_ _))⟩
        injection e with e
        subst e
        exact he
    · have ha2 := Lib.hid ha
      go_wp2_with fail
      go_quiet (fail)
      go_wp2
      go_ret
      exact .inr ⟨by rw [hk.out]; exact if_neg ha2.out, rfl, HK.out.trans (by repeat (first | exact Ext.refl _ | refine Ext.drewN ?_ _ | refine Ext.drew ?_))⟩
      
  · have h4 : ¬ ((s.length : Int) = 3) := by omega
    have h5 := Lib.hid h3
    clear h3
    go_wp2_with fail
    go_quiet (fail)
    go_wp2
    go_ret
    exact .inr ⟨convO_no h5.out, rfl, HK.out.trans (by repeat (first | exact Ext.refl _ | refine Ext.drewN ?_ _ | refine Ext.drew ?_))⟩
    
set_option maxHeartbeats 4000000 in
theorem pool_any (x : Nd) (As Ad Ab Ah : Option Addr) (cs cd cb ch : Nat) (shs : List (List Int)) (w : World) (hX : Hid (Plc w x As Ad Ab Ah cs cd cb ch shs)) (i : Nat) (s : List Int) (hi : Hid (x.a = (i : Int))) (hs : Hid (shs[i]? = some s)) (hz : 1 ≤ x.sz) :
    Calls Try.prog 99 #[.agg #[.int .i64 x.k, .int .i64 x.a, .int .i64 x.b, .slice As x.sh.length cs, .int .i64 x.lo, .int .i64 x.hi, .int .i64 x.sz, .slice Ad x.da.length cd, .slice Ab x.bi.length cb, .slice Ah shs.length ch]] w fun e w' => ShO w (poolO x.sz s) e w' := by
  obtain ⟨y0, y1, y2, y3, y4, y5, y6, y7, y8, y9⟩ := ten_at w (.int .i64 x.k) (.int .i64 x.a) (.int .i64 x.b) (.slice As x.sh.length cs) (.int .i64 x.lo) (.int .i64 x.hi) (.int .i64 x.sz) (.slice Ad x.da.length cd) (.slice Ab x.bi.length cb) (.slice Ah shs.length ch) 71
  have kk : Ext w (w.alloc (.cells #[.int .i64 x.k, .int .i64 x.a, .int .i64 x.b, .slice As x.sh.length cs, .int .i64 x.lo, .int .i64 x.hi, .int .i64 x.sz, .slice Ad x.da.length cd, .slice Ab x.bi.length cb, .slice Ah shs.length ch] 71)) := (Ext.refl w).alloc _
  go_enter Try.func99, Try.ntmps99
  go_wp2_with fail
  generalize w.alloc (.cells #[.int .i64 x.k, .int .i64 x.a, .int .i64 x.b, .slice As x.sh.length cs, .int .i64 x.lo, .int .i64 x.hi, .int .i64 x.sz, .slice Ad x.da.length cd, .slice Ab x.bi.length cb, .slice Ah shs.length ch] 71) = V at *
  refine (taken_any x As Ad Ab Ah cs cd cb ch shs _ (Lib.hid (hX.out.ext kk)) i s hi.out hs).mono ?_
  rintro e5 w5 ⟨A5, c5, rfl, hz5, hf5, kc⟩
  have H5 := Lib.hid hz5
  clear hz5 hf5
  replace y0 := cell_ext kc y0
  replace y1 := cell_ext kc y1
  replace y2 := cell_ext kc y2
  replace y3 := cell_ext kc y3
  replace y4 := cell_ext kc y4
  replace y5 := cell_ext kc y5
  replace y6 := cell_ext kc y6
  replace y7 := cell_ext kc y7
  replace y8 := cell_ext kc y8
  replace y9 := cell_ext kc y9
  have HM := Lib.hid (hX.out.ok s (List.mem_of_getElem? hs.out))
  have HK := Lib.hid (kk.trans kc)
  have he := (kk.trans kc).size
  clear kk kc
  have z0 : ¬ x.sz = 0 := by omega
  by_cases h3 : s.length = 3
  · obtain ⟨a0, a1, a2, rfl⟩ := three_list h3
    clear h3
    have d1 := entN_dims HM.out a1 (by simp)
    have d2 := entN_dims HM.out a2 (by simp)
    obtain ⟨ad5, rfl, hc5⟩ := H5.out.cells (by simp)
    have r0 := hc5 0 a0 rfl
    rw [add0J] at r0
    have r1 : w5.cell? ⟨ad5.block, ad5.off + 1, none⟩ = some (.int .i64 a1) := hc5 1 a1 rfl
    have r2 : w5.cell? ⟨ad5.block, ad5.off + 2, none⟩ = some (.int .i64 a2) := hc5 2 a2 rfl
    clear hc5
    have v1 : 0 ≤ a1 / x.sz ∧ a1 / x.sz ≤ 64 := ⟨Int.ediv_nonneg (by omega) (by omega), Int.le_trans (Int.ediv_le_self _ (by omega)) (by omega)⟩
    have v2 : 0 ≤ a2 / x.sz ∧ a2 / x.sz ≤ 64 := ⟨Int.ediv_nonneg (by omega) (by omega), Int.le_trans (Int.ediv_le_self _ (by omega)) (by omega)⟩
    have t1 : Int.tdiv a1 x.sz = a1 / x.sz := Int.tdiv_eq_ediv_of_nonneg (by omega)
    have t2 : Int.tdiv a2 x.sz = a2 / x.sz := Int.tdiv_eq_ediv_of_nonneg (by omega)
    have t3 : Int.tmod a1 x.sz = a1 % x.sz := Int.tmod_eq_emod_of_nonneg (by omega)
    have t4 : Int.tmod a2 x.sz = a2 % x.sz := Int.tmod_eq_emod_of_nonneg (by omega)
    by_cases m1 : a1 % x.sz = 0
    · by_cases m2 : a2 % x.sz = 0
      · have HC : Hid (poolO x.sz [a0, a1, a2] = some [a0, a1 / x.sz, a2 / x.sz]) := Lib.hid ((if_pos m1).trans (if_pos m2))
        go_wp2_with fail
        go_quiet (fail)
        go_wp2_with fail
        refine wp_region_held_drew (S := (fun w' => Ext w5 w')) (by kernel_rfl) ?_ (fun hHeld => ?_)
        · (try dsimp only); repeat (first | exact Ext.refl _ | assumption | refine Ext.drew ?_ | refine Ext.drewN ?_ _ | refine Ext.alloc ?_ _)
        refine wpAnyH_take (i := 0) (oi := _) (v := ?_) rfl (by kernel_rfl) (by kernel_rfl) (by kernel_rfl) (fun _ _ _ h => h) (Or.inl ⟨by rfl, ?_⟩) (by assumption) ?_
        rotate_left
        · (intro wS hSw; (try dsimp only at hSw); have z6 := cell_ext hSw y6; have u0 := cell_ext hSw r0; have u1 := cell_ext hSw r1; have u2 := cell_ext hSw r2; (try go_simp); (try with_reducible rfl))
        try simp only [Act.put, s1, s2, s3]
        refine wpAnyH_take (i := 1) (oi := _) (v := ?_) rfl (by kernel_rfl) (by kernel_rfl) (by kernel_rfl) (fun _ _ _ h => h) (Or.inl ⟨by rfl, ?_⟩) (by assumption) ?_
        rotate_left
        · (intro wS hSw; (try dsimp only at hSw); have z6 := cell_ext hSw y6; have u0 := cell_ext hSw r0; have u1 := cell_ext hSw r1; have u2 := cell_ext hSw r2; (try go_simp); (try with_reducible rfl))
        try simp only [Act.put, s1, s2, s3]
        refine wpAnyH_take (i := 2) (oi := _) (v := ?_) rfl (by kernel_rfl) (by kernel_rfl) (by kernel_rfl) (fun _ _ _ h => h) (Or.inl ⟨by rfl, ?_⟩) (by assumption) ?_
        rotate_left
        · (intro wS hSw; (try dsimp only at hSw); have z6 := cell_ext hSw y6; have u0 := cell_ext hSw r0; have u1 := cell_ext hSw r1; have u2 := cell_ext hSw r2; (try go_simp); (try with_reducible rfl))
        try simp only [Act.put, s1, s2, s3]
        refine wpAnyH_take (i := 3) (oi := _) (v := ?_) rfl (by kernel_rfl) (by kernel_rfl) (by kernel_rfl) (fun _ _ _ h => h) (Or.inl ⟨by rfl, ?_⟩) (by assumption) ?_
        rotate_left
        · (intro wS hSw; (try dsimp only at hSw); have z6 := cell_ext hSw y6; have u0 := cell_ext hSw r0; have u1 := cell_ext hSw r1; have u2 := cell_ext hSw r2; (try go_simp); (try with_reducible rfl))
        try simp only [Act.put, s1, s2, s3]
        refine wpAnyH_take (i := 4) (oi := _) (v := ?_) rfl (by kernel_rfl) (by kernel_rfl) (by kernel_rfl) (fun _ _ _ h => h) (Or.inl ⟨by rfl, ?_⟩) (by assumption) ?_
        rotate_left
        · (intro wS hSw; (try dsimp only at hSw); have z6 := cell_ext hSw y6; have u0 := cell_ext hSw r0; have u1 := cell_ext hSw r1; have u2 := cell_ext hSw r2; (try go_simp); (try with_reducible rfl))
        try simp only [Act.put, s1, s2, s3]
        refine wpAnyH_take (i := 5) (oi := _) (v := ?_) rfl (by kernel_rfl) (by kernel_rfl) (by kernel_rfl) (fun _ _ _ h => h) (Or.inl ⟨by rfl, ?_⟩) (by assumption) ?_
        rotate_left
        · (intro wS hSw; (try dsimp only at hSw); have z6 := cell_ext hSw y6; have u0 := cell_ext hSw r0; have u1 := cell_ext hSw r1; have u2 := cell_ext hSw r2; (try go_simp); (try with_reducible rfl))
        try simp only [Act.put, s1, s2, s3]
        refine wpAnyH_take (i := 6) (oi := _) (v := ?_) rfl (by kernel_rfl) (by kernel_rfl) (by kernel_rfl) (fun _ _ _ h => h) (Or.inl ⟨by rfl, ?_⟩) (by assumption) ?_
        rotate_left
        · (intro wS hSw; (try dsimp only at hSw); have z6 := cell_ext hSw y6; have u0 := cell_ext hSw r0; have u1 := cell_ext hSw r1; have u2 := cell_ext hSw r2; (try go_simp); (try with_reducible rfl))
        try simp only [Act.put, s1, s2, s3]
        refine wpAnyH_take (i := 7) (oi := _) (v := ?_) rfl (by kernel_rfl) (by kernel_rfl) (by kernel_rfl) (fun _ _ _ h => h) (Or.inl ⟨by rfl, ?_⟩) (by assumption) ?_
        rotate_left
        · (intro wS hSw; (try dsimp only at hSw); have z6 := cell_ext hSw y6; have u0 := cell_ext hSw r0; have u1 := cell_ext hSw r1; have u2 := cell_ext hSw r2; (try go_simp); (try with_reducible rfl))
        try simp only [Act.put, s1, s2, s3]
        refine wpAnyH_take (i := 8) (oi := _) (v := ?_) rfl (by kernel_rfl) (by kernel_rfl) (by kernel_rfl) (fun _ _ _ h => h) (Or.inl ⟨by rfl, ?_⟩) (by assumption) ?_
        rotate_left
        · (intro wS hSw; (try dsimp only at hSw); have z6 := cell_ext hSw y6; have u0 := cell_ext hSw r0; have u1 := cell_ext hSw r1; have u2 := cell_ext hSw r2; (try go_simp); (try with_reducible rfl))
        try simp only [Act.put, s1, s2, s3]
        refine wpAnyH_take (i := 9) (oi := _) (v := ?_) rfl (by kernel_rfl) (by kernel_rfl) (by kernel_rfl) (fun _ _ _ h => h) (Or.inl ⟨by rfl, ?_⟩) (by assumption) ?_
        rotate_left
        · (intro wS hSw; (try dsimp only at hSw); have z6 := cell_ext hSw y6; have u0 := cell_ext hSw r0; have u1 := cell_ext hSw r1; have u2 := cell_ext hSw r2; (try go_simp); (try with_reducible rfl))
        try simp only [Act.put, s1, s2, s3]
        refine wpAnyH_take (i := 10) (oi := _) (v := ?_) rfl (by kernel_rfl) (by kernel_rfl) (by kernel_rfl) (fun _ _ _ h => h) (Or.inl ⟨by rfl, ?_⟩) (by assumption) ?_
        rotate_left
        · (intro wS hSw; (try dsimp only at hSw); have z6 := cell_ext hSw y6; have u0 := cell_ext hSw r0; have u1 := cell_ext hSw r1; have u2 := cell_ext hSw r2; (try go_simp); (try with_reducible rfl))
        try simp only [Act.put, s1, s2, s3]
        refine wpAnyH_take (i := 11) (oi := _) (v := ?_) rfl (by kernel_rfl) (by kernel_rfl) (by kernel_rfl) (fun _ _ _ h => h) (Or.inl ⟨by rfl, ?_⟩) (by assumption) ?_
        rotate_left
        · (intro wS hSw; (try dsimp only at hSw); have z6 := cell_ext hSw y6; have u0 := cell_ext hSw r0; have u1 := cell_ext hSw r1; have u2 := cell_ext hSw r2; (try go_simp); (try with_reducible rfl))
        try simp only [Act.put, s1, s2, s3]
        refine wpAnyH_take (i := 12) (oi := _) (v := ?_) rfl (by kernel_rfl) (by kernel_rfl) (by kernel_rfl) (fun _ _ _ h => h) (Or.inl ⟨by rfl, ?_⟩) (by assumption) ?_
        rotate_left
        · (intro wS hSw; (try dsimp only at hSw); have z6 := cell_ext hSw y6; have u0 := cell_ext hSw r0; have u1 := cell_ext hSw r1; have u2 := cell_ext hSw r2; (try go_simp); (try with_reducible rfl))
        try simp only [Act.put, s1, s2, s3]
        refine wpAnyH_take (i := 13) (oi := _) (v := ?_) rfl (by kernel_rfl) (by kernel_rfl) (by kernel_rfl) (fun _ _ _ h => h) (Or.inl ⟨by rfl, ?_⟩) (by assumption) ?_
        rotate_left
        · (intro wS hSw; (try dsimp only at hSw); have z6 := cell_ext hSw y6; have u0 := cell_ext hSw r0; have u1 := cell_ext hSw r1; have u2 := cell_ext hSw r2; (try go_simp); (try with_reducible rfl))
        try simp only [Act.put, s1, s2, s3]
        refine wpAnyH_take (i := 14) (oi := _) (v := ?_) rfl (by kernel_rfl) (by kernel_rfl) (by kernel_rfl) (fun _ _ _ h => h) (Or.inl ⟨by rfl, ?_⟩) (by assumption) ?_
        rotate_left
        · (intro wS hSw; (try dsimp only at hSw); have z6 := cell_ext hSw y6; have u0 := cell_ext hSw r0; have u1 := cell_ext hSw r1; have u2 := cell_ext hSw r2; (try go_simp); (try with_reducible rfl))
        try simp only [Act.put, s1, s2, s3]
        refine wpAnyH_take (i := 15) (oi := _) (v := ?_) rfl (by kernel_rfl) (by kernel_rfl) (by kernel_rfl) (fun _ _ _ h => h) (Or.inl ⟨by rfl, ?_⟩) (by assumption) ?_
        rotate_left
        · (intro wS hSw; (try dsimp only at hSw); have z6 := cell_ext hSw y6; have u0 := cell_ext hSw r0; have u1 := cell_ext hSw r1; have u2 := cell_ext hSw r2; (try go_simp); (try with_reducible rfl))
        try simp only [Act.put, s1, s2, s3]
        refine wpAnyH_take (i := 16) (oi := _) (v := ?_) rfl (by kernel_rfl) (by kernel_rfl) (by kernel_rfl) (fun _ _ _ h => h) (Or.inl ⟨by rfl, ?_⟩) (by assumption) ?_
        rotate_left
        · (intro wS hSw; (try dsimp only at hSw); have z6 := cell_ext hSw y6; have u0 := cell_ext hSw r0; have u1 := cell_ext hSw r1; have u2 := cell_ext hSw r2; (try go_simp); (try with_reducible rfl))
        try simp only [Act.put, s1, s2, s3]
        refine wpAnyH_ready (rs := [17]) (by kernel_rfl) (by simp) ?_
        refine AllReadyH.cons rfl (fun KQ hKQ => ?_) AllReadyH.nil
        go_simp
        refine hKQ.out _ _ ?_ (fun hHeld => ?_)
        · (try dsimp only); repeat (first | exact Ext.refl _ | assumption | refine Ext.drew ?_ | refine Ext.drewN ?_ _ | refine Ext.alloc ?_ _)
        clear hKQ KQ
        try simp only [Act.put, s1, s2, s3]
        refine wpAnyH_ready (rs := [18]) (by kernel_rfl) (by simp) ?_
        refine AllReadyH.cons rfl (fun KQ hKQ => ?_) AllReadyH.nil
        go_simp
        refine hKQ.out _ _ ?_ (fun hHeld => ?_)
        · (try dsimp only); repeat (first | exact Ext.refl _ | assumption | refine Ext.drew ?_ | refine Ext.drewN ?_ _ | refine Ext.alloc ?_ _)
        clear hKQ KQ
        try simp only [Act.put, s1, s2, s3]
        refine wpAnyH_done (by kernel_rfl) ?_ _
        go_wp2
        go_ret
        have c1 : IntKind.i64.wrap (a1 / x.sz) = a1 / x.sz := by rw [IntKind.wrap_i64]; omega
        have c2 : IntKind.i64.wrap (a2 / x.sz) = a2 / x.sz := by rw [IntKind.wrap_i64]; omega
        rw [c1, c2]
        refine .inl ⟨[a0, a1 / x.sz, a2 / x.sz], _, _, HC.out, rfl, zx_new3 _ _ _ _, fun ad e => ?_, HK.out.trans (by repeat (first | exact Ext.refl _ | assumption | refine Ext.drew ?_ | refine Ext.drewN ?_ _ | refine Ext.alloc ?_ _))⟩
        injection e with e
        subst e
        exact he
      · have HC : Hid (poolO x.sz [a0, a1, a2] = none) := Lib.hid ((if_pos m1).trans (if_neg m2))
        go_wp2_with fail
        go_quiet (fail)
        go_wp2
        go_ret
        exact .inr ⟨HC.out, rfl, HK.out.trans (by repeat (first | exact Ext.refl _ | refine Ext.drewN ?_ _ | refine Ext.drew ?_))⟩
        
    · have HC : Hid (poolO x.sz [a0, a1, a2] = none) := Lib.hid (if_neg m1)
      go_wp2_with fail
      go_quiet (fail)
      go_wp2
      go_ret
      exact .inr ⟨HC.out, rfl, HK.out.trans (by repeat (first | exact Ext.refl _ | refine Ext.drewN ?_ _ | refine Ext.drew ?_))⟩
      
  · have h4 : ¬ ((s.length : Int) = 3) := by omega
    have h5 := Lib.hid h3
    clear h3
    go_wp2_with fail
    go_quiet (fail)
    go_wp2
    go_ret
    exact .inr ⟨poolO_no h5.out, rfl, HK.out.trans (by repeat (first | exact Ext.refl _ | refine Ext.drewN ?_ _ | refine Ext.drew ?_))⟩
    
end Go.Proofs.Ytdnjjpkajiehgaa

/-
  What is told of a place's numbers.
-/
namespace Go.Proofs.Ytdnjjpkajiehgaa
open Go.RowKit
set_option linter.unusedVariables false
set_option maxRecDepth 100000

set_option maxHeartbeats 4000000 in
theorem hasNumbers_any (x : Nd) (As Ad Ab Ah : Option Addr) (cs cd cb ch : Nat) (shs : List (List Int)) (w : World) (hX : Hid (Plc w x As Ad Ab Ah cs cd cb ch shs)) :
    Calls Try.prog 93 #[.agg #[.int .i64 x.k, .int .i64 x.a, .int .i64 x.b, .slice As x.sh.length cs, .int .i64 x.lo, .int .i64 x.hi, .int .i64 x.sz, .slice Ad x.da.length cd, .slice Ab x.bi.length cb, .slice Ah shs.length ch]] w fun e w' => e = .returned (.bool (decide (0 < entN x.sh) && decide ((x.da.length : Int) = entN x.sh))) ∧ Ext w w' := by
  obtain ⟨y0, y1, y2, y3, y4, y5, y6, y7, y8, y9⟩ := ten_at w (.int .i64 x.k) (.int .i64 x.a) (.int .i64 x.b) (.slice As x.sh.length cs) (.int .i64 x.lo) (.int .i64 x.hi) (.int .i64 x.sz) (.slice Ad x.da.length cd) (.slice Ab x.bi.length cb) (.slice Ah shs.length ch) 71
  have kk : Ext w (w.alloc (.cells #[.int .i64 x.k, .int .i64 x.a, .int .i64 x.b, .slice As x.sh.length cs, .int .i64 x.lo, .int .i64 x.hi, .int .i64 x.sz, .slice Ad x.da.length cd, .slice Ab x.bi.length cb, .slice Ah shs.length ch] 71)) := (Ext.refl w).alloc _
  go_enter Try.func93, Try.ntmps93
  go_wp2_with fail
  generalize w.alloc (.cells #[.int .i64 x.k, .int .i64 x.a, .int .i64 x.b, .slice As x.sh.length cs, .int .i64 x.lo, .int .i64 x.hi, .int .i64 x.sz, .slice Ad x.da.length cd, .slice Ab x.bi.length cb, .slice Ah shs.length ch] 71) = V at *
  by_cases hp : 0 < entN x.sh
  · have HP := Lib.hid hp
    clear hp
    refine wp_region_held_drew (S := (fun w' => Ext V w')) (by kernel_rfl) ?_ (fun hHeld => ?_)
    · (try dsimp only); repeat (first | exact Ext.refl _ | assumption | refine Ext.drew ?_ | refine Ext.drewN ?_ _ | refine Ext.alloc ?_ _)
    refine wpAnyH_take (i := 0) (oi := _) (v := ?_) rfl (by kernel_rfl) (by kernel_rfl) (by kernel_rfl) (fun _ _ _ h => h) (Or.inl ⟨by first | kernel_rfl | rfl, ?_⟩) (by assumption) ?_
    rotate_left
    · (intro wS hSw; (try dsimp only at hSw); have z0 := cell_ext hSw y0; have z1 := cell_ext hSw y1; have z2 := cell_ext hSw y2; have z3 := cell_ext hSw y3; have z4 := cell_ext hSw y4; have z5 := cell_ext hSw y5; have z6 := cell_ext hSw y6; have z7 := cell_ext hSw y7; have z8 := cell_ext hSw y8; have z9 := cell_ext hSw y9; (try go_simp); (try with_reducible rfl))
    try simp only [Act.put, s1, s2, s3]
    refine wpAnyH_ready (rs := [1]) (by kernel_rfl) (by simp) ?_
    refine AllReadyH.cons rfl (fun KQ hKQ => ?_) AllReadyH.nil
    go_simp
    (refine (hasShape_any x As Ad Ab Ah cs cd cb ch shs _ (Lib.hid (hX.out.ext (kk.trans (by repeat (first | exact Ext.refl _ | assumption | refine Ext.drew ?_ | refine Ext.drewN ?_ _ | refine Ext.alloc ?_ _)))))).mono ?_; rintro e5 w5 ⟨rfl, k5⟩; rw [decide_eq_true HP.out]; have kc : Ext V w5 := Ext.trans (by repeat (first | exact Ext.refl _ | assumption | refine Ext.drew ?_ | refine Ext.drewN ?_ _ | refine Ext.alloc ?_ _)) k5)
    refine hKQ.out _ _ ?_ (fun hHeld => ?_)
    · (try dsimp only); repeat (first | exact Ext.refl _ | assumption | refine Ext.drew ?_ | refine Ext.drewN ?_ _ | refine Ext.alloc ?_ _)
    clear hKQ KQ
    try simp only [Act.put, s1, s2, s3]
    refine wpAnyH_take (i := 2) (oi := _) (v := ?_) rfl (by kernel_rfl) (by kernel_rfl) (by kernel_rfl) (fun _ _ _ h => h) (Or.inl ⟨by first | kernel_rfl | rfl, ?_⟩) (by assumption) ?_
    rotate_left
    · (intro wS hSw; (try dsimp only at hSw); have z0 := cell_ext hSw y0; have z1 := cell_ext hSw y1; have z2 := cell_ext hSw y2; have z3 := cell_ext hSw y3; have z4 := cell_ext hSw y4; have z5 := cell_ext hSw y5; have z6 := cell_ext hSw y6; have z7 := cell_ext hSw y7; have z8 := cell_ext hSw y8; have z9 := cell_ext hSw y9; (try go_simp); (try with_reducible rfl))
    try simp only [Act.put, s1, s2, s3]
    refine wpAnyH_take (i := 3) (oi := _) (v := ?_) rfl (by kernel_rfl) (by kernel_rfl) (by kernel_rfl) (fun _ _ _ h => h) (Or.inl ⟨by first | kernel_rfl | rfl, ?_⟩) (by assumption) ?_
    rotate_left
    · (intro wS hSw; (try dsimp only at hSw); have z0 := cell_ext hSw y0; have z1 := cell_ext hSw y1; have z2 := cell_ext hSw y2; have z3 := cell_ext hSw y3; have z4 := cell_ext hSw y4; have z5 := cell_ext hSw y5; have z6 := cell_ext hSw y6; have z7 := cell_ext hSw y7; have z8 := cell_ext hSw y8; have z9 := cell_ext hSw y9; (try go_simp); (try with_reducible rfl))
    try simp only [Act.put, s1, s2, s3]
    refine wpAnyH_take (i := 4) (oi := _) (v := ?_) rfl (by kernel_rfl) (by kernel_rfl) (by kernel_rfl) (fun _ _ _ h => h) (Or.inl ⟨by first | kernel_rfl | rfl, ?_⟩) (by assumption) ?_
    rotate_left
    · (intro wS hSw; (try dsimp only at hSw); have z0 := cell_ext hSw y0; have z1 := cell_ext hSw y1; have z2 := cell_ext hSw y2; have z3 := cell_ext hSw y3; have z4 := cell_ext hSw y4; have z5 := cell_ext hSw y5; have z6 := cell_ext hSw y6; have z7 := cell_ext hSw y7; have z8 := cell_ext hSw y8; have z9 := cell_ext hSw y9; (try go_simp); (try with_reducible rfl))
    try simp only [Act.put, s1, s2, s3]
    refine wpAnyH_take (i := 5) (oi := _) (v := ?_) rfl (by kernel_rfl) (by kernel_rfl) (by kernel_rfl) (fun _ _ _ h => h) (Or.inl ⟨by first | kernel_rfl | rfl, ?_⟩) (by assumption) ?_
    rotate_left
    · (intro wS hSw; (try dsimp only at hSw); have z0 := cell_ext hSw y0; have z1 := cell_ext hSw y1; have z2 := cell_ext hSw y2; have z3 := cell_ext hSw y3; have z4 := cell_ext hSw y4; have z5 := cell_ext hSw y5; have z6 := cell_ext hSw y6; have z7 := cell_ext hSw y7; have z8 := cell_ext hSw y8; have z9 := cell_ext hSw y9; (try go_simp); (try with_reducible rfl))
    try simp only [Act.put, s1, s2, s3]
    refine wpAnyH_take (i := 6) (oi := _) (v := ?_) rfl (by kernel_rfl) (by kernel_rfl) (by kernel_rfl) (fun _ _ _ h => h) (Or.inl ⟨by first | kernel_rfl | rfl, ?_⟩) (by assumption) ?_
    rotate_left
    · (intro wS hSw; (try dsimp only at hSw); have z0 := cell_ext hSw y0; have z1 := cell_ext hSw y1; have z2 := cell_ext hSw y2; have z3 := cell_ext hSw y3; have z4 := cell_ext hSw y4; have z5 := cell_ext hSw y5; have z6 := cell_ext hSw y6; have z7 := cell_ext hSw y7; have z8 := cell_ext hSw y8; have z9 := cell_ext hSw y9; (try go_simp); (try with_reducible rfl))
    try simp only [Act.put, s1, s2, s3]
    refine wpAnyH_take (i := 7) (oi := _) (v := ?_) rfl (by kernel_rfl) (by kernel_rfl) (by kernel_rfl) (fun _ _ _ h => h) (Or.inl ⟨by first | kernel_rfl | rfl, ?_⟩) (by assumption) ?_
    rotate_left
    · (intro wS hSw; (try dsimp only at hSw); have z0 := cell_ext hSw y0; have z1 := cell_ext hSw y1; have z2 := cell_ext hSw y2; have z3 := cell_ext hSw y3; have z4 := cell_ext hSw y4; have z5 := cell_ext hSw y5; have z6 := cell_ext hSw y6; have z7 := cell_ext hSw y7; have z8 := cell_ext hSw y8; have z9 := cell_ext hSw y9; (try go_simp); (try with_reducible rfl))
    try simp only [Act.put, s1, s2, s3]
    refine wpAnyH_take (i := 8) (oi := _) (v := ?_) rfl (by kernel_rfl) (by kernel_rfl) (by kernel_rfl) (fun _ _ _ h => h) (Or.inl ⟨by first | kernel_rfl | rfl, ?_⟩) (by assumption) ?_
    rotate_left
    · (intro wS hSw; (try dsimp only at hSw); have z0 := cell_ext hSw y0; have z1 := cell_ext hSw y1; have z2 := cell_ext hSw y2; have z3 := cell_ext hSw y3; have z4 := cell_ext hSw y4; have z5 := cell_ext hSw y5; have z6 := cell_ext hSw y6; have z7 := cell_ext hSw y7; have z8 := cell_ext hSw y8; have z9 := cell_ext hSw y9; (try go_simp); (try with_reducible rfl))
    try simp only [Act.put, s1, s2, s3]
    refine wpAnyH_take (i := 9) (oi := _) (v := ?_) rfl (by kernel_rfl) (by kernel_rfl) (by kernel_rfl) (fun _ _ _ h => h) (Or.inl ⟨by first | kernel_rfl | rfl, ?_⟩) (by assumption) ?_
    rotate_left
    · (intro wS hSw; (try dsimp only at hSw); have z0 := cell_ext hSw y0; have z1 := cell_ext hSw y1; have z2 := cell_ext hSw y2; have z3 := cell_ext hSw y3; have z4 := cell_ext hSw y4; have z5 := cell_ext hSw y5; have z6 := cell_ext hSw y6; have z7 := cell_ext hSw y7; have z8 := cell_ext hSw y8; have z9 := cell_ext hSw y9; (try go_simp); (try with_reducible rfl))
    try simp only [Act.put, s1, s2, s3]
    refine wpAnyH_ready (rs := [10]) (by kernel_rfl) (by simp) ?_
    refine AllReadyH.cons rfl (fun KQ hKQ => ?_) AllReadyH.nil
    go_simp
    (refine (ent_any As x.sh.length cs x.sh _ (Lib.hid (hX.out.nd.sh.ext (kk.trans (kc.trans (by repeat (first | exact Ext.refl _ | assumption | refine Ext.drew ?_ | refine Ext.drewN ?_ _ | refine Ext.alloc ?_ _))))))).mono ?_; rintro e7 w7 ⟨rfl, rfl⟩)
    refine hKQ.out _ _ ?_ (fun hHeld => ?_)
    · (try dsimp only); repeat (first | exact Ext.refl _ | assumption | refine Ext.drew ?_ | refine Ext.drewN ?_ _ | refine Ext.alloc ?_ _)
    clear hKQ KQ
    try simp only [Act.put, s1, s2, s3]
    refine wpAnyH_take (i := 11) (oi := _) (v := ?_) rfl (by kernel_rfl) (by kernel_rfl) (by kernel_rfl) (fun _ _ _ h => h) (Or.inl ⟨by first | kernel_rfl | rfl, ?_⟩) (by assumption) ?_
    rotate_left
    · (intro wS hSw; (try dsimp only at hSw); have z0 := cell_ext hSw y0; have z1 := cell_ext hSw y1; have z2 := cell_ext hSw y2; have z3 := cell_ext hSw y3; have z4 := cell_ext hSw y4; have z5 := cell_ext hSw y5; have z6 := cell_ext hSw y6; have z7 := cell_ext hSw y7; have z8 := cell_ext hSw y8; have z9 := cell_ext hSw y9; (try go_simp); (try with_reducible rfl))
    try simp only [Act.put, s1, s2, s3]
    refine wpAnyH_take (i := 12) (oi := _) (v := ?_) rfl (by kernel_rfl) (by kernel_rfl) (by kernel_rfl) (fun _ _ _ h => h) (Or.inl ⟨by first | kernel_rfl | rfl, ?_⟩) (by assumption) ?_
    rotate_left
    · (intro wS hSw; (try dsimp only at hSw); have z0 := cell_ext hSw y0; have z1 := cell_ext hSw y1; have z2 := cell_ext hSw y2; have z3 := cell_ext hSw y3; have z4 := cell_ext hSw y4; have z5 := cell_ext hSw y5; have z6 := cell_ext hSw y6; have z7 := cell_ext hSw y7; have z8 := cell_ext hSw y8; have z9 := cell_ext hSw y9; (try go_simp); (try with_reducible rfl))
    try simp only [Act.put, s1, s2, s3]
    refine wpAnyH_ready (rs := [13]) (by kernel_rfl) (by simp) ?_
    refine AllReadyH.cons rfl (fun KQ hKQ => ?_) AllReadyH.nil
    go_simp
    refine hKQ.out _ _ ?_ (fun hHeld => ?_)
    · (try dsimp only); repeat (first | exact Ext.refl _ | assumption | refine Ext.drew ?_ | refine Ext.drewN ?_ _ | refine Ext.alloc ?_ _)
    clear hKQ KQ
    try simp only [Act.put, s1, s2, s3]
    refine wpAnyH_done (by kernel_rfl) ?_ _
    go_wp2
    go_ret
    exact ⟨by show Ending.returned (.bool (decide ((x.da.length : Int) = entN x.sh))) = _; rw [decide_eq_true HP.out, Bool.true_and], kk.trans (kc.trans (by repeat (first | exact Ext.refl _ | assumption | refine Ext.drew ?_ | refine Ext.drewN ?_ _ | refine Ext.alloc ?_ _)))⟩
  · have HP := Lib.hid hp
    clear hp
    refine wp_region_held_drew (S := (fun w' => Ext V w')) (by kernel_rfl) ?_ (fun hHeld => ?_)
    · (try dsimp only); repeat (first | exact Ext.refl _ | assumption | refine Ext.drew ?_ | refine Ext.drewN ?_ _ | refine Ext.alloc ?_ _)
    refine wpAnyH_take (i := 0) (oi := _) (v := ?_) rfl (by kernel_rfl) (by kernel_rfl) (by kernel_rfl) (fun _ _ _ h => h) (Or.inl ⟨by first | kernel_rfl | rfl, ?_⟩) (by assumption) ?_
    rotate_left
    · (intro wS hSw; (try dsimp only at hSw); have z0 := cell_ext hSw y0; have z1 := cell_ext hSw y1; have z2 := cell_ext hSw y2; have z3 := cell_ext hSw y3; have z4 := cell_ext hSw y4; have z5 := cell_ext hSw y5; have z6 := cell_ext hSw y6; have z7 := cell_ext hSw y7; have z8 := cell_ext hSw y8; have z9 := cell_ext hSw y9; (try go_simp); (try with_reducible rfl))
    try simp only [Act.put, s1, s2, s3]
    refine wpAnyH_ready (rs := [1]) (by kernel_rfl) (by simp) ?_
    refine AllReadyH.cons rfl (fun KQ hKQ => ?_) AllReadyH.nil
    go_simp
    (refine (hasShape_any x As Ad Ab Ah cs cd cb ch shs _ (Lib.hid (hX.out.ext (kk.trans (by repeat (first | exact Ext.refl _ | assumption | refine Ext.drew ?_ | refine Ext.drewN ?_ _ | refine Ext.alloc ?_ _)))))).mono ?_; rintro e5 w5 ⟨rfl, k5⟩; rw [decide_eq_false HP.out]; have kc : Ext V w5 := Ext.trans (by repeat (first | exact Ext.refl _ | assumption | refine Ext.drew ?_ | refine Ext.drewN ?_ _ | refine Ext.alloc ?_ _)) k5)
    refine hKQ.out _ _ ?_ (fun hHeld => ?_)
    · (try dsimp only); repeat (first | exact Ext.refl _ | assumption | refine Ext.drew ?_ | refine Ext.drewN ?_ _ | refine Ext.alloc ?_ _)
    clear hKQ KQ
    try simp only [Act.put, s1, s2, s3]
    refine wpAnyH_take (i := 2) (oi := _) (v := ?_) rfl (by kernel_rfl) (by kernel_rfl) (by kernel_rfl) (fun _ _ _ h => h) (Or.inl ⟨by first | kernel_rfl | rfl, ?_⟩) (by assumption) ?_
    rotate_left
    · (intro wS hSw; (try dsimp only at hSw); have z0 := cell_ext hSw y0; have z1 := cell_ext hSw y1; have z2 := cell_ext hSw y2; have z3 := cell_ext hSw y3; have z4 := cell_ext hSw y4; have z5 := cell_ext hSw y5; have z6 := cell_ext hSw y6; have z7 := cell_ext hSw y7; have z8 := cell_ext hSw y8; have z9 := cell_ext hSw y9; (try go_simp); (try with_reducible rfl))
    try simp only [Act.put, s1, s2, s3]
    refine wpAnyH_take (i := 3) (oi := _) (v := undef) rfl (by kernel_rfl) (by kernel_rfl) (by kernel_rfl) (fun _ _ _ h => h) (Or.inr ⟨by kernel_rfl, rfl⟩) (by assumption) ?_
    try simp only [Act.put, s1, s2, s3]
    refine wpAnyH_take (i := 4) (oi := _) (v := undef) rfl (by kernel_rfl) (by kernel_rfl) (by kernel_rfl) (fun _ _ _ h => h) (Or.inr ⟨by kernel_rfl, rfl⟩) (by assumption) ?_
    try simp only [Act.put, s1, s2, s3]
    refine wpAnyH_take (i := 5) (oi := _) (v := undef) rfl (by kernel_rfl) (by kernel_rfl) (by kernel_rfl) (fun _ _ _ h => h) (Or.inr ⟨by kernel_rfl, rfl⟩) (by assumption) ?_
    try simp only [Act.put, s1, s2, s3]
    refine wpAnyH_take (i := 6) (oi := _) (v := undef) rfl (by kernel_rfl) (by kernel_rfl) (by kernel_rfl) (fun _ _ _ h => h) (Or.inr ⟨by kernel_rfl, rfl⟩) (by assumption) ?_
    try simp only [Act.put, s1, s2, s3]
    refine wpAnyH_take (i := 7) (oi := _) (v := undef) rfl (by kernel_rfl) (by kernel_rfl) (by kernel_rfl) (fun _ _ _ h => h) (Or.inr ⟨by kernel_rfl, rfl⟩) (by assumption) ?_
    try simp only [Act.put, s1, s2, s3]
    refine wpAnyH_take (i := 8) (oi := _) (v := undef) rfl (by kernel_rfl) (by kernel_rfl) (by kernel_rfl) (fun _ _ _ h => h) (Or.inr ⟨by kernel_rfl, rfl⟩) (by assumption) ?_
    try simp only [Act.put, s1, s2, s3]
    refine wpAnyH_take (i := 9) (oi := _) (v := undef) rfl (by kernel_rfl) (by kernel_rfl) (by kernel_rfl) (fun _ _ _ h => h) (Or.inr ⟨by kernel_rfl, rfl⟩) (by assumption) ?_
    try simp only [Act.put, s1, s2, s3]
    refine wpAnyH_take (i := 10) (oi := _) (v := undef) rfl (by kernel_rfl) (by kernel_rfl) (by kernel_rfl) (fun _ _ _ h => h) (Or.inr ⟨by kernel_rfl, rfl⟩) (by assumption) ?_
    try simp only [Act.put, s1, s2, s3]
    refine wpAnyH_take (i := 11) (oi := _) (v := undef) rfl (by kernel_rfl) (by kernel_rfl) (by kernel_rfl) (fun _ _ _ h => h) (Or.inr ⟨by kernel_rfl, rfl⟩) (by assumption) ?_
    try simp only [Act.put, s1, s2, s3]
    refine wpAnyH_take (i := 12) (oi := _) (v := ?_) rfl (by kernel_rfl) (by kernel_rfl) (by kernel_rfl) (fun _ _ _ h => h) (Or.inl ⟨by first | kernel_rfl | rfl, ?_⟩) (by assumption) ?_
    rotate_left
    · (intro wS hSw; (try dsimp only at hSw); have z0 := cell_ext hSw y0; have z1 := cell_ext hSw y1; have z2 := cell_ext hSw y2; have z3 := cell_ext hSw y3; have z4 := cell_ext hSw y4; have z5 := cell_ext hSw y5; have z6 := cell_ext hSw y6; have z7 := cell_ext hSw y7; have z8 := cell_ext hSw y8; have z9 := cell_ext hSw y9; (try go_simp); (try with_reducible rfl))
    try simp only [Act.put, s1, s2, s3]
    refine wpAnyH_ready (rs := [13]) (by kernel_rfl) (by simp) ?_
    refine AllReadyH.cons rfl (fun KQ hKQ => ?_) AllReadyH.nil
    go_simp
    refine hKQ.out _ _ ?_ (fun hHeld => ?_)
    · (try dsimp only); repeat (first | exact Ext.refl _ | assumption | refine Ext.drew ?_ | refine Ext.drewN ?_ _ | refine Ext.alloc ?_ _)
    clear hKQ KQ
    try simp only [Act.put, s1, s2, s3]
    refine wpAnyH_done (by kernel_rfl) ?_ _
    go_wp2
    go_ret
    exact ⟨by show Ending.returned (.bool false) = _; rw [decide_eq_false (show ¬ 0 < entN x.sh by have := HP.out; omega), Bool.false_and], kk.trans (kc.trans (by repeat (first | exact Ext.refl _ | assumption | refine Ext.drew ?_ | refine Ext.drewN ?_ _ | refine Ext.alloc ?_ _)))⟩
/-- May these be a kernel's numbers? -/
def cntB (l : List Int) : Bool := l.all fun d => decide (1 ≤ d) && decide (d ≤ 64)
def prodL : List Int → Int
  | [] => 1
  | d :: r => d * prodL r
def kernB (sh : List Int) (nd nb : Int) : Bool := decide (sh.length = 4) && cntB sh && (decide (nd = prodL sh) && decide (nb = sh.getD 0 0))
theorem cntB_cons (d : Int) (l : List Int) : cntB (d :: l) = ((decide (1 ≤ d) && decide (d ≤ 64)) && cntB l) := rfl
theorem four_list {s : List Int} (h : s.length = 4) : ∃ a b c d, s = [a, b, c, d] := by
  match s, h with
  | [a, b, c, d], _ => exact ⟨a, b, c, d, rfl⟩
theorem pow_in {k : Nat} (h : k < 4) : (64 : Int) ^ k ≤ 262144 := by
  rcases (show k = 0 ∨ k = 1 ∨ k = 2 ∨ k = 3 by omega) with rfl | rfl | rfl | rfl <;> decide
theorem mul_in {a b : Int} {A : Int} (h0 : 1 ≤ a) (h1 : a ≤ A) (h2 : 1 ≤ b) (h3 : b ≤ 64) : 1 ≤ a * b ∧ a * b ≤ A * 64 := by
  have u := Int.mul_le_mul h0 h2 (by omega) (by omega)
  have v := Int.mul_le_mul h1 h3 (by omega) (by omega)
  omega
set_option maxHeartbeats 4000000 in
theorem hasKernel_any (x : Nd) (As Ad Ab Ah : Option Addr) (cs cd cb ch : Nat) (shs : List (List Int)) (w : World) (hX : Hid (Plc w x As Ad Ab Ah cs cd cb ch shs)) :
    Calls Try.prog 96 #[.agg #[.int .i64 x.k, .int .i64 x.a, .int .i64 x.b, .slice As x.sh.length cs, .int .i64 x.lo, .int .i64 x.hi, .int .i64 x.sz, .slice Ad x.da.length cd, .slice Ab x.bi.length cb, .slice Ah shs.length ch]] w fun e w' => e = .returned (.bool (kernB x.sh x.da.length x.bi.length)) ∧ Ext w w' := by
  obtain ⟨y0, y1, y2, y3, y4, y5, y6, y7, y8, y9⟩ := ten_at w (.int .i64 x.k) (.int .i64 x.a) (.int .i64 x.b) (.slice As x.sh.length cs) (.int .i64 x.lo) (.int .i64 x.hi) (.int .i64 x.sz) (.slice Ad x.da.length cd) (.slice Ab x.bi.length cb) (.slice Ah shs.length ch) 71
  have kk : Ext w (w.alloc (.cells #[.int .i64 x.k, .int .i64 x.a, .int .i64 x.b, .slice As x.sh.length cs, .int .i64 x.lo, .int .i64 x.hi, .int .i64 x.sz, .slice Ad x.da.length cd, .slice Ab x.bi.length cb, .slice Ah shs.length ch] 71)) := (Ext.refl w).alloc _
  go_enter Try.func96, Try.ntmps96
  have L1 := hX.out.nd.lda
  have L2 := hX.out.nd.lbi
  by_cases h4 : x.sh.length = 4
  · have hl4 : (x.sh.length : Int) = 4 := by omega
    obtain ⟨k0, k1, k2, k3, hsh⟩ := four_list h4
    have HS := Lib.hid hsh
    clear hsh
    obtain ⟨ads, has, hcs⟩ := (hX.out.nd.sh.ext kk).cells (by omega)
    have q0 := hcs 0 k0 (by rw [HS.out]; rfl)
    rw [add0J] at q0
    have HCS := Lib.hid hcs
    clear hcs
    obtain rfl := has
    have n0 : (0 : Int) < (x.sh.length : Int) := by omega
    have HR0 := Lib.hid (show kernB x.sh x.da.length x.bi.length = (cntB x.sh && (decide ((x.da.length : Int) = prodL x.sh) && decide ((x.bi.length : Int) = k0))) by rw [kernB, decide_eq_true h4, Bool.true_and, show x.sh.getD 0 0 = k0 by rw [HS.out]; rfl])
    have H4 := Lib.hid h4
    clear h4
    go_wp2_with fail
    go_loop [3, 15] (fun m i => ∃ (k : Nat) (z : Int), k ≤ 4 ∧ 1 ≤ z ∧ z ≤ 64 ^ k ∧ i = .int .i64 (k : Int) ∧ m = .int .i64 z ∧ Hid (cntB x.sh = cntB (x.sh.drop k)) ∧ Hid (prodL x.sh = z * prodL (x.sh.drop k))) (fun _ i => 4 - (intOf i).toNat)
    case atStart => exact ⟨0, 1, by omega, by omega, by simp, rfl, rfl, Lib.hid rfl, Lib.hid (by rw [Int.one_mul]; rfl)⟩
    case round =>
      obtain ⟨k, z, hk, hz1, hz2, rfl, rfl, hC, hP⟩ := hrel
      by_cases hlt : k < 4
      · obtain ⟨v, hv⟩ : ∃ v, x.sh[k]? = some v := ⟨_, List.getElem?_eq_getElem (by have := H4.out; omega)⟩
        have hdr := Lib.hid (drop_at hv)
        have hc := HCS.out k v hv
        have hzz : z ≤ 262144 := Int.le_trans hz2 (pow_in hlt)
        have hz3 := Lib.hid hz2
        clear hv hz2
        have u0 : (0 : Int) ≤ (k : Int) := by omega
        have u1 : (k : Int) < (x.sh.length : Int) := by have := H4.out; omega
        go_wp2_with fail
        refine (isCount_any v _).mono ?_
        rintro e5 w5 ⟨rfl, rfl⟩
        obtain ⟨b, hb⟩ : ∃ b, (decide (1 ≤ v) && decide (v ≤ 64)) = b := ⟨_, rfl⟩
        have HB := Lib.hid hb
        rw [hb]
        clear hb
        cases b
        · have HR := Lib.hid (show kernB x.sh x.da.length x.bi.length = false by rw [HR0.out, hC.out, hdr.out, cntB_cons, HB.out, Bool.false_and, Bool.false_and])
          go_wp2
          go_ret
          exact ⟨by show Ending.returned (.bool false) = _; rw [HR.out], kk⟩
        · obtain ⟨v1, v2⟩ : 1 ≤ v ∧ v ≤ 64 := by simpa using HB.out
          obtain ⟨m1, m2⟩ := mul_in hz1 hzz v1 v2
          have HC2 := Lib.hid (show cntB x.sh = cntB (x.sh.drop (k + 1)) by rw [hC.out, hdr.out, cntB_cons, HB.out, Bool.true_and])
          have HP2 := Lib.hid (show prodL x.sh = z * v * prodL (x.sh.drop (k + 1)) by rw [hP.out, hdr.out, prodL, Int.mul_assoc])
          have HZ2 := Lib.hid (show z * v ≤ 64 ^ (k + 1) from (mul_in hz1 hz3.out v1 v2).2)
          go_wp2
          go_round
          case rel => exact ⟨k + 1, z * v, by omega, by omega, HZ2.out, by go_num, by first | rfl | go_num, HC2, HP2⟩
          case measure => simp [intOf]; omega
      · obtain rfl : k = 4 := by omega
        have hd : x.sh.drop 4 = [] := List.drop_eq_nil_of_le (by have := H4.out; omega)
        have hpz : prodL x.sh = z := by rw [hP.out, hd]; exact Int.mul_one _
        have HR := Lib.hid (show kernB x.sh x.da.length x.bi.length = (decide ((x.da.length : Int) = z) && decide ((x.bi.length : Int) = k0)) by rw [HR0.out, hC.out, hd, hpz]; rfl)
        clear hd hpz hz2
        by_cases e1 : (x.da.length : Int) = z
        · have E1 := Lib.hid e1
          go_wp2_with fail
          go_quiet (fail)
          go_wp2
          go_ret
          exact ⟨by show Ending.returned (.bool (decide ((x.bi.length : Int) = k0))) = _; rw [HR.out, decide_eq_true E1.out, Bool.true_and], kk.trans (by repeat (first | exact Ext.refl _ | refine Ext.drewN ?_ _))⟩
        · have E1 := Lib.hid e1
          go_wp2_with fail
          go_quiet (fail)
          go_wp2
          go_ret
          exact ⟨by show Ending.returned (.bool false) = _; rw [HR.out, decide_eq_false E1.out, Bool.false_and], kk.trans (by repeat (first | exact Ext.refl _ | refine Ext.drewN ?_ _))⟩
  · have hl4 : ¬ (x.sh.length : Int) = 4 := by omega
    have HR := Lib.hid (show kernB x.sh x.da.length x.bi.length = false by unfold kernB; rw [decide_eq_false h4]; rfl)
    clear h4
    go_wp2
    go_ret
    exact ⟨by show Ending.returned (.bool false) = _; rw [HR.out], kk⟩
end Go.Proofs.Ytdnjjpkajiehgaa

/-
  What a kind asks of its nodes; what is told of a node.
-/
namespace Go.Proofs.Ytdnjjpkajiehgaa
open Go.RowKit
set_option linter.unusedVariables false
set_option maxRecDepth 100000

/-- Are Shape, Size and the numbers as told? -/
def toldB (x : Nd) : Bool :=
  if x.k = 1 then decide (0 < entN x.sh) else
  if x.k = 2 then decide (0 < entN x.sh) && decide ((x.da.length : Int) = entN x.sh) else
  if x.k = 3 then decide (1 ≤ (x.bi.length : Int)) && decide ((x.bi.length : Int) ≤ 64) else
  if x.k = 4 then kernB x.sh x.da.length x.bi.length else
  if x.k = 5 then decide (1 ≤ x.sz) else
  if x.k = 6 then true else
  if x.k = 7 then decide ((x.da.length : Int) = 1) else
  if x.k = 8 then decide ((x.da.length : Int) = 3) else decide (0 < entN x.sh)
def behB (m : List Bool) (x : Nd) (n : Nat) : Bool := (!(m.getD 0 false) || ahB x.a n) && (!(m.getD 1 false) || ahB x.b n)
/-- Is a node of right form, behind n nodes? -/
def formB (x : Nd) (n : Nat) : Bool :=
  match mayL x.k with
  | none => false
  | some m => okL (hasL x) m && (behB m x n && toldB x)
/-- The shape of a node of right form; none, if there is none. -/
def shapeO (x : Nd) (shs : List (List Int)) : Option (List Int) :=
  if x.k = 1 then some x.sh else
  if x.k = 2 then some x.sh else
  if x.k = 3 then (if (x.da.length : Int) = x.bi.length * entN (shs.getD x.a.toNat []) then some [(x.bi.length : Int)] else none) else
  if x.k = 4 then convO x.sh (shs.getD x.a.toNat []) else
  if x.k = 5 then poolO x.sz (shs.getD x.a.toNat []) else
  if x.k = 6 then (if shs.getD x.a.toNat [] = shs.getD x.b.toNat [] then some (shs.getD x.a.toNat []) else none) else
  if x.k = 7 then some (shs.getD x.a.toNat []) else
  if x.k = 8 then some (shs.getD x.a.toNat []) else
  (if entN x.sh = entN (shs.getD x.a.toNat []) then some x.sh else none)
/-- What is told of a node behind nodes of these shapes: its shape, or what is wrong. -/
def nodeR (x : Nd) (shs : List (List Int)) : Except Nat (List Int) :=
  if formB x shs.length then (match shapeO x shs with | none => .error 4 | some s => if nearOK x then .ok s else .error 5) else .error 3
def NodePost (w : World) (r : Except Nat (List Int)) (e : Ending) (w' : World) : Prop :=
  (∃ s A c, r = .ok s ∧ e = .returned (.tuple #[.slice A s.length c, .int .i64 0]) ∧ ZX w' A s.length c s ∧ Frsh w.heap.size A ∧ Ext w w') ∨ (∃ n : Nat, r = .error n ∧ (n = 3 ∨ n = 4 ∨ n = 5) ∧ e = .returned (.tuple #[.slice none 0 0, .int .i64 (n : Int)]) ∧ Ext w w')
theorem node_form {x : Nd} {shs : List (List Int)} (h : formB x shs.length = false) : nodeR x shs = .error 3 := by unfold nodeR; rw [h]; rfl
theorem node_none {x : Nd} {shs : List (List Int)} (h : formB x shs.length = true) (h2 : shapeO x shs = none) : nodeR x shs = .error 4 := by unfold nodeR; rw [h, h2]; rfl
theorem node_far {x : Nd} {shs : List (List Int)} {s : List Int} (h : formB x shs.length = true) (h2 : shapeO x shs = some s) (h3 : nearOK x = false) : nodeR x shs = .error 5 := by unfold nodeR; rw [h, h2, h3]; rfl
theorem node_ok {x : Nd} {shs : List (List Int)} {s : List Int} (h : formB x shs.length = true) (h2 : shapeO x shs = some s) (h3 : nearOK x = true) : nodeR x shs = .ok s := by unfold nodeR; rw [h, h2, h3]; rfl
theorem three_at (w : World) (a0 a1 a2 : Value) (t : TypeId) : (w.alloc (.cells #[a0, a1, a2] t)).cell? ⟨w.heap.size, 0, none⟩ = some a0 ∧ (w.alloc (.cells #[a0, a1, a2] t)).cell? ⟨w.heap.size, 1, none⟩ = some a1 ∧ (w.alloc (.cells #[a0, a1, a2] t)).cell? ⟨w.heap.size, 2, none⟩ = some a2 := by simp
end Go.Proofs.Ytdnjjpkajiehgaa

/-
  Nodes ahead, kernels and shapes that may be: what the numbers say.
-/
namespace Go.Proofs.Ytdnjjpkajiehgaa
open Go.RowKit
set_option linter.unusedVariables false
set_option maxRecDepth 100000

theorem ahead_get {v : Int} {shs : List (List Int)} (h : ahB v shs.length = true) : ∃ i : Nat, v = (i : Int) ∧ ∃ s, shs[i]? = some s ∧ shs.getD v.toNat [] = s := by
  unfold ahB at h
  simp at h
  obtain ⟨h0, h1⟩ := h
  refine ⟨v.toNat, by omega, shs[v.toNat]'(by omega), ?_, ?_⟩
  · exact List.getElem?_eq_getElem (by omega)
  · simp [List.getD, show v.toNat < shs.length by omega]
theorem kernB_four {sh : List Int} {nd nb : Int} (h : kernB sh nd nb = true) : ∃ k0 k1 k2 k3, sh = [k0, k1, k2, k3] ∧ (1 ≤ k0 ∧ k0 ≤ 64) ∧ (1 ≤ k1 ∧ k1 ≤ 64) ∧ (1 ≤ k2 ∧ k2 ≤ 64) ∧ 1 ≤ k3 ∧ k3 ≤ 64 := by
  unfold kernB at h
  simp only [Bool.and_eq_true, decide_eq_true_eq] at h
  obtain ⟨⟨h4, hc⟩, _⟩ := h
  obtain ⟨a, b, c, d, rfl⟩ := four_list h4
  simp [cntB] at hc
  exact ⟨a, b, c, d, rfl, by omega, by omega, by omega, by omega⟩
theorem entN_one {a : Int} (h : 1 ≤ a) (h2 : a ≤ 64) : 0 < entN [a] := by
  unfold entN
  rw [if_neg (by simp)]
  unfold entF
  rw [if_neg (by omega)]
  show 0 < 1 * a
  omega
theorem entN_three {a b c : Int} : 0 < entN [a, b, c] ↔ 1 ≤ a ∧ 1 ≤ b ∧ 1 ≤ c ∧ a * b * c ≤ 64 := by
  unfold entN
  rw [if_neg (by simp)]
  simp only [entF, Int.one_mul]
  constructor
  · intro h
    split at h
    · omega
    · split at h
      · omega
      · split at h
        · omega
        · omega
  · rintro ⟨h1, h2, h3, h4⟩
    have e1 : 1 * 1 ≤ a * b := Int.mul_le_mul h1 h2 (by omega) (by omega)
    have e2 : a * b * 1 ≤ a * b * c := Int.mul_le_mul (Int.le_refl _) h3 (by omega) (by omega)
    have e3 : a * 1 ≤ a * b := Int.mul_le_mul (Int.le_refl _) h2 (by omega) (by omega)
    rw [if_neg (by omega), if_neg (by omega), if_neg (by omega)]
    omega
theorem pool_right {z : Int} {l s : List Int} (hz : 1 ≤ z) (hl : 0 < entN l) (h : poolO z l = some s) : 0 < entN s := by
  unfold poolO at h
  split at h
  · rename_i a0 a1 a2
    split at h
    · split at h
      · rename_i m1 m2
        injection h with h
        subst h
        obtain ⟨p0, p1, p2, p3⟩ := entN_three.1 hl
        have q1 : 1 ≤ a1 / z := by
          have := Int.emod_add_mul_ediv a1 z
          rcases Int.lt_or_le 0 (a1 / z) with g | g
          · exact g
          · have : z * (a1 / z) ≤ 0 := Int.mul_nonpos_of_nonneg_of_nonpos (by omega) g
            omega
        have q2 : 1 ≤ a2 / z := by
          have := Int.emod_add_mul_ediv a2 z
          rcases Int.lt_or_le 0 (a2 / z) with g | g
          · exact g
          · have : z * (a2 / z) ≤ 0 := Int.mul_nonpos_of_nonneg_of_nonpos (by omega) g
            omega
        have r1 : a1 / z ≤ a1 := Int.ediv_le_self _ (by omega)
        have r2 : a2 / z ≤ a2 := Int.ediv_le_self _ (by omega)
        have s1 : a0 * (a1 / z) ≤ a0 * a1 := Int.mul_le_mul (Int.le_refl _) r1 (by omega) (by omega)
        have s0 : 0 ≤ a0 * a1 := Int.mul_nonneg (by omega) (by omega)
        have s2 : a0 * (a1 / z) * (a2 / z) ≤ a0 * a1 * a2 := Int.mul_le_mul s1 r2 (by omega) s0
        exact entN_three.2 ⟨p0, q1, q2, by omega⟩
      · cases h
    · cases h
  · cases h
theorem conv_right {k l s : List Int} (h : convO k l = some s) : 0 < entN s := by
  unfold convO at h
  split at h
  · split at h
    · split at h
      · cases h
      · rename_i hne
        injection h with h
        subst h
        rename_i k0 k1 k2 k3 a0 a1 a2 _
        have := entN_le [k0, a1 - k2 + 1, a2 - k3 + 1]
        omega
    · cases h
  · cases h
theorem shape_right {x : Nd} {shs : List (List Int)} {s : List Int} (hr : Rights shs) (hf : formB x shs.length = true) (hs : shapeO x shs = some s) : 0 < entN s := by
  have ga : ahB x.a shs.length = true → 0 < entN (shs.getD x.a.toNat []) := fun h => by
    obtain ⟨i, _, t, ht, hg⟩ := ahead_get h
    rw [hg]
    exact hr t (List.mem_of_getElem? ht)
  unfold formB at hf
  by_cases k1 : x.k = 1
  · simp [k1, shapeO] at hs
    simp [k1, mayL, toldB] at hf
    subst hs
    exact hf.2.2
  by_cases k2 : x.k = 2
  · simp [k2, shapeO] at hs
    simp [k2, mayL, toldB] at hf
    subst hs
    exact hf.2.2.1
  by_cases k3 : x.k = 3
  · simp [k3, shapeO] at hs
    simp [k3, mayL, toldB] at hf
    obtain ⟨_, rfl⟩ := hs
    exact entN_one (by omega) (by omega)
  by_cases k4 : x.k = 4
  · simp [k4, shapeO] at hs
    exact conv_right hs
  by_cases k5 : x.k = 5
  · simp [k5, shapeO] at hs
    simp [k5, mayL, toldB, behB] at hf
    exact pool_right hf.2.2 (ga hf.2.1) (by simpa [List.getD] using hs)
  by_cases k6 : x.k = 6
  · simp [k6, shapeO] at hs
    simp [k6, mayL, toldB, behB] at hf
    obtain ⟨_, rfl⟩ := hs
    have := ga hf.2.1
    simpa [List.getD] using this
  by_cases k7 : x.k = 7
  · simp [k7, shapeO] at hs
    simp [k7, mayL, toldB, behB] at hf
    subst hs
    have := ga hf.2.1
    simpa [List.getD] using this
  by_cases k8 : x.k = 8
  · simp [k8, shapeO] at hs
    simp [k8, mayL, toldB, behB] at hf
    subst hs
    have := ga hf.2.1
    simpa [List.getD] using this
  by_cases k9 : x.k = 9
  · simp [k9, shapeO] at hs
    simp [k9, mayL, toldB, behB] at hf
    obtain ⟨_, rfl⟩ := hs
    exact hf.2.2
  · simp [k1, k2, k3, k4, k5, k6, k7, k8, k9, mayL] at hf
end Go.Proofs.Ytdnjjpkajiehgaa
