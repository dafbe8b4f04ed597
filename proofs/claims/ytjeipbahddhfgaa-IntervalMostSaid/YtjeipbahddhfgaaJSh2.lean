/-
  The shapes of a convolution and of a pool.
-/
import Derived.Test.YtjeipbahddhfgaaJSh
namespace Go.Proofs.Ytjeipbahddhfgaa
open Go.RowKit
set_option linter.unusedVariables false
set_option maxRecDepth 100000

/-- A convolution's shape. -/
def convO : List Int → List Int → Option (List Int)
  | [k0, k1, k2, k3], [a0, a1, a2] => if a0 = k1 then (if entN [k0, a1 - k2 + 1, a2 - k3 + 1] = 0 then none else some [k0, a1 - k2 + 1, a2 - k3 + 1]) else none
  | _, _ => none
/-- A pool's shape. -/
def poolO (z : Int) : List Int → Option (List Int)
  | [a0, a1, a2] => if a1 % z = 0 then (if a2 % z = 0 then some [a0, a1 / z, a2 / z] else none) else none
  | _ => none
theorem add0J (ad : Addr) : ad.add 0 = ad := by
  unfold Addr.add
  split <;> simp_all
theorem three_list {s : List Int} (h : s.length = 3) : ∃ a b c, s = [a, b, c] := by
  match s, h with
  | [a, b, c], _ => exact ⟨a, b, c, rfl⟩
theorem convO_no {k s : List Int} (h : s.length ≠ 3) : convO k s = none := by
  unfold convO
  split
  · simp at h
  · rfl
theorem poolO_no {z : Int} {s : List Int} (h : s.length ≠ 3) : poolO z s = none := by
  unfold poolO
  split
  · simp at h
  · rfl
set_option maxHeartbeats 4000000 in
theorem conv_any (x : Nd) (As Ad Ab Ah : Option Addr) (cs cd cb ch : Nat) (shs : List (List Int)) (w : World) (hX : Hid (Plc w x As Ad Ab Ah cs cd cb ch shs)) (i : Nat) (s : List Int) (hi : Hid (x.a = (i : Int))) (hs : Hid (shs[i]? = some s)) (k0 k1 k2 k3 : Int) (hk : Hid (x.sh = [k0, k1, k2, k3])) (hb : (1 ≤ k0 ∧ k0 ≤ 64) ∧ (1 ≤ k1 ∧ k1 ≤ 64) ∧ (1 ≤ k2 ∧ k2 ≤ 64) ∧ 1 ≤ k3 ∧ k3 ≤ 64) :
    Calls Try.prog 69 #[.agg #[.int .i64 x.k, .int .i64 x.a, .int .i64 x.b, .slice As x.sh.length cs, .int .i64 x.lo, .int .i64 x.hi, .int .i64 x.sz, .slice Ad x.da.length cd, .slice Ab x.bi.length cb, .slice Ah shs.length ch]] w fun e w' => ShO w (convO x.sh s) e w' := by
  obtain ⟨y0, y1, y2, y3, y4, y5, y6, y7, y8, y9⟩ := ten_at w (.int .i64 x.k) (.int .i64 x.a) (.int .i64 x.b) (.slice As x.sh.length cs) (.int .i64 x.lo) (.int .i64 x.hi) (.int .i64 x.sz) (.slice Ad x.da.length cd) (.slice Ab x.bi.length cb) (.slice Ah shs.length ch) 65
  have kk : Ext w (w.alloc (.cells #[.int .i64 x.k, .int .i64 x.a, .int .i64 x.b, .slice As x.sh.length cs, .int .i64 x.lo, .int .i64 x.hi, .int .i64 x.sz, .slice Ad x.da.length cd, .slice Ab x.bi.length cb, .slice Ah shs.length ch] 65)) := (Ext.refl w).alloc _
  go_enter Try.func69, Try.ntmps69
  go_wp2_with fail
  generalize w.alloc (.cells #[.int .i64 x.k, .int .i64 x.a, .int .i64 x.b, .slice As x.sh.length cs, .int .i64 x.lo, .int .i64 x.hi, .int .i64 x.sz, .slice Ad x.da.length cd, .slice Ab x.bi.length cb, .slice Ah shs.length ch] 65) = V at *
  refine (taken_any x As Ad Ab Ah cs cd cb ch shs _ (Lib.hid (hX.out.ext kk)) i s hi.out hs).mono ?_
  rintro e5 w5 ⟨A5, c5, rfl, hz5, hf5, kc⟩
  have H5 := Lib.hid hz5
  clear hz5 hf5
  replace y0 := cell_ext kc y0
  replace y1 := cell_ext kc y1
  replace y2 := cell_ext kc y2
  replace y3 := cell_ext kc y3
  replace y4 := cell_ext kc y4
  replace y5 := cell_ext kc y5
  replace y6 := cell_ext kc y6
  replace y7 := cell_ext kc y7
  replace y8 := cell_ext kc y8
  replace y9 := cell_ext kc y9
  have HM := Lib.hid (hX.out.ok s (List.mem_of_getElem? hs.out))
  have HK := Lib.hid (kk.trans kc)
  have he := (kk.trans kc).size
  clear kk kc
  have hl4 : x.sh.length = 4 := by rw [hk.out]; rfl
  obtain ⟨ads, has, hcs⟩ := (hX.out.nd.sh.ext HK.out).cells (by omega)
  have q0 := hcs 0 k0 (by rw [hk.out]; rfl)
  rw [add0J] at q0
  have q1 : w5.cell? ⟨ads.block, ads.off + 1, none⟩ = some (.int .i64 k1) := hcs 1 k1 (by rw [hk.out]; rfl)
  have q2 : w5.cell? ⟨ads.block, ads.off + 2, none⟩ = some (.int .i64 k2) := hcs 2 k2 (by rw [hk.out]; rfl)
  have q3 : w5.cell? ⟨ads.block, ads.off + 3, none⟩ = some (.int .i64 k3) := hcs 3 k3 (by rw [hk.out]; rfl)
  rw [has] at y3
  clear hcs has
  have i0 : (0 : Int) < (x.sh.length : Int) := by omega
  have i1 : (1 : Int) < (x.sh.length : Int) := by omega
  have i2 : (2 : Int) < (x.sh.length : Int) := by omega
  have i3 : (3 : Int) < (x.sh.length : Int) := by omega
  have n0 : 0 < x.sh.length := by omega
  have n1 : 1 < x.sh.length := by omega
  have n2 : 2 < x.sh.length := by omega
  have n3 : 3 < x.sh.length := by omega
  clear hl4
  by_cases h3 : s.length = 3
  · obtain ⟨a0, a1, a2, rfl⟩ := three_list h3
    clear h3
    have d1 := entN_dims HM.out a1 (by simp)
    have d2 := entN_dims HM.out a2 (by simp)
    obtain ⟨ad5, rfl, hc5⟩ := H5.out.cells (by simp)
    have r0 := hc5 0 a0 rfl
    rw [add0J] at r0
    have r1 : w5.cell? ⟨ad5.block, ad5.off + 1, none⟩ = some (.int .i64 a1) := hc5 1 a1 rfl
    have r2 : w5.cell? ⟨ad5.block, ad5.off + 2, none⟩ = some (.int .i64 a2) := hc5 2 a2 rfl
    clear hc5
    by_cases ha : a0 = k1
    · subst ha
      have HC : Hid (convO x.sh [a0, a1, a2] = if entN [k0, a1 - k2 + 1, a2 - k3 + 1] = 0 then none else some [k0, a1 - k2 + 1, a2 - k3 + 1]) := Lib.hid (by rw [hk.out]; exact if_pos rfl)
      have lx := entN_le [k0, a1 - k2 + 1, a2 - k3 + 1]
      go_wp2_with fail
      go_quiet (fail)
      go_wp2_with fail
      skip
      refine wp_region_held_drew (S := (fun w' => Ext w5 w')) (by kernel_rfl) ?_ (fun hHeld => ?_)
      · (try dsimp only); repeat (first | exact Ext.refl _ | assumption | refine Ext.drew ?_ | refine Ext.drewN ?_ _ | refine Ext.alloc ?_ _)
      refine wpAnyH_take (i := 0) (oi := _) (v := ?_) rfl (by kernel_rfl) (by kernel_rfl) (by kernel_rfl) (fun _ _ _ h => h) (Or.inl ⟨by rfl, ?_⟩) (by assumption) ?_
      rotate_left
      · (intro wS hSw; (try dsimp only at hSw); have z3 := cell_ext hSw y3; have s0 := cell_ext hSw q0; have s2 := cell_ext hSw q2; have s3 := cell_ext hSw q3; have u1 := cell_ext hSw r1; have u2 := cell_ext hSw r2; (try go_simp); (try with_reducible rfl))
      try simp only [Act.put, s1, s2, s3]
      refine wpAnyH_take (i := 1) (oi := _) (v := ?_) rfl (by kernel_rfl) (by kernel_rfl) (by kernel_rfl) (fun _ _ _ h => h) (Or.inl ⟨by rfl, ?_⟩) (by assumption) ?_
      rotate_left
      · (intro wS hSw; (try dsimp only at hSw); have z3 := cell_ext hSw y3; have s0 := cell_ext hSw q0; have s2 := cell_ext hSw q2; have s3 := cell_ext hSw q3; have u1 := cell_ext hSw r1; have u2 := cell_ext hSw r2; (try go_simp); (try with_reducible rfl))
      try simp only [Act.put, s1, s2, s3]
      refine wpAnyH_take (i := 2) (oi := _) (v := ?_) rfl (by kernel_rfl) (by kernel_rfl) (by kernel_rfl) (fun _ _ _ h => h) (Or.inl ⟨by rfl, ?_⟩) (by assumption) ?_
      rotate_left
      · (intro wS hSw; (try dsimp only at hSw); have z3 := cell_ext hSw y3; have s0 := cell_ext hSw q0; have s2 := cell_ext hSw q2; have s3 := cell_ext hSw q3; have u1 := cell_ext hSw r1; have u2 := cell_ext hSw r2; (try go_simp); (try with_reducible rfl))
      try simp only [Act.put, s1, s2, s3]
      refine wpAnyH_take (i := 3) (oi := _) (v := ?_) rfl (by kernel_rfl) (by kernel_rfl) (by kernel_rfl) (fun _ _ _ h => h) (Or.inl ⟨by rfl, ?_⟩) (by assumption) ?_
      rotate_left
      · (intro wS hSw; (try dsimp only at hSw); have z3 := cell_ext hSw y3; have s0 := cell_ext hSw q0; have s2 := cell_ext hSw q2; have s3 := cell_ext hSw q3; have u1 := cell_ext hSw r1; have u2 := cell_ext hSw r2; (try go_simp); (try with_reducible rfl))
      try simp only [Act.put, s1, s2, s3]
      refine wpAnyH_take (i := 4) (oi := _) (v := ?_) rfl (by kernel_rfl) (by kernel_rfl) (by kernel_rfl) (fun _ _ _ h => h) (Or.inl ⟨by rfl, ?_⟩) (by assumption) ?_
      rotate_left
      · (intro wS hSw; (try dsimp only at hSw); have z3 := cell_ext hSw y3; have s0 := cell_ext hSw q0; have s2 := cell_ext hSw q2; have s3 := cell_ext hSw q3; have u1 := cell_ext hSw r1; have u2 := cell_ext hSw r2; (try go_simp); (try with_reducible rfl))
      try simp only [Act.put, s1, s2, s3]
      refine wpAnyH_take (i := 5) (oi := _) (v := ?_) rfl (by kernel_rfl) (by kernel_rfl) (by kernel_rfl) (fun _ _ _ h => h) (Or.inl ⟨by rfl, ?_⟩) (by assumption) ?_
      rotate_left
      · (intro wS hSw; (try dsimp only at hSw); have z3 := cell_ext hSw y3; have s0 := cell_ext hSw q0; have s2 := cell_ext hSw q2; have s3 := cell_ext hSw q3; have u1 := cell_ext hSw r1; have u2 := cell_ext hSw r2; (try go_simp); (try with_reducible rfl))
      try simp only [Act.put, s1, s2, s3]
      refine wpAnyH_take (i := 6) (oi := _) (v := ?_) rfl (by kernel_rfl) (by kernel_rfl) (by kernel_rfl) (fun _ _ _ h => h) (Or.inl ⟨by rfl, ?_⟩) (by assumption) ?_
      rotate_left
      · (intro wS hSw; (try dsimp only at hSw); have z3 := cell_ext hSw y3; have s0 := cell_ext hSw q0; have s2 := cell_ext hSw q2; have s3 := cell_ext hSw q3; have u1 := cell_ext hSw r1; have u2 := cell_ext hSw r2; (try go_simp); (try with_reducible rfl))
      try simp only [Act.put, s1, s2, s3]
      refine wpAnyH_take (i := 7) (oi := _) (v := ?_) rfl (by kernel_rfl) (by kernel_rfl) (by kernel_rfl) (fun _ _ _ h => h) (Or.inl ⟨by rfl, ?_⟩) (by assumption) ?_
      rotate_left
      · (intro wS hSw; (try dsimp only at hSw); have z3 := cell_ext hSw y3; have s0 := cell_ext hSw q0; have s2 := cell_ext hSw q2; have s3 := cell_ext hSw q3; have u1 := cell_ext hSw r1; have u2 := cell_ext hSw r2; (try go_simp); (try with_reducible rfl))
      try simp only [Act.put, s1, s2, s3]
      refine wpAnyH_take (i := 8) (oi := _) (v := ?_) rfl (by kernel_rfl) (by kernel_rfl) (by kernel_rfl) (fun _ _ _ h => h) (Or.inl ⟨by rfl, ?_⟩) (by assumption) ?_
      rotate_left
      · (intro wS hSw; (try dsimp only at hSw); have z3 := cell_ext hSw y3; have s0 := cell_ext hSw q0; have s2 := cell_ext hSw q2; have s3 := cell_ext hSw q3; have u1 := cell_ext hSw r1; have u2 := cell_ext hSw r2; (try go_simp); (try with_reducible rfl))
      try simp only [Act.put, s1, s2, s3]
      refine wpAnyH_take (i := 9) (oi := _) (v := ?_) rfl (by kernel_rfl) (by kernel_rfl) (by kernel_rfl) (fun _ _ _ h => h) (Or.inl ⟨by rfl, ?_⟩) (by assumption) ?_
      rotate_left
      · (intro wS hSw; (try dsimp only at hSw); have z3 := cell_ext hSw y3; have s0 := cell_ext hSw q0; have s2 := cell_ext hSw q2; have s3 := cell_ext hSw q3; have u1 := cell_ext hSw r1; have u2 := cell_ext hSw r2; (try go_simp); (try with_reducible rfl))
      try simp only [Act.put, s1, s2, s3]
      refine wpAnyH_take (i := 10) (oi := _) (v := ?_) rfl (by kernel_rfl) (by kernel_rfl) (by kernel_rfl) (fun _ _ _ h => h) (Or.inl ⟨by rfl, ?_⟩) (by assumption) ?_
      rotate_left
      · (intro wS hSw; (try dsimp only at hSw); have z3 := cell_ext hSw y3; have s0 := cell_ext hSw q0; have s2 := cell_ext hSw q2; have s3 := cell_ext hSw q3; have u1 := cell_ext hSw r1; have u2 := cell_ext hSw r2; (try go_simp); (try with_reducible rfl))
      try simp only [Act.put, s1, s2, s3]
      refine wpAnyH_take (i := 11) (oi := _) (v := ?_) rfl (by kernel_rfl) (by kernel_rfl) (by kernel_rfl) (fun _ _ _ h => h) (Or.inl ⟨by rfl, ?_⟩) (by assumption) ?_
      rotate_left
      · (intro wS hSw; (try dsimp only at hSw); have z3 := cell_ext hSw y3; have s0 := cell_ext hSw q0; have s2 := cell_ext hSw q2; have s3 := cell_ext hSw q3; have u1 := cell_ext hSw r1; have u2 := cell_ext hSw r2; (try go_simp); (try with_reducible rfl))
      try simp only [Act.put, s1, s2, s3]
      refine wpAnyH_take (i := 12) (oi := _) (v := ?_) rfl (by kernel_rfl) (by kernel_rfl) (by kernel_rfl) (fun _ _ _ h => h) (Or.inl ⟨by rfl, ?_⟩) (by assumption) ?_
      rotate_left
      · (intro wS hSw; (try dsimp only at hSw); have z3 := cell_ext hSw y3; have s0 := cell_ext hSw q0; have s2 := cell_ext hSw q2; have s3 := cell_ext hSw q3; have u1 := cell_ext hSw r1; have u2 := cell_ext hSw r2; (try go_simp); (try with_reducible rfl))
      try simp only [Act.put, s1, s2, s3]
      refine wpAnyH_take (i := 13) (oi := _) (v := ?_) rfl (by kernel_rfl) (by kernel_rfl) (by kernel_rfl) (fun _ _ _ h => h) (Or.inl ⟨by rfl, ?_⟩) (by assumption) ?_
      rotate_left
      · (intro wS hSw; (try dsimp only at hSw); have z3 := cell_ext hSw y3; have s0 := cell_ext hSw q0; have s2 := cell_ext hSw q2; have s3 := cell_ext hSw q3; have u1 := cell_ext hSw r1; have u2 := cell_ext hSw r2; (try go_simp); (try with_reducible rfl))
      try simp only [Act.put, s1, s2, s3]
      refine wpAnyH_take (i := 14) (oi := _) (v := ?_) rfl (by kernel_rfl) (by kernel_rfl) (by kernel_rfl) (fun _ _ _ h => h) (Or.inl ⟨by rfl, ?_⟩) (by assumption) ?_
      rotate_left
      · (intro wS hSw; (try dsimp only at hSw); have z3 := cell_ext hSw y3; have s0 := cell_ext hSw q0; have s2 := cell_ext hSw q2; have s3 := cell_ext hSw q3; have u1 := cell_ext hSw r1; have u2 := cell_ext hSw r2; (try go_simp); (try with_reducible rfl))
      try simp only [Act.put, s1, s2, s3]
      refine wpAnyH_take (i := 15) (oi := _) (v := ?_) rfl (by kernel_rfl) (by kernel_rfl) (by kernel_rfl) (fun _ _ _ h => h) (Or.inl ⟨by rfl, ?_⟩) (by assumption) ?_
      rotate_left
      · (intro wS hSw; (try dsimp only at hSw); have z3 := cell_ext hSw y3; have s0 := cell_ext hSw q0; have s2 := cell_ext hSw q2; have s3 := cell_ext hSw q3; have u1 := cell_ext hSw r1; have u2 := cell_ext hSw r2; (try go_simp); (try with_reducible rfl))
      try simp only [Act.put, s1, s2, s3]
      refine wpAnyH_take (i := 16) (oi := _) (v := ?_) rfl (by kernel_rfl) (by kernel_rfl) (by kernel_rfl) (fun _ _ _ h => h) (Or.inl ⟨by rfl, ?_⟩) (by assumption) ?_
      rotate_left
      · (intro wS hSw; (try dsimp only at hSw); have z3 := cell_ext hSw y3; have s0 := cell_ext hSw q0; have s2 := cell_ext hSw q2; have s3 := cell_ext hSw q3; have u1 := cell_ext hSw r1; have u2 := cell_ext hSw r2; (try go_simp); (try with_reducible rfl))
      try simp only [Act.put, s1, s2, s3]
      refine wpAnyH_take (i := 17) (oi := _) (v := ?_) rfl (by kernel_rfl) (by kernel_rfl) (by kernel_rfl) (fun _ _ _ h => h) (Or.inl ⟨by rfl, ?_⟩) (by assumption) ?_
      rotate_left
      · (intro wS hSw; (try dsimp only at hSw); have z3 := cell_ext hSw y3; have s0 := cell_ext hSw q0; have s2 := cell_ext hSw q2; have s3 := cell_ext hSw q3; have u1 := cell_ext hSw r1; have u2 := cell_ext hSw r2; (try go_simp); (try with_reducible rfl))
      try simp only [Act.put, s1, s2, s3]
      refine wpAnyH_take (i := 18) (oi := _) (v := ?_) rfl (by kernel_rfl) (by kernel_rfl) (by kernel_rfl) (fun _ _ _ h => h) (Or.inl ⟨by rfl, ?_⟩) (by assumption) ?_
      rotate_left
      · (intro wS hSw; (try dsimp only at hSw); have z3 := cell_ext hSw y3; have s0 := cell_ext hSw q0; have s2 := cell_ext hSw q2; have s3 := cell_ext hSw q3; have u1 := cell_ext hSw r1; have u2 := cell_ext hSw r2; (try go_simp); (try with_reducible rfl))
      try simp only [Act.put, s1, s2, s3]
      refine wpAnyH_take (i := 19) (oi := _) (v := ?_) rfl (by kernel_rfl) (by kernel_rfl) (by kernel_rfl) (fun _ _ _ h => h) (Or.inl ⟨by rfl, ?_⟩) (by assumption) ?_
      rotate_left
      · (intro wS hSw; (try dsimp only at hSw); have z3 := cell_ext hSw y3; have s0 := cell_ext hSw q0; have s2 := cell_ext hSw q2; have s3 := cell_ext hSw q3; have u1 := cell_ext hSw r1; have u2 := cell_ext hSw r2; (try go_simp); (try with_reducible rfl))
      try simp only [Act.put, s1, s2, s3]
      refine wpAnyH_take (i := 20) (oi := _) (v := ?_) rfl (by kernel_rfl) (by kernel_rfl) (by kernel_rfl) (fun _ _ _ h => h) (Or.inl ⟨by rfl, ?_⟩) (by assumption) ?_
      rotate_left
      · (intro wS hSw; (try dsimp only at hSw); have z3 := cell_ext hSw y3; have s0 := cell_ext hSw q0; have s2 := cell_ext hSw q2; have s3 := cell_ext hSw q3; have u1 := cell_ext hSw r1; have u2 := cell_ext hSw r2; (try go_simp); (try with_reducible rfl))
      try simp only [Act.put, s1, s2, s3]
      refine wpAnyH_take (i := 21) (oi := _) (v := ?_) rfl (by kernel_rfl) (by kernel_rfl) (by kernel_rfl) (fun _ _ _ h => h) (Or.inl ⟨by rfl, ?_⟩) (by assumption) ?_
      rotate_left
      · (intro wS hSw; (try dsimp only at hSw); have z3 := cell_ext hSw y3; have s0 := cell_ext hSw q0; have s2 := cell_ext hSw q2; have s3 := cell_ext hSw q3; have u1 := cell_ext hSw r1; have u2 := cell_ext hSw r2; (try go_simp); (try with_reducible rfl))
      try simp only [Act.put, s1, s2, s3]
      refine wpAnyH_take (i := 22) (oi := _) (v := ?_) rfl (by kernel_rfl) (by kernel_rfl) (by kernel_rfl) (fun _ _ _ h => h) (Or.inl ⟨by rfl, ?_⟩) (by assumption) ?_
      rotate_left
      · (intro wS hSw; (try dsimp only at hSw); have z3 := cell_ext hSw y3; have s0 := cell_ext hSw q0; have s2 := cell_ext hSw q2; have s3 := cell_ext hSw q3; have u1 := cell_ext hSw r1; have u2 := cell_ext hSw r2; (try go_simp); (try with_reducible rfl))
      try simp only [Act.put, s1, s2, s3]
      refine wpAnyH_take (i := 23) (oi := _) (v := ?_) rfl (by kernel_rfl) (by kernel_rfl) (by kernel_rfl) (fun _ _ _ h => h) (Or.inl ⟨by rfl, ?_⟩) (by assumption) ?_
      rotate_left
      · (intro wS hSw; (try dsimp only at hSw); have z3 := cell_ext hSw y3; have s0 := cell_ext hSw q0; have s2 := cell_ext hSw q2; have s3 := cell_ext hSw q3; have u1 := cell_ext hSw r1; have u2 := cell_ext hSw r2; (try go_simp); (try with_reducible rfl))
      try simp only [Act.put, s1, s2, s3]
      refine wpAnyH_take (i := 24) (oi := _) (v := ?_) rfl (by kernel_rfl) (by kernel_rfl) (by kernel_rfl) (fun _ _ _ h => h) (Or.inl ⟨by rfl, ?_⟩) (by assumption) ?_
      rotate_left
      · (intro wS hSw; (try dsimp only at hSw); have z3 := cell_ext hSw y3; have s0 := cell_ext hSw q0; have s2 := cell_ext hSw q2; have s3 := cell_ext hSw q3; have u1 := cell_ext hSw r1; have u2 := cell_ext hSw r2; (try go_simp); (try with_reducible rfl))
      try simp only [Act.put, s1, s2, s3]
      refine wpAnyH_ready (rs := [25]) (by kernel_rfl) (by simp) ?_
      refine AllReadyH.cons rfl (fun KQ hKQ => ?_) AllReadyH.nil
      go_simp
      refine hKQ.out _ _ ?_ (fun hHeld => ?_)
      · (try dsimp only); repeat (first | exact Ext.refl _ | assumption | refine Ext.drew ?_ | refine Ext.drewN ?_ _ | refine Ext.alloc ?_ _)
      clear hKQ KQ
      try simp only [Act.put, s1, s2, s3]
      refine wpAnyH_ready (rs := [26]) (by kernel_rfl) (by simp) ?_
      refine AllReadyH.cons rfl (fun KQ hKQ => ?_) AllReadyH.nil
      go_simp
      refine hKQ.out _ _ ?_ (fun hHeld => ?_)
      · (try dsimp only); repeat (first | exact Ext.refl _ | assumption | refine Ext.drew ?_ | refine Ext.drewN ?_ _ | refine Ext.alloc ?_ _)
      clear hKQ KQ
      try simp only [Act.put, s1, s2, s3]
      refine wpAnyH_done (by kernel_rfl) ?_ _
      go_wp2_with fail
      refine (ent_any _ 3 3 [k0, a1 - k2 + 1, a2 - k3 + 1] _ (Lib.hid (zx_new3 _ _ _ _))).mono ?_
      rintro e6 w6 ⟨rfl, rfl⟩
      by_cases h0 : entN [k0, a1 - k2 + 1, a2 - k3 + 1] = 0
      · go_wp2
        go_ret
        exact .inr ⟨by rw [HC.out, if_pos h0], rfl, HK.out.trans (by repeat (first | exact Ext.refl _ | assumption | refine Ext.drew ?_ | refine Ext.drewN ?_ _ | refine Ext.alloc ?_ _))⟩
      · go_wp2
        go_ret
        refine .inl ⟨[k0, a1 - k2 + 1, a2 - k3 + 1], _, _, by rw [HC.out, if_neg h0], rfl, zx_new3 _ _ _ _, fun ad e => ?_, HK.out.trans (by repeat (first | exact Ext.refl _ | assumption | refine Ext.drew ?_ | refine Ext.drewN ?_ _ | refine Ext.alloc ?_ _))⟩
        injection e with e
        subst e
        exact he
    · have ha2 := Lib.hid ha
      go_wp2_with fail
      go_quiet (fail)
      go_wp2
      go_ret
      exact .inr ⟨by rw [hk.out]; exact if_neg ha2.out, rfl, HK.out.trans (by repeat (first | exact Ext.refl _ | refine Ext.drewN ?_ _ | refine Ext.drew ?_))⟩
      
  · have h4 : ¬ ((s.length : Int) = 3) := by omega
    have h5 := Lib.hid h3
    clear h3
    go_wp2_with fail
    go_quiet (fail)
    go_wp2
    go_ret
    exact .inr ⟨convO_no h5.out, rfl, HK.out.trans (by repeat (first | exact Ext.refl _ | refine Ext.drewN ?_ _ | refine Ext.drew ?_))⟩
    
set_option maxHeartbeats 4000000 in
theorem pool_any (x : Nd) (As Ad Ab Ah : Option Addr) (cs cd cb ch : Nat) (shs : List (List Int)) (w : World) (hX : Hid (Plc w x As Ad Ab Ah cs cd cb ch shs)) (i : Nat) (s : List Int) (hi : Hid (x.a = (i : Int))) (hs : Hid (shs[i]? = some s)) (hz : 1 ≤ x.sz) :
    Calls Try.prog 71 #[.agg #[.int .i64 x.k, .int .i64 x.a, .int .i64 x.b, .slice As x.sh.length cs, .int .i64 x.lo, .int .i64 x.hi, .int .i64 x.sz, .slice Ad x.da.length cd, .slice Ab x.bi.length cb, .slice Ah shs.length ch]] w fun e w' => ShO w (poolO x.sz s) e w' := by
  obtain ⟨y0, y1, y2, y3, y4, y5, y6, y7, y8, y9⟩ := ten_at w (.int .i64 x.k) (.int .i64 x.a) (.int .i64 x.b) (.slice As x.sh.length cs) (.int .i64 x.lo) (.int .i64 x.hi) (.int .i64 x.sz) (.slice Ad x.da.length cd) (.slice Ab x.bi.length cb) (.slice Ah shs.length ch) 65
  have kk : Ext w (w.alloc (.cells #[.int .i64 x.k, .int .i64 x.a, .int .i64 x.b, .slice As x.sh.length cs, .int .i64 x.lo, .int .i64 x.hi, .int .i64 x.sz, .slice Ad x.da.length cd, .slice Ab x.bi.length cb, .slice Ah shs.length ch] 65)) := (Ext.refl w).alloc _
  go_enter Try.func71, Try.ntmps71
  go_wp2_with fail
  generalize w.alloc (.cells #[.int .i64 x.k, .int .i64 x.a, .int .i64 x.b, .slice As x.sh.length cs, .int .i64 x.lo, .int .i64 x.hi, .int .i64 x.sz, .slice Ad x.da.length cd, .slice Ab x.bi.length cb, .slice Ah shs.length ch] 65) = V at *
  refine (taken_any x As Ad Ab Ah cs cd cb ch shs _ (Lib.hid (hX.out.ext kk)) i s hi.out hs).mono ?_
  rintro e5 w5 ⟨A5, c5, rfl, hz5, hf5, kc⟩
  have H5 := Lib.hid hz5
  clear hz5 hf5
  replace y0 := cell_ext kc y0
  replace y1 := cell_ext kc y1
  replace y2 := cell_ext kc y2
  replace y3 := cell_ext kc y3
  replace y4 := cell_ext kc y4
  replace y5 := cell_ext kc y5
  replace y6 := cell_ext kc y6
  replace y7 := cell_ext kc y7
  replace y8 := cell_ext kc y8
  replace y9 := cell_ext kc y9
  have HM := Lib.hid (hX.out.ok s (List.mem_of_getElem? hs.out))
  have HK := Lib.hid (kk.trans kc)
  have he := (kk.trans kc).size
  clear kk kc
  have z0 : ¬ x.sz = 0 := by omega
  by_cases h3 : s.length = 3
  · obtain ⟨a0, a1, a2, rfl⟩ := three_list h3
    clear h3
    have d1 := entN_dims HM.out a1 (by simp)
    have d2 := entN_dims HM.out a2 (by simp)
    obtain ⟨ad5, rfl, hc5⟩ := H5.out.cells (by simp)
    have r0 := hc5 0 a0 rfl
    rw [add0J] at r0
    have r1 : w5.cell? ⟨ad5.block, ad5.off + 1, none⟩ = some (.int .i64 a1) := hc5 1 a1 rfl
    have r2 : w5.cell? ⟨ad5.block, ad5.off + 2, none⟩ = some (.int .i64 a2) := hc5 2 a2 rfl
    clear hc5
    have v1 : 0 ≤ a1 / x.sz ∧ a1 / x.sz ≤ 64 := ⟨Int.ediv_nonneg (by omega) (by omega), Int.le_trans (Int.ediv_le_self _ (by omega)) (by omega)⟩
    have v2 : 0 ≤ a2 / x.sz ∧ a2 / x.sz ≤ 64 := ⟨Int.ediv_nonneg (by omega) (by omega), Int.le_trans (Int.ediv_le_self _ (by omega)) (by omega)⟩
    have t1 : Int.tdiv a1 x.sz = a1 / x.sz := Int.tdiv_eq_ediv_of_nonneg (by omega)
    have t2 : Int.tdiv a2 x.sz = a2 / x.sz := Int.tdiv_eq_ediv_of_nonneg (by omega)
    have t3 : Int.tmod a1 x.sz = a1 % x.sz := Int.tmod_eq_emod_of_nonneg (by omega)
    have t4 : Int.tmod a2 x.sz = a2 % x.sz := Int.tmod_eq_emod_of_nonneg (by omega)
    by_cases m1 : a1 % x.sz = 0
    · by_cases m2 : a2 % x.sz = 0
      · have HC : Hid (poolO x.sz [a0, a1, a2] = some [a0, a1 / x.sz, a2 / x.sz]) := Lib.hid ((if_pos m1).trans (if_pos m2))
        go_wp2_with fail
        go_quiet (fail)
        go_wp2_with fail
        refine wp_region_held_drew (S := (fun w' => Ext w5 w')) (by kernel_rfl) ?_ (fun hHeld => ?_)
        · (try dsimp only); repeat (first | exact Ext.refl _ | assumption | refine Ext.drew ?_ | refine Ext.drewN ?_ _ | refine Ext.alloc ?_ _)
        refine wpAnyH_take (i := 0) (oi := _) (v := ?_) rfl (by kernel_rfl) (by kernel_rfl) (by kernel_rfl) (fun _ _ _ h => h) (Or.inl ⟨by rfl, ?_⟩) (by assumption) ?_
        rotate_left
        · (intro wS hSw; (try dsimp only at hSw); have z6 := cell_ext hSw y6; have u0 := cell_ext hSw r0; have u1 := cell_ext hSw r1; have u2 := cell_ext hSw r2; (try go_simp); (try with_reducible rfl))
        try simp only [Act.put, s1, s2, s3]
        refine wpAnyH_take (i := 1) (oi := _) (v := ?_) rfl (by kernel_rfl) (by kernel_rfl) (by kernel_rfl) (fun _ _ _ h => h) (Or.inl ⟨by rfl, ?_⟩) (by assumption) ?_
        rotate_left
        · (intro wS hSw; (try dsimp only at hSw); have z6 := cell_ext hSw y6; have u0 := cell_ext hSw r0; have u1 := cell_ext hSw r1; have u2 := cell_ext hSw r2; (try go_simp); (try with_reducible rfl))
        try simp only [Act.put, s1, s2, s3]
        refine wpAnyH_take (i := 2) (oi := _) (v := ?_) rfl (by kernel_rfl) (by kernel_rfl) (by kernel_rfl) (fun _ _ _ h => h) (Or.inl ⟨by rfl, ?_⟩) (by assumption) ?_
        rotate_left
        · (intro wS hSw; (try dsimp only at hSw); have z6 := cell_ext hSw y6; have u0 := cell_ext hSw r0; have u1 := cell_ext hSw r1; have u2 := cell_ext hSw r2; (try go_simp); (try with_reducible rfl))
        try simp only [Act.put, s1, s2, s3]
        refine wpAnyH_take (i := 3) (oi := _) (v := ?_) rfl (by kernel_rfl) (by kernel_rfl) (by kernel_rfl) (fun _ _ _ h => h) (Or.inl ⟨by rfl, ?_⟩) (by assumption) ?_
        rotate_left
        · (intro wS hSw; (try dsimp only at hSw); have z6 := cell_ext hSw y6; have u0 := cell_ext hSw r0; have u1 := cell_ext hSw r1; have u2 := cell_ext hSw r2; (try go_simp); (try with_reducible rfl))
        try simp only [Act.put, s1, s2, s3]
        refine wpAnyH_take (i := 4) (oi := _) (v := ?_) rfl (by kernel_rfl) (by kernel_rfl) (by kernel_rfl) (fun _ _ _ h => h) (Or.inl ⟨by rfl, ?_⟩) (by assumption) ?_
        rotate_left
        · (intro wS hSw; (try dsimp only at hSw); have z6 := cell_ext hSw y6; have u0 := cell_ext hSw r0; have u1 := cell_ext hSw r1; have u2 := cell_ext hSw r2; (try go_simp); (try with_reducible rfl))
        try simp only [Act.put, s1, s2, s3]
        refine wpAnyH_take (i := 5) (oi := _) (v := ?_) rfl (by kernel_rfl) (by kernel_rfl) (by kernel_rfl) (fun _ _ _ h => h) (Or.inl ⟨by rfl, ?_⟩) (by assumption) ?_
        rotate_left
        · (intro wS hSw; (try dsimp only at hSw); have z6 := cell_ext hSw y6; have u0 := cell_ext hSw r0; have u1 := cell_ext hSw r1; have u2 := cell_ext hSw r2; (try go_simp); (try with_reducible rfl))
        try simp only [Act.put, s1, s2, s3]
        refine wpAnyH_take (i := 6) (oi := _) (v := ?_) rfl (by kernel_rfl) (by kernel_rfl) (by kernel_rfl) (fun _ _ _ h => h) (Or.inl ⟨by rfl, ?_⟩) (by assumption) ?_
        rotate_left
        · (intro wS hSw; (try dsimp only at hSw); have z6 := cell_ext hSw y6; have u0 := cell_ext hSw r0; have u1 := cell_ext hSw r1; have u2 := cell_ext hSw r2; (try go_simp); (try with_reducible rfl))
        try simp only [Act.put, s1, s2, s3]
        refine wpAnyH_take (i := 7) (oi := _) (v := ?_) rfl (by kernel_rfl) (by kernel_rfl) (by kernel_rfl) (fun _ _ _ h => h) (Or.inl ⟨by rfl, ?_⟩) (by assumption) ?_
        rotate_left
        · (intro wS hSw; (try dsimp only at hSw); have z6 := cell_ext hSw y6; have u0 := cell_ext hSw r0; have u1 := cell_ext hSw r1; have u2 := cell_ext hSw r2; (try go_simp); (try with_reducible rfl))
        try simp only [Act.put, s1, s2, s3]
        refine wpAnyH_take (i := 8) (oi := _) (v := ?_) rfl (by kernel_rfl) (by kernel_rfl) (by kernel_rfl) (fun _ _ _ h => h) (Or.inl ⟨by rfl, ?_⟩) (by assumption) ?_
        rotate_left
        · (intro wS hSw; (try dsimp only at hSw); have z6 := cell_ext hSw y6; have u0 := cell_ext hSw r0; have u1 := cell_ext hSw r1; have u2 := cell_ext hSw r2; (try go_simp); (try with_reducible rfl))
        try simp only [Act.put, s1, s2, s3]
        refine wpAnyH_take (i := 9) (oi := _) (v := ?_) rfl (by kernel_rfl) (by kernel_rfl) (by kernel_rfl) (fun _ _ _ h => h) (Or.inl ⟨by rfl, ?_⟩) (by assumption) ?_
        rotate_left
        · (intro wS hSw; (try dsimp only at hSw); have z6 := cell_ext hSw y6; have u0 := cell_ext hSw r0; have u1 := cell_ext hSw r1; have u2 := cell_ext hSw r2; (try go_simp); (try with_reducible rfl))
        try simp only [Act.put, s1, s2, s3]
        refine wpAnyH_take (i := 10) (oi := _) (v := ?_) rfl (by kernel_rfl) (by kernel_rfl) (by kernel_rfl) (fun _ _ _ h => h) (Or.inl ⟨by rfl, ?_⟩) (by assumption) ?_
        rotate_left
        · (intro wS hSw; (try dsimp only at hSw); have z6 := cell_ext hSw y6; have u0 := cell_ext hSw r0; have u1 := cell_ext hSw r1; have u2 := cell_ext hSw r2; (try go_simp); (try with_reducible rfl))
        try simp only [Act.put, s1, s2, s3]
        refine wpAnyH_take (i := 11) (oi := _) (v := ?_) rfl (by kernel_rfl) (by kernel_rfl) (by kernel_rfl) (fun _ _ _ h => h) (Or.inl ⟨by rfl, ?_⟩) (by assumption) ?_
        rotate_left
        · (intro wS hSw; (try dsimp only at hSw); have z6 := cell_ext hSw y6; have u0 := cell_ext hSw r0; have u1 := cell_ext hSw r1; have u2 := cell_ext hSw r2; (try go_simp); (try with_reducible rfl))
        try simp only [Act.put, s1, s2, s3]
        refine wpAnyH_take (i := 12) (oi := _) (v := ?_) rfl (by kernel_rfl) (by kernel_rfl) (by kernel_rfl) (fun _ _ _ h => h) (Or.inl ⟨by rfl, ?_⟩) (by assumption) ?_
        rotate_left
        · (intro wS hSw; (try dsimp only at hSw); have z6 := cell_ext hSw y6; have u0 := cell_ext hSw r0; have u1 := cell_ext hSw r1; have u2 := cell_ext hSw r2; (try go_simp); (try with_reducible rfl))
        try simp only [Act.put, s1, s2, s3]
        refine wpAnyH_take (i := 13) (oi := _) (v := ?_) rfl (by kernel_rfl) (by kernel_rfl) (by kernel_rfl) (fun _ _ _ h => h) (Or.inl ⟨by rfl, ?_⟩) (by assumption) ?_
        rotate_left
        · (intro wS hSw; (try dsimp only at hSw); have z6 := cell_ext hSw y6; have u0 := cell_ext hSw r0; have u1 := cell_ext hSw r1; have u2 := cell_ext hSw r2; (try go_simp); (try with_reducible rfl))
        try simp only [Act.put, s1, s2, s3]
        refine wpAnyH_take (i := 14) (oi := _) (v := ?_) rfl (by kernel_rfl) (by kernel_rfl) (by kernel_rfl) (fun _ _ _ h => h) (Or.inl ⟨by rfl, ?_⟩) (by assumption) ?_
        rotate_left
        · (intro wS hSw; (try dsimp only at hSw); have z6 := cell_ext hSw y6; have u0 := cell_ext hSw r0; have u1 := cell_ext hSw r1; have u2 := cell_ext hSw r2; (try go_simp); (try with_reducible rfl))
        try simp only [Act.put, s1, s2, s3]
        refine wpAnyH_take (i := 15) (oi := _) (v := ?_) rfl (by kernel_rfl) (by kernel_rfl) (by kernel_rfl) (fun _ _ _ h => h) (Or.inl ⟨by rfl, ?_⟩) (by assumption) ?_
        rotate_left
        · (intro wS hSw; (try dsimp only at hSw); have z6 := cell_ext hSw y6; have u0 := cell_ext hSw r0; have u1 := cell_ext hSw r1; have u2 := cell_ext hSw r2; (try go_simp); (try with_reducible rfl))
        try simp only [Act.put, s1, s2, s3]
        refine wpAnyH_take (i := 16) (oi := _) (v := ?_) rfl (by kernel_rfl) (by kernel_rfl) (by kernel_rfl) (fun _ _ _ h => h) (Or.inl ⟨by rfl, ?_⟩) (by assumption) ?_
        rotate_left
        · (intro wS hSw; (try dsimp only at hSw); have z6 := cell_ext hSw y6; have u0 := cell_ext hSw r0; have u1 := cell_ext hSw r1; have u2 := cell_ext hSw r2; (try go_simp); (try with_reducible rfl))
        try simp only [Act.put, s1, s2, s3]
        refine wpAnyH_ready (rs := [17]) (by kernel_rfl) (by simp) ?_
        refine AllReadyH.cons rfl (fun KQ hKQ => ?_) AllReadyH.nil
        go_simp
        refine hKQ.out _ _ ?_ (fun hHeld => ?_)
        · (try dsimp only); repeat (first | exact Ext.refl _ | assumption | refine Ext.drew ?_ | refine Ext.drewN ?_ _ | refine Ext.alloc ?_ _)
        clear hKQ KQ
        try simp only [Act.put, s1, s2, s3]
        refine wpAnyH_ready (rs := [18]) (by kernel_rfl) (by simp) ?_
        refine AllReadyH.cons rfl (fun KQ hKQ => ?_) AllReadyH.nil
        go_simp
        refine hKQ.out _ _ ?_ (fun hHeld => ?_)
        · (try dsimp only); repeat (first | exact Ext.refl _ | assumption | refine Ext.drew ?_ | refine Ext.drewN ?_ _ | refine Ext.alloc ?_ _)
        clear hKQ KQ
        try simp only [Act.put, s1, s2, s3]
        refine wpAnyH_done (by kernel_rfl) ?_ _
        go_wp2
        go_ret
        have c1 : IntKind.i64.wrap (a1 / x.sz) = a1 / x.sz := by rw [IntKind.wrap_i64]; omega
        have c2 : IntKind.i64.wrap (a2 / x.sz) = a2 / x.sz := by rw [IntKind.wrap_i64]; omega
        rw [c1, c2]
        refine .inl ⟨[a0, a1 / x.sz, a2 / x.sz], _, _, HC.out, rfl, zx_new3 _ _ _ _, fun ad e => ?_, HK.out.trans (by repeat (first | exact Ext.refl _ | assumption | refine Ext.drew ?_ | refine Ext.drewN ?_ _ | refine Ext.alloc ?_ _))⟩
        injection e with e
        subst e
        exact he
      · have HC : Hid (poolO x.sz [a0, a1, a2] = none) := Lib.hid ((if_pos m1).trans (if_neg m2))
        go_wp2_with fail
        go_quiet (fail)
        go_wp2
        go_ret
        exact .inr ⟨HC.out, rfl, HK.out.trans (by repeat (first | exact Ext.refl _ | refine Ext.drewN ?_ _ | refine Ext.drew ?_))⟩
        
    · have HC : Hid (poolO x.sz [a0, a1, a2] = none) := Lib.hid (if_neg m1)
      go_wp2_with fail
      go_quiet (fail)
      go_wp2
      go_ret
      exact .inr ⟨HC.out, rfl, HK.out.trans (by repeat (first | exact Ext.refl _ | refine Ext.drewN ?_ _ | refine Ext.drew ?_))⟩
      
  · have h4 : ¬ ((s.length : Int) = 3) := by omega
    have h5 := Lib.hid h3
    clear h3
    go_wp2_with fail
    go_quiet (fail)
    go_wp2
    go_ret
    exact .inr ⟨poolO_no h5.out, rfl, HK.out.trans (by repeat (first | exact Ext.refl _ | refine Ext.drewN ?_ _ | refine Ext.drew ?_))⟩
    
end Go.Proofs.Ytjeipbahddhfgaa
