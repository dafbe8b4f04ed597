/-
  The document's shapes: what is told of them.
-/
import Derived.Test.YtdnjjpkajiehgaaZJRa
import Derived.Test.YtdnjjpkajiehgaaZ11
namespace Go.Proofs.Ytdnjjpkajiehgaa
open Go.RowKit
set_option linter.unusedVariables false
set_option maxRecDepth 100000

/-- A shape that the document tells, or none. -/
def RSh (w : World) (o : Option (List Int)) (e : Ending) (w' : World) : Prop :=
  (∃ s A c, o = some s ∧ e = .returned (.slice (some A) s.length c) ∧ ZX w' (some A) s.length c s ∧ Ext w w') ∨ (o = none ∧ e = .returned (.slice none 0 0) ∧ Ext w w')
theorem form_parts {x : Nd} {n : Nat} {m : List Bool} (hm : mayL x.k = some m) (h : formB x n = true) : okL (hasL x) m = true ∧ behB m x n = true ∧ toldB x = true := by
  unfold formB at h
  rw [hm] at h
  simpa [Bool.and_eq_true] using h
theorem behB_a {m : List Bool} {x : Nd} {n : Nat} (hm : m.getD 0 false = true) (h : behB m x n = true) : ahB x.a n = true := by
  unfold behB at h
  rw [hm] at h
  simp at h
  exact h.1
theorem behB_b {m : List Bool} {x : Nd} {n : Nat} (hm : m.getD 1 false = true) (h : behB m x n = true) : ahB x.b n = true := by
  unfold behB at h
  rw [hm] at h
  simp at h
  exact h.2
theorem entN_zero {a b c : Int} (h : 1 ≤ a ∧ 1 ≤ b ∧ 1 ≤ c ∧ a * b * c ≤ 64 → False) : entN [a, b, c] = 0 := by
  have h1 := entN_le [a, b, c]
  rcases Int.lt_or_le 0 (entN [a, b, c]) with g | g
  · exact (h (entN_three.1 g)).elim
  · omega
end Go.Proofs.Ytdnjjpkajiehgaa

/-
  The document's shape of a node of each kind but convolutions and pools.
-/
namespace Go.Proofs.Ytdnjjpkajiehgaa
open Go.RowKit
set_option linter.unusedVariables false
set_option maxRecDepth 100000

set_option maxHeartbeats 8000000 in
theorem rshape1 (x : Nd) (As Ad Ab : Option Addr) (cs cd cb : Nat) (w : World) (hX : Hid (NdX w x As Ad Ab cs cd cb)) (Ah : Option Addr) (ch : Nat) (shs : List (List Int)) (hA : Hid (SX w Ah ch shs)) (hr : Hid (Rights shs)) (hl : shs.length ≤ 100000) (hf : Hid (formB x shs.length = true)) (hk : Hid (x.k = 1)) :
    Calls Try.prog 47 #[.agg #[.int .i64 x.k, .int .i64 x.a, .int .i64 x.b, .slice As x.sh.length cs, .int .i64 x.lo, .int .i64 x.hi, .int .i64 x.sz, .slice Ad x.da.length cd, .slice Ab x.bi.length cb], .slice Ah shs.length ch] w fun e w' => RSh w (shapeO x shs) e w' := by
  obtain ⟨y0, y1, y2, y3, y4, y5, y6, y7, y8⟩ := nine_at w (.int .i64 x.k) (.int .i64 x.a) (.int .i64 x.b) (.slice As x.sh.length cs) (.int .i64 x.lo) (.int .i64 x.hi) (.int .i64 x.sz) (.slice Ad x.da.length cd) (.slice Ab x.bi.length cb) 40
  have L0 := hX.out.lsh
  have L1 := hX.out.lda
  have L2 := hX.out.lbi
  have kk : Ext w (w.alloc (.cells #[.int .i64 x.k, .int .i64 x.a, .int .i64 x.b, .slice As x.sh.length cs, .int .i64 x.lo, .int .i64 x.hi, .int .i64 x.sz, .slice Ad x.da.length cd, .slice Ab x.bi.length cb] 40)) := (Ext.refl w).alloc _
  obtain ⟨OKF, BHF, TLF⟩ := form_parts (m := [false, false, true, true, false, false, false]) (show mayL x.k = some [false, false, true, true, false, false, false] by rw [hk.out]; rfl) hf.out
  have TL := Lib.hid (show (decide (0 < entN x.sh)) = true by rw [← TLF]; unfold toldB; simp [hk.out])
  clear OKF BHF TLF
  go_enter Try.func47, Try.ntmps47
  go_wp2_with fail
  generalize w.alloc (.cells #[.int .i64 x.k, .int .i64 x.a, .int .i64 x.b, .slice As x.sh.length cs, .int .i64 x.lo, .int .i64 x.hi, .int .i64 x.sz, .slice Ad x.da.length cd, .slice Ab x.bi.length cb] 40) = V at *
  refine (may1 x.k hk.out V).mono ?_
  rintro e1 w1 ⟨rfl, rfl⟩
  have m0 := seven_at V (.bool false) (.bool false) (.bool true) (.bool true) (.bool false) (.bool false) (.bool false) 4 0 _ rfl
  have ka : Ext V (V.alloc (.cells #[.bool false, .bool false, .bool true, .bool true, .bool false, .bool false, .bool false] 4)) := (Ext.refl V).alloc _
  replace y0 := cell_ext ka y0
  replace y1 := cell_ext ka y1
  replace y2 := cell_ext ka y2
  replace y3 := cell_ext ka y3
  replace y4 := cell_ext ka y4
  replace y5 := cell_ext ka y5
  replace y6 := cell_ext ka y6
  replace y7 := cell_ext ka y7
  replace y8 := cell_ext ka y8
  replace kk := kk.trans ka
  clear ka
  rw [hk.out] at y0
  generalize hV1 : (V.alloc (.cells #[.bool false, .bool false, .bool true, .bool true, .bool false, .bool false, .bool false] 4)) = V1 at *
  clear hV1
  generalize V.heap.size = gm at *
  have SO := Lib.hid (show shapeO x shs = some x.sh by unfold shapeO; simp [hk.out])
  have PS := Lib.hid (show 0 < entN x.sh from by have := TL.out; simp at this; omega)
  obtain ⟨ads, has, _⟩ := hX.out.sh.cells (entN_len PS.out).1
  obtain rfl := has
  go_wp2
  go_ret
  exact .inl ⟨x.sh, ads, cs, SO.out, rfl, hX.out.sh.ext kk, kk⟩

set_option maxHeartbeats 8000000 in
theorem rshape2 (x : Nd) (As Ad Ab : Option Addr) (cs cd cb : Nat) (w : World) (hX : Hid (NdX w x As Ad Ab cs cd cb)) (Ah : Option Addr) (ch : Nat) (shs : List (List Int)) (hA : Hid (SX w Ah ch shs)) (hr : Hid (Rights shs)) (hl : shs.length ≤ 100000) (hf : Hid (formB x shs.length = true)) (hk : Hid (x.k = 2)) :
    Calls Try.prog 47 #[.agg #[.int .i64 x.k, .int .i64 x.a, .int .i64 x.b, .slice As x.sh.length cs, .int .i64 x.lo, .int .i64 x.hi, .int .i64 x.sz, .slice Ad x.da.length cd, .slice Ab x.bi.length cb], .slice Ah shs.length ch] w fun e w' => RSh w (shapeO x shs) e w' := by
  obtain ⟨y0, y1, y2, y3, y4, y5, y6, y7, y8⟩ := nine_at w (.int .i64 x.k) (.int .i64 x.a) (.int .i64 x.b) (.slice As x.sh.length cs) (.int .i64 x.lo) (.int .i64 x.hi) (.int .i64 x.sz) (.slice Ad x.da.length cd) (.slice Ab x.bi.length cb) 40
  have L0 := hX.out.lsh
  have L1 := hX.out.lda
  have L2 := hX.out.lbi
  have kk : Ext w (w.alloc (.cells #[.int .i64 x.k, .int .i64 x.a, .int .i64 x.b, .slice As x.sh.length cs, .int .i64 x.lo, .int .i64 x.hi, .int .i64 x.sz, .slice Ad x.da.length cd, .slice Ab x.bi.length cb] 40)) := (Ext.refl w).alloc _
  obtain ⟨OKF, BHF, TLF⟩ := form_parts (m := [false, false, true, false, false, true, false]) (show mayL x.k = some [false, false, true, false, false, true, false] by rw [hk.out]; rfl) hf.out
  have TL := Lib.hid (show (decide (0 < entN x.sh) && decide ((x.da.length : Int) = entN x.sh)) = true by rw [← TLF]; unfold toldB; simp [hk.out])
  clear OKF BHF TLF
  go_enter Try.func47, Try.ntmps47
  go_wp2_with fail
  generalize w.alloc (.cells #[.int .i64 x.k, .int .i64 x.a, .int .i64 x.b, .slice As x.sh.length cs, .int .i64 x.lo, .int .i64 x.hi, .int .i64 x.sz, .slice Ad x.da.length cd, .slice Ab x.bi.length cb] 40) = V at *
  refine (may2 x.k hk.out V).mono ?_
  rintro e1 w1 ⟨rfl, rfl⟩
  have m0 := seven_at V (.bool false) (.bool false) (.bool true) (.bool false) (.bool false) (.bool true) (.bool false) 4 0 _ rfl
  have ka : Ext V (V.alloc (.cells #[.bool false, .bool false, .bool true, .bool false, .bool false, .bool true, .bool false] 4)) := (Ext.refl V).alloc _
  replace y0 := cell_ext ka y0
  replace y1 := cell_ext ka y1
  replace y2 := cell_ext ka y2
  replace y3 := cell_ext ka y3
  replace y4 := cell_ext ka y4
  replace y5 := cell_ext ka y5
  replace y6 := cell_ext ka y6
  replace y7 := cell_ext ka y7
  replace y8 := cell_ext ka y8
  replace kk := kk.trans ka
  clear ka
  rw [hk.out] at y0
  generalize hV1 : (V.alloc (.cells #[.bool false, .bool false, .bool true, .bool false, .bool false, .bool true, .bool false] 4)) = V1 at *
  clear hV1
  generalize V.heap.size = gm at *
  have SO := Lib.hid (show shapeO x shs = some x.sh by unfold shapeO; simp [hk.out])
  have PS := Lib.hid (show 0 < entN x.sh from by have := TL.out; simp at this; exact this.1)
  obtain ⟨ads, has, _⟩ := hX.out.sh.cells (entN_len PS.out).1
  obtain rfl := has
  go_wp2
  go_ret
  exact .inl ⟨x.sh, ads, cs, SO.out, rfl, hX.out.sh.ext kk, kk⟩

set_option maxHeartbeats 8000000 in
theorem rshape3 (x : Nd) (As Ad Ab : Option Addr) (cs cd cb : Nat) (w : World) (hX : Hid (NdX w x As Ad Ab cs cd cb)) (Ah : Option Addr) (ch : Nat) (shs : List (List Int)) (hA : Hid (SX w Ah ch shs)) (hr : Hid (Rights shs)) (hl : shs.length ≤ 100000) (hf : Hid (formB x shs.length = true)) (hk : Hid (x.k = 3)) :
    Calls Try.prog 47 #[.agg #[.int .i64 x.k, .int .i64 x.a, .int .i64 x.b, .slice As x.sh.length cs, .int .i64 x.lo, .int .i64 x.hi, .int .i64 x.sz, .slice Ad x.da.length cd, .slice Ab x.bi.length cb], .slice Ah shs.length ch] w fun e w' => RSh w (shapeO x shs) e w' := by
  obtain ⟨y0, y1, y2, y3, y4, y5, y6, y7, y8⟩ := nine_at w (.int .i64 x.k) (.int .i64 x.a) (.int .i64 x.b) (.slice As x.sh.length cs) (.int .i64 x.lo) (.int .i64 x.hi) (.int .i64 x.sz) (.slice Ad x.da.length cd) (.slice Ab x.bi.length cb) 40
  have L0 := hX.out.lsh
  have L1 := hX.out.lda
  have L2 := hX.out.lbi
  have kk : Ext w (w.alloc (.cells #[.int .i64 x.k, .int .i64 x.a, .int .i64 x.b, .slice As x.sh.length cs, .int .i64 x.lo, .int .i64 x.hi, .int .i64 x.sz, .slice Ad x.da.length cd, .slice Ab x.bi.length cb] 40)) := (Ext.refl w).alloc _
  obtain ⟨OKF, BHF, TLF⟩ := form_parts (m := [true, false, false, false, false, true, true]) (show mayL x.k = some [true, false, false, false, false, true, true] by rw [hk.out]; rfl) hf.out
  have TL := Lib.hid (show (decide (1 ≤ (x.bi.length : Int)) && decide ((x.bi.length : Int) ≤ 64)) = true by rw [← TLF]; unfold toldB; simp [hk.out])
  obtain ⟨i, hi, s, hs, hg⟩ := ahead_get (behB_a (m := [true, false, false, false, false, true, true]) rfl BHF)
  have HI := Lib.hid hi
  have HS := Lib.hid hs
  have HG := Lib.hid hg
  clear hi hs hg
  clear OKF BHF TLF
  go_enter Try.func47, Try.ntmps47
  go_wp2_with fail
  generalize w.alloc (.cells #[.int .i64 x.k, .int .i64 x.a, .int .i64 x.b, .slice As x.sh.length cs, .int .i64 x.lo, .int .i64 x.hi, .int .i64 x.sz, .slice Ad x.da.length cd, .slice Ab x.bi.length cb] 40) = V at *
  refine (may3 x.k hk.out V).mono ?_
  rintro e1 w1 ⟨rfl, rfl⟩
  have m0 := seven_at V (.bool true) (.bool false) (.bool false) (.bool false) (.bool false) (.bool true) (.bool true) 4 0 _ rfl
  have ka : Ext V (V.alloc (.cells #[.bool true, .bool false, .bool false, .bool false, .bool false, .bool true, .bool true] 4)) := (Ext.refl V).alloc _
  replace y0 := cell_ext ka y0
  replace y1 := cell_ext ka y1
  replace y2 := cell_ext ka y2
  replace y3 := cell_ext ka y3
  replace y4 := cell_ext ka y4
  replace y5 := cell_ext ka y5
  replace y6 := cell_ext ka y6
  replace y7 := cell_ext ka y7
  replace y8 := cell_ext ka y8
  replace kk := kk.trans ka
  clear ka
  rw [hk.out] at y0
  obtain ⟨ad, rfl, hcs⟩ := (hA.out.ext kk).cells (show 0 < shs.length from by have := (List.getElem?_eq_some_iff.1 HS.out).1; omega)
  obtain ⟨B, d, hc, hz⟩ := hcs i s HS.out
  have HZ := Lib.hid hz
  have RGT := Lib.hid (hr.out s (List.mem_of_getElem? HS.out))
  clear hz
  have il := (List.getElem?_eq_some_iff.1 HS.out).1
  have i0 : (0 : Int) ≤ (i : Int) := by omega
  have i1 : (i : Int) < (shs.length : Int) := by omega
  rw [HI.out] at y1
  clear hcs il
  generalize hV1 : (V.alloc (.cells #[.bool true, .bool false, .bool false, .bool false, .bool false, .bool true, .bool true] 4)) = V1 at *
  clear hV1
  generalize V.heap.size = gm at *
  have SO := Lib.hid (show shapeO x shs = (if (x.da.length : Int) = x.bi.length * entN s then some [(x.bi.length : Int)] else none) by unfold shapeO; rw [HG.out]; simp [hk.out])
  obtain ⟨q0, q1⟩ := entN_le s
  have p0 : (0 : Int) ≤ (x.bi.length : Int) * entN s := Int.mul_nonneg (by omega) q0
  have p1 : (x.bi.length : Int) * entN s ≤ 100000 * 64 := Int.mul_le_mul (by omega) q1 q0 (by omega)
  have hw : IntKind.i64.wrap ((x.bi.length : Int) * entN s) = (x.bi.length : Int) * entN s := by rw [IntKind.wrap_i64]; omega
  go_wp2_with fail
  by_cases h : (x.da.length : Int) = (x.bi.length : Int) * entN s
  · have HR := Lib.hid (SO.out.trans (if_pos h))
    have H := Lib.hid h
    clear h
    refine wp_region_held_drew (S := (fun w' => Ext V1 w')) (by kernel_rfl) ?_ (fun hHeld => ?_)
    · (try dsimp only); repeat (first | exact Ext.refl _ | assumption | refine Ext.drew ?_ | refine Ext.drewN ?_ _ | refine Ext.alloc ?_ _)
    refine wpAnyH_take (i := 0) (oi := _) (v := ?_) rfl (by kernel_rfl) (by kernel_rfl) (by kernel_rfl) (fun _ _ _ h => h) (Or.inl ⟨by first | kernel_rfl | rfl, ?_⟩) (by assumption) ?_
    rotate_left
    · (intro wS hSw; (try dsimp only at hSw); have z7 := cell_ext hSw y7; have z8 := cell_ext hSw y8; (try go_simp); (try with_reducible rfl))
    try simp only [Act.put, s1, s2, s3]
    refine wpAnyH_take (i := 1) (oi := _) (v := ?_) rfl (by kernel_rfl) (by kernel_rfl) (by kernel_rfl) (fun _ _ _ h => h) (Or.inl ⟨by first | kernel_rfl | rfl, ?_⟩) (by assumption) ?_
    rotate_left
    · (intro wS hSw; (try dsimp only at hSw); have z7 := cell_ext hSw y7; have z8 := cell_ext hSw y8; (try go_simp); (try with_reducible rfl))
    try simp only [Act.put, s1, s2, s3]
    refine wpAnyH_take (i := 2) (oi := _) (v := ?_) rfl (by kernel_rfl) (by kernel_rfl) (by kernel_rfl) (fun _ _ _ h => h) (Or.inl ⟨by first | kernel_rfl | rfl, ?_⟩) (by assumption) ?_
    rotate_left
    · (intro wS hSw; (try dsimp only at hSw); have z7 := cell_ext hSw y7; have z8 := cell_ext hSw y8; (try go_simp); (try with_reducible rfl))
    try simp only [Act.put, s1, s2, s3]
    refine wpAnyH_take (i := 3) (oi := _) (v := ?_) rfl (by kernel_rfl) (by kernel_rfl) (by kernel_rfl) (fun _ _ _ h => h) (Or.inl ⟨by first | kernel_rfl | rfl, ?_⟩) (by assumption) ?_
    rotate_left
    · (intro wS hSw; (try dsimp only at hSw); have z7 := cell_ext hSw y7; have z8 := cell_ext hSw y8; (try go_simp); (try with_reducible rfl))
    try simp only [Act.put, s1, s2, s3]
    refine wpAnyH_take (i := 4) (oi := _) (v := ?_) rfl (by kernel_rfl) (by kernel_rfl) (by kernel_rfl) (fun _ _ _ h => h) (Or.inl ⟨by first | kernel_rfl | rfl, ?_⟩) (by assumption) ?_
    rotate_left
    · (intro wS hSw; (try dsimp only at hSw); have z7 := cell_ext hSw y7; have z8 := cell_ext hSw y8; (try go_simp); (try with_reducible rfl))
    try simp only [Act.put, s1, s2, s3]
    refine wpAnyH_take (i := 5) (oi := _) (v := ?_) rfl (by kernel_rfl) (by kernel_rfl) (by kernel_rfl) (fun _ _ _ h => h) (Or.inl ⟨by first | kernel_rfl | rfl, ?_⟩) (by assumption) ?_
    rotate_left
    · (intro wS hSw; (try dsimp only at hSw); have z7 := cell_ext hSw y7; have z8 := cell_ext hSw y8; (try go_simp); (try with_reducible rfl))
    try simp only [Act.put, s1, s2, s3]
    refine wpAnyH_take (i := 6) (oi := _) (v := ?_) rfl (by kernel_rfl) (by kernel_rfl) (by kernel_rfl) (fun _ _ _ h => h) (Or.inl ⟨by first | kernel_rfl | rfl, ?_⟩) (by assumption) ?_
    rotate_left
    · (intro wS hSw; (try dsimp only at hSw); have z7 := cell_ext hSw y7; have z8 := cell_ext hSw y8; (try go_simp); (try with_reducible rfl))
    try simp only [Act.put, s1, s2, s3]
    refine wpAnyH_ready (rs := [7]) (by kernel_rfl) (by simp) ?_
    refine AllReadyH.cons rfl (fun KQ hKQ => ?_) AllReadyH.nil
    go_simp
    (refine (rent_any B s.length d s _ (Lib.hid (HZ.out.ext (by repeat (first | exact Ext.refl _ | assumption | refine Ext.drew ?_ | refine Ext.drewN ?_ _ | refine Ext.alloc ?_ _))))).mono ?_; rintro e6 w6 ⟨rfl, rfl⟩)
    refine hKQ.out _ _ ?_ (fun hHeld => ?_)
    · (try dsimp only); repeat (first | exact Ext.refl _ | assumption | refine Ext.drew ?_ | refine Ext.drewN ?_ _ | refine Ext.alloc ?_ _)
    clear hKQ KQ
    try simp only [Act.put, s1, s2, s3]
    refine wpAnyH_take (i := 8) (oi := _) (v := ?_) rfl (by kernel_rfl) (by kernel_rfl) (by kernel_rfl) (fun _ _ _ h => h) (Or.inl ⟨by first | kernel_rfl | rfl, ?_⟩) (by assumption) ?_
    rotate_left
    · (intro wS hSw; (try dsimp only at hSw); have z7 := cell_ext hSw y7; have z8 := cell_ext hSw y8; (try go_simp); (try with_reducible rfl))
    try simp only [Act.put, s1, s2, s3]
    refine wpAnyH_ready (rs := [9]) (by kernel_rfl) (by simp) ?_
    refine AllReadyH.cons rfl (fun KQ hKQ => ?_) AllReadyH.nil
    go_simp
    refine hKQ.out _ _ ?_ (fun hHeld => ?_)
    · (try dsimp only); repeat (first | exact Ext.refl _ | assumption | refine Ext.drew ?_ | refine Ext.drewN ?_ _ | refine Ext.alloc ?_ _)
    clear hKQ KQ
    try simp only [Act.put, s1, s2, s3]
    refine wpAnyH_done (by kernel_rfl) ?_ _
    have hh := H.out
    go_wp2
    go_ret
    exact .inl ⟨[(x.bi.length : Int)], _, _, HR.out, rfl, ZX.ext (zx_new1 V1 _) (by repeat (first | exact Ext.refl _ | assumption | refine Ext.drew ?_ | refine Ext.drewN ?_ _ | refine Ext.alloc ?_ _)), kk.trans (by repeat (first | exact Ext.refl _ | assumption | refine Ext.drew ?_ | refine Ext.drewN ?_ _ | refine Ext.alloc ?_ _))⟩
  · have HR := Lib.hid (SO.out.trans (if_neg h))
    have H := Lib.hid h
    clear h
    refine wp_region_held_drew (S := (fun w' => Ext V1 w')) (by kernel_rfl) ?_ (fun hHeld => ?_)
    · (try dsimp only); repeat (first | exact Ext.refl _ | assumption | refine Ext.drew ?_ | refine Ext.drewN ?_ _ | refine Ext.alloc ?_ _)
    refine wpAnyH_take (i := 0) (oi := _) (v := ?_) rfl (by kernel_rfl) (by kernel_rfl) (by kernel_rfl) (fun _ _ _ h => h) (Or.inl ⟨by first | kernel_rfl | rfl, ?_⟩) (by assumption) ?_
    rotate_left
    · (intro wS hSw; (try dsimp only at hSw); have z7 := cell_ext hSw y7; have z8 := cell_ext hSw y8; (try go_simp); (try with_reducible rfl))
    try simp only [Act.put, s1, s2, s3]
    refine wpAnyH_take (i := 1) (oi := _) (v := ?_) rfl (by kernel_rfl) (by kernel_rfl) (by kernel_rfl) (fun _ _ _ h => h) (Or.inl ⟨by first | kernel_rfl | rfl, ?_⟩) (by assumption) ?_
    rotate_left
    · (intro wS hSw; (try dsimp only at hSw); have z7 := cell_ext hSw y7; have z8 := cell_ext hSw y8; (try go_simp); (try with_reducible rfl))
    try simp only [Act.put, s1, s2, s3]
    refine wpAnyH_take (i := 2) (oi := _) (v := ?_) rfl (by kernel_rfl) (by kernel_rfl) (by kernel_rfl) (fun _ _ _ h => h) (Or.inl ⟨by first | kernel_rfl | rfl, ?_⟩) (by assumption) ?_
    rotate_left
    · (intro wS hSw; (try dsimp only at hSw); have z7 := cell_ext hSw y7; have z8 := cell_ext hSw y8; (try go_simp); (try with_reducible rfl))
    try simp only [Act.put, s1, s2, s3]
    refine wpAnyH_take (i := 3) (oi := _) (v := ?_) rfl (by kernel_rfl) (by kernel_rfl) (by kernel_rfl) (fun _ _ _ h => h) (Or.inl ⟨by first | kernel_rfl | rfl, ?_⟩) (by assumption) ?_
    rotate_left
    · (intro wS hSw; (try dsimp only at hSw); have z7 := cell_ext hSw y7; have z8 := cell_ext hSw y8; (try go_simp); (try with_reducible rfl))
    try simp only [Act.put, s1, s2, s3]
    refine wpAnyH_take (i := 4) (oi := _) (v := ?_) rfl (by kernel_rfl) (by kernel_rfl) (by kernel_rfl) (fun _ _ _ h => h) (Or.inl ⟨by first | kernel_rfl | rfl, ?_⟩) (by assumption) ?_
    rotate_left
    · (intro wS hSw; (try dsimp only at hSw); have z7 := cell_ext hSw y7; have z8 := cell_ext hSw y8; (try go_simp); (try with_reducible rfl))
    try simp only [Act.put, s1, s2, s3]
    refine wpAnyH_take (i := 5) (oi := _) (v := ?_) rfl (by kernel_rfl) (by kernel_rfl) (by kernel_rfl) (fun _ _ _ h => h) (Or.inl ⟨by first | kernel_rfl | rfl, ?_⟩) (by assumption) ?_
    rotate_left
    · (intro wS hSw; (try dsimp only at hSw); have z7 := cell_ext hSw y7; have z8 := cell_ext hSw y8; (try go_simp); (try with_reducible rfl))
    try simp only [Act.put, s1, s2, s3]
    refine wpAnyH_take (i := 6) (oi := _) (v := ?_) rfl (by kernel_rfl) (by kernel_rfl) (by kernel_rfl) (fun _ _ _ h => h) (Or.inl ⟨by first | kernel_rfl | rfl, ?_⟩) (by assumption) ?_
    rotate_left
    · (intro wS hSw; (try dsimp only at hSw); have z7 := cell_ext hSw y7; have z8 := cell_ext hSw y8; (try go_simp); (try with_reducible rfl))
    try simp only [Act.put, s1, s2, s3]
    refine wpAnyH_ready (rs := [7]) (by kernel_rfl) (by simp) ?_
    refine AllReadyH.cons rfl (fun KQ hKQ => ?_) AllReadyH.nil
    go_simp
    (refine (rent_any B s.length d s _ (Lib.hid (HZ.out.ext (by repeat (first | exact Ext.refl _ | assumption | refine Ext.drew ?_ | refine Ext.drewN ?_ _ | refine Ext.alloc ?_ _))))).mono ?_; rintro e6 w6 ⟨rfl, rfl⟩)
    refine hKQ.out _ _ ?_ (fun hHeld => ?_)
    · (try dsimp only); repeat (first | exact Ext.refl _ | assumption | refine Ext.drew ?_ | refine Ext.drewN ?_ _ | refine Ext.alloc ?_ _)
    clear hKQ KQ
    try simp only [Act.put, s1, s2, s3]
    refine wpAnyH_take (i := 8) (oi := _) (v := ?_) rfl (by kernel_rfl) (by kernel_rfl) (by kernel_rfl) (fun _ _ _ h => h) (Or.inl ⟨by first | kernel_rfl | rfl, ?_⟩) (by assumption) ?_
    rotate_left
    · (intro wS hSw; (try dsimp only at hSw); have z7 := cell_ext hSw y7; have z8 := cell_ext hSw y8; (try go_simp); (try with_reducible rfl))
    try simp only [Act.put, s1, s2, s3]
    refine wpAnyH_ready (rs := [9]) (by kernel_rfl) (by simp) ?_
    refine AllReadyH.cons rfl (fun KQ hKQ => ?_) AllReadyH.nil
    go_simp
    refine hKQ.out _ _ ?_ (fun hHeld => ?_)
    · (try dsimp only); repeat (first | exact Ext.refl _ | assumption | refine Ext.drew ?_ | refine Ext.drewN ?_ _ | refine Ext.alloc ?_ _)
    clear hKQ KQ
    try simp only [Act.put, s1, s2, s3]
    refine wpAnyH_done (by kernel_rfl) ?_ _
    have hh := H.out
    go_wp2
    go_ret
    exact .inr ⟨HR.out, rfl, kk.trans (by repeat (first | exact Ext.refl _ | assumption | refine Ext.drew ?_ | refine Ext.drewN ?_ _ | refine Ext.alloc ?_ _))⟩

set_option maxHeartbeats 8000000 in
theorem rshape6 (x : Nd) (As Ad Ab : Option Addr) (cs cd cb : Nat) (w : World) (hX : Hid (NdX w x As Ad Ab cs cd cb)) (Ah : Option Addr) (ch : Nat) (shs : List (List Int)) (hA : Hid (SX w Ah ch shs)) (hr : Hid (Rights shs)) (hl : shs.length ≤ 100000) (hf : Hid (formB x shs.length = true)) (hk : Hid (x.k = 6)) :
    Calls Try.prog 47 #[.agg #[.int .i64 x.k, .int .i64 x.a, .int .i64 x.b, .slice As x.sh.length cs, .int .i64 x.lo, .int .i64 x.hi, .int .i64 x.sz, .slice Ad x.da.length cd, .slice Ab x.bi.length cb], .slice Ah shs.length ch] w fun e w' => RSh w (shapeO x shs) e w' := by
  obtain ⟨y0, y1, y2, y3, y4, y5, y6, y7, y8⟩ := nine_at w (.int .i64 x.k) (.int .i64 x.a) (.int .i64 x.b) (.slice As x.sh.length cs) (.int .i64 x.lo) (.int .i64 x.hi) (.int .i64 x.sz) (.slice Ad x.da.length cd) (.slice Ab x.bi.length cb) 40
  have L0 := hX.out.lsh
  have L1 := hX.out.lda
  have L2 := hX.out.lbi
  have kk : Ext w (w.alloc (.cells #[.int .i64 x.k, .int .i64 x.a, .int .i64 x.b, .slice As x.sh.length cs, .int .i64 x.lo, .int .i64 x.hi, .int .i64 x.sz, .slice Ad x.da.length cd, .slice Ab x.bi.length cb] 40)) := (Ext.refl w).alloc _
  obtain ⟨OKF, BHF, TLF⟩ := form_parts (m := [true, true, false, false, false, false, false]) (show mayL x.k = some [true, true, false, false, false, false, false] by rw [hk.out]; rfl) hf.out
  obtain ⟨i, hi, s, hs, hg⟩ := ahead_get (behB_a (m := [true, true, false, false, false, false, false]) rfl BHF)
  have HI := Lib.hid hi
  have HS := Lib.hid hs
  have HG := Lib.hid hg
  clear hi hs hg
  obtain ⟨i2, hi2, s2, hs2, hg2⟩ := ahead_get (behB_b (m := [true, true, false, false, false, false, false]) rfl BHF)
  have HI2 := Lib.hid hi2
  have HS2 := Lib.hid hs2
  have HG2 := Lib.hid hg2
  clear hi2 hs2 hg2
  clear OKF BHF TLF
  go_enter Try.func47, Try.ntmps47
  go_wp2_with fail
  generalize w.alloc (.cells #[.int .i64 x.k, .int .i64 x.a, .int .i64 x.b, .slice As x.sh.length cs, .int .i64 x.lo, .int .i64 x.hi, .int .i64 x.sz, .slice Ad x.da.length cd, .slice Ab x.bi.length cb] 40) = V at *
  refine (may6 x.k hk.out V).mono ?_
  rintro e1 w1 ⟨rfl, rfl⟩
  have m0 := seven_at V (.bool true) (.bool true) (.bool false) (.bool false) (.bool false) (.bool false) (.bool false) 4 0 _ rfl
  have ka : Ext V (V.alloc (.cells #[.bool true, .bool true, .bool false, .bool false, .bool false, .bool false, .bool false] 4)) := (Ext.refl V).alloc _
  replace y0 := cell_ext ka y0
  replace y1 := cell_ext ka y1
  replace y2 := cell_ext ka y2
  replace y3 := cell_ext ka y3
  replace y4 := cell_ext ka y4
  replace y5 := cell_ext ka y5
  replace y6 := cell_ext ka y6
  replace y7 := cell_ext ka y7
  replace y8 := cell_ext ka y8
  replace kk := kk.trans ka
  clear ka
  rw [hk.out] at y0
  obtain ⟨ad, rfl, hcs⟩ := (hA.out.ext kk).cells (show 0 < shs.length from by have := (List.getElem?_eq_some_iff.1 HS.out).1; omega)
  obtain ⟨B, d, hc, hz⟩ := hcs i s HS.out
  have HZ := Lib.hid hz
  have RGT := Lib.hid (hr.out s (List.mem_of_getElem? HS.out))
  clear hz
  have il := (List.getElem?_eq_some_iff.1 HS.out).1
  have i0 : (0 : Int) ≤ (i : Int) := by omega
  have i1 : (i : Int) < (shs.length : Int) := by omega
  rw [HI.out] at y1
  obtain ⟨B2, d2, hc2, hz2⟩ := hcs i2 s2 HS2.out
  have HZ2 := Lib.hid hz2
  have RGU := Lib.hid (hr.out s2 (List.mem_of_getElem? HS2.out))
  clear hz2
  have il2 := (List.getElem?_eq_some_iff.1 HS2.out).1
  have i2' : (0 : Int) ≤ (i2 : Int) := by omega
  have i3 : (i2 : Int) < (shs.length : Int) := by omega
  rw [HI2.out] at y2
  clear hcs il
  generalize hV1 : (V.alloc (.cells #[.bool true, .bool true, .bool false, .bool false, .bool false, .bool false, .bool false] 4)) = V1 at *
  clear hV1
  generalize V.heap.size = gm at *
  have SO := Lib.hid (show shapeO x shs = (if s = s2 then some s else none) by unfold shapeO; rw [HG.out, HG2.out]; simp [hk.out])
  have q1 := entN_len RGT.out
  have q2 := entN_len RGU.out
  obtain ⟨ads, has, _⟩ := HZ.out.cells q1.1
  obtain rfl := has
  go_wp2_with fail
  refine (same_any (some ads) B2 s.length s2.length d d2 s s2 V1 HZ HZ2 (by omega) (by omega)).mono ?_
  rintro e3 w3 ⟨rfl, k3⟩
  replace y0 := cell_ext k3 y0
  replace y1 := cell_ext k3 y1
  replace y2 := cell_ext k3 y2
  replace y3 := cell_ext k3 y3
  replace y4 := cell_ext k3 y4
  replace y5 := cell_ext k3 y5
  replace y6 := cell_ext k3 y6
  replace y7 := cell_ext k3 y7
  replace y8 := cell_ext k3 y8
  by_cases h : s = s2
  · have HR := Lib.hid (SO.out.trans (if_pos h))
    rw [decide_eq_true h]
    clear h
    go_wp2
    go_ret
    exact .inl ⟨s, ads, d, HR.out, rfl, HZ.out.ext k3, kk.trans k3⟩
  · have HR := Lib.hid (SO.out.trans (if_neg h))
    rw [decide_eq_false h]
    clear h
    go_wp2
    go_ret
    exact .inr ⟨HR.out, rfl, kk.trans k3⟩

set_option maxHeartbeats 8000000 in
theorem rshape7 (x : Nd) (As Ad Ab : Option Addr) (cs cd cb : Nat) (w : World) (hX : Hid (NdX w x As Ad Ab cs cd cb)) (Ah : Option Addr) (ch : Nat) (shs : List (List Int)) (hA : Hid (SX w Ah ch shs)) (hr : Hid (Rights shs)) (hl : shs.length ≤ 100000) (hf : Hid (formB x shs.length = true)) (hk : Hid (x.k = 7)) :
    Calls Try.prog 47 #[.agg #[.int .i64 x.k, .int .i64 x.a, .int .i64 x.b, .slice As x.sh.length cs, .int .i64 x.lo, .int .i64 x.hi, .int .i64 x.sz, .slice Ad x.da.length cd, .slice Ab x.bi.length cb], .slice Ah shs.length ch] w fun e w' => RSh w (shapeO x shs) e w' := by
  obtain ⟨y0, y1, y2, y3, y4, y5, y6, y7, y8⟩ := nine_at w (.int .i64 x.k) (.int .i64 x.a) (.int .i64 x.b) (.slice As x.sh.length cs) (.int .i64 x.lo) (.int .i64 x.hi) (.int .i64 x.sz) (.slice Ad x.da.length cd) (.slice Ab x.bi.length cb) 40
  have L0 := hX.out.lsh
  have L1 := hX.out.lda
  have L2 := hX.out.lbi
  have kk : Ext w (w.alloc (.cells #[.int .i64 x.k, .int .i64 x.a, .int .i64 x.b, .slice As x.sh.length cs, .int .i64 x.lo, .int .i64 x.hi, .int .i64 x.sz, .slice Ad x.da.length cd, .slice Ab x.bi.length cb] 40)) := (Ext.refl w).alloc _
  obtain ⟨OKF, BHF, TLF⟩ := form_parts (m := [true, false, false, false, false, true, false]) (show mayL x.k = some [true, false, false, false, false, true, false] by rw [hk.out]; rfl) hf.out
  have TL := Lib.hid (show (decide ((x.da.length : Int) = 1)) = true by rw [← TLF]; unfold toldB; simp [hk.out])
  obtain ⟨i, hi, s, hs, hg⟩ := ahead_get (behB_a (m := [true, false, false, false, false, true, false]) rfl BHF)
  have HI := Lib.hid hi
  have HS := Lib.hid hs
  have HG := Lib.hid hg
  clear hi hs hg
  clear OKF BHF TLF
  go_enter Try.func47, Try.ntmps47
  go_wp2_with fail
  generalize w.alloc (.cells #[.int .i64 x.k, .int .i64 x.a, .int .i64 x.b, .slice As x.sh.length cs, .int .i64 x.lo, .int .i64 x.hi, .int .i64 x.sz, .slice Ad x.da.length cd, .slice Ab x.bi.length cb] 40) = V at *
  refine (may7 x.k hk.out V).mono ?_
  rintro e1 w1 ⟨rfl, rfl⟩
  have m0 := seven_at V (.bool true) (.bool false) (.bool false) (.bool false) (.bool false) (.bool true) (.bool false) 4 0 _ rfl
  have ka : Ext V (V.alloc (.cells #[.bool true, .bool false, .bool false, .bool false, .bool false, .bool true, .bool false] 4)) := (Ext.refl V).alloc _
  replace y0 := cell_ext ka y0
  replace y1 := cell_ext ka y1
  replace y2 := cell_ext ka y2
  replace y3 := cell_ext ka y3
  replace y4 := cell_ext ka y4
  replace y5 := cell_ext ka y5
  replace y6 := cell_ext ka y6
  replace y7 := cell_ext ka y7
  replace y8 := cell_ext ka y8
  replace kk := kk.trans ka
  clear ka
  rw [hk.out] at y0
  obtain ⟨ad, rfl, hcs⟩ := (hA.out.ext kk).cells (show 0 < shs.length from by have := (List.getElem?_eq_some_iff.1 HS.out).1; omega)
  obtain ⟨B, d, hc, hz⟩ := hcs i s HS.out
  have HZ := Lib.hid hz
  have RGT := Lib.hid (hr.out s (List.mem_of_getElem? HS.out))
  clear hz
  have il := (List.getElem?_eq_some_iff.1 HS.out).1
  have i0 : (0 : Int) ≤ (i : Int) := by omega
  have i1 : (i : Int) < (shs.length : Int) := by omega
  rw [HI.out] at y1
  clear hcs il
  generalize hV1 : (V.alloc (.cells #[.bool true, .bool false, .bool false, .bool false, .bool false, .bool true, .bool false] 4)) = V1 at *
  clear hV1
  generalize V.heap.size = gm at *
  have SO := Lib.hid (show shapeO x shs = some s by unfold shapeO; rw [HG.out]; simp [hk.out])
  obtain ⟨ads, has, _⟩ := HZ.out.cells (entN_len RGT.out).1
  obtain rfl := has
  go_wp2
  go_ret
  exact .inl ⟨s, ads, d, SO.out, rfl, HZ.out, kk⟩

set_option maxHeartbeats 8000000 in
theorem rshape8 (x : Nd) (As Ad Ab : Option Addr) (cs cd cb : Nat) (w : World) (hX : Hid (NdX w x As Ad Ab cs cd cb)) (Ah : Option Addr) (ch : Nat) (shs : List (List Int)) (hA : Hid (SX w Ah ch shs)) (hr : Hid (Rights shs)) (hl : shs.length ≤ 100000) (hf : Hid (formB x shs.length = true)) (hk : Hid (x.k = 8)) :
    Calls Try.prog 47 #[.agg #[.int .i64 x.k, .int .i64 x.a, .int .i64 x.b, .slice As x.sh.length cs, .int .i64 x.lo, .int .i64 x.hi, .int .i64 x.sz, .slice Ad x.da.length cd, .slice Ab x.bi.length cb], .slice Ah shs.length ch] w fun e w' => RSh w (shapeO x shs) e w' := by
  obtain ⟨y0, y1, y2, y3, y4, y5, y6, y7, y8⟩ := nine_at w (.int .i64 x.k) (.int .i64 x.a) (.int .i64 x.b) (.slice As x.sh.length cs) (.int .i64 x.lo) (.int .i64 x.hi) (.int .i64 x.sz) (.slice Ad x.da.length cd) (.slice Ab x.bi.length cb) 40
  have L0 := hX.out.lsh
  have L1 := hX.out.lda
  have L2 := hX.out.lbi
  have kk : Ext w (w.alloc (.cells #[.int .i64 x.k, .int .i64 x.a, .int .i64 x.b, .slice As x.sh.length cs, .int .i64 x.lo, .int .i64 x.hi, .int .i64 x.sz, .slice Ad x.da.length cd, .slice Ab x.bi.length cb] 40)) := (Ext.refl w).alloc _
  obtain ⟨OKF, BHF, TLF⟩ := form_parts (m := [true, false, false, false, false, true, false]) (show mayL x.k = some [true, false, false, false, false, true, false] by rw [hk.out]; rfl) hf.out
  have TL := Lib.hid (show (decide ((x.da.length : Int) = 3)) = true by rw [← TLF]; unfold toldB; simp [hk.out])
  obtain ⟨i, hi, s, hs, hg⟩ := ahead_get (behB_a (m := [true, false, false, false, false, true, false]) rfl BHF)
  have HI := Lib.hid hi
  have HS := Lib.hid hs
  have HG := Lib.hid hg
  clear hi hs hg
  clear OKF BHF TLF
  go_enter Try.func47, Try.ntmps47
  go_wp2_with fail
  generalize w.alloc (.cells #[.int .i64 x.k, .int .i64 x.a, .int .i64 x.b, .slice As x.sh.length cs, .int .i64 x.lo, .int .i64 x.hi, .int .i64 x.sz, .slice Ad x.da.length cd, .slice Ab x.bi.length cb] 40) = V at *
  refine (may8 x.k hk.out V).mono ?_
  rintro e1 w1 ⟨rfl, rfl⟩
  have m0 := seven_at V (.bool true) (.bool false) (.bool false) (.bool false) (.bool false) (.bool true) (.bool false) 4 0 _ rfl
  have ka : Ext V (V.alloc (.cells #[.bool true, .bool false, .bool false, .bool false, .bool false, .bool true, .bool false] 4)) := (Ext.refl V).alloc _
  replace y0 := cell_ext ka y0
  replace y1 := cell_ext ka y1
  replace y2 := cell_ext ka y2
  replace y3 := cell_ext ka y3
  replace y4 := cell_ext ka y4
  replace y5 := cell_ext ka y5
  replace y6 := cell_ext ka y6
  replace y7 := cell_ext ka y7
  replace y8 := cell_ext ka y8
  replace kk := kk.trans ka
  clear ka
  rw [hk.out] at y0
  obtain ⟨ad, rfl, hcs⟩ := (hA.out.ext kk).cells (show 0 < shs.length from by have := (List.getElem?_eq_some_iff.1 HS.out).1; omega)
  obtain ⟨B, d, hc, hz⟩ := hcs i s HS.out
  have HZ := Lib.hid hz
  have RGT := Lib.hid (hr.out s (List.mem_of_getElem? HS.out))
  clear hz
  have il := (List.getElem?_eq_some_iff.1 HS.out).1
  have i0 : (0 : Int) ≤ (i : Int) := by omega
  have i1 : (i : Int) < (shs.length : Int) := by omega
  rw [HI.out] at y1
  clear hcs il
  generalize hV1 : (V.alloc (.cells #[.bool true, .bool false, .bool false, .bool false, .bool false, .bool true, .bool false] 4)) = V1 at *
  clear hV1
  generalize V.heap.size = gm at *
  have SO := Lib.hid (show shapeO x shs = some s by unfold shapeO; rw [HG.out]; simp [hk.out])
  obtain ⟨ads, has, _⟩ := HZ.out.cells (entN_len RGT.out).1
  obtain rfl := has
  go_wp2
  go_ret
  exact .inl ⟨s, ads, d, SO.out, rfl, HZ.out, kk⟩

set_option maxHeartbeats 8000000 in
theorem rshape9 (x : Nd) (As Ad Ab : Option Addr) (cs cd cb : Nat) (w : World) (hX : Hid (NdX w x As Ad Ab cs cd cb)) (Ah : Option Addr) (ch : Nat) (shs : List (List Int)) (hA : Hid (SX w Ah ch shs)) (hr : Hid (Rights shs)) (hl : shs.length ≤ 100000) (hf : Hid (formB x shs.length = true)) (hk : Hid (x.k = 9)) :
    Calls Try.prog 47 #[.agg #[.int .i64 x.k, .int .i64 x.a, .int .i64 x.b, .slice As x.sh.length cs, .int .i64 x.lo, .int .i64 x.hi, .int .i64 x.sz, .slice Ad x.da.length cd, .slice Ab x.bi.length cb], .slice Ah shs.length ch] w fun e w' => RSh w (shapeO x shs) e w' := by
  obtain ⟨y0, y1, y2, y3, y4, y5, y6, y7, y8⟩ := nine_at w (.int .i64 x.k) (.int .i64 x.a) (.int .i64 x.b) (.slice As x.sh.length cs) (.int .i64 x.lo) (.int .i64 x.hi) (.int .i64 x.sz) (.slice Ad x.da.length cd) (.slice Ab x.bi.length cb) 40
  have L0 := hX.out.lsh
  have L1 := hX.out.lda
  have L2 := hX.out.lbi
  have kk : Ext w (w.alloc (.cells #[.int .i64 x.k, .int .i64 x.a, .int .i64 x.b, .slice As x.sh.length cs, .int .i64 x.lo, .int .i64 x.hi, .int .i64 x.sz, .slice Ad x.da.length cd, .slice Ab x.bi.length cb] 40)) := (Ext.refl w).alloc _
  obtain ⟨OKF, BHF, TLF⟩ := form_parts (m := [true, false, true, false, false, false, false]) (show mayL x.k = some [true, false, true, false, false, false, false] by rw [hk.out]; rfl) hf.out
  have TL := Lib.hid (show (decide (0 < entN x.sh)) = true by rw [← TLF]; unfold toldB; simp [hk.out])
  obtain ⟨i, hi, s, hs, hg⟩ := ahead_get (behB_a (m := [true, false, true, false, false, false, false]) rfl BHF)
  have HI := Lib.hid hi
  have HS := Lib.hid hs
  have HG := Lib.hid hg
  clear hi hs hg
  clear OKF BHF TLF
  go_enter Try.func47, Try.ntmps47
  go_wp2_with fail
  generalize w.alloc (.cells #[.int .i64 x.k, .int .i64 x.a, .int .i64 x.b, .slice As x.sh.length cs, .int .i64 x.lo, .int .i64 x.hi, .int .i64 x.sz, .slice Ad x.da.length cd, .slice Ab x.bi.length cb] 40) = V at *
  refine (may9 x.k hk.out V).mono ?_
  rintro e1 w1 ⟨rfl, rfl⟩
  have m0 := seven_at V (.bool true) (.bool false) (.bool true) (.bool false) (.bool false) (.bool false) (.bool false) 4 0 _ rfl
  have ka : Ext V (V.alloc (.cells #[.bool true, .bool false, .bool true, .bool false, .bool false, .bool false, .bool false] 4)) := (Ext.refl V).alloc _
  replace y0 := cell_ext ka y0
  replace y1 := cell_ext ka y1
  replace y2 := cell_ext ka y2
  replace y3 := cell_ext ka y3
  replace y4 := cell_ext ka y4
  replace y5 := cell_ext ka y5
  replace y6 := cell_ext ka y6
  replace y7 := cell_ext ka y7
  replace y8 := cell_ext ka y8
  replace kk := kk.trans ka
  clear ka
  rw [hk.out] at y0
  obtain ⟨ad, rfl, hcs⟩ := (hA.out.ext kk).cells (show 0 < shs.length from by have := (List.getElem?_eq_some_iff.1 HS.out).1; omega)
  obtain ⟨B, d, hc, hz⟩ := hcs i s HS.out
  have HZ := Lib.hid hz
  have RGT := Lib.hid (hr.out s (List.mem_of_getElem? HS.out))
  clear hz
  have il := (List.getElem?_eq_some_iff.1 HS.out).1
  have i0 : (0 : Int) ≤ (i : Int) := by omega
  have i1 : (i : Int) < (shs.length : Int) := by omega
  rw [HI.out] at y1
  clear hcs il
  generalize hV1 : (V.alloc (.cells #[.bool true, .bool false, .bool true, .bool false, .bool false, .bool false, .bool false] 4)) = V1 at *
  clear hV1
  generalize V.heap.size = gm at *
  have SO := Lib.hid (show shapeO x shs = (if entN x.sh = entN s then some x.sh else none) by unfold shapeO; rw [HG.out]; simp [hk.out])
  have PS := Lib.hid (show 0 < entN x.sh from by have := TL.out; simp at this; omega)
  obtain ⟨ads, has, _⟩ := hX.out.sh.cells (entN_len PS.out).1
  obtain rfl := has
  go_wp2_with fail
  refine (rent_any (some ads) x.sh.length cs x.sh V1 (Lib.hid (hX.out.sh.ext kk))).mono ?_
  rintro e3 w3 ⟨rfl, rfl⟩
  go_wp2_with fail
  refine (rent_any B s.length d s _ HZ).mono ?_
  rintro e4 w4 ⟨rfl, rfl⟩
  by_cases h : entN x.sh = entN s
  · have HR := Lib.hid (SO.out.trans (if_pos h))
    go_wp2
    go_ret
    exact .inl ⟨x.sh, ads, cs, HR.out, rfl, hX.out.sh.ext kk, kk⟩
  · have HR := Lib.hid (SO.out.trans (if_neg h))
    go_wp2
    go_ret
    exact .inr ⟨HR.out, rfl, kk⟩
end Go.Proofs.Ytdnjjpkajiehgaa
