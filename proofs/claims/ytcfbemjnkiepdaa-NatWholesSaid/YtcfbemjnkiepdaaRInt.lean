/-
  What Whole, Times and Sum of the reference of layer 2 answer.
-/
import Derived.Test.YtcfbemjnkiepdaaRMore
import Derived.Test.YtcfbemjnkiepdaaNZ
namespace Go.Proofs.Ytcfbemjnkiepdaa
open Go.RowKit
set_option linter.unusedVariables false

theorem Ext.drew {a b : World} (h : Ext a b) : Ext a b.drew := Below.drew h
theorem box_next {a b : World} {t : TypeId} (k : Ext (a.alloc (.cells #[.bool false, .slice none 0 0] t)) b) :
    b.cell? ⟨a.heap.size, 0, none⟩ = some (.bool false) ∧ b.cell? ⟨a.heap.size, 1, none⟩ = some (.slice none 0 0) ∧ b.frozen? ⟨a.heap.size, 0, none⟩ = false ∧ b.frozen? ⟨a.heap.size, 1, none⟩ = false :=
  ⟨kept_cell k (by simp) (by simp), kept_cell k (by simp) (by simp), kept_free k (by simp) (by simp), kept_free k (by simp) (by simp)⟩

theorem rwholeX {A : Option Addr} {n c : Nat} {b : Bool} {xs : List Nat} {w : World} (h : NX w A n c xs) (hn : n ≤ 10000) :
    Calls Try.prog 81 #[.bool b, .slice A n c] w (ZX w (4 * n) (iv b (nv xs))) := by
  have HV := Lib.hid (vl_dg d_two (nv xs))
  obtain ⟨i1, i2⟩ := iv_flag (b := b) (V := nv xs)
  have I1 := Lib.hid i1
  have I2 := Lib.hid i2
  clear i1 i2
  go_enter Try.func81, Try.ntmps81
  go_wp2_with fail
  refine (digX (h.ext ((Ext.refl w).alloc _)) hn).mono ?_
  rintro e w1 ⟨A1, n1, c1, rfl, hn1, d1, k1⟩
  go_wp2_with fail
  refine (fromX d1 (by omega)).mono ?_
  rw [HV.out]
  rintro e w2 ⟨A2, n2, c2, rfl, hn2, d2, k2⟩
  obtain ⟨r0, r1, f0, f1⟩ := box_next (k1.trans k2)
  have HK := Lib.hid (((Ext.refl w).alloc _).trans (k1.trans k2))
  have HP := Lib.hid (pos_words d2)
  clear k1 k2
  cases b
  · obtain ⟨z0, z1⟩ := ans_cells r0 r1 (.bool false) (.slice A2 n2 c2)
    go_wp2
    refine bodyPost_ret (v := .agg #[.bool false, .slice A2 n2 c2]) (by simp [results, Try.results81, go_sem, z0, z1]) rfl ?_
    exact ⟨A2, n2, c2, by rw [← I1.out]; rfl, by omega, by rw [← I2.out]; exact rd_answer d2 r0 r1, (Below.setCell HK.out (by simp) _).setCell (by simp) _⟩
  · by_cases hn0 : 0 < n2
    · obtain ⟨z0, z1⟩ := ans_cells r0 r1 (.bool true) (.slice A2 n2 c2)
      go_wp2
      refine bodyPost_ret (v := .agg #[.bool true, .slice A2 n2 c2]) (by simp [results, Try.results81, go_sem, z0, z1]) rfl ?_
      exact ⟨A2, n2, c2, by rw [← I1.out, ← HP.out, decide_eq_true hn0]; rfl, by omega, by rw [← I2.out]; exact rd_answer d2 r0 r1, (Below.setCell HK.out (by simp) _).setCell (by simp) _⟩
    · obtain ⟨z0, z1⟩ := ans_cells r0 r1 (.bool false) (.slice A2 n2 c2)
      go_wp2
      refine bodyPost_ret (v := .agg #[.bool false, .slice A2 n2 c2]) (by simp [results, Try.results81, go_sem, z0, z1]) rfl ?_
      exact ⟨A2, n2, c2, by rw [← I1.out, ← HP.out, decide_eq_false hn0]; rfl, by omega, by rw [← I2.out]; exact rd_answer d2 r0 r1, (Below.setCell HK.out (by simp) _).setCell (by simp) _⟩
theorem rwholeZ {A : Option Addr} {n c : Nat} {b : Bool} {z : Int} {xs : List Nat} {w : World} (h : NX w A n c xs) (hn : n ≤ 10000) (hz : Hid (iv b (nv xs) = z)) :
    Calls Try.prog 81 #[.bool b, .slice A n c] w (ZX w (4 * n) z) := by
  rw [← hz.out]; exact rwholeX h hn
theorem iv_times {b b' : Bool} {X Y : Nat} : iv (!(b == b')) (X * Y) = iv b X * iv b' Y := by
  cases b <;> cases b' <;> simp [iv, Int.neg_mul, Int.mul_neg]

set_option maxHeartbeats 1000000 in
theorem rtimes_any (A A' : Option Addr) (n n' c c' : Nat) (b b' : Bool) (xs ys : List Nat) (z : Int) (w : World) (h : NX w A n c xs) (h' : NX w A' n' c' ys) (hn : n ≤ 1000) (hn' : n' ≤ 1000) (hz : Hid (iv b (nv xs) * iv b' (nv ys) = z)) :
    Calls Try.prog 56 #[.agg #[.bool b, .slice A n c], .agg #[.bool b', .slice A' n' c']] w (ZX w (4 * (4 * n + 4 * n' + 1)) z) := by
  have HZ := Lib.hid (show iv (!(b == b')) (nv (nw (nv xs * nv ys))) = z by rw [nv_nw, iv_times]; exact hz.out)
  have hx := box3 w b b' (.slice A n c) (.slice A' n' c') (.bool false) (.slice none 0 0) 52
  have HX := Lib.hid hx
  clear hx
  go_enter Try.func56, Try.ntmps56
  go_wp2
  generalize ((w.alloc (Obj.cells #[Value.bool b, Value.slice A n c] 52)).alloc (Obj.cells #[Value.bool b', Value.slice A' n' c'] 52)).alloc (Obj.cells #[Value.bool false, Value.slice none 0 0] 52) = W at *
  have HB := HX.out.toBox2
  obtain ⟨⟨xb, xs0, a0, a1, b0, b1, fr⟩, x3, r0, r1, f0, f1⟩ := HX.out
  have X3 := Lib.hid x3
  have hR := (h.below xb).more (show w.heap.size ≤ W.heap.size by omega)
  have hR' := (h'.below xb).more (show w.heap.size ≤ W.heap.size by omega)
  have hz3 : w.heap.size + 3 ≤ W.heap.size := by omega
  have ne1 : ¬ (w.heap.size + 1 + 1 = w.heap.size) := by omega
  have ne2 : ¬ (w.heap.size = w.heap.size + 1 + 1) := by omega
  clear x3
  go_region_held3 (fun w' => w'.cell? ⟨w.heap.size, 0, none⟩ = some (.bool b) ∧ w'.cell? ⟨w.heap.size + 1, 0, none⟩ = some (.bool b') ∧ w'.cell? ⟨w.heap.size, 1, none⟩ = some (.slice A n c) ∧ w'.cell? ⟨w.heap.size + 1, 1, none⟩ = some (.slice A' n' c')) (go_keep)
    (first
      | (go_at_call 43; refine (rmulX hR.drew hR'.drew (by omega) (by omega)).mono ?_; rintro e w1 ⟨A2, n2, c2, rfl, hn2, hr2, hb2⟩; obtain ⟨_, _, _, _, _, _, _⟩ := HB.drew.keep hb2; have hs2 : W.heap.size ≤ w1.heap.size := hb2.size)
      | (go_at_call 81; refine (rwholeZ hr2 (by omega) HZ).mono ?_; rintro e w2 ⟨A3, n3, c3, rfl, hn3, hr3, hb3⟩; obtain ⟨_, _, _, _, _, _, _⟩ := (HB.drew.keep hb2).keep hb3; have hs3 := hb3.size; have r0' := kept_cell hb3 (by omega) (kept_cell hb2 (show w.heap.size + 2 < W.heap.size by omega) r0); have r1' := kept_cell hb3 (by omega) (kept_cell hb2 (show w.heap.size + 2 < W.heap.size by omega) r1); have f0' := kept_free hb3 (by omega) (kept_free hb2 (show w.heap.size + 2 < W.heap.size by omega) f0); have f1' := kept_free hb3 (by omega) (kept_free hb2 (show w.heap.size + 2 < W.heap.size by omega) f1)))
  go_wp2
  have r0'' : w2.cell? ⟨w.heap.size + 1 + 1, 0, none⟩ = some (.bool false) := r0'
  have r1'' : w2.cell? ⟨w.heap.size + 1 + 1, 1, none⟩ = some (.slice none 0 0) := r1'
  obtain ⟨z0, z1⟩ := ans_cells r0'' r1'' (.bool (decide (z < 0))) (.slice A3 n3 c3)
  refine bodyPost_ret (v := .agg #[.bool (decide (z < 0)), .slice A3 n3 c3]) (by simp [results, Try.results56, go_sem, z0, z1]) rfl ?_
  refine ⟨A3, n3, c3, rfl, by omega, rd_answer hr3 r0' r1', ?_⟩
  exact ((xb.trans ((Below.drew (Below.refl _ W)).trans (hb2.mono (show W.heap.size ≤ W.drew.heap.size from Nat.le_refl _)) |>.mono (by omega))).trans (hb3.mono (by omega))).setCell (by simp; omega) _ |>.setCell (by simp; omega) _
theorem iv_sum_same {b : Bool} {X Y : Nat} : iv b (X + Y) = iv b X + iv b Y := by cases b <;> simp [iv]; omega
theorem iv_sum_ge {b b' : Bool} {X Y : Nat} (hb : b ≠ b') (h : Y ≤ X) : iv b (X - Y) = iv b X + iv b' Y := by
  cases b <;> cases b' <;> simp [iv] at hb ⊢ <;> omega
theorem iv_sum_lt {b b' : Bool} {X Y : Nat} (hb : b ≠ b') (h : X < Y) : iv b' (Y - X) = iv b X + iv b' Y := by
  cases b <;> cases b' <;> simp [iv] at hb ⊢ <;> omega
set_option maxHeartbeats 2000000 in
theorem rsum_any (A A' : Option Addr) (n n' c c' : Nat) (b b' : Bool) (xs ys : List Nat) (z : Int) (w : World) (h : NX w A n c xs) (h' : NX w A' n' c' ys) (hn : n ≤ 1000) (hn' : n' ≤ 1000) (hz : Hid (iv b (nv xs) + iv b' (nv ys) = z)) :
    Calls Try.prog 54 #[.agg #[.bool b, .slice A n c], .agg #[.bool b', .slice A' n' c']] w (ZX w (4 * (4 * n + 4 * n' + 1)) z) := by
  have hx := box3 w b b' (.slice A n c) (.slice A' n' c') (.bool false) (.slice none 0 0) 52
  have HX := Lib.hid hx
  clear hx
  go_enter Try.func54, Try.ntmps54
  by_cases hb : b = b'
  · subst hb
    have HZ := Lib.hid (show iv b (nv (nw (nv xs + nv ys))) = z by rw [nv_nw, iv_sum_same]; exact hz.out)
    have hbb : (b == b) = true := by simp
    go_wp2
    generalize ((w.alloc (Obj.cells #[Value.bool b, Value.slice A n c] 52)).alloc (Obj.cells #[Value.bool b, Value.slice A' n' c'] 52)).alloc (Obj.cells #[Value.bool false, Value.slice none 0 0] 52) = W at *
    have HB := HX.out.toBox2
    obtain ⟨⟨xb, xs0, a0, a1, b0, b1, fr⟩, x3, r0, r1, f0, f1⟩ := HX.out
    have X3 := Lib.hid x3
    have hR := (Rd.below h xb).more (show w.heap.size ≤ W.heap.size by omega)
    have hR' := (Rd.below h' xb).more (show w.heap.size ≤ W.heap.size by omega)
    have hz3 : w.heap.size + 3 ≤ W.heap.size := by omega
    have ne1 : ¬ (w.heap.size + 1 + 1 = w.heap.size) := by omega
    have ne2 : ¬ (w.heap.size = w.heap.size + 1 + 1) := by omega
    clear x3
    go_region_held3 (fun w' => w'.cell? ⟨w.heap.size, 0, none⟩ = some (.bool b) ∧ w'.cell? ⟨w.heap.size + 1, 0, none⟩ = some (.bool b) ∧ w'.cell? ⟨w.heap.size, 1, none⟩ = some (.slice A n c) ∧ w'.cell? ⟨w.heap.size + 1, 1, none⟩ = some (.slice A' n' c')) (go_keep)
      (first
        | (go_at_call 37; refine (raddX hR.drew hR'.drew (by omega) (by omega)).mono ?_; rintro e w1 ⟨A2, n2, c2, rfl, hn2, hr2, hb2⟩; obtain ⟨_, _, _, _, _, _, _⟩ := HB.drew.keep hb2; have hs2 : W.heap.size ≤ w1.heap.size := hb2.size)
        | (go_at_call 81; refine (rwholeZ hr2 (by omega) HZ).mono ?_; rintro e w2 ⟨A3, n3, c3, rfl, hn3, hr3, hb3⟩; obtain ⟨_, _, _, _, _, _, _⟩ := (HB.drew.keep hb2).keep hb3; have hs3 := hb3.size; have r0' := kept_cell hb3 (by omega) (kept_cell hb2 (show w.heap.size + 2 < W.heap.size by omega) r0); have r1' := kept_cell hb3 (by omega) (kept_cell hb2 (show w.heap.size + 2 < W.heap.size by omega) r1); have f0' := kept_free hb3 (by omega) (kept_free hb2 (show w.heap.size + 2 < W.heap.size by omega) f0); have f1' := kept_free hb3 (by omega) (kept_free hb2 (show w.heap.size + 2 < W.heap.size by omega) f1)))
    go_wp2
    have r0'' : w2.cell? ⟨w.heap.size + 1 + 1, 0, none⟩ = some (.bool false) := r0'
    have r1'' : w2.cell? ⟨w.heap.size + 1 + 1, 1, none⟩ = some (.slice none 0 0) := r1'
    obtain ⟨z0, z1⟩ := ans_cells r0'' r1'' (.bool (decide (z < 0))) (.slice A3 n3 c3)
    refine bodyPost_ret (v := .agg #[.bool (decide (z < 0)), .slice A3 n3 c3]) (by simp [results, Try.results54, go_sem, z0, z1]) rfl ?_
    refine ⟨A3, n3, c3, rfl, by omega, rd_answer hr3 r0' r1', ?_⟩
    exact ((xb.trans ((Below.drew (Below.refl _ W)).trans (hb2.mono (show W.heap.size ≤ W.drew.heap.size from Nat.le_refl _)) |>.mono (by omega))).trans (hb3.mono (by omega))).setCell (by simp; omega) _ |>.setCell (by simp; omega) _
  · have hbb : (b == b') = false := by simpa using hb
    have HBB := Lib.hid hb
    clear hb
    go_wp2_with fail
    generalize ((w.alloc (Obj.cells #[Value.bool b, Value.slice A n c] 52)).alloc (Obj.cells #[Value.bool b', Value.slice A' n' c'] 52)).alloc (Obj.cells #[Value.bool false, Value.slice none 0 0] 52) = W at *
    have HB := HX.out.toBox2
    obtain ⟨⟨xb, xs0, a0, a1, b0, b1, fr⟩, x3, r0, r1, f0, f1⟩ := HX.out
    have X3 := Lib.hid x3
    have hR := (Rd.below h xb).more (show w.heap.size ≤ W.heap.size by omega)
    have hR' := (Rd.below h' xb).more (show w.heap.size ≤ W.heap.size by omega)
    have hz3 : w.heap.size + 3 ≤ W.heap.size := by omega
    clear x3
    refine (rcmpX hR hR' (by omega) (by omega)).mono ?_
    rintro e w1 ⟨rfl, k1⟩
    have hs1 : W.heap.size ≤ w1.heap.size := k1.size
    obtain ⟨_, _, a0', a1', b0', b1', _⟩ := HB.keep k1
    by_cases hlt : nv xs < nv ys
    · have HE := Lib.hid (cmpS_lt hlt)
      rw [HE.out]
      have HZ := Lib.hid (show iv b' (nv (nw (nv ys - nv xs))) = z by rw [nv_nw, iv_sum_lt HBB.out hlt]; exact hz.out)
      go_wp2_with fail
      refine (rsubX (NX.ext hR' k1) (NX.ext hR k1) (by omega) (by omega)).mono ?_
      rintro e w2 (⟨hh, _⟩ | ⟨_, A2, n2, c2, rfl, hn2, hr2, he2⟩)
      · omega
      have k2 : Ext W w2 := k1.trans he2
      have hs2 : W.heap.size ≤ w2.heap.size := k2.size
      obtain ⟨_, _, a0'', a1'', b0'', b1'', _⟩ := HB.keep k2
      go_wp2_with fail
      refine (rwholeZ hr2 (by omega) HZ).mono ?_
      rintro e w3 ⟨A3, n3, c3, rfl, hn3, hr3, hb3⟩
      have k3 : Ext W w3 := k2.trans hb3
      have r0' := kept_cell k3 (show w.heap.size + 2 < W.heap.size by omega) r0
      have r1' := kept_cell k3 (show w.heap.size + 2 < W.heap.size by omega) r1
      have f0' := kept_free k3 (show w.heap.size + 2 < W.heap.size by omega) f0
      have f1' := kept_free k3 (show w.heap.size + 2 < W.heap.size by omega) f1
      obtain ⟨z0, z1⟩ := ans_cells r0' r1' (.bool (decide (z < 0))) (.slice A3 n3 c3)
      go_wp2
      refine bodyPost_ret (v := .agg #[.bool (decide (z < 0)), .slice A3 n3 c3]) (by simp [results, Try.results54, go_sem, z0, z1]) rfl ?_
      exact ⟨A3, n3, c3, rfl, by omega, rd_answer hr3 r0' r1', ((xb.trans (Below.mono k3 (by omega))).setCell (by simp; omega) _).setCell (by simp; omega) _⟩
    · have hd : decide (cmpS (nv xs) (nv ys) ≥ 0) = true := by
        unfold cmpS; rw [if_neg hlt]; split <;> decide
      have HZ := Lib.hid (show iv b (nv (nw (nv xs - nv ys))) = z by rw [nv_nw, iv_sum_ge HBB.out (by omega)]; exact hz.out)
      go_wp2_with fail
      refine (rsubX (NX.ext hR k1) (NX.ext hR' k1) (by omega) (by omega)).mono ?_
      rintro e w2 (⟨hh, _⟩ | ⟨_, A2, n2, c2, rfl, hn2, hr2, he2⟩)
      · omega
      have k2 : Ext W w2 := k1.trans he2
      have hs2 : W.heap.size ≤ w2.heap.size := k2.size
      obtain ⟨_, _, a0'', a1'', b0'', b1'', _⟩ := HB.keep k2
      go_wp2_with fail
      refine (rwholeZ hr2 (by omega) HZ).mono ?_
      rintro e w3 ⟨A3, n3, c3, rfl, hn3, hr3, hb3⟩
      have k3 : Ext W w3 := k2.trans hb3
      have r0' := kept_cell k3 (show w.heap.size + 2 < W.heap.size by omega) r0
      have r1' := kept_cell k3 (show w.heap.size + 2 < W.heap.size by omega) r1
      have f0' := kept_free k3 (show w.heap.size + 2 < W.heap.size by omega) f0
      have f1' := kept_free k3 (show w.heap.size + 2 < W.heap.size by omega) f1
      obtain ⟨z0, z1⟩ := ans_cells r0' r1' (.bool (decide (z < 0))) (.slice A3 n3 c3)
      go_wp2
      refine bodyPost_ret (v := .agg #[.bool (decide (z < 0)), .slice A3 n3 c3]) (by simp [results, Try.results54, go_sem, z0, z1]) rfl ?_
      exact ⟨A3, n3, c3, rfl, by omega, rd_answer hr3 r0' r1', ((xb.trans (Below.mono k3 (by omega))).setCell (by simp; omega) _).setCell (by simp; omega) _⟩
end Go.Proofs.Ytcfbemjnkiepdaa
