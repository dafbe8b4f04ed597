/-
  What Sum and Times of package nat answer for all whole numbers, as whole numbers.
-/
import Derived.Test.YtcfbemjnkiepdaaNInt
namespace Go.Proofs.Ytcfbemjnkiepdaa
open Go.RowKit
set_option linter.unusedVariables false

/-- A whole number by whether it is below 0, and its size. -/
def iv (b : Bool) (X : Nat) : Int := if b then -(X : Int) else X
/-- What a call answers that makes a whole number. -/
def IntZ (w : World) (N : Nat) (z : Int) (e : Ending) (w' : World) : Prop := IntPost w N (decide (z < 0)) (nw z.natAbs) e w'
theorem iv_same {b : Bool} {X Y : Nat} : (b && decide (0 < X + Y)) = decide (iv b X + iv b Y < 0) ∧ X + Y = (iv b X + iv b Y).natAbs := by
  cases b <;> simp [iv] <;> omega
theorem iv_ge {b b' : Bool} {X Y : Nat} (hb : b ≠ b') (h : Y ≤ X) : (b && decide (0 < X - Y)) = decide (iv b X + iv b' Y < 0) ∧ X - Y = (iv b X + iv b' Y).natAbs := by
  cases b <;> cases b' <;> simp [iv] at hb ⊢ <;> omega
theorem iv_lt {b b' : Bool} {X Y : Nat} (hb : b ≠ b') (h : X < Y) : (b' && decide (0 < Y - X)) = decide (iv b X + iv b' Y < 0) ∧ Y - X = (iv b X + iv b' Y).natAbs := by
  cases b <;> cases b' <;> simp [iv] at hb ⊢ <;> omega
theorem iv_mul {b b' : Bool} {X Y : Nat} : ((b != b') && decide (0 < X * Y)) = decide (iv b X * iv b' Y < 0) ∧ X * Y = (iv b X * iv b' Y).natAbs := by
  have e : ((X * Y : Nat) : Int) = (X : Int) * Y := by simp
  cases b <;> cases b' <;> simp [iv, Int.neg_mul, Int.mul_neg] <;> rw [← e] <;> omega

theorem timesZ_any (A A' : Option Addr) (n n' c c' : Nat) (b b' : Bool) (xs ys : List Nat) (w : World) (h : NR w w.heap.size A n c xs) (h' : NR w w.heap.size A' n' c' ys) (hn : n ≤ 1000) (hn' : n' ≤ 1000) :
    Calls Try.prog 55 #[.agg #[.bool b, .slice A n c], .agg #[.bool b', .slice A' n' c']] w (IntZ w (n + n') (iv b (nv xs) * iv b' (nv ys))) := by
  have := times_any A A' n n' c c' b b' xs ys w h h' hn hn'
  obtain ⟨e1, e2⟩ := iv_mul (b := b) (b' := b') (X := nv xs) (Y := nv ys)
  rw [e1] at this
  unfold IntZ
  rw [← e2]
  exact this

theorem Box3.drewN {w W : World} {b b' : Bool} {s s' r0 r1 : Value} (h : Box3 w W b b' s s' r0 r1) (q : Nat) : Box3 w (W.drewN q) b b' s s' r0 r1 :=
  ⟨⟨below_drewN h.below q, h.size, h.a0, h.a1, h.b0, h.b1, h.free⟩, h.size3, h.r0, h.r1, h.f0, h.f1⟩
theorem set_far {w : World} {p q : Addr} {u : Value} (h : p ≠ q) : (w.setCell p u).cell? q = w.cell? q := World.cell?_setCell_other _ _ _ _ h
theorem set_free {w : World} {p q : Addr} {u : Value} : (w.setCell p u).frozen? q = w.frozen? q := by simp
/-- The two numbers exchanged. -/
def swapped (w W : World) (b b' : Bool) (s s' : Value) : World :=
  (((W.setCell ⟨w.heap.size, 0, none⟩ (.bool b')).setCell ⟨w.heap.size, 1, none⟩ s').setCell ⟨w.heap.size + 1, 0, none⟩ (.bool b)).setCell ⟨w.heap.size + 1, 1, none⟩ s

theorem Box3.swap {w W : World} {b b' : Bool} {A A' : Option Addr} {n n' c c' : Nat} {r0 r1 : Value} (h : Box3 w W b b' (.slice A n c) (.slice A' n' c') r0 r1) :
    Box3 w (swapped w W b b' (.slice A n c) (.slice A' n' c')) b' b (.slice A' n' c') (.slice A n c) r0 r1 := by
  have hs := h.size
  have e : (swapped w W b b' (.slice A n c) (.slice A' n' c')).heap.size = W.heap.size := by simp [swapped, World.setCell]
  have ne1 : ¬ (w.heap.size + 1 = w.heap.size) := by omega
  have ne2 : ¬ (w.heap.size = w.heap.size + 1) := by omega
  have ne3 : ¬ (w.heap.size = w.heap.size + 2) := by omega
  refine ⟨⟨(((h.below.setCell (by simp) _).setCell (by simp) _).setCell (by simp) _).setCell (by simp) _, by rw [e]; exact hs, ?_, ?_, ?_, ?_, ?_⟩, by rw [e]; exact h.size3, ?_, ?_, ?_, ?_⟩
  all_goals unfold swapped
  · rw [set_far (by simp), set_far (by simp), set_far (by simp)]; exact World.cell?_setCell_same _ _ _ h.a0
  · rw [set_far (by simp), set_far (by simp)]; exact World.cell?_setCell_same _ _ _ (by rw [set_far (by simp)]; exact h.a1)
  · rw [set_far (by simp)]; exact World.cell?_setCell_same _ _ _ (by rw [set_far (by simp), set_far (by simp)]; exact h.b0)
  · exact World.cell?_setCell_same _ _ _ (by rw [set_far (by simp), set_far (by simp), set_far (by simp)]; exact h.b1)
  · intro o
    simp only [set_free]
    exact h.free o
  · rw [set_far (by simp), set_far (by simp), set_far (by simp), set_far (by simp)]; exact h.r0
  · rw [set_far (by simp), set_far (by simp), set_far (by simp), set_far (by simp)]; exact h.r1
  · simp only [set_free]; exact h.f0
  · simp only [set_free]; exact h.f1
theorem Rd.swap {w W : World} {b b' : Bool} {A A' : Option Addr} {n n' c c' : Nat} {r0 r1 : Value} (h : Box3 w W b b' (.slice A n c) (.slice A' n' c') r0 r1) {B : Nat} {A2 : Option Addr} {n2 c2 : Nat} {xs : List Nat} (hr : NR W B A2 n2 c2 xs) :
    NR (swapped w W b b' (.slice A n c) (.slice A' n' c')) B A2 n2 c2 xs := by
  have ne2 : ¬ (w.heap.size = w.heap.size + 1) := by omega
  unfold swapped
  refine (((hr.aside h.a0 (fun _ => by simp) _).aside (v := .slice A n c) ?_ (fun _ => by simp) _).aside (v := .bool b') ?_ (fun _ => by simp) _).aside (v := .slice A' n' c') ?_ (fun _ => by simp) _
  · rw [set_far (by simp)]; exact h.a1
  · rw [set_far (by simp), set_far (by simp)]; exact h.b0
  · rw [set_far (by simp), set_far (by simp), set_far (by simp)]; exact h.b1
theorem less_trim {A A' : Option Addr} {m m' X Y : Nat} {w : World} (h : NR w w.heap.size A m m (nw X)) (h' : NR w w.heap.size A' m' m' (nw Y)) (hm : m ≤ 1000000) (hv : Y ≤ X) :
    Calls Try.prog 60 #[.slice A m m, .slice A' m' m'] w (NatPost w m (nw (X - Y))) := by
  have hle : m' ≤ m := by
    rw [← h.len, ← h'.len]
    rcases Nat.lt_or_ge (nw X).length (nw Y).length with h0 | h0
    · have := dg_len_lt W64_two h0
      omega
    · exact h0
  have := less_any A A' m m' m m' (nw X) (nw Y) w h h' hm hle (by rw [nv_nw, nv_nw]; exact hv)
  rwa [nv_nw, nv_nw] at this

set_option maxHeartbeats 4000000 in
theorem sumZ_any (A A' : Option Addr) (n n' c c' : Nat) (b b' : Bool) (xs ys : List Nat) (w : World) (h : NR w w.heap.size A n c xs) (h' : NR w w.heap.size A' n' c' ys) (hn : n ≤ 1000) (hn' : n' ≤ 1000) :
    Calls Try.prog 53 #[.agg #[.bool b, .slice A n c], .agg #[.bool b', .slice A' n' c']] w (IntZ w (n + n' + 1) (iv b (nv xs) + iv b' (nv ys))) := by
  have hx := box3 w b b' (.slice A n c) (.slice A' n' c') (.bool false) (.slice none 0 0) 52
  have HX := Lib.hid hx
  clear hx
  by_cases hb : b = b'
  · subst hb
    have hbb : (b == b) = true := by simp
    have IV := Lib.hid (iv_same (b := b) (X := nv xs) (Y := nv ys))
    go_enter Try.func53, Try.ntmps53
    go_wp2
    generalize ((w.alloc (Obj.cells #[Value.bool b, Value.slice A n c] 52)).alloc (Obj.cells #[Value.bool b, Value.slice A' n' c'] 52)).alloc (Obj.cells #[Value.bool false, Value.slice none 0 0] 52) = V2 at *
    have BV := HX.out
    have hRa := (h.below BV.below).more (show w.heap.size ≤ V2.heap.size by have := BV.size; omega)
    have hRb := (h'.below BV.below).more (show w.heap.size ≤ V2.heap.size by have := BV.size; omega)
    have HB := BV.toBox2
    obtain ⟨⟨xb, xs0, a0, a1, b0, b1, fr⟩, x3, r0, r1, f0, f1⟩ := BV
    have X3 := Lib.hid x3
    have hz3 : w.heap.size + 3 ≤ V2.heap.size := by omega
    have ne1 : ¬ (w.heap.size + 1 + 1 = w.heap.size) := by omega
    have ne2 : ¬ (w.heap.size = w.heap.size + 1 + 1) := by omega
    clear x3 fr
    go_region_held3 (fun w' => w'.cell? ⟨w.heap.size, 0, none⟩ = some (.bool b) ∧ w'.cell? ⟨w.heap.size, 1, none⟩ = some (.slice A n c) ∧ w'.cell? ⟨w.heap.size + 1, 1, none⟩ = some (.slice A' n' c')) (go_keep)
      (first
        | (go_at_call 36; (with_reducible refine (natAdd_any A A' n n' c c' xs ys V2.drew hRa.drew hRb.drew (by omega) (by omega)).mono ?_); rintro e w1 ⟨A4, n4, c4, rfl, hn4, hr4, hb4⟩; obtain ⟨_, _, _, _, _, _, _⟩ := HB.drew.keep hb4; have hs4 : V2.heap.size ≤ w1.heap.size := hb4.size)
        | (go_at_call 80; refine (signed_any A4 n4 c4 _ _ _ hr4).mono ?_; rintro e w2 ⟨A3, n3, c3, rfl, hn3, hr3, hb3⟩; obtain ⟨_, _, _, _, _, _, _⟩ := (HB.drew.keep hb4).keep hb3; have hs3 := hb3.size; have r0' := kept_cell hb3 (by omega) (kept_cell hb4 (show w.heap.size + 2 < V2.heap.size by omega) r0); have r1' := kept_cell hb3 (by omega) (kept_cell hb4 (show w.heap.size + 2 < V2.heap.size by omega) r1); have f0' := kept_free hb3 (by omega) (kept_free hb4 (show w.heap.size + 2 < V2.heap.size by omega) f0); have f1' := kept_free hb3 (by omega) (kept_free hb4 (show w.heap.size + 2 < V2.heap.size by omega) f1)))
    go_wp2
    have r0'' : w2.cell? ⟨w.heap.size + 1 + 1, 0, none⟩ = some (.bool false) := r0'
    have r1'' : w2.cell? ⟨w.heap.size + 1 + 1, 1, none⟩ = some (.slice none 0 0) := r1'
    obtain ⟨z0, z1⟩ := ans_cells r0'' r1'' (.bool (b && decide (0 < n4))) (.slice A3 n3 c3)
    refine bodyPost_ret (v := .agg #[.bool (b && decide (0 < n4)), .slice A3 n3 c3]) (by simp [results, Try.results53, go_sem, z0, z1]) rfl ?_
    obtain ⟨i1, i2⟩ := IV.out
    refine ⟨A3, n3, c3, ?_, by omega, ?_, ?_⟩
    · rw [pos_words hr4, i1]
    · rw [← i2]; exact rd_answer hr3 r0' r1'
    · exact ((xb.trans ((Below.drew (Below.refl _ V2)).trans (hb4.mono (show V2.heap.size ≤ V2.drew.heap.size from Nat.le_refl _)) |>.mono (by omega))).trans (hb3.mono (by omega))).setCell (by simp; omega) _ |>.setCell (by simp; omega) _
  · have hbb : (b == b') = false := by simpa using hb
    go_enter Try.func53, Try.ntmps53
    go_wp2_with fail
    generalize ((w.alloc (Obj.cells #[Value.bool b, Value.slice A n c] 52)).alloc (Obj.cells #[Value.bool b', Value.slice A' n' c'] 52)).alloc (Obj.cells #[Value.bool false, Value.slice none 0 0] 52) = W at *
    have BX := HX.out
    have hR := (h.below BX.below).more (show w.heap.size ≤ W.heap.size by have := BX.size; omega)
    have hR' := (h'.below BX.below).more (show w.heap.size ≤ W.heap.size by have := BX.size; omega)
    refine (cmp_any A A' n n' c c' _ xs ys W hR hR' (by omega) (by omega)).mono ?_
    rintro e w' ⟨rfl, q, rfl⟩
    have BQ := BX.drewN q
    have hRq : NR (W.drewN q) (W.drewN q).heap.size A n c xs := hR.drewN q
    have hRq' : NR (W.drewN q) (W.drewN q).heap.size A' n' c' ys := hR'.drewN q
    by_cases hlt : nv xs < nv ys
    · have HE := Lib.hid (cmpS_lt hlt)
      have HV := Lib.hid (show nv xs ≤ nv ys by omega)
      have IV := Lib.hid (iv_lt hb hlt)
      clear hlt hb
      rw [HE.out]
      generalize W.drewN q = V at *
      have BV := BQ.swap
      have e2 : (swapped w V b b' (.slice A n c) (.slice A' n' c')).heap.size = V.heap.size := by simp [swapped, World.setCell]
      have hRa := Rd.swap BQ hRq'
      have hRb := Rd.swap BQ hRq
      rw [← e2] at hRa hRb
      obtain ⟨⟨yb, ys0, y0, y1, y2, y3, fr⟩, w3, _, _, _, _⟩ := BQ
      obtain ⟨g1, g3⟩ := fr 0
      obtain ⟨g2, g4⟩ := fr 1
      have W3 := Lib.hid w3
      have E2 := Lib.hid e2
      clear fr w3 e2
      go_wp2
      change Code.wp _ _ _ _ (swapped w V b b' (.slice A n c) (.slice A' n' c'))
      generalize swapped w V b b' (.slice A n c) (.slice A' n' c') = V2 at *
      clear g1 g2 g3 g4 y0 y1 y2 y3
      have HB := BV.toBox2
      obtain ⟨⟨xb, xs0, a0, a1, b0, b1, fr⟩, x3, r0, r1, f0, f1⟩ := BV
      have X3 := Lib.hid x3
      have hz3 : w.heap.size + 3 ≤ V2.heap.size := by omega
      have ne1 : ¬ (w.heap.size + 1 + 1 = w.heap.size) := by omega
      have ne2 : ¬ (w.heap.size = w.heap.size + 1 + 1) := by omega
      clear x3 fr
      go_region_held3 (fun w' => w'.cell? ⟨w.heap.size, 0, none⟩ = some (.bool b') ∧ w'.cell? ⟨w.heap.size, 1, none⟩ = some (.slice A' n' c') ∧ w'.cell? ⟨w.heap.size + 1, 1, none⟩ = some (.slice A n c)) (go_keep)
        (first
          | (go_at_call 61; (with_reducible refine (trimmed_any A' n' c' _ ys V2.drew hRa.drew (by omega)).mono ?_); rintro e w' ⟨m1, hm1, rfl, rfl, hr1⟩)
          | (go_at_call 61; (with_reducible refine (trimmed_any A n c _ xs V2.drew hRb.drew (by omega)).mono ?_); rintro e w' ⟨m2, hm2, rfl, rfl, hr2⟩)
          | (go_at_call 60; (with_reducible refine (less_trim hr1 hr2 (by omega) HV.out).mono ?_); rintro e w1 ⟨A4, n4, c4, rfl, hn4, hr4, hb4⟩; obtain ⟨_, _, _, _, _, _, _⟩ := HB.drew.keep hb4; have hs4 : V2.heap.size ≤ w1.heap.size := hb4.size)
          | (go_at_call 80; refine (signed_any A4 n4 c4 _ _ _ hr4).mono ?_; rintro e w2 ⟨A3, n3, c3, rfl, hn3, hr3, hb3⟩; obtain ⟨_, _, _, _, _, _, _⟩ := (HB.drew.keep hb4).keep hb3; have hs3 := hb3.size; have r0' := kept_cell hb3 (by omega) (kept_cell hb4 (show w.heap.size + 2 < V2.heap.size by omega) r0); have r1' := kept_cell hb3 (by omega) (kept_cell hb4 (show w.heap.size + 2 < V2.heap.size by omega) r1); have f0' := kept_free hb3 (by omega) (kept_free hb4 (show w.heap.size + 2 < V2.heap.size by omega) f0); have f1' := kept_free hb3 (by omega) (kept_free hb4 (show w.heap.size + 2 < V2.heap.size by omega) f1)))
      go_wp2
      have r0'' : w2.cell? ⟨w.heap.size + 1 + 1, 0, none⟩ = some (.bool false) := r0'
      have r1'' : w2.cell? ⟨w.heap.size + 1 + 1, 1, none⟩ = some (.slice none 0 0) := r1'
      obtain ⟨z0, z1⟩ := ans_cells r0'' r1'' (.bool (b' && decide (0 < n4))) (.slice A3 n3 c3)
      refine bodyPost_ret (v := .agg #[.bool (b' && decide (0 < n4)), .slice A3 n3 c3]) (by simp [results, Try.results53, go_sem, z0, z1]) rfl ?_
      obtain ⟨i1, i2⟩ := IV.out
      refine ⟨A3, n3, c3, ?_, by omega, ?_, ?_⟩
      · rw [pos_words hr4, i1]
      · rw [← i2]; exact rd_answer hr3 r0' r1'
      · exact ((xb.trans ((Below.drew (Below.refl _ V2)).trans (hb4.mono (show V2.heap.size ≤ V2.drew.heap.size from Nat.le_refl _)) |>.mono (by omega))).trans (hb3.mono (by omega))).setCell (by simp; omega) _ |>.setCell (by simp; omega) _
    · have hd : decide (cmpS (nv xs) (nv ys) < 0) = false := by
        unfold cmpS; rw [if_neg hlt]; split <;> decide
      have HV := Lib.hid (show nv ys ≤ nv xs by omega)
      have IV := Lib.hid (iv_ge hb (show nv ys ≤ nv xs by omega))
      clear hlt hb
      go_wp2
      have BV := BQ
      have hRa := hRq
      have hRb := hRq'
      generalize W.drewN q = V2 at *
      clear BQ hRq hRq'
      have HB := BV.toBox2
      obtain ⟨⟨xb, xs0, a0, a1, b0, b1, fr⟩, x3, r0, r1, f0, f1⟩ := BV
      have X3 := Lib.hid x3
      have hz3 : w.heap.size + 3 ≤ V2.heap.size := by omega
      have ne1 : ¬ (w.heap.size + 1 + 1 = w.heap.size) := by omega
      have ne2 : ¬ (w.heap.size = w.heap.size + 1 + 1) := by omega
      clear x3 fr
      go_region_held3 (fun w' => w'.cell? ⟨w.heap.size, 0, none⟩ = some (.bool b) ∧ w'.cell? ⟨w.heap.size, 1, none⟩ = some (.slice A n c) ∧ w'.cell? ⟨w.heap.size + 1, 1, none⟩ = some (.slice A' n' c')) (go_keep)
        (first
          | (go_at_call 61; (with_reducible refine (trimmed_any A n c _ xs V2.drew hRa.drew (by omega)).mono ?_); rintro e w' ⟨m1, hm1, rfl, rfl, hr1⟩)
          | (go_at_call 61; (with_reducible refine (trimmed_any A' n' c' _ ys V2.drew hRb.drew (by omega)).mono ?_); rintro e w' ⟨m2, hm2, rfl, rfl, hr2⟩)
          | (go_at_call 60; (with_reducible refine (less_trim hr1 hr2 (by omega) HV.out).mono ?_); rintro e w1 ⟨A4, n4, c4, rfl, hn4, hr4, hb4⟩; obtain ⟨_, _, _, _, _, _, _⟩ := HB.drew.keep hb4; have hs4 : V2.heap.size ≤ w1.heap.size := hb4.size)
          | (go_at_call 80; refine (signed_any A4 n4 c4 _ _ _ hr4).mono ?_; rintro e w2 ⟨A3, n3, c3, rfl, hn3, hr3, hb3⟩; obtain ⟨_, _, _, _, _, _, _⟩ := (HB.drew.keep hb4).keep hb3; have hs3 := hb3.size; have r0' := kept_cell hb3 (by omega) (kept_cell hb4 (show w.heap.size + 2 < V2.heap.size by omega) r0); have r1' := kept_cell hb3 (by omega) (kept_cell hb4 (show w.heap.size + 2 < V2.heap.size by omega) r1); have f0' := kept_free hb3 (by omega) (kept_free hb4 (show w.heap.size + 2 < V2.heap.size by omega) f0); have f1' := kept_free hb3 (by omega) (kept_free hb4 (show w.heap.size + 2 < V2.heap.size by omega) f1)))
      go_wp2
      have r0'' : w2.cell? ⟨w.heap.size + 1 + 1, 0, none⟩ = some (.bool false) := r0'
      have r1'' : w2.cell? ⟨w.heap.size + 1 + 1, 1, none⟩ = some (.slice none 0 0) := r1'
      obtain ⟨z0, z1⟩ := ans_cells r0'' r1'' (.bool (b && decide (0 < n4))) (.slice A3 n3 c3)
      refine bodyPost_ret (v := .agg #[.bool (b && decide (0 < n4)), .slice A3 n3 c3]) (by simp [results, Try.results53, go_sem, z0, z1]) rfl ?_
      obtain ⟨i1, i2⟩ := IV.out
      refine ⟨A3, n3, c3, ?_, by omega, ?_, ?_⟩
      · rw [pos_words hr4, i1]
      · rw [← i2]; exact rd_answer hr3 r0' r1'
      · exact ((xb.trans ((Below.drew (Below.refl _ V2)).trans (hb4.mono (show V2.heap.size ≤ V2.drew.heap.size from Nat.le_refl _)) |>.mono (by omega))).trans (hb3.mono (by omega))).setCell (by simp; omega) _ |>.setCell (by simp; omega) _
end Go.Proofs.Ytcfbemjnkiepdaa
