/-
  What Near of package nat answers for all whole numbers and naturals.
-/
import Derived.Test.YtcfbemjnkiepdaaNSum
namespace Go.Proofs.Ytcfbemjnkiepdaa
open Go.RowKit
set_option linter.unusedVariables false

/-- The nearest whole number to a quotient, a half goes to the greater one. -/
def nearZ (b : Bool) (X Y : Nat) : Int := (2 * iv b X + Y) / (2 * Y)
theorem near_up {b : Bool} {X Y : Nat} (hY : 0 < Y) (h : Y < X % Y + X % Y ∨ (X % Y + X % Y = Y ∧ b = false)) : nearZ b X Y = iv b (X / Y + 1) := by
  have e := Nat.mod_add_div X Y
  have hr := Nat.mod_lt X hY
  generalize X % Y = r at *
  generalize X / Y = q at *
  unfold nearZ
  have e' : (X : Int) = r + Y * q := by rw [← e]; simp
  cases b
  · simp only [iv, Bool.false_eq_true, if_false]
    rw [e', show (2 * ((r : Int) + Y * q) + Y) = (2 * r - Y) + (2 * Y) * (q + 1) by rw [Int.mul_add, Int.mul_add, Int.mul_assoc]; omega, Int.add_mul_ediv_left _ _ (by omega), Int.ediv_eq_zero_of_lt (by omega) (by omega)]
    omega
  · simp only [iv, if_true]
    have h1 : Y < r + r := by rcases h with h | h; exact h; simp at h
    rw [e', show (2 * -((r : Int) + Y * q) + Y) = (3 * Y - 2 * r) + (2 * Y) * -(q + 1) by rw [Int.mul_neg, Int.mul_neg, Int.mul_add, Int.mul_add, Int.mul_assoc]; omega, Int.add_mul_ediv_left _ _ (by omega), Int.ediv_eq_zero_of_lt (by omega) (by omega)]
    omega
theorem near_down {b : Bool} {X Y : Nat} (hY : 0 < Y) (h : X % Y + X % Y < Y ∨ (X % Y + X % Y = Y ∧ b = true)) : nearZ b X Y = iv b (X / Y) := by
  have e := Nat.mod_add_div X Y
  have hr := Nat.mod_lt X hY
  generalize X % Y = r at *
  generalize X / Y = q at *
  unfold nearZ
  have e' : (X : Int) = r + Y * q := by rw [← e]; simp
  cases b
  · simp only [iv, Bool.false_eq_true, if_false]
    have h1 : r + r < Y := by rcases h with h | h; exact h; simp at h
    rw [e', show (2 * ((r : Int) + Y * q) + Y) = (2 * r + Y) + (2 * Y) * q by rw [Int.mul_add, Int.mul_assoc]; omega, Int.add_mul_ediv_left _ _ (by omega), Int.ediv_eq_zero_of_lt (by omega) (by omega)]
    omega
  · simp only [iv, if_true]
    rw [e', show (2 * -((r : Int) + Y * q) + Y) = (Y - 2 * r) + (2 * Y) * -q by rw [Int.mul_neg, Int.mul_neg, Int.mul_add, Int.mul_assoc]; omega, Int.add_mul_ediv_left _ _ (by omega), Int.ediv_eq_zero_of_lt (by omega) (by omega)]
    omega
theorem iv_flag {b : Bool} {V : Nat} : (b && decide (0 < V)) = decide (iv b V < 0) ∧ V = (iv b V).natAbs := by
  cases b <;> simp [iv]

/-- What Near answers. -/
def NearPost (w : World) (N : Nat) (b : Bool) (X Y : Nat) (e : Ending) (w' : World) : Prop :=
  (Y = 0 ∧ e = .returned (.tuple #[.agg #[.bool false, .slice none 0 0], .int .i64 1]) ∧ Below w.heap.size w w') ∨
  (0 < Y ∧ ∃ A n c, e = .returned (.tuple #[.agg #[.bool (decide (nearZ b X Y < 0)), .slice A n c], .int .i64 0]) ∧ n ≤ N ∧ NR w' w'.heap.size A n c (nw (nearZ b X Y).natAbs) ∧ Below w.heap.size w w')
/-- A whole number that was handed in, and a block for the answer. -/
structure Box1 (w W : World) (b : Bool) (s : Value) : Prop where
  below : Below w.heap.size w W
  size : W.heap.size = w.heap.size + 2
  a0 : W.cell? ⟨w.heap.size, 0, none⟩ = some (.bool b)
  a1 : W.cell? ⟨w.heap.size, 1, none⟩ = some s
  r0 : W.cell? ⟨w.heap.size + 1, 0, none⟩ = some (.bool false)
  r1 : W.cell? ⟨w.heap.size + 1, 1, none⟩ = some (.slice none 0 0)
  f0 : W.frozen? ⟨w.heap.size + 1, 0, none⟩ = false
  f1 : W.frozen? ⟨w.heap.size + 1, 1, none⟩ = false
theorem box1 (w : World) (b : Bool) (s : Value) (t : TypeId) : Box1 w ((w.alloc (.cells #[.bool b, s] t)).alloc (.cells #[.bool false, .slice none 0 0] t)) b s := by
  refine ⟨((Below.refl _ _).alloc (Nat.le_refl _) _).alloc (by simp) _, by simp, ?_, ?_, ?_, ?_, ?_, ?_⟩ <;> simp [go_sem]

set_option maxHeartbeats 4000000 in
theorem near_any (A A' : Option Addr) (n n' c c' : Nat) (b : Bool) (xs ys : List Nat) (w : World) (h : NR w w.heap.size A n c xs) (h' : NR w w.heap.size A' n' c' ys) (hn : n ≤ 1000) (hn' : n' ≤ 1000) :
    Calls Try.prog 50 #[.agg #[.bool b, .slice A n c], .slice A' n' c'] w (NearPost w (n + 4) b (nv xs) (nv ys)) := by
  have HX := Lib.hid (box1 w b (.slice A n c) 52)
  go_enter Try.func50, Try.ntmps50
  go_wp2_with fail
  generalize (w.alloc (Obj.cells #[Value.bool b, Value.slice A n c] 52)).alloc (Obj.cells #[Value.bool false, Value.slice none 0 0] 52) = W at *
  obtain ⟨xb, x3, a0, a1, r0, r1, f0, f1⟩ := HX.out
  have X3 := Lib.hid x3
  have hz : w.heap.size + 2 ≤ W.heap.size := by omega
  clear x3
  have hRa := (h.below xb).more (show w.heap.size ≤ W.heap.size by omega)
  have hRb := (h'.below xb).more (show w.heap.size ≤ W.heap.size by omega)
  refine (div_any A A' n n' c c' xs ys W hRa hRb (by omega) (by omega)).mono ?_
  rintro e w1 (⟨hY, rfl, hb1⟩ | ⟨hY, A1, n1, c1, A2, n2, c2, rfl, hn1, hn2, hr1, hr2, hb1⟩)
  · have HY := Lib.hid hY
    clear hY
    have r0' := kept_cell hb1 (show w.heap.size + 1 < _ by omega) r0
    have r1' := kept_cell hb1 (show w.heap.size + 1 < _ by omega) r1
    have f0' := kept_free hb1 (show w.heap.size + 1 < _ by omega) f0
    have f1' := kept_free hb1 (show w.heap.size + 1 < _ by omega) f1
    obtain ⟨z0, z1⟩ := ans_cells r0' r1' (.bool false) (.slice none 0 0)
    go_wp2
    refine bodyPost_ret (v := .tuple #[.agg #[.bool false, .slice none 0 0], .int .i64 1]) (by simp [results, Try.results50, go_sem, z0, z1]) rfl ?_
    exact .inl ⟨HY.out, rfl, ((xb.trans (hb1.mono (by omega))).setCell (by simp) _).setCell (by simp) _⟩
  · have hbW1 := hb1
    have hs1 := hb1.size
    go_wp2_with fail
    refine (natAdd_any _ _ _ _ _ _ _ _ w1 hr2 hr2 (by omega) (by omega)).mono ?_
    rw [nv_nw]
    rintro e w2 ⟨A4, n4, c4, rfl, hn4, hr4, hb4⟩
    have hbW2 := hbW1.trans (hb4.mono hbW1.size)
    have hrb2 := (hRb.below (hbW2.mono (Nat.le_refl _))).more hbW2.size
    go_wp2_with fail
    refine (cmp_any _ _ _ _ _ _ _ _ ys w2 hr4 hrb2 (by omega) (by omega)).mono ?_
    rw [nv_nw]
    rintro e w' ⟨rfl, q, rfl⟩
    have a0q : w2.cell? ⟨w.heap.size, 0, none⟩ = some (.bool b) := kept_cell hbW2 (by omega) a0
    have hs2 := hbW2.size
    rcases Nat.lt_trichotomy (nv xs % nv ys + nv xs % nv ys) (nv ys) with hc | hc | hc
    · have HN := Lib.hid (near_down (b := b) (X := nv xs) hY (.inl hc))
      have HE := Lib.hid (cmpS_lt hc)
      rw [HE.out]
      clear hc
      go_wp2_with fail
      have hr1q : NR (w2.drewN q) (w2.drewN q).heap.size A1 n1 c1 (nw (nv xs / nv ys)) := ((hr1.below hb4).more hb4.size).drewN q
      refine (signed_any A1 n1 c1 b _ (w2.drewN q) hr1q).mono ?_
      rintro e w5 ⟨A6, n6, c6, rfl, hn6, hr6, hb6⟩
      have HBW := Lib.hid (hbW2.trans (((below_drewN (Below.refl _ _) q).trans hb6).mono hbW2.size))
      have hs5 := HBW.out.size
      have HNR := Lib.hid hr1
      have r0' := kept_cell HBW.out (show w.heap.size + 1 < _ by omega) r0
      have r1' := kept_cell HBW.out (show w.heap.size + 1 < _ by omega) r1
      have f0' := kept_free HBW.out (show w.heap.size + 1 < _ by omega) f0
      have f1' := kept_free HBW.out (show w.heap.size + 1 < _ by omega) f1
      obtain ⟨z0, z1⟩ := ans_cells r0' r1' (.bool (b && decide (0 < n1))) (.slice A6 n6 c6)
      go_wp2
      refine bodyPost_ret (v := .tuple #[.agg #[.bool (b && decide (0 < n1)), .slice A6 n6 c6], .int .i64 0]) (by simp [results, Try.results50, go_sem, z0, z1]) rfl ?_
      obtain ⟨i1, i2⟩ := iv_flag (b := b) (V := nv xs / nv ys)
      refine .inr ⟨hY, A6, n6, c6, ?_, by omega, ?_, ((xb.trans (HBW.out.mono (by omega))).setCell (by simp) _).setCell (by simp) _⟩
      · rw [HN.out, ← i1, pos_words HNR.out]
      · rw [HN.out, ← i2]; exact rd_answer hr6 r0' r1'
    · have HE := Lib.hid (cmpS_eq hc)
      rw [HE.out]
      by_cases hbf : b = false
      · have HN := Lib.hid (near_up (b := b) (X := nv xs) hY (.inr ⟨hc, hbf⟩))
        have nb : (!b) = true := by simp [hbf]
        clear hc hbf
        go_wp2_with fail
        refine (natOf_any 1 (w2.drewN q) (by omega)).mono ?_
        rintro e w3 ⟨A5, n5, c5, rfl, hn5, hr5, hb5⟩
        have hb5' : Below w2.heap.size w2 w3 := (below_drewN (Below.refl _ _) q).trans hb5
        have hbW3 := hbW2.trans (hb5'.mono hbW2.size)
        have hr1' := ((hr1.below hb4).more hb4.size).below hb5' |>.more hb5'.size
        go_wp2_with fail
        refine (natAdd_any _ _ _ _ _ _ _ _ w3 hr1' hr5 (by omega) (by omega)).mono ?_
        rw [nv_nw, nv_nw]
        rintro e w4 ⟨A7, n7, c7, rfl, hn7, hr7, hb7⟩
        have hbW4 := hbW3.trans (hb7.mono hbW3.size)
        have hs3 := hbW3.size
        have hs4 := hbW4.size
        have a04 : w4.cell? ⟨w.heap.size, 0, none⟩ = some (.bool b) := kept_cell hbW4 (by omega) a0
        go_wp2_with fail
        refine (signed_any A7 n7 c7 b _ w4 hr7).mono ?_
        rintro e w5 ⟨A6, n6, c6, rfl, hn6, hr6, hb6⟩
        have HBW := Lib.hid (hbW4.trans (hb6.mono hbW4.size))
        have hs5 := HBW.out.size
        have HNR := Lib.hid hr7
        have r0' := kept_cell HBW.out (show w.heap.size + 1 < _ by omega) r0
        have r1' := kept_cell HBW.out (show w.heap.size + 1 < _ by omega) r1
        have f0' := kept_free HBW.out (show w.heap.size + 1 < _ by omega) f0
        have f1' := kept_free HBW.out (show w.heap.size + 1 < _ by omega) f1
        obtain ⟨z0, z1⟩ := ans_cells r0' r1' (.bool (b && decide (0 < n7))) (.slice A6 n6 c6)
        go_wp2
        refine bodyPost_ret (v := .tuple #[.agg #[.bool (b && decide (0 < n7)), .slice A6 n6 c6], .int .i64 0]) (by simp [results, Try.results50, go_sem, z0, z1]) rfl ?_
        obtain ⟨i1, i2⟩ := iv_flag (b := b) (V := nv xs / nv ys + 1)
        refine .inr ⟨hY, A6, n6, c6, ?_, by omega, ?_, ((xb.trans (HBW.out.mono (by omega))).setCell (by simp) _).setCell (by simp) _⟩
        · rw [HN.out, ← i1, pos_words HNR.out]
        · rw [HN.out, ← i2]; exact rd_answer hr6 r0' r1'
      · have HN := Lib.hid (near_down (b := b) (X := nv xs) hY (.inr ⟨hc, by simpa using hbf⟩))
        have nb : (!b) = false := by simpa using hbf
        clear hc hbf
        go_wp2_with fail
        have hr1q : NR (w2.drewN q) (w2.drewN q).heap.size A1 n1 c1 (nw (nv xs / nv ys)) := ((hr1.below hb4).more hb4.size).drewN q
        refine (signed_any A1 n1 c1 b _ (w2.drewN q) hr1q).mono ?_
        rintro e w5 ⟨A6, n6, c6, rfl, hn6, hr6, hb6⟩
        have HBW := Lib.hid (hbW2.trans (((below_drewN (Below.refl _ _) q).trans hb6).mono hbW2.size))
        have hs5 := HBW.out.size
        have HNR := Lib.hid hr1
        have r0' := kept_cell HBW.out (show w.heap.size + 1 < _ by omega) r0
        have r1' := kept_cell HBW.out (show w.heap.size + 1 < _ by omega) r1
        have f0' := kept_free HBW.out (show w.heap.size + 1 < _ by omega) f0
        have f1' := kept_free HBW.out (show w.heap.size + 1 < _ by omega) f1
        obtain ⟨z0, z1⟩ := ans_cells r0' r1' (.bool (b && decide (0 < n1))) (.slice A6 n6 c6)
        go_wp2
        refine bodyPost_ret (v := .tuple #[.agg #[.bool (b && decide (0 < n1)), .slice A6 n6 c6], .int .i64 0]) (by simp [results, Try.results50, go_sem, z0, z1]) rfl ?_
        obtain ⟨i1, i2⟩ := iv_flag (b := b) (V := nv xs / nv ys)
        refine .inr ⟨hY, A6, n6, c6, ?_, by omega, ?_, ((xb.trans (HBW.out.mono (by omega))).setCell (by simp) _).setCell (by simp) _⟩
        · rw [HN.out, ← i1, pos_words HNR.out]
        · rw [HN.out, ← i2]; exact rd_answer hr6 r0' r1'
    · have HN := Lib.hid (near_up (b := b) (X := nv xs) hY (.inl hc))
      have HE := Lib.hid (cmpS_gt hc)
      rw [HE.out]
      clear hc
      go_wp2_with fail
      refine (natOf_any 1 (w2.drewN q) (by omega)).mono ?_
      rintro e w3 ⟨A5, n5, c5, rfl, hn5, hr5, hb5⟩
      have hb5' : Below w2.heap.size w2 w3 := (below_drewN (Below.refl _ _) q).trans hb5
      have hbW3 := hbW2.trans (hb5'.mono hbW2.size)
      have hr1' := ((hr1.below hb4).more hb4.size).below hb5' |>.more hb5'.size
      go_wp2_with fail
      refine (natAdd_any _ _ _ _ _ _ _ _ w3 hr1' hr5 (by omega) (by omega)).mono ?_
      rw [nv_nw, nv_nw]
      rintro e w4 ⟨A7, n7, c7, rfl, hn7, hr7, hb7⟩
      have hbW4 := hbW3.trans (hb7.mono hbW3.size)
      have hs3 := hbW3.size
      have hs4 := hbW4.size
      have a04 : w4.cell? ⟨w.heap.size, 0, none⟩ = some (.bool b) := kept_cell hbW4 (by omega) a0
      go_wp2_with fail
      refine (signed_any A7 n7 c7 b _ w4 hr7).mono ?_
      rintro e w5 ⟨A6, n6, c6, rfl, hn6, hr6, hb6⟩
      have HBW := Lib.hid (hbW4.trans (hb6.mono hbW4.size))
      have hs5 := HBW.out.size
      have HNR := Lib.hid hr7
      have r0' := kept_cell HBW.out (show w.heap.size + 1 < _ by omega) r0
      have r1' := kept_cell HBW.out (show w.heap.size + 1 < _ by omega) r1
      have f0' := kept_free HBW.out (show w.heap.size + 1 < _ by omega) f0
      have f1' := kept_free HBW.out (show w.heap.size + 1 < _ by omega) f1
      obtain ⟨z0, z1⟩ := ans_cells r0' r1' (.bool (b && decide (0 < n7))) (.slice A6 n6 c6)
      go_wp2
      refine bodyPost_ret (v := .tuple #[.agg #[.bool (b && decide (0 < n7)), .slice A6 n6 c6], .int .i64 0]) (by simp [results, Try.results50, go_sem, z0, z1]) rfl ?_
      obtain ⟨i1, i2⟩ := iv_flag (b := b) (V := nv xs / nv ys + 1)
      refine .inr ⟨hY, A6, n6, c6, ?_, by omega, ?_, ((xb.trans (HBW.out.mono (by omega))).setCell (by simp) _).setCell (by simp) _⟩
      · rw [HN.out, ← i1, pos_words HNR.out]
      · rw [HN.out, ← i2]; exact rd_answer hr6 r0' r1'
end Go.Proofs.Ytcfbemjnkiepdaa
