/-
  What Near of the reference of layer 2 answers.
-/
import Derived.Test.YtcfbemjnkiepdaaRInt
namespace Go.Proofs.Ytcfbemjnkiepdaa
open Go.RowKit
set_option linter.unusedVariables false

theorem near_ref {t : Int} {D : Nat} (hD : 0 < D) : iv (decide (t < 0)) (if t < 0 ∧ 0 < t.natAbs % D then t.natAbs / D + 1 else t.natAbs / D) = t / D := by
  have e := Nat.mod_add_div t.natAbs D
  have hr := Nat.mod_lt t.natAbs hD
  generalize t.natAbs % D = r at *
  generalize t.natAbs / D = q at *
  by_cases ht : t < 0
  · have e' : t = -(r : Int) + D * -(q : Int) := by
      have : (t.natAbs : Int) = r + D * q := by rw [← e]; simp
      rw [Int.mul_neg]; omega
    rw [decide_eq_true ht]
    by_cases h0 : 0 < r
    · rw [if_pos ⟨ht, h0⟩, e', show (-(r : Int) + D * -(q : Int)) = ((D : Int) - r) + D * -((q : Int) + 1) by rw [Int.mul_neg, Int.mul_neg, Int.mul_add]; omega, Int.add_mul_ediv_left _ _ (by omega), Int.ediv_eq_zero_of_lt (by omega) (by omega)]
      simp [iv]
    · rw [if_neg (by omega), e', Int.add_mul_ediv_left _ _ (by omega), show r = 0 by omega]
      simp [iv]
  · have e' : t = (r : Int) + D * (q : Int) := by
      have : (t.natAbs : Int) = r + D * q := by rw [← e]; simp
      omega
    rw [decide_eq_false ht, if_neg (by omega), e', Int.add_mul_ediv_left _ _ (by omega), Int.ediv_eq_zero_of_lt (by omega) (by omega)]
    simp [iv]
theorem nw_len_le {V k : Nat} (h : V < W64 ^ k) : (nw V).length ≤ k := by
  rcases Nat.eq_zero_or_pos V with h0 | h0
  · subst h0; rw [show nw 0 = [] from dg_zero _]; exact Nat.zero_le _
  · obtain ⟨h1, h2, _⟩ := dg_len W64_two V h0
    have h3 : W64 ^ ((nw V).length - 1) < W64 ^ k := Nat.lt_of_le_of_lt h2 h
    have := (Nat.pow_lt_pow_iff_right (show 1 < W64 by rw [W64_eq]; omega)).1 h3
    omega
theorem nv_lt40 {w : World} {A : Option Addr} {n c : Nat} {xs : List Nat} (h : NX w A n c xs) (hn : n ≤ 40) : nv xs < W64 ^ 40 := by
  have h1 : nv xs < W64 ^ xs.length := vl_lt h.lt
  rw [h.len] at h1
  exact Nat.lt_of_lt_of_le h1 (Nat.pow_le_pow_right (by rw [W64_eq]; omega) hn)
theorem three_le : 3 * W64 ^ 40 ≤ W64 ^ 41 := by
  rw [Nat.pow_succ, Nat.mul_comm]; exact Nat.mul_le_mul_left _ (by rw [W64_eq]; omega)
theorem iv_abs (b : Bool) (X : Nat) : (iv b X).natAbs = X := by cases b <;> simp [iv]
/-- Quotient and rest, the divisor not 0. -/
theorem rdivP {A A' : Option Addr} {n n' c c' Q R : Nat} {xs ys : List Nat} {w : World} (h : NX w A n c xs) (h' : NX w A' n' c' ys) (hn : n ≤ 2000) (hn' : n' ≤ 2000) (hY : Hid (0 < nv ys ∧ nv xs / nv ys = Q ∧ nv xs % nv ys = R)) :
    Calls Try.prog 41 #[.slice A n c, .slice A' n' c'] w fun e w' => ∃ A2 n2 c2 A3 n3 c3, e = .returned (.tuple #[.slice A2 n2 c2, .slice A3 n3 c3, .int .i64 0]) ∧ n2 ≤ 4 * n + 4 * n' ∧ n3 ≤ 4 * n + 4 * n' ∧ NX w' A2 n2 c2 (nw Q) ∧ NX w' A3 n3 c3 (nw R) ∧ Ext w w' := by
  obtain ⟨h0, rfl, rfl⟩ := hY.out
  refine (rdivX h h' hn hn').mono ?_
  rintro e w' (⟨hh, _⟩ | ⟨_, a⟩)
  · omega
  · exact a
theorem two_nv : nv [2] = 2 := nv_one 2
theorem ix_two (w : World) (g : Nat) (hg : g = w.heap.size) : IX (w.alloc (.cells #[.int .u64 2] 22)) false (some ⟨g, 0, none⟩) 1 1 2 := ⟨[2], NX.one w g hg 2 2 rfl (by omega), by rw [two_nv]; rfl⟩
theorem rtimesX' {A A' : Option Addr} {n n' c c' : Nat} {b b' : Bool} {z z' : Int} {w : World} (h : IX w b A n c z) (h' : IX w b' A' n' c' z') (hn : n ≤ 1000) (hn' : n' ≤ 1000) :
    Calls Try.prog 56 #[.agg #[.bool b, .slice A n c], .agg #[.bool b', .slice A' n' c']] w (ZX w (4 * (4 * n + 4 * n' + 1)) (z * z')) := by
  obtain ⟨xs, hx, rfl⟩ := h
  obtain ⟨ys, hy, rfl⟩ := h'
  exact rtimes_any A A' n n' c c' b b' xs ys _ w hx hy hn hn' (Lib.hid rfl)
theorem rsumX' {A A' : Option Addr} {n n' c c' : Nat} {b b' : Bool} {z z' : Int} {w : World} (h : IX w b A n c z) (h' : IX w b' A' n' c' z') (hn : n ≤ 1000) (hn' : n' ≤ 1000) :
    Calls Try.prog 54 #[.agg #[.bool b, .slice A n c], .agg #[.bool b', .slice A' n' c']] w (ZX w (4 * (4 * n + 4 * n' + 1)) (z + z')) := by
  obtain ⟨xs, hx, rfl⟩ := h
  obtain ⟨ys, hy, rfl⟩ := h'
  exact rsum_any A A' n n' c c' b b' xs ys _ w hx hy hn hn' (Lib.hid rfl)
set_option maxHeartbeats 4000000 in
theorem rnear_any (A A' : Option Addr) (n n' c c' : Nat) (b : Bool) (xs ys : List Nat) (w : World) (h : NX w A n c xs) (h' : NX w A' n' c' ys) (hn : n ≤ 40) (hn' : n' ≤ 40) :
    Calls Try.prog 51 #[.agg #[.bool b, .slice A n c], .slice A' n' c'] w (NearPost w 100000 b (nv xs) (nv ys)) := by
  have HX := Lib.hid (box1 w b (.slice A n c) 52)
  go_enter Try.func51, Try.ntmps51
  go_wp2_with fail
  generalize (w.alloc (Obj.cells #[Value.bool b, Value.slice A n c] 52)).alloc (Obj.cells #[Value.bool false, Value.slice none 0 0] 52) = W at *
  obtain ⟨xb, x3, a0, a1, r0, r1, f0, f1⟩ := HX.out
  have X3 := Lib.hid x3
  have hz : w.heap.size + 2 ≤ W.heap.size := by omega
  clear x3
  have hRa : NX W A n c xs := (Rd.below h xb).more (show w.heap.size ≤ W.heap.size by omega)
  have hRb : NX W A' n' c' ys := (Rd.below h' xb).more (show w.heap.size ≤ W.heap.size by omega)
  refine (digX hRb (by omega)).mono ?_
  rintro e w1 ⟨A1, n1, c1, rfl, hn1, d1, k1⟩
  have hs1 : W.heap.size ≤ w1.heap.size := k1.size
  have a0' := kept_cell k1 (show w.heap.size < _ by omega) a0
  have a1' := kept_cell k1 (show w.heap.size < _ by omega) a1
  by_cases hY : nv ys = 0
  · have hl := d1.len
    rw [hY, dg_zero] at hl
    obtain rfl : n1 = 0 := hl.symm
    have HY := Lib.hid hY
    clear hY hl
    have r0' := kept_cell k1 (show w.heap.size + 1 < _ by omega) r0
    have r1' := kept_cell k1 (show w.heap.size + 1 < _ by omega) r1
    have f0' := kept_free k1 (show w.heap.size + 1 < _ by omega) f0
    have f1' := kept_free k1 (show w.heap.size + 1 < _ by omega) f1
    obtain ⟨z0, z1⟩ := ans_cells r0' r1' (.bool false) (.slice none 0 0)
    go_wp2
    refine bodyPost_ret (v := .tuple #[.agg #[.bool false, .slice none 0 0], .int .i64 1]) (by simp [results, Try.results51, go_sem, z0, z1]) rfl ?_
    exact .inl ⟨HY.out, rfl, ((xb.trans (Below.mono k1 (by omega))).setCell (by simp) _).setCell (by simp) _⟩
  · have hl := d1.len
    have hp := dg_pos_len (V := nv ys) (by omega)
    have hnb : ((n1 : Int) == 0) = false := by simp; omega
    clear hl hp
    have IA : IX w1 b A n c (iv b (nv xs)) := ⟨xs, hRa.ext k1, rfl⟩
    go_wp2_with fail
    refine (rtimesX' (IA.ext ((Ext.refl _).alloc _)) (ix_two w1 w1.heap.size rfl) (by omega) (by omega)).mono ?_
    rintro e w2 ⟨A2, n2, c2, rfl, hn2, hx2, k2⟩
    have g2 : Ext W w2 := k1.trans (((Ext.refl _).alloc _).trans k2)
    have IB : IX w2 false A' n' c' (nv ys : Int) := ⟨ys, hRb.ext g2, rfl⟩
    have HT := Lib.hid (show iv b (nv xs) * 2 + (nv ys : Int) = 2 * iv b (nv xs) + nv ys by omega)
    have bx := nv_lt40 h hn
    have by' := nv_lt40 h' hn'
    have b3 := three_le
    have ba := iv_abs b (nv xs)
    have hn2' : n2 ≤ 41 := by rw [← hx2.len]; exact nw_len_le (by omega)
    have HN3 := Lib.hid (show (nw (2 * iv b (nv xs) + (nv ys : Int)).natAbs).length ≤ 41 from nw_len_le (by omega))
    clear hn2 bx by' b3 ba
    go_wp2_with fail
    refine (rsumX' (IX.of hx2) IB (by omega) (by omega)).mono ?_
    rw [HT.out]
    rintro e w3 ⟨A3, n3, c3, rfl, hn3, hx3, k3⟩
    have g3 : Ext W w3 := g2.trans k3
    have hn3' : n3 ≤ 41 := by rw [← hx3.len]; exact HN3.out
    clear hn3
    obtain ⟨t, ht⟩ : ∃ t, t = 2 * iv b (nv xs) + (nv ys : Int) := ⟨_, rfl⟩
    rw [← ht] at hx3 ⊢
    have HTT := Lib.hid ht
    obtain ⟨bt, hbt⟩ : ∃ bt, decide (t < 0) = bt := ⟨_, rfl⟩
    rw [hbt]
    have HBT := Lib.hid hbt
    clear ht HT IA IB hx2 hbt
    go_wp2_with fail
    have kV : Ext w3 (w3.alloc (Obj.cells #[Value.bool bt, Value.slice A3 n3 c3] 52)) := (Ext.refl _).alloc _
    have cV0 : (w3.alloc (Obj.cells #[Value.bool bt, Value.slice A3 n3 c3] 52)).cell? ⟨w3.heap.size, 0, none⟩ = some (.bool bt) := by simp
    have cV1 : (w3.alloc (Obj.cells #[Value.bool bt, Value.slice A3 n3 c3] 52)).cell? ⟨w3.heap.size, 1, none⟩ = some (.slice A3 n3 c3) := by simp
    have sV : w3.heap.size + 1 ≤ (w3.alloc (Obj.cells #[Value.bool bt, Value.slice A3 n3 c3] 52)).heap.size := by simp
    generalize w3.alloc (Obj.cells #[Value.bool bt, Value.slice A3 n3 c3] 52) = V at *
    have gV : Ext W V := g3.trans kV
    have xV := NX.ext hx3 kV
    have yV : NX V A' n' c' ys := hRb.ext gV
    have HDV := Lib.hid (show 0 < nv (nw (nv ys * nv [2])) ∧ nv (nw t.natAbs) / nv (nw (nv ys * nv [2])) = t.natAbs / (nv ys * 2) ∧ nv (nw t.natAbs) % nv (nw (nv ys * nv [2])) = t.natAbs % (nv ys * 2) by
      rw [nv_nw, nv_nw, two_nv]; exact ⟨by omega, rfl, rfl⟩)
    have HYP := Lib.hid hY
    clear hY
    go_region_held3 (fun w' => w'.cell? ⟨w3.heap.size, 0, none⟩ = some (.bool bt) ∧ w'.cell? ⟨w3.heap.size, 1, none⟩ = some (.slice A3 n3 c3)) (go_keep)
      (first
        | (go_at_call 43; refine (rmulX (yV.ext (((Ext.refl V).drew).alloc _)) (NX.one V.drew _ rfl 2 2 rfl (by omega)) (by omega) (by omega)).mono ?_; rintro e w5 ⟨A5, n5, c5, rfl, hn5, hx5, k5⟩; have k5' : Ext V w5 := (((Ext.refl V).drew).alloc _).trans k5; have h50 := kept_cell k5' (by omega) cV0; have h51 := kept_cell k5' (by omega) cV1)
        | (go_at_call 41; refine (rdivP (xV.ext k5') hx5 (by omega) (by omega) HDV).mono ?_; rintro e w6 ⟨A6, n6, c6, A7, n7, c7, rfl, hn6, hn7, hx6, hx7, k6⟩; have k6' : Ext V w6 := k5'.trans k6; have h60 := kept_cell k6' (by omega) cV0; have h61 := kept_cell k6' (by omega) cV1))
    obtain ⟨Z, hZZ⟩ : ∃ Z, nearZ b (nv xs) (nv ys) = Z := ⟨_, rfl⟩
    have HZZ := Lib.hid hZZ
    have HNR := Lib.hid (show iv bt (if bt = true ∧ 0 < t.natAbs % (nv ys * 2) then t.natAbs / (nv ys * 2) + 1 else t.natAbs / (nv ys * 2)) = Z by
      rw [← hZZ, ← HBT.out]
      have := near_ref (t := t) (D := nv ys * 2) (by have := HYP.out; omega)
      simp only [decide_eq_true_eq]
      rw [this, HTT.out]
      unfold nearZ
      rw [show ((nv ys * 2 : Nat) : Int) = 2 * (nv ys : Int) by omega])
    have HPW := Lib.hid (pos_words hx7)
    have HX3 := Lib.hid hx3
    clear hZZ hx3 xV yV
    generalize t.natAbs / (nv ys * 2) = Q at *
    generalize t.natAbs % (nv ys * 2) = R at *
    by_cases hc : bt = true ∧ 0 < n7
    · obtain ⟨rfl, h7⟩ := hc
      have HZQ := Lib.hid (show iv true (nv (nw (nv (nw Q) + nv [1]))) = Z by
        rw [nv_nw, nv_nw, nv_one, ← HNR.out, if_pos ⟨rfl, by have := HPW.out; simpa [h7] using this.symm⟩])
      go_wp2_with fail
      refine (raddX (hx6.ext ((Ext.refl _).alloc _)) (NX.one w6 _ rfl 1 1 rfl (by omega)) (by omega) (by omega)).mono ?_
      rintro e w8 ⟨A8, n8, c8, rfl, hn8, hx8, k8⟩
      have k8' : Ext V w8 := k6'.trans (((Ext.refl _).alloc _).trans k8)
      have h80 := kept_cell k8' (by omega) cV0
      go_wp2_with fail
      refine (rwholeZ hx8 (by omega) HZQ).mono ?_
      rintro e w9 ⟨A9, n9, c9, rfl, hn9, hr9, k9'⟩
      have k9 : Ext W w9 := gV.trans (k8'.trans k9')
      have r0' := kept_cell k9 (show w.heap.size + 1 < _ by omega) r0
      have r1' := kept_cell k9 (show w.heap.size + 1 < _ by omega) r1
      have f0' := kept_free k9 (show w.heap.size + 1 < _ by omega) f0
      have f1' := kept_free k9 (show w.heap.size + 1 < _ by omega) f1
      obtain ⟨z0, z1⟩ := ans_cells r0' r1' (.bool (decide (Z < 0))) (.slice A9 n9 c9)
      go_wp2
      refine bodyPost_ret (v := .tuple #[.agg #[.bool (decide (Z < 0)), .slice A9 n9 c9], .int .i64 0]) (by simp [results, Try.results51, go_sem, z0, z1]) rfl ?_
      exact .inr ⟨by have := HYP.out; omega, A9, n9, c9, by rw [HZZ.out], by omega, by rw [HZZ.out]; exact rd_answer hr9 r0' r1', ((xb.trans (Below.mono k9 (by omega))).setCell (by simp) _).setCell (by simp) _⟩
    · have HZQ := Lib.hid (show iv bt (nv (nw Q)) = Z by
        rw [nv_nw, ← HNR.out, if_neg (fun hh => hc ⟨hh.1, by have := HPW.out; simpa [hh.2] using this⟩)])
      have hcc : bt = false ∨ (bt = true ∧ n7 = 0) := by
        cases bt
        · exact .inl rfl
        · exact .inr ⟨rfl, by simp at hc; omega⟩
      clear hc
      rcases hcc with rfl | ⟨rfl, rfl⟩
      all_goals
        go_wp2_with fail
        refine (rwholeZ hx6 (by omega) HZQ).mono ?_
        rintro e w9 ⟨A9, n9, c9, rfl, hn9, hr9, k9'⟩
        have k9 : Ext W w9 := gV.trans (k6'.trans k9')
        have r0' := kept_cell k9 (show w.heap.size + 1 < _ by omega) r0
        have r1' := kept_cell k9 (show w.heap.size + 1 < _ by omega) r1
        have f0' := kept_free k9 (show w.heap.size + 1 < _ by omega) f0
        have f1' := kept_free k9 (show w.heap.size + 1 < _ by omega) f1
        obtain ⟨z0, z1⟩ := ans_cells r0' r1' (.bool (decide (Z < 0))) (.slice A9 n9 c9)
        go_wp2
        refine bodyPost_ret (v := .tuple #[.agg #[.bool (decide (Z < 0)), .slice A9 n9 c9], .int .i64 0]) (by simp [results, Try.results51, go_sem, z0, z1]) rfl ?_
        exact .inr ⟨by have := HYP.out; omega, A9, n9, c9, by rw [HZZ.out], by omega, by rw [HZZ.out]; exact rd_answer hr9 r0' r1', ((xb.trans (Below.mono k9 (by omega))).setCell (by simp) _).setCell (by simp) _⟩
end Go.Proofs.Ytcfbemjnkiepdaa
