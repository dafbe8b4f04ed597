/-
  The law TapeBounds, walked.
-/
import Derived.Test.YthaljhmdhchiaaaVFix
namespace Go.Proofs.Ythaljhmdhchiaaa
open Go.RowKit
set_option linter.unusedVariables false
set_option maxRecDepth 100000

/-- The end of a list, as a slice of it. -/
theorem NX.end_ {w : World} {A : Option Addr} {n c : Nat} {xs a r : List Nat} (h : NX w A n c xs) (e : xs = a ++ r) : NX w (if c = n - r.length then A else A.map (·.add (n - r.length))) r.length (c - (n - r.length)) r := by
  have hl := h.len
  have hr := h.room
  have hal : a.length = n - r.length := by rw [e] at hl; simp at hl; omega
  have hle : r.length ≤ n := by rw [e] at hl; simp at hl; omega
  refine ⟨rfl, by omega, fun y hy => h.lt y (by rw [e]; simp [hy]), fun hn => ?_⟩
  rw [if_neg (by omega)]
  obtain ⟨ad, rfl, hb, hc⟩ := h.cells (by omega)
  refine ⟨_, rfl, by rw [add_block]; exact hb, fun j y hy => ?_⟩
  have := hc (n - r.length + j) y (by rw [e, ← hal, List.getElem?_append_right (by omega)]; simpa using hy)
  rw [← this]
  congr 1
  generalize n - r.length = k
  unfold Addr.add
  by_cases h0 : j = 0
  · subst h0; simp
  · by_cases h1 : k = 0
    · subst h1; simp [h0]
    · simp [h0, h1]; omega
set_option maxHeartbeats 8000000 in
theorem tapeBounds_walk (w : World) {A : Option Addr} {n c : Nat} {xs : List Nat} {q v : Nat} (hX : NX w A n c xs) (hm : n ≤ maxLen) (hq : q < 18446744073709551616) (hv : v < 256) :
    Calls Try.prog 3 #[.slice A n c, .int .u64 (q : Int), .int .u8 (v : Int)] w fun e w' => e = .returned (.bool true) ∧ Ext w w' := by
  have HX := Lib.hid hX
  clear hX
  go_enter Try.func3, Try.ntmps3
  go_wp2_with fail
  refine (fixed_any w).mono ?_
  rintro e w1 ⟨rfl, k1⟩
  have K1 := Lib.hid k1
  clear k1
  by_cases hn : 3000 < n
  · have hd : decide ((3000 : Int) < (n : Int)) = true := decide_eq_true (by omega)
    go_wp2
    go_ret
    exact ⟨rfl, K1.out⟩
  have hd : decide ((3000 : Int) < (n : Int)) = false := decide_eq_false (by omega)
  go_wp2_with fail
  clear hd
  obtain ⟨wd, hwd⟩ : ∃ wd : Nat, 1 + (v : Int) % 16 = (wd : Int) := ⟨1 + v % 16, by omega⟩
  have hw0 : 1 ≤ wd := by omega
  have hw16 : wd ≤ 16 := by omega
  rw [hwd]
  clear hwd
  refine (new_tape A n c xs w1 (Lib.hid (HX.out.ext K1.out)) (by omega)).mono ?_
  rintro e w2 ⟨p, rfl, hp, hT, hE⟩
  have K2 := Lib.hid (K1.out.trans hE.out)
  have hwp : w.heap.size ≤ p := Nat.le_trans K1.out.size hp
  have hlen := Lib.hid HX.out.len
  have hxl : xs.length ≤ 100000 := by rw [hlen.out]; omega
  clear K1 hE hp
  go_wp2_with fail
  by_cases hq0 : q = 0
  · subst hq0
    refine (below_zero p w2).mono ?_
    rintro e w3 ⟨rfl, rfl⟩
    obtain ⟨l1, hl0⟩ : ∃ l1, l1 = xs := ⟨_, rfl⟩
    obtain ⟨a1, ha0⟩ : ∃ a1 : List Nat, a1 = [] := ⟨_, rfl⟩
    have HE := Lib.hid (show xs = a1 ++ l1 by rw [hl0, ha0]; rfl)
    have hl2 : l1.length ≤ n := by rw [hl0, hlen.out]; omega
    have T3 := Lib.hid (show Tp w2 p l1 by rw [hl0]; exact hT.out)
    have K3 := K2
    clear hl0 ha0 K2 hT
    obtain ⟨w3, hw3⟩ : ∃ w3, w3 = w2 := ⟨_, rfl⟩
    rw [← hw3] at T3 K3 ⊢
    clear hw3
    go_wp2_with fail
    refine (ternary_any p l1 w3 T3 (by omega)).mono ?_
    rintro e w4 (⟨x2, l2, h1, rfl, h4, h5⟩ | ⟨h1, rfl, h4, h5⟩)
    · obtain ⟨hg2, hl3, a2, e2⟩ := firstS_good h1
      have HE2 := Lib.hid (show xs = (a1 ++ a2) ++ l2 by rw [HE.out, e2]; simp)
      have K4 := Lib.hid (K3.out.on h5 hwp)
      have T4 := Lib.hid h4
      obtain ⟨hb1, hb2⟩ := tval_le hg2
      have d1 : decide (tval x2 < -1) = false := decide_eq_false (by omega)
      have d2 : decide (1 < tval x2) = false := decide_eq_false (by omega)
      clear h1 h4 h5 e2 K3 T3 hg2 HE
      generalize tval x2 = y2 at *
      go_wp2_with fail
      refine (error_any p wd l2 w4 T4 (by omega) hw0 hw16).mono ?_
      rintro e w5 (⟨x3, l3, h1, rfl, h4, h5⟩ | ⟨h1, rfl, h4, h5⟩)
      · have HE3 := Lib.hid (show xs = (a1 ++ a2 ++ [x3]) ++ l3 by rw [HE2.out, h1]; simp)
        have hl4 : l3.length < l2.length := by rw [h1]; simp
        have K5 := Lib.hid (K4.out.on h5 hwp)
        have T5 := Lib.hid h4
        obtain ⟨hc1, hc2⟩ := errS_le (w := wd) (x := x3) hw16
        have d3 : decide (errS wd x3 < -(wd : Int)) = false := decide_eq_false (by omega)
        have d4 : decide ((wd : Int) < errS wd x3) = false := decide_eq_false (by omega)
        have d5 : decide (n < l3.length) = false := decide_eq_false (by omega)
        clear h1 h4 h5 K4 T4 HE2
        generalize errS wd x3 = y3 at *
        by_cases hcn : c = n - l3.length
        · have HN := Lib.hid (show NX w A (n - (n - l3.length)) 0 l3 by
            have := HX.out.end_ HE3.out
            rw [if_pos hcn, show c - (n - l3.length) = 0 by omega] at this
            rwa [show n - (n - l3.length) = l3.length by omega])
          subst hcn
          go_wp2_with (go_at_call 11; refine (left_any p l3 w5 T5 (by omega)).mono ?_; rintro e w8 ⟨rfl, rfl⟩)
          clear d1 d2 d3 d4 d5
          refine (new_tape _ _ _ l3 w5 (Lib.hid (HN.out.ext K5.out)) (by omega)).mono ?_
          rintro e w6 ⟨p6, rfl, hp6, T6, E6⟩
          have K6 := Lib.hid (K5.out.trans E6.out)
          have TT := Lib.hid (T5.out.ext E6.out)
          have hlt6 := T5.out.lt
          have hpp : p < p6 := by omega
          clear K5 T5 E6 hp6 hlt6 HN
          go_wp2_with fail
          have hR := ternaries_any p 3 l3 w6 TT (by omega) (by omega) (by omega)
          rw [show ((3 : Nat) : Int) = 3 from rfl] at hR
          refine hR.mono ?_
          clear hR
          rintro e w7 (⟨acc, r, A7, h1, rfl, h3, h4, h5⟩ | ⟨h1, rfl, h4, h5⟩)
          · have K7 := Lib.hid (K6.out.on h5 hwp)
            have T7 := Lib.hid h4
            have U7 := Lib.hid (T6.out.on TT.out h5 (by omega))
            have L7 := Lib.hid h3
            have HA := Lib.hid h1
            have hr3 := (ternS_less h1).1
            clear h1 h3 h4 h5 K6 T6 TT
            go_wp2_with fail
            have hR := ternaries_any p6 3 l3 w7 U7 (by omega) (by omega) (by omega)
            rw [show ((3 : Nat) : Int) = 3 from rfl] at hR
            refine hR.mono ?_
            clear hR
            rintro e w8 (⟨acc2, r2, A8, g1, rfl, g3, g4, g5⟩ | ⟨g1, rfl, g4, g5⟩)
            · rw [HA.out] at g1
              simp only [Option.some.injEq, Prod.mk.injEq] at g1
              obtain ⟨rfl, rfl⟩ := g1
              have K8 := Lib.hid (K7.out.on g5 (by omega))
              have T8 := Lib.hid (T7.out.on U7.out g5 (by omega))
              have U8 := Lib.hid g4
              have L8 := Lib.hid (L7.out.on U7.out g5)
              have M8 := Lib.hid g3
              clear g3 g4 g5 K7 T7 U7 L7 HA
              go_wp2_with fail
              refine (sameInts_any A7 A8 3 3 3 acc w8 L8 M8 (by omega)).mono ?_
              rintro e w9 ⟨rfl, k9⟩
              have K9 := Lib.hid (K8.out.trans k9)
              have T9 := Lib.hid (T8.out.ext k9)
              have U9 := Lib.hid (U8.out.ext k9)
              clear k9 K8 T8 U8 L8 M8
              go_wp2_with (go_at_call 11; refine (left_any _ r w9 (by first | exact T9 | exact U9) (by omega)).mono ?_; rintro e w10 ⟨rfl, rfl⟩)
              go_ret
              exact ⟨rfl, K9.out⟩
            · rw [HA.out] at g1
              cases g1
          · have K7 := Lib.hid (K6.out.on h5 hwp)
            have T7 := Lib.hid h4
            have U7 := Lib.hid (T6.out.on TT.out h5 (by omega))
            have HA := Lib.hid h1
            clear h1 h4 h5 K6 T6 TT
            go_wp2_with fail
            have hR := ternaries_any p6 3 l3 w7 U7 (by omega) (by omega) (by omega)
            rw [show ((3 : Nat) : Int) = 3 from rfl] at hR
            refine hR.mono ?_
            clear hR
            rintro e w8 (⟨acc2, r2, A8, g1, rfl, g3, g4, g5⟩ | ⟨g1, rfl, g4, g5⟩)
            · rw [HA.out] at g1
              cases g1
            · have K8 := Lib.hid (K7.out.on g5 (by omega))
              have T8 := Lib.hid (T7.out.on U7.out g5 (by omega))
              have U8 := Lib.hid g4
              clear g1 g4 g5 K7 T7 U7 HA
              go_wp2_with fail
              refine (sameInts_any none none 0 0 0 [] w8 (Lib.hid (LX.none_ _ _ _)) (Lib.hid (LX.none_ _ _ _)) (by omega)).mono ?_
              rintro e w9 ⟨rfl, k9⟩
              have K9 := Lib.hid (K8.out.trans k9)
              have T9 := Lib.hid (T8.out.ext k9)
              have U9 := Lib.hid (U8.out.ext k9)
              clear k9 K8 T8 U8
              go_wp2_with (go_at_call 11; refine (left_any _ [] w9 (by first | exact T9 | exact U9) (by simp)).mono ?_; rintro e w10 ⟨rfl, rfl⟩; rw [show (([] : List Nat).length : Int) = 0 from rfl])
              go_ret
              exact ⟨rfl, K9.out⟩
        · have HN := Lib.hid (show NX w (A.map (·.add (n - l3.length))) (n - (n - l3.length)) (c - (n - l3.length)) l3 by
            have := HX.out.end_ HE3.out
            rw [if_neg hcn] at this
            rwa [show n - (n - l3.length) = l3.length by omega])
          go_wp2_with (go_at_call 11; refine (left_any p l3 w5 T5 (by omega)).mono ?_; rintro e w8 ⟨rfl, rfl⟩)
          clear d1 d2 d3 d4 d5
          refine (new_tape _ _ _ l3 w5 (Lib.hid (HN.out.ext K5.out)) (by omega)).mono ?_
          rintro e w6 ⟨p6, rfl, hp6, T6, E6⟩
          have K6 := Lib.hid (K5.out.trans E6.out)
          have TT := Lib.hid (T5.out.ext E6.out)
          have hlt6 := T5.out.lt
          have hpp : p < p6 := by omega
          clear K5 T5 E6 hp6 hlt6 HN
          go_wp2_with fail
          have hR := ternaries_any p 3 l3 w6 TT (by omega) (by omega) (by omega)
          rw [show ((3 : Nat) : Int) = 3 from rfl] at hR
          refine hR.mono ?_
          clear hR
          rintro e w7 (⟨acc, r, A7, h1, rfl, h3, h4, h5⟩ | ⟨h1, rfl, h4, h5⟩)
          · have K7 := Lib.hid (K6.out.on h5 hwp)
            have T7 := Lib.hid h4
            have U7 := Lib.hid (T6.out.on TT.out h5 (by omega))
            have L7 := Lib.hid h3
            have HA := Lib.hid h1
            have hr3 := (ternS_less h1).1
            clear h1 h3 h4 h5 K6 T6 TT
            go_wp2_with fail
            have hR := ternaries_any p6 3 l3 w7 U7 (by omega) (by omega) (by omega)
            rw [show ((3 : Nat) : Int) = 3 from rfl] at hR
            refine hR.mono ?_
            clear hR
            rintro e w8 (⟨acc2, r2, A8, g1, rfl, g3, g4, g5⟩ | ⟨g1, rfl, g4, g5⟩)
            · rw [HA.out] at g1
              simp only [Option.some.injEq, Prod.mk.injEq] at g1
              obtain ⟨rfl, rfl⟩ := g1
              have K8 := Lib.hid (K7.out.on g5 (by omega))
              have T8 := Lib.hid (T7.out.on U7.out g5 (by omega))
              have U8 := Lib.hid g4
              have L8 := Lib.hid (L7.out.on U7.out g5)
              have M8 := Lib.hid g3
              clear g3 g4 g5 K7 T7 U7 L7 HA
              go_wp2_with fail
              refine (sameInts_any A7 A8 3 3 3 acc w8 L8 M8 (by omega)).mono ?_
              rintro e w9 ⟨rfl, k9⟩
              have K9 := Lib.hid (K8.out.trans k9)
              have T9 := Lib.hid (T8.out.ext k9)
              have U9 := Lib.hid (U8.out.ext k9)
              clear k9 K8 T8 U8 L8 M8
              go_wp2_with (go_at_call 11; refine (left_any _ r w9 (by first | exact T9 | exact U9) (by omega)).mono ?_; rintro e w10 ⟨rfl, rfl⟩)
              go_ret
              exact ⟨rfl, K9.out⟩
            · rw [HA.out] at g1
              cases g1
          · have K7 := Lib.hid (K6.out.on h5 hwp)
            have T7 := Lib.hid h4
            have U7 := Lib.hid (T6.out.on TT.out h5 (by omega))
            have HA := Lib.hid h1
            clear h1 h4 h5 K6 T6 TT
            go_wp2_with fail
            have hR := ternaries_any p6 3 l3 w7 U7 (by omega) (by omega) (by omega)
            rw [show ((3 : Nat) : Int) = 3 from rfl] at hR
            refine hR.mono ?_
            clear hR
            rintro e w8 (⟨acc2, r2, A8, g1, rfl, g3, g4, g5⟩ | ⟨g1, rfl, g4, g5⟩)
            · rw [HA.out] at g1
              cases g1
            · have K8 := Lib.hid (K7.out.on g5 (by omega))
              have T8 := Lib.hid (T7.out.on U7.out g5 (by omega))
              have U8 := Lib.hid g4
              clear g1 g4 g5 K7 T7 U7 HA
              go_wp2_with fail
              refine (sameInts_any none none 0 0 0 [] w8 (Lib.hid (LX.none_ _ _ _)) (Lib.hid (LX.none_ _ _ _)) (by omega)).mono ?_
              rintro e w9 ⟨rfl, k9⟩
              have K9 := Lib.hid (K8.out.trans k9)
              have T9 := Lib.hid (T8.out.ext k9)
              have U9 := Lib.hid (U8.out.ext k9)
              clear k9 K8 T8 U8
              go_wp2_with (go_at_call 11; refine (left_any _ [] w9 (by first | exact T9 | exact U9) (by simp)).mono ?_; rintro e w10 ⟨rfl, rfl⟩; rw [show (([] : List Nat).length : Int) = 0 from rfl])
              go_ret
              exact ⟨rfl, K9.out⟩
      · subst h1
        have K5 := Lib.hid (K4.out.on h5 hwp)
        have T5 := Lib.hid h4
        have d3 : decide ((0 : Int) < -(wd : Int)) = false := decide_eq_false (by omega)
        have d4 : decide ((wd : Int) < 0) = false := decide_eq_false (by omega)
        clear h4 h5 K4 T4 HE2
        go_wp2_with (go_at_call 11; refine (left_any p [] w5 T5 (by simp)).mono ?_; rintro e w8 ⟨rfl, rfl⟩; rw [show (([] : List Nat).length : Int) = 0 from rfl])
        go_ret
        exact ⟨rfl, K5.out⟩
    · have K4 := Lib.hid (K3.out.on h5 hwp)
      have T4 := Lib.hid h4
      clear h1 h4 h5 K3 T3
      go_wp2_with fail
      refine (error_out p wd w4 T4 hw0 hw16).mono ?_
      rintro e w5 ⟨rfl, T5, O5⟩
      have K5 := Lib.hid (K4.out.on O5.out hwp)
      have d3 : decide ((0 : Int) < -(wd : Int)) = false := decide_eq_false (by omega)
      have d4 : decide ((wd : Int) < 0) = false := decide_eq_false (by omega)
      clear O5 K4 T4
      go_wp2_with (go_at_call 11; refine (left_any p [] w5 T5 (by simp)).mono ?_; rintro e w8 ⟨rfl, rfl⟩; rw [show (([] : List Nat).length : Int) = 0 from rfl])
      go_ret
      exact ⟨rfl, K5.out⟩
  refine (below_any p q xs w2 hT hxl (by omega) hq).mono ?_
  rintro e w3 (⟨x1, l1, h1, rfl, h4, h5⟩ | ⟨h1, rfl, h4, h5⟩)
  · obtain ⟨_, hl1, a1, e1⟩ := firstS_good h1
    have hl2 : l1.length ≤ n := by rw [hlen.out] at hl1; omega
    have HE := Lib.hid e1
    have K3 := Lib.hid (K2.out.on h5 hwp)
    have T3 := Lib.hid h4
    have hmod : x1 % q < q := Nat.mod_lt _ (by omega)
    have hdq : decide (q ≤ x1 % q) = false := decide_eq_false (by omega)
    clear h1 h4 h5 hl1 e1 K2 hT
    generalize x1 % q = y1 at *
    go_wp2_with fail
    refine (ternary_any p l1 w3 T3 (by omega)).mono ?_
    rintro e w4 (⟨x2, l2, h1, rfl, h4, h5⟩ | ⟨h1, rfl, h4, h5⟩)
    · obtain ⟨hg2, hl3, a2, e2⟩ := firstS_good h1
      have HE2 := Lib.hid (show xs = (a1 ++ a2) ++ l2 by rw [HE.out, e2]; simp)
      have K4 := Lib.hid (K3.out.on h5 hwp)
      have T4 := Lib.hid h4
      obtain ⟨hb1, hb2⟩ := tval_le hg2
      have d1 : decide (tval x2 < -1) = false := decide_eq_false (by omega)
      have d2 : decide (1 < tval x2) = false := decide_eq_false (by omega)
      clear h1 h4 h5 e2 K3 T3 hg2 HE
      generalize tval x2 = y2 at *
      go_wp2_with fail
      refine (error_any p wd l2 w4 T4 (by omega) hw0 hw16).mono ?_
      rintro e w5 (⟨x3, l3, h1, rfl, h4, h5⟩ | ⟨h1, rfl, h4, h5⟩)
      · have HE3 := Lib.hid (show xs = (a1 ++ a2 ++ [x3]) ++ l3 by rw [HE2.out, h1]; simp)
        have hl4 : l3.length < l2.length := by rw [h1]; simp
        have K5 := Lib.hid (K4.out.on h5 hwp)
        have T5 := Lib.hid h4
        obtain ⟨hc1, hc2⟩ := errS_le (w := wd) (x := x3) hw16
        have d3 : decide (errS wd x3 < -(wd : Int)) = false := decide_eq_false (by omega)
        have d4 : decide ((wd : Int) < errS wd x3) = false := decide_eq_false (by omega)
        have d5 : decide (n < l3.length) = false := decide_eq_false (by omega)
        clear h1 h4 h5 K4 T4 HE2
        generalize errS wd x3 = y3 at *
        by_cases hcn : c = n - l3.length
        · have HN := Lib.hid (show NX w A (n - (n - l3.length)) 0 l3 by
            have := HX.out.end_ HE3.out
            rw [if_pos hcn, show c - (n - l3.length) = 0 by omega] at this
            rwa [show n - (n - l3.length) = l3.length by omega])
          subst hcn
          go_wp2_with (go_at_call 11; refine (left_any p l3 w5 T5 (by omega)).mono ?_; rintro e w8 ⟨rfl, rfl⟩)
          clear d1 d2 d3 d4 d5
          refine (new_tape _ _ _ l3 w5 (Lib.hid (HN.out.ext K5.out)) (by omega)).mono ?_
          rintro e w6 ⟨p6, rfl, hp6, T6, E6⟩
          have K6 := Lib.hid (K5.out.trans E6.out)
          have TT := Lib.hid (T5.out.ext E6.out)
          have hlt6 := T5.out.lt
          have hpp : p < p6 := by omega
          clear K5 T5 E6 hp6 hlt6 HN
          go_wp2_with fail
          have hR := ternaries_any p 3 l3 w6 TT (by omega) (by omega) (by omega)
          rw [show ((3 : Nat) : Int) = 3 from rfl] at hR
          refine hR.mono ?_
          clear hR
          rintro e w7 (⟨acc, r, A7, h1, rfl, h3, h4, h5⟩ | ⟨h1, rfl, h4, h5⟩)
          · have K7 := Lib.hid (K6.out.on h5 hwp)
            have T7 := Lib.hid h4
            have U7 := Lib.hid (T6.out.on TT.out h5 (by omega))
            have L7 := Lib.hid h3
            have HA := Lib.hid h1
            have hr3 := (ternS_less h1).1
            clear h1 h3 h4 h5 K6 T6 TT
            go_wp2_with fail
            have hR := ternaries_any p6 3 l3 w7 U7 (by omega) (by omega) (by omega)
            rw [show ((3 : Nat) : Int) = 3 from rfl] at hR
            refine hR.mono ?_
            clear hR
            rintro e w8 (⟨acc2, r2, A8, g1, rfl, g3, g4, g5⟩ | ⟨g1, rfl, g4, g5⟩)
            · rw [HA.out] at g1
              simp only [Option.some.injEq, Prod.mk.injEq] at g1
              obtain ⟨rfl, rfl⟩ := g1
              have K8 := Lib.hid (K7.out.on g5 (by omega))
              have T8 := Lib.hid (T7.out.on U7.out g5 (by omega))
              have U8 := Lib.hid g4
              have L8 := Lib.hid (L7.out.on U7.out g5)
              have M8 := Lib.hid g3
              clear g3 g4 g5 K7 T7 U7 L7 HA
              go_wp2_with fail
              refine (sameInts_any A7 A8 3 3 3 acc w8 L8 M8 (by omega)).mono ?_
              rintro e w9 ⟨rfl, k9⟩
              have K9 := Lib.hid (K8.out.trans k9)
              have T9 := Lib.hid (T8.out.ext k9)
              have U9 := Lib.hid (U8.out.ext k9)
              clear k9 K8 T8 U8 L8 M8
              go_wp2_with (go_at_call 11; refine (left_any _ r w9 (by first | exact T9 | exact U9) (by omega)).mono ?_; rintro e w10 ⟨rfl, rfl⟩)
              go_ret
              exact ⟨rfl, K9.out⟩
            · rw [HA.out] at g1
              cases g1
          · have K7 := Lib.hid (K6.out.on h5 hwp)
            have T7 := Lib.hid h4
            have U7 := Lib.hid (T6.out.on TT.out h5 (by omega))
            have HA := Lib.hid h1
            clear h1 h4 h5 K6 T6 TT
            go_wp2_with fail
            have hR := ternaries_any p6 3 l3 w7 U7 (by omega) (by omega) (by omega)
            rw [show ((3 : Nat) : Int) = 3 from rfl] at hR
            refine hR.mono ?_
            clear hR
            rintro e w8 (⟨acc2, r2, A8, g1, rfl, g3, g4, g5⟩ | ⟨g1, rfl, g4, g5⟩)
            · rw [HA.out] at g1
              cases g1
            · have K8 := Lib.hid (K7.out.on g5 (by omega))
              have T8 := Lib.hid (T7.out.on U7.out g5 (by omega))
              have U8 := Lib.hid g4
              clear g1 g4 g5 K7 T7 U7 HA
              go_wp2_with fail
              refine (sameInts_any none none 0 0 0 [] w8 (Lib.hid (LX.none_ _ _ _)) (Lib.hid (LX.none_ _ _ _)) (by omega)).mono ?_
              rintro e w9 ⟨rfl, k9⟩
              have K9 := Lib.hid (K8.out.trans k9)
              have T9 := Lib.hid (T8.out.ext k9)
              have U9 := Lib.hid (U8.out.ext k9)
              clear k9 K8 T8 U8
              go_wp2_with (go_at_call 11; refine (left_any _ [] w9 (by first | exact T9 | exact U9) (by simp)).mono ?_; rintro e w10 ⟨rfl, rfl⟩; rw [show (([] : List Nat).length : Int) = 0 from rfl])
              go_ret
              exact ⟨rfl, K9.out⟩
        · have HN := Lib.hid (show NX w (A.map (·.add (n - l3.length))) (n - (n - l3.length)) (c - (n - l3.length)) l3 by
            have := HX.out.end_ HE3.out
            rw [if_neg hcn] at this
            rwa [show n - (n - l3.length) = l3.length by omega])
          go_wp2_with (go_at_call 11; refine (left_any p l3 w5 T5 (by omega)).mono ?_; rintro e w8 ⟨rfl, rfl⟩)
          clear d1 d2 d3 d4 d5
          refine (new_tape _ _ _ l3 w5 (Lib.hid (HN.out.ext K5.out)) (by omega)).mono ?_
          rintro e w6 ⟨p6, rfl, hp6, T6, E6⟩
          have K6 := Lib.hid (K5.out.trans E6.out)
          have TT := Lib.hid (T5.out.ext E6.out)
          have hlt6 := T5.out.lt
          have hpp : p < p6 := by omega
          clear K5 T5 E6 hp6 hlt6 HN
          go_wp2_with fail
          have hR := ternaries_any p 3 l3 w6 TT (by omega) (by omega) (by omega)
          rw [show ((3 : Nat) : Int) = 3 from rfl] at hR
          refine hR.mono ?_
          clear hR
          rintro e w7 (⟨acc, r, A7, h1, rfl, h3, h4, h5⟩ | ⟨h1, rfl, h4, h5⟩)
          · have K7 := Lib.hid (K6.out.on h5 hwp)
            have T7 := Lib.hid h4
            have U7 := Lib.hid (T6.out.on TT.out h5 (by omega))
            have L7 := Lib.hid h3
            have HA := Lib.hid h1
            have hr3 := (ternS_less h1).1
            clear h1 h3 h4 h5 K6 T6 TT
            go_wp2_with fail
            have hR := ternaries_any p6 3 l3 w7 U7 (by omega) (by omega) (by omega)
            rw [show ((3 : Nat) : Int) = 3 from rfl] at hR
            refine hR.mono ?_
            clear hR
            rintro e w8 (⟨acc2, r2, A8, g1, rfl, g3, g4, g5⟩ | ⟨g1, rfl, g4, g5⟩)
            · rw [HA.out] at g1
              simp only [Option.some.injEq, Prod.mk.injEq] at g1
              obtain ⟨rfl, rfl⟩ := g1
              have K8 := Lib.hid (K7.out.on g5 (by omega))
              have T8 := Lib.hid (T7.out.on U7.out g5 (by omega))
              have U8 := Lib.hid g4
              have L8 := Lib.hid (L7.out.on U7.out g5)
              have M8 := Lib.hid g3
              clear g3 g4 g5 K7 T7 U7 L7 HA
              go_wp2_with fail
              refine (sameInts_any A7 A8 3 3 3 acc w8 L8 M8 (by omega)).mono ?_
              rintro e w9 ⟨rfl, k9⟩
              have K9 := Lib.hid (K8.out.trans k9)
              have T9 := Lib.hid (T8.out.ext k9)
              have U9 := Lib.hid (U8.out.ext k9)
              clear k9 K8 T8 U8 L8 M8
              go_wp2_with (go_at_call 11; refine (left_any _ r w9 (by first | exact T9 | exact U9) (by omega)).mono ?_; rintro e w10 ⟨rfl, rfl⟩)
              go_ret
              exact ⟨rfl, K9.out⟩
            · rw [HA.out] at g1
              cases g1
          · have K7 := Lib.hid (K6.out.on h5 hwp)
            have T7 := Lib.hid h4
            have U7 := Lib.hid (T6.out.on TT.out h5 (by omega))
            have HA := Lib.hid h1
            clear h1 h4 h5 K6 T6 TT
            go_wp2_with fail
            have hR := ternaries_any p6 3 l3 w7 U7 (by omega) (by omega) (by omega)
            rw [show ((3 : Nat) : Int) = 3 from rfl] at hR
            refine hR.mono ?_
            clear hR
            rintro e w8 (⟨acc2, r2, A8, g1, rfl, g3, g4, g5⟩ | ⟨g1, rfl, g4, g5⟩)
            · rw [HA.out] at g1
              cases g1
            · have K8 := Lib.hid (K7.out.on g5 (by omega))
              have T8 := Lib.hid (T7.out.on U7.out g5 (by omega))
              have U8 := Lib.hid g4
              clear g1 g4 g5 K7 T7 U7 HA
              go_wp2_with fail
              refine (sameInts_any none none 0 0 0 [] w8 (Lib.hid (LX.none_ _ _ _)) (Lib.hid (LX.none_ _ _ _)) (by omega)).mono ?_
              rintro e w9 ⟨rfl, k9⟩
              have K9 := Lib.hid (K8.out.trans k9)
              have T9 := Lib.hid (T8.out.ext k9)
              have U9 := Lib.hid (U8.out.ext k9)
              clear k9 K8 T8 U8
              go_wp2_with (go_at_call 11; refine (left_any _ [] w9 (by first | exact T9 | exact U9) (by simp)).mono ?_; rintro e w10 ⟨rfl, rfl⟩; rw [show (([] : List Nat).length : Int) = 0 from rfl])
              go_ret
              exact ⟨rfl, K9.out⟩
      · subst h1
        have K5 := Lib.hid (K4.out.on h5 hwp)
        have T5 := Lib.hid h4
        have d3 : decide ((0 : Int) < -(wd : Int)) = false := decide_eq_false (by omega)
        have d4 : decide ((wd : Int) < 0) = false := decide_eq_false (by omega)
        clear h4 h5 K4 T4 HE2
        go_wp2_with (go_at_call 11; refine (left_any p [] w5 T5 (by simp)).mono ?_; rintro e w8 ⟨rfl, rfl⟩; rw [show (([] : List Nat).length : Int) = 0 from rfl])
        go_ret
        exact ⟨rfl, K5.out⟩
    · have K4 := Lib.hid (K3.out.on h5 hwp)
      have T4 := Lib.hid h4
      clear h1 h4 h5 K3 T3
      go_wp2_with fail
      refine (error_out p wd w4 T4 hw0 hw16).mono ?_
      rintro e w5 ⟨rfl, T5, O5⟩
      have K5 := Lib.hid (K4.out.on O5.out hwp)
      have d3 : decide ((0 : Int) < -(wd : Int)) = false := decide_eq_false (by omega)
      have d4 : decide ((wd : Int) < 0) = false := decide_eq_false (by omega)
      clear O5 K4 T4
      go_wp2_with (go_at_call 11; refine (left_any p [] w5 T5 (by simp)).mono ?_; rintro e w8 ⟨rfl, rfl⟩; rw [show (([] : List Nat).length : Int) = 0 from rfl])
      go_ret
      exact ⟨rfl, K5.out⟩
  · have K3 := Lib.hid (K2.out.on h5 hwp)
    have T3 := Lib.hid h4
    clear h1 h4 h5 K2 hT
    go_wp2_with fail
    refine (ternary_out p [] w3 T3 (by simp) rfl).mono ?_
    rintro e w4 ⟨rfl, h4', h5'⟩
    have h1 : True := trivial
    have h4 := h4'.out
    have h5 := h5'.out
    clear h4' h5'
    have K4 := Lib.hid (K3.out.on h5 hwp)
    have T4 := Lib.hid h4
    clear h1 h4 h5 K3 T3
    go_wp2_with fail
    refine (error_out p wd w4 T4 hw0 hw16).mono ?_
    rintro e w5 ⟨rfl, T5, O5⟩
    have K5 := Lib.hid (K4.out.on O5.out hwp)
    have d3 : decide ((0 : Int) < -(wd : Int)) = false := decide_eq_false (by omega)
    have d4 : decide ((wd : Int) < 0) = false := decide_eq_false (by omega)
    clear O5 K4 T4
    go_wp2_with (go_at_call 11; refine (left_any p [] w5 T5 (by simp)).mono ?_; rintro e w8 ⟨rfl, rfl⟩; rw [show (([] : List Nat).length : Int) = 0 from rfl])
    go_ret
    exact ⟨rfl, K5.out⟩
end Go.Proofs.Ythaljhmdhchiaaa
