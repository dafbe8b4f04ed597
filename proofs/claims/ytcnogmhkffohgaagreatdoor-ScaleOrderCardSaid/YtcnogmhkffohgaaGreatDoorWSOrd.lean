/-
  The walk of ScaleOrder.
-/
import Derived.Test.YtcnogmhkffohgaaGreatDoorW45
import Derived.Test.YtcnogmhkffohgaaGreatDoorW38
namespace Go.Proofs.YtcnogmhkffohgaaGreatDoor
open Go.RowKit
set_option linter.unusedVariables false
set_option maxRecDepth 100000
theorem PW.ext {w w' : World} {A : Option Addr} {L c : Nat} {As : Nat → Option Addr} {ns cs : Nat → Nat} {f : Nat → Nat → Nat} (h : PW w A L c As ns cs f) (k : Ext w w') : PW w' A L c As ns cs f := ⟨h.px.ext k, h.len, h.lens, h.words⟩
theorem own_one (w : World) (v : Value) : QR w.heap.size (w.alloc (.cells #[v] 36)) (.slice (some ⟨w.heap.size, 0, none⟩) 1 1) 1 (fun _ => v) :=
  ⟨rfl, .inr ⟨w.heap.size, 1, #[v], rfl, Nat.le_refl _, (show RW (w.alloc (.cells #[v] 36)) w.heap.size 36 1 (fun _ => v) from heap_alloc_new w _), by omega, by unfold maxLen; omega, rfl, rfl⟩⟩
theorem px_nil {w : World} : PX w none 0 0 (fun _ => none) (fun _ => 0) (fun _ => 0) (fun _ _ => 0) := ⟨Nat.le_refl _, fun h => absurd h (by omega), fun j hj => absurd hj (by omega)⟩
set_option maxHeartbeats 16000000 in
theorem scaleOrder_walk {N : Int} {T L c : Nat} {Wd : Int} {A : Option Addr} {q : Nat → Nat} {Aa Ab : Option Addr} {na ca nb cb : Nat} {Aj Bj : Nat → Option Addr} {La xa Lb xb : Nat → Nat} {Ba Bb : Nat → Nat → Option Addr} {nsa csa nsb csb : Nat → Nat → Nat} {fa fb : Nat → Nat → Nat → Nat} (w : World) (hP : Hid (PA w N T A L c Wd q)) (hA : Hid (QW w Aa na ca Aj La xa Ba nsa csa fa)) (hB : Hid (QW w Ab nb cb Bj Lb xb Bb nsb csb fb)) (hT : Tabs w) :
    Calls Tryz.prog 3 #[.agg #[.int .i64 N, .int .u64 (T : Int), .slice A L c, .int .i64 Wd], .slice Aa na ca, .slice Ab nb cb] w fun ee w' => ee = .returned (.bool true) ∧ Ext w w' := by
  have HT := Lib.hid hT
  clear hT
  have hn0 := hP.out.n0
  have hn1 := hP.out.n1
  have ht1 := hP.out.t1
  have hLl := hP.out.len
  have hal := hA.out.len
  have hbl := hB.out.len
  have HLL := Lib.hid hLl
  unfold maxLen at hal hbl hLl
  have k0 : Ext w (w.alloc (.cells #[.int .i64 N, .int .u64 (T : Int), .slice A L c, .int .i64 Wd] 25)) := (Ext.refl w).alloc _
  obtain ⟨x0, x1, x2, x3⟩ := four_at w (.int .i64 N) (.int .u64 (T : Int)) (.slice A L c) (.int .i64 Wd) 25
  go_enter Tryz.func3, Tryz.ntmps3
  go_wp2_with fail
  generalize w.alloc (.cells #[.int .i64 N, .int .u64 (T : Int), .slice A L c, .int .i64 Wd] 25) = V at *
  refine (fixed10_any V (HT.out.ext k0)).mono ?_
  rintro ee V1 ⟨rfl, k1⟩
  replace x0 := cell_ext k1 x0
  replace x1 := cell_ext k1 x1
  replace x2 := cell_ext k1 x2
  replace x3 := cell_ext k1 x3
  replace k0 := k0.trans k1
  clear k1
  by_cases ha4 : na ≤ 4
  case neg =>
    have b0 : (na : Int) > 4 := by omega
    have K0 := Lib.hid k0
    clear k0
    go_wp2
    go_ret
    exact ⟨rfl, K0.out⟩
  have b0 : ¬ (na : Int) > 4 := by omega
  by_cases hb4 : nb ≤ 4
  case neg =>
    have b1 : (nb : Int) > 4 := by omega
    have K0 := Lib.hid k0
    clear k0
    go_wp2
    go_ret
    exact ⟨rfl, K0.out⟩
  have b1 : ¬ (nb : Int) > 4 := by omega
  go_wp2_with fail
  refine (small10_any N T Wd A L c Aa na ca Aj La xa Ba nsa csa fa V1 hn0 hn1 HLL.out (Lib.hid ⟨hA.out.qx.ext k0, hA.out.len, fun j hj => (hA.out.els j hj).ext k0⟩) (by omega)).mono ?_
  rintro ee V2 (⟨hsm, rfl, k1⟩ | ⟨hsm, rfl, k1⟩)
  case inr =>
    have K0 := Lib.hid (k0.trans k1)
    clear hsm k0 k1
    go_wp2
    go_ret
    exact ⟨rfl, K0.out⟩
  have HSA := Lib.hid hsm
  replace x0 := cell_ext k1 x0
  replace x1 := cell_ext k1 x1
  replace x2 := cell_ext k1 x2
  replace x3 := cell_ext k1 x3
  replace k0 := k0.trans k1
  clear k1 hsm
  go_wp2_with fail
  refine (small10_any N T Wd A L c Ab nb cb Bj Lb xb Bb nsb csb fb V2 hn0 hn1 HLL.out (Lib.hid ⟨hB.out.qx.ext k0, hB.out.len, fun j hj => (hB.out.els j hj).ext k0⟩) (by omega)).mono ?_
  rintro ee V3 (⟨hsm, rfl, k1⟩ | ⟨hsm, rfl, k1⟩)
  case inr =>
    have K0 := Lib.hid (k0.trans k1)
    clear hsm k0 k1
    go_wp2
    go_ret
    exact ⟨rfl, K0.out⟩
  have HSB := Lib.hid hsm
  replace x0 := cell_ext k1 x0
  replace x1 := cell_ext k1 x1
  replace x2 := cell_ext k1 x2
  replace x3 := cell_ext k1 x3
  replace k0 := k0.trans k1
  clear k1 hsm
  obtain ⟨z, hz⟩ := errZ (ParP N T L q Wd)
  have HZ := Lib.hid hz
  have hL8 := HSA.out.2.1
  go_wp2_with fail
  refine (rcheckZ (hP.out.ext k0) (by omega) HZ).mono ?_
  rintro ee V4 ⟨rfl, k1⟩
  replace x0 := cell_ext k1 x0
  replace x1 := cell_ext k1 x1
  replace x2 := cell_ext k1 x2
  replace x3 := cell_ext k1 x3
  replace k0 := k0.trans k1
  clear k1
  rcases hz with ⟨hok, rfl⟩ | ⟨hno, rfl⟩
  case inr =>
    have K0 := Lib.hid k0
    clear hno k0 HZ
    go_wp2
    go_ret
    exact ⟨rfl, K0.out⟩
  have HOK := Lib.hid hok
  have hN8 : 8 ≤ N := (hok 0 (by omega)).1
  obtain ⟨n, rfl⟩ := Int.eq_ofNat_of_zero_le (show 0 ≤ N by omega)
  have hn32 : n ≤ 32 := by have := HSA.out.1; omega
  have HN32 := Lib.hid hn32
  clear hok HZ hN8 hn32 hn0 hn1 hal hbl hLl b0 b1 hL8
  go_wp2_with fail
  refine (scaleNew_any (n := n) (Lib.hid (hP.out.ext k0)) HOK HN32.out (HT.out.ext k0)).mono ?_
  rintro ee V5 ⟨s, rfl, hS, k1⟩
  have HS := Lib.hid hS
  replace k0 := k0.trans k1
  clear k1 hS x0 x1 x2 x3
  go_wp2_with fail
  go_loopw [55, 9] (fun iv xv wr => ∃ i : Nat, i ≤ na ∧ iv = .int .i64 (i : Int) ∧ (∃ X cx, xv = .slice X i cx ∧ QX wr X i cx (revV Aj La xa i)) ∧ Ext V5 wr) (fun iv _ _ => na - (intOf iv).toNat)
  case atStart => exact ⟨0, by omega, rfl, ⟨none, 0, rfl, ⟨Nat.le_refl _, fun h => absurd h (by omega)⟩⟩, Ext.refl _⟩
  case round =>
    obtain ⟨i, hi, rfl, ⟨X, cx, rfl, hX⟩, kr⟩ := hrel
    have HX := Lib.hid hX
    clear hX
    by_cases hlt : i < na
    · obtain ⟨ad, hAd, hcs⟩ := (hA.out.qx.ext (k0.trans kr)).cells (by omega)
      subst hAd
      have hcell := hcs i hlt
      have i0 : (0 : Int) ≤ (i : Int) := by omega
      have i1 : (i : Int) < (na : Int) := by omega
      clear hcs
      go_wp2_with (at_builtin; go_loud (refine wpList_appP rfl _ _ rfl ((Ext.refl wr).alloc (.cells #[.slice (Aj i) (La i) (xa i)] 36)) _ 1 (fun _ => .slice (Aj i) (La i) (xa i)) rfl (own_one wr _) X i cx _ rfl (HX.out.ext ((Ext.refl wr).alloc _)) (fun _ _ => rfl) (by omega) (by omega) ?_; intro v2 w2 hq2 k2))
      go_roundw
      case rel =>
        obtain ⟨X2, cx2, rfl, hX2⟩ := (hq2.congr (S' := revV Aj La xa (i + 1)) (fun t ht => by
          by_cases e : t < 1
          · rw [if_pos e]; obtain rfl : t = 0 := by omega
            rfl
          · rw [if_neg e]
            show revV Aj La xa i (t - 1) = revV Aj La xa (i + 1) t
            unfold revV
            rw [show i - 1 - (t - 1) = i + 1 - 1 - t by omega])).qx
        rw [Nat.add_comm 1 i] at hX2
        exact ⟨i + 1, by omega, by go_num, ⟨X2, cx2, by rw [Nat.add_comm 1 i], hX2⟩, kr.trans k2⟩
      case measure => simp [intOf]; omega
    · obtain rfl : i = na := by omega
      replace k0 := k0.trans kr
      have HX1 := Lib.hid (HX.out)
      have HS1 := Lib.hid (HS.out.ext kr)
      clear kr HS HX
      rename World => V6
      go_wp2_with fail
      go_loopw [68, 10] (fun iv xv wr => ∃ i : Nat, i ≤ nb ∧ iv = .int .i64 (i : Int) ∧ (∃ Y cy, xv = .slice Y i cy ∧ QX wr Y i cy (revV Bj Lb xb i)) ∧ Ext V6 wr) (fun iv _ _ => nb - (intOf iv).toNat)
      case atStart => exact ⟨0, by omega, rfl, ⟨none, 0, rfl, ⟨Nat.le_refl _, fun h => absurd h (by omega)⟩⟩, Ext.refl _⟩
      case round =>
        obtain ⟨t, ht, rfl, ⟨Y, cy, rfl, hY⟩, kr⟩ := hrel
        have HY := Lib.hid hY
        clear hY
        by_cases hlt2 : t < nb
        · obtain ⟨ad, hAd, hcs⟩ := (hB.out.qx.ext (k0.trans kr)).cells (by omega)
          subst hAd
          have hcell := hcs t hlt2
          have i0 : (0 : Int) ≤ (t : Int) := by omega
          have i1 : (t : Int) < (nb : Int) := by omega
          clear hcs
          go_wp2_with (at_builtin; go_loud (refine wpList_appP rfl _ _ rfl ((Ext.refl wr).alloc (.cells #[.slice (Bj t) (Lb t) (xb t)] 36)) _ 1 (fun _ => .slice (Bj t) (Lb t) (xb t)) rfl (own_one wr _) Y t cy _ rfl (HY.out.ext ((Ext.refl wr).alloc _)) (fun _ _ => rfl) (by omega) (by omega) ?_; intro v2 w2 hq2 k2))
          go_roundw
          case rel =>
            obtain ⟨X2, cx2, rfl, hX2⟩ := (hq2.congr (S' := revV Bj Lb xb (t + 1)) (fun y hy => by
              by_cases e : y < 1
              · rw [if_pos e]; obtain rfl : y = 0 := by omega
                rfl
              · rw [if_neg e]
                show revV Bj Lb xb t (y - 1) = revV Bj Lb xb (t + 1) y
                unfold revV
                rw [show t - 1 - (y - 1) = t + 1 - 1 - y by omega])).qx
            rw [Nat.add_comm 1 t] at hX2
            exact ⟨t + 1, by omega, by go_num, ⟨X2, cx2, by rw [Nat.add_comm 1 t], hX2⟩, kr.trans k2⟩
          case measure => simp [intOf]; omega
        · obtain rfl : t = nb := by omega
          replace k0 := k0.trans kr
          have HXa := Lib.hid (HX1.out.ext kr)
          have HYb := Lib.hid HY.out
          have HS2 := Lib.hid (HS1.out.ext kr)
          clear kr HS1 HX1 HY
          rename World => V7
          have hQA : QP V7 Aa i ca Aj La xa Ba nsa csa fa := ⟨hA.out.qx.ext k0, fun j hj => ⟨((hA.out.els j hj).ext k0).px, by have := (HSA.out.2.2 j hj).1; omega, fun y hy => by have := (HSA.out.2.2 j hj).2 y hy; omega⟩⟩
          have hQB : QP V7 Ab t cb Bj Lb xb Bb nsb csb fb := ⟨hB.out.qx.ext k0, fun j hj => ⟨((hB.out.els j hj).ext k0).px, by have := (HSB.out.2.2 j hj).1; omega, fun y hy => by have := (HSB.out.2.2 j hj).2 y hy; omega⟩⟩
          have hD := dots_any HS2 hQA hQB HXa.out HYb.out ha4 hb4 (HT.out.ext k0)
          have HM8 := HS2.out.l8
          have K0 := Lib.hid k0
          clear hQA hQB k0 ha4 hb4 ht hi hlt hlt2 HSA HSB hA hB
          go_wp2_with fail
          rcases hD with ⟨z, hz, h1, h2, h3⟩ | ⟨N, m, C, qw, hm, h1, h2, h3⟩
          · have H1 := Lib.hid h1
            have H2 := Lib.hid h2
            have H3 := Lib.hid h3
            clear h1 h2 h3
            rcases hz with rfl | rfl
            all_goals
              refine (H1.out V7 (Ext.refl _)).mono ?_
              rintro ee V8 ⟨rfl, k1⟩
              have ka : Ext V8 (V8.alloc (.cells #[.slice none 0 0] 36)) := (Ext.refl V8).alloc _
              have y1 := one_at V8 (.slice none 0 0) 36
              have kb1 := k1.trans ka
              have kk := kb1
              clear ka k1 kb1
              go_wp2_with fail
              generalize (V8.alloc (.cells #[.slice none 0 0] 36)) = V9 at *
              refine (H2.out V9 kk).mono ?_
              rintro ee V10 ⟨rfl, k2⟩
              have ka : Ext V10 (V10.alloc (.cells #[.slice none 0 0] 36)) := (Ext.refl V10).alloc _
              have y2 := one_at V10 (.slice none 0 0) 36
              have kb2 := k2.trans ka
              replace y1 := cell_ext kb2 y1
              replace kk := kk.trans kb2
              clear ka k2 kb2
              go_wp2_with fail
              generalize (V10.alloc (.cells #[.slice none 0 0] 36)) = V11 at *
              refine (H3.out V11 kk).mono ?_
              rintro ee V12 ⟨rfl, k3⟩
              have ka : Ext V12 (V12.alloc (.cells #[.slice none 0 0] 36)) := (Ext.refl V12).alloc _
              have y3 := one_at V12 (.slice none 0 0) 36
              have kb3 := k3.trans ka
              replace y1 := cell_ext kb3 y1
              replace y2 := cell_ext kb3 y2
              replace kk := kk.trans kb3
              clear ka k3 kb3
              go_wp2_with fail
              generalize (V12.alloc (.cells #[.slice none 0 0] 36)) = V13 at *
              refine (same5_yes none none 0 0 0 (fun _ => none) (fun _ => none) (fun _ => 0) (fun _ => 0) (fun _ => 0) (fun _ _ => 0) (fun _ _ => 0) V13 px_nil px_nil (by omega) (Lib.hid fun _ hj => absurd hj (by omega)) (Lib.hid fun _ hj => absurd hj (by omega))).mono ?_
              rintro ee V14 ⟨rfl, k4⟩
              replace y1 := cell_ext k4 y1
              replace y3 := cell_ext k4 y3
              replace kk := kk.trans k4
              clear y2
              go_wp2_with fail
              refine (same5_yes none none 0 0 0 (fun _ => none) (fun _ => none) (fun _ => 0) (fun _ => 0) (fun _ => 0) (fun _ _ => 0) (fun _ _ => 0) V14 px_nil px_nil (by omega) (Lib.hid fun _ hj => absurd hj (by omega)) (Lib.hid fun _ hj => absurd hj (by omega))).mono ?_
              rintro ee V15 ⟨rfl, k5⟩
              have KZ := Lib.hid (K0.out.trans (kk.trans k5))
              clear kk k4 k5 y1 y3
              go_wp2
              go_ret
              exact ⟨rfl, KZ.out⟩
          · have H1 := Lib.hid h1
            have H2 := Lib.hid h2
            have H3 := Lib.hid h3
            clear h1 h2 h3
            refine (H1.out V7 (Ext.refl _)).mono ?_
            rintro ee V8 ⟨G1, Bs1, F1, rfl, hp1, hF1, k1⟩
            have ka : Ext V8 (V8.alloc (.cells #[.slice (some ⟨G1, 0, none⟩) m m] 36)) := (Ext.refl V8).alloc _
            have y1 := one_at V8 (.slice (some ⟨G1, 0, none⟩) m m) 36
            have kb1 := k1.trans ka
            have HP1 := Lib.hid (hp1.ext ka)
            clear hp1
            have kk := kb1
            clear ka k1 kb1
            go_wp2_with fail
            generalize (V8.alloc (.cells #[.slice (some ⟨G1, 0, none⟩) m m] 36)) = V9 at *
            refine (H2.out V9 kk).mono ?_
            rintro ee V10 ⟨G2, Bs2, F2, rfl, hp2, hF2, k2⟩
            have ka : Ext V10 (V10.alloc (.cells #[.slice (some ⟨G2, 0, none⟩) m m] 36)) := (Ext.refl V10).alloc _
            have y2 := one_at V10 (.slice (some ⟨G2, 0, none⟩) m m) 36
            have kb2 := k2.trans ka
            replace y1 := cell_ext kb2 y1
            have HP1 := Lib.hid (HP1.out.ext kb2)
            have HP2 := Lib.hid (hp2.ext ka)
            clear hp2
            replace kk := kk.trans kb2
            clear ka k2 kb2
            go_wp2_with fail
            generalize (V10.alloc (.cells #[.slice (some ⟨G2, 0, none⟩) m m] 36)) = V11 at *
            refine (H3.out V11 kk).mono ?_
            rintro ee V12 ⟨G3, Bs3, F3, rfl, hp3, hF3, k3⟩
            have ka : Ext V12 (V12.alloc (.cells #[.slice (some ⟨G3, 0, none⟩) m m] 36)) := (Ext.refl V12).alloc _
            have y3 := one_at V12 (.slice (some ⟨G3, 0, none⟩) m m) 36
            have kb3 := k3.trans ka
            replace y1 := cell_ext kb3 y1
            replace y2 := cell_ext kb3 y2
            have HP1 := Lib.hid (HP1.out.ext kb3)
            have HP2 := Lib.hid (HP2.out.ext kb3)
            have HP3 := Lib.hid (hp3.ext ka)
            clear hp3
            replace kk := kk.trans kb3
            clear ka k3 kb3
            go_wp2_with fail
            generalize (V12.alloc (.cells #[.slice (some ⟨G3, 0, none⟩) m m] 36)) = V13 at *
            refine (same5_yes (some ⟨G1, 0, none⟩) (some ⟨G2, 0, none⟩) m m m Bs1 Bs2 (fun _ => n) _ _ F1 F2 V13 HP1.out.px HP2.out.px (by omega) (Lib.hid fun _ _ => by show n ≤ 100000; have := HN32.out; omega) (Lib.hid fun j hj i hi => dot_swap parts_one hF1.out hF2.out j hj i hi)).mono ?_
            rintro ee V14 ⟨rfl, k4⟩
            replace y1 := cell_ext k4 y1
            replace y3 := cell_ext k4 y3
            replace kk := kk.trans k4
            clear y2
            go_wp2_with fail
            refine (same5_yes (some ⟨G1, 0, none⟩) (some ⟨G3, 0, none⟩) m m m Bs1 Bs3 (fun _ => n) _ _ F1 F3 V14 (HP1.out.px.ext k4) (HP3.out.px.ext k4) (by omega) (Lib.hid fun _ _ => by show n ≤ 100000; have := HN32.out; omega) (Lib.hid fun j hj i hi => dot_rev parts_one hF1.out hF3.out j hj i hi)).mono ?_
            rintro ee V15 ⟨rfl, k5⟩
            have KZ := Lib.hid (K0.out.trans (kk.trans k5))
            clear kk k4 k5 y1 y3
            go_wp2
            go_ret
            exact ⟨rfl, KZ.out⟩
end Go.Proofs.YtcnogmhkffohgaaGreatDoor
