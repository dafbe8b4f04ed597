/-
  The walk of KeysRight.
-/
import Derived.Test.YtbpehdfpiembfaaDoorZ35
import Derived.Test.YtbpehdfpiembfaaDoorZYFix
import Derived.Test.YtbpehdfpiembfaaDoorZ34
namespace Go.Proofs.YtbpehdfpiembfaaDoor
open Go.RowKit
set_option linter.unusedVariables false
set_option maxRecDepth 100000

theorem tells_in {w w' : World} {P : Prop} {ee : Ending} (h : Tells w P ee w') (b : Bool) (hb : b = true ↔ P) : ee = .returned (.bool b) ∧ Ext w w' := by
  rcases h with ⟨hp, he, hk⟩ | ⟨hp, he, hk⟩
  · rw [hb.2 hp]; exact ⟨he, hk⟩
  · have : b = false := by
      cases b
      · rfl
      · exact absurd (hb.1 rfl) hp
    rw [this]; exact ⟨he, hk⟩
theorem qp_of {w : World} {A : Option Addr} {n c : Nat} {Aj : Nat → Option Addr} {Lj cj : Nat → Nat} {Bs : Nat → Nat → Option Addr} {ns cs : Nat → Nat → Nat} {f : Nat → Nat → Nat → Nat} (h : QX w A n c (fun j => .slice (Aj j) (Lj j) (cj j))) (h' : ∀ j, j < n → PX w (Aj j) (Lj j) (cj j) (Bs j) (ns j) (cs j) (f j)) (hf : FewL n Lj ns) : QP w A n c Aj Lj cj Bs ns cs f :=
  ⟨h, fun j hj => ⟨h' j hj, by have := (hf j hj).1; omega, fun i hi => by have := (hf j hj).2 i hi; omega⟩⟩
set_option maxHeartbeats 16000000 in
theorem keysRight_walk {N : Int} {T L c : Nat} {Wd : Int} {A : Option Addr} {q : Nat → Nat} {nb cb na ca : Nat} {Ab Aa : Option Addr} {Bj Aj : Nat → Option Addr} {Lb xb La xa : Nat → Nat} {Bb Ba : Nat → Nat → Option Addr} {nsb csb nsa csa : Nat → Nat → Nat} {fb fa : Nat → Nat → Nat → Nat} (w : World) (hP : Hid (PA w N T A L c Wd q))
    (hB : Hid (QX w Ab nb cb (fun j => .slice (Bj j) (Lb j) (xb j)))) (hnb : nb ≤ maxLen) (hBw : Hid (∀ j, j < nb → PW w (Bj j) (Lb j) (xb j) (Bb j) (nsb j) (csb j) (fb j)))
    (hA : Hid (QX w Aa na ca (fun j => .slice (Aj j) (La j) (xa j)))) (hna : na ≤ maxLen) (hAw : Hid (∀ j, j < na → PW w (Aj j) (La j) (xa j) (Ba j) (nsa j) (csa j) (fa j))) (hT : Tabs w) :
    Calls Tryd.prog 3 #[.agg #[.int .i64 N, .int .u64 (T : Int), .slice A L c, .int .i64 Wd], .agg #[.slice Ab nb cb, .slice Aa na ca]] w fun ee w' => ee = .returned (.bool true) ∧ Ext w w' := by
  have HT := Lib.hid hT
  unfold maxLen at hnb hna
  clear hT
  have hn0 := hP.out.n0
  have hn1 := hP.out.n1
  have ht1 := hP.out.t1
  have hLl := hP.out.len
  obtain ⟨x0, x1, x2, x3⟩ := four_at w (.int .i64 N) (.int .u64 (T : Int)) (.slice A L c) (.int .i64 Wd) 25
  have k0 : Ext w ((w.alloc (.cells #[.int .i64 N, .int .u64 (T : Int), .slice A L c, .int .i64 Wd] 25)).alloc (.cells #[.slice Ab nb cb, .slice Aa na ca] 28)) := ((Ext.refl w).alloc _).alloc _
  have ka : Ext (w.alloc (.cells #[.int .i64 N, .int .u64 (T : Int), .slice A L c, .int .i64 Wd] 25)) ((w.alloc (.cells #[.int .i64 N, .int .u64 (T : Int), .slice A L c, .int .i64 Wd] 25)).alloc (.cells #[.slice Ab nb cb, .slice Aa na ca] 28)) := (Ext.refl _).alloc _
  have y0 := two_at0 (w.alloc (.cells #[.int .i64 N, .int .u64 (T : Int), .slice A L c, .int .i64 Wd] 25)) (.slice Ab nb cb) (.slice Aa na ca) 28
  have y1 := two_at1 (w.alloc (.cells #[.int .i64 N, .int .u64 (T : Int), .slice A L c, .int .i64 Wd] 25)) (.slice Ab nb cb) (.slice Aa na ca) 28
  rw [show (w.alloc (.cells #[.int .i64 N, .int .u64 (T : Int), .slice A L c, .int .i64 Wd] 25)).heap.size = w.heap.size + 1 by simp] at y0 y1
  replace x0 := cell_ext ka x0
  replace x1 := cell_ext ka x1
  replace x2 := cell_ext ka x2
  replace x3 := cell_ext ka x3
  clear ka
  go_enter Tryd.func3, Tryd.ntmps3
  go_wp2_with fail
  generalize ((w.alloc (.cells #[.int .i64 N, .int .u64 (T : Int), .slice A L c, .int .i64 Wd] 25)).alloc (.cells #[.slice Ab nb cb, .slice Aa na ca] 28)) = V0 at *
  refine (fixed11_any V0 (HT.out.ext k0)).mono ?_
  rintro ee V1 ⟨rfl, k1⟩
  replace x0 := cell_ext k1 x0
  replace x1 := cell_ext k1 x1
  replace x2 := cell_ext k1 x2
  replace x3 := cell_ext k1 x3
  replace y0 := cell_ext k1 y0
  replace y1 := cell_ext k1 y1
  replace k0 := k0.trans k1
  clear k1
  go_wp2_with fail
  refine (small11_any N T Wd A L c V1 hn0 hn1 hLl).mono ?_
  rintro ee V2 (⟨hsm, rfl, k1⟩ | ⟨hsm, rfl, k1⟩)
  case inr =>
    have K0 := Lib.hid (k0.trans k1)
    clear hsm k0 k1
    go_wp2
    go_ret
    exact ⟨rfl, K0.out⟩
  obtain ⟨hN32, hL8⟩ := hsm
  replace x0 := cell_ext k1 x0
  replace x1 := cell_ext k1 x1
  replace x2 := cell_ext k1 x2
  replace x3 := cell_ext k1 x3
  replace y0 := cell_ext k1 y0
  replace y1 := cell_ext k1 y1
  replace k0 := k0.trans k1
  clear k1
  by_cases hna10 : na ≤ 10
  case neg =>
    have b0 : (na : Int) > 10 := by omega
    have K0 := Lib.hid k0
    clear k0
    go_wp2
    go_ret
    exact ⟨rfl, K0.out⟩
  have b0 : ¬ (na : Int) > 10 := by omega
  by_cases hnb10 : nb ≤ 10
  case neg =>
    have b1 : (nb : Int) > 10 := by omega
    have K0 := Lib.hid k0
    clear k0
    go_wp2
    go_ret
    exact ⟨rfl, K0.out⟩
  have b1 : ¬ (nb : Int) > 10 := by omega
  have ka : Ext V2 (V2.alloc (.cells #[.slice Aa na ca, .slice Ab nb cb] 26)) := (Ext.refl V2).alloc _
  have p0 := two_at0 V2 (.slice Aa na ca) (.slice Ab nb cb) 26
  have p1 := two_at1 V2 (.slice Aa na ca) (.slice Ab nb cb) 26
  replace x0 := cell_ext ka x0
  replace x1 := cell_ext ka x1
  replace x2 := cell_ext ka x2
  replace x3 := cell_ext ka x3
  have z0 := cell_ext ka y0
  have z1 := cell_ext ka y1
  go_wp2
  replace k0 := k0.trans ka
  clear ka y0 y1
  generalize V2.alloc (.cells #[.slice Aa na ca, .slice Ab nb cb] 26) = V at *
  go_loopw [34] (fun iv wr => ∃ i : Nat, i ≤ 2 ∧ iv = .int .i64 (i : Int) ∧ (1 ≤ i → FewL na La nsa) ∧ (2 ≤ i → FewL nb Lb nsb) ∧ Ext V wr) (fun iv _ => 2 - (intOf iv).toNat)
  case atStart => exact ⟨0, by omega, rfl, fun h => absurd h (by omega), fun h => absurd h (by omega), Ext.refl _⟩
  case round =>
    obtain ⟨i, hi, rfl, g0, g1, kr⟩ := hrel
    have G00 := Lib.hid g0
    have G11 := Lib.hid g1
    clear g0 g1
    rcases (show i = 0 ∨ i = 1 ∨ i = 2 by omega) with rfl | rfl | rfl
    · have zc := cell_ext kr p0
      go_wp2
      go_loopw [40] (fun iv wr => ∃ j : Nat, j ≤ na ∧ iv = .int .i64 (j : Int) ∧ FewL j La nsa ∧ Ext V wr) (fun iv _ => na - (intOf iv).toNat)
      case atStart => exact ⟨0, by omega, rfl, fun j hj => absurd hj (by omega), kr⟩
      case round =>
        obtain ⟨j, hj, rfl, hfw, kr3⟩ := hrel
        have HFW := Lib.hid hfw
        clear hfw
        by_cases hlt : j < na
        · obtain ⟨ad, hAd, hcs⟩ := (hA.out.ext (k0.trans kr3)).cells (by omega)
          subst hAd
          have hcell := hcs j hlt
          have HPW := Lib.hid (hAw.out j hlt)
          have hLm := HPW.out.len
          have HPX := Lib.hid (HPW.out.px.ext (k0.trans kr3))
          unfold maxLen at hLm
          have i0 : (0 : Int) ≤ (j : Int) := by omega
          have i1 : (j : Int) < (na : Int) := by omega
          have ka : Ext wr (wr.alloc (.cells #[.slice (Aj j) (La j) (xa j)] 34)) := (Ext.refl wr).alloc _
          have xa1 := one_at wr (.slice (Aj j) (La j) (xa j)) 34
          have kz := kr3.trans ka
          clear hcs
          by_cases h10 : La j ≤ 10
          case neg =>
            have b0 : (La j : Int) > 10 := by omega
            have KZ := Lib.hid (k0.trans kz)
            clear kz ka kr3
            go_wp2
            go_ret
            exact ⟨rfl, KZ.out⟩
          have b0 : ¬ (La j : Int) > 10 := by omega
          have HJ := Lib.hid h10
          go_wp2
          generalize wr.alloc (.cells #[.slice (Aj j) (La j) (xa j)] 34) = V6 at *
          have HPX6 := Lib.hid (HPW.out.px.ext (k0.trans kz))
          go_loop [51] (fun iv => ∃ i : Nat, i ≤ La j ∧ iv = .int .i64 (i : Int) ∧ ∀ t, t < i → nsa j t ≤ 40) (fun iv => La j - (intOf iv).toNat)
          case atStart => exact ⟨0, by omega, rfl, fun t ht => absurd ht (by omega)⟩
          case round =>
            obtain ⟨i, hi, rfl, hsm⟩ := hrel
            have HSM := Lib.hid hsm
            clear hsm
            by_cases hl2 : i < La j
            · obtain ⟨ad2, hA2, hc2⟩ := HPX6.out.cells (by omega)
              have hcell2 := hc2 i hl2
              have hnm := HPW.out.lens i hl2
              unfold maxLen at hnm
              have j0 : (0 : Int) ≤ (i : Int) := by omega
              have j1 : (i : Int) < (La j : Int) := by omega
              clear hc2
              by_cases h40 : nsa j i ≤ 40
              case neg =>
                have b2 : (nsa j i : Int) > 40 := by omega
                have KZ := Lib.hid (k0.trans kz)
                clear kz
                go_wp2
                go_ret
                exact ⟨rfl, KZ.out⟩
              have b2 : ¬ (nsa j i : Int) > 40 := by omega
              have H4 := Lib.hid h40
              clear h40
              go_wp2
              go_round
              case rel => exact ⟨i + 1, by omega, by go_num, fun t ht => by
                rcases Nat.lt_or_ge t i with g | g
                · exact HSM.out t g
                · have : t = i := by omega
                  subst this
                  exact H4.out⟩
              case measure => simp [intOf]; omega
            · obtain rfl : i = La j := by omega
              go_wp2
              go_roundw
              have hnext : FewL (j + 1) La nsa := fun t ht => by
                rcases Nat.lt_or_ge t j with g | g
                · exact HFW.out t g
                · have : t = j := by omega
                  subst this
                  exact ⟨HJ.out, HSM.out⟩
              case rel => first | exact ⟨j + 1, by omega, by go_num, hnext, kz⟩ | exact ⟨_, _, _, _, ⟨j + 1, by omega, by go_num, hnext⟩, rfl, rfl, rfl, rfl⟩
              case measure => simp [intOf]; omega
        · obtain rfl : j = na := by omega
          go_wp2
          go_roundw
          case rel => first | exact ⟨1, by omega, by go_num, fun _ => HFW.out, fun h => absurd h (by omega), kr3⟩ | ((repeat apply Exists.intro); exact ⟨⟨1, by omega, by go_num, fun _ => HFW.out, fun h => absurd h (by omega), kr3⟩, rfl⟩)
          case measure => simp [intOf]
    · have zc := cell_ext kr p1
      go_wp2
      go_loopw [40] (fun iv wr => ∃ j : Nat, j ≤ nb ∧ iv = .int .i64 (j : Int) ∧ FewL j Lb nsb ∧ Ext V wr) (fun iv _ => nb - (intOf iv).toNat)
      case atStart => exact ⟨0, by omega, rfl, fun j hj => absurd hj (by omega), kr⟩
      case round =>
        obtain ⟨j, hj, rfl, hfw, kr3⟩ := hrel
        have HFW := Lib.hid hfw
        clear hfw
        by_cases hlt : j < nb
        · obtain ⟨ad, hAd, hcs⟩ := (hB.out.ext (k0.trans kr3)).cells (by omega)
          subst hAd
          have hcell := hcs j hlt
          have HPW := Lib.hid (hBw.out j hlt)
          have hLm := HPW.out.len
          have HPX := Lib.hid (HPW.out.px.ext (k0.trans kr3))
          unfold maxLen at hLm
          have i0 : (0 : Int) ≤ (j : Int) := by omega
          have i1 : (j : Int) < (nb : Int) := by omega
          have ka : Ext wr (wr.alloc (.cells #[.slice (Bj j) (Lb j) (xb j)] 34)) := (Ext.refl wr).alloc _
          have xa1 := one_at wr (.slice (Bj j) (Lb j) (xb j)) 34
          have kz := kr3.trans ka
          clear hcs
          by_cases h10 : Lb j ≤ 10
          case neg =>
            have b0 : (Lb j : Int) > 10 := by omega
            have KZ := Lib.hid (k0.trans kz)
            clear kz ka kr3
            go_wp2
            go_ret
            exact ⟨rfl, KZ.out⟩
          have b0 : ¬ (Lb j : Int) > 10 := by omega
          have HJ := Lib.hid h10
          go_wp2
          generalize wr.alloc (.cells #[.slice (Bj j) (Lb j) (xb j)] 34) = V6 at *
          have HPX6 := Lib.hid (HPW.out.px.ext (k0.trans kz))
          go_loop [51] (fun iv => ∃ i : Nat, i ≤ Lb j ∧ iv = .int .i64 (i : Int) ∧ ∀ t, t < i → nsb j t ≤ 40) (fun iv => Lb j - (intOf iv).toNat)
          case atStart => exact ⟨0, by omega, rfl, fun t ht => absurd ht (by omega)⟩
          case round =>
            obtain ⟨i, hi, rfl, hsm⟩ := hrel
            have HSM := Lib.hid hsm
            clear hsm
            by_cases hl2 : i < Lb j
            · obtain ⟨ad2, hA2, hc2⟩ := HPX6.out.cells (by omega)
              have hcell2 := hc2 i hl2
              have hnm := HPW.out.lens i hl2
              unfold maxLen at hnm
              have j0 : (0 : Int) ≤ (i : Int) := by omega
              have j1 : (i : Int) < (Lb j : Int) := by omega
              clear hc2
              by_cases h40 : nsb j i ≤ 40
              case neg =>
                have b2 : (nsb j i : Int) > 40 := by omega
                have KZ := Lib.hid (k0.trans kz)
                clear kz
                go_wp2
                go_ret
                exact ⟨rfl, KZ.out⟩
              have b2 : ¬ (nsb j i : Int) > 40 := by omega
              have H4 := Lib.hid h40
              clear h40
              go_wp2
              go_round
              case rel => exact ⟨i + 1, by omega, by go_num, fun t ht => by
                rcases Nat.lt_or_ge t i with g | g
                · exact HSM.out t g
                · have : t = i := by omega
                  subst this
                  exact H4.out⟩
              case measure => simp [intOf]; omega
            · obtain rfl : i = Lb j := by omega
              go_wp2
              go_roundw
              have hnext : FewL (j + 1) Lb nsb := fun t ht => by
                rcases Nat.lt_or_ge t j with g | g
                · exact HFW.out t g
                · have : t = j := by omega
                  subst this
                  exact ⟨HJ.out, HSM.out⟩
              case rel => first | exact ⟨j + 1, by omega, by go_num, hnext, kz⟩ | exact ⟨_, _, _, _, ⟨j + 1, by omega, by go_num, hnext⟩, rfl, rfl, rfl, rfl⟩
              case measure => simp [intOf]; omega
        · obtain rfl : j = nb := by omega
          go_wp2
          go_roundw
          case rel => first | exact ⟨2, by omega, by go_num, fun _ => G00.out (by omega), fun _ => HFW.out, kr3⟩ | ((repeat apply Exists.intro); exact ⟨⟨2, by omega, by go_num, fun _ => G00.out (by omega), fun _ => HFW.out, kr3⟩, rfl⟩)
          case measure => simp [intOf]
    · have GA := Lib.hid (G00.out (by omega))
      have GB := Lib.hid (G11.out (by omega))
      clear G00 G11
      have v0 := cell_ext kr x0
      have v1 := cell_ext kr x1
      have v2 := cell_ext kr x2
      have v3 := cell_ext kr x3
      have s0 := cell_ext kr z0
      have s1 := cell_ext kr z1
      have kw := k0.trans kr
      have HQB := Lib.hid (qp_of hB.out (fun j hj => (hBw.out j hj).px) GB.out)
      have HQA := Lib.hid (qp_of hA.out (fun j hj => (hAw.out j hj).px) GA.out)
      obtain ⟨b, hb⟩ : ∃ b : Bool, b = true ↔ RightP N T L q Wd nb na Lb La nsb nsa fb fa := by
        by_cases h : RightP N T L q Wd nb na Lb La nsb nsa fb fa
        · exact ⟨true, fun _ => h, fun _ => rfl⟩
        · exact ⟨false, (fun h => by cases h), fun h' => absurd h' h⟩
      obtain ⟨z, hz⟩ := errZ (ParP N T L q Wd)
      have HZ := Lib.hid hz
      have h1 : ∀ w', Ext wr w' → Calls Tryd.prog 6 #[.agg #[.int .i64 N, .int .u64 (T : Int), .slice A L c, .int .i64 Wd], .agg #[.slice Ab nb cb, .slice Aa na ca]] w' fun ee w2 => ee = .returned (.bool b) ∧ Ext w' w2 := fun w' h =>
        (right_any (z := z) nb cb na ca Ab Aa Bj Aj Lb xb La xa Bb Ba nsb csb nsa csa fb fa w' (Lib.hid (hP.out.ext (kw.trans h))) HZ hN32 hL8 (HT.out.ext (kw.trans h)) (HQB.out.ext (kw.trans h)) (HQA.out.ext (kw.trans h)) (by omega) (by omega)).mono fun _ _ h2 => tells_in h2 b hb
      have h2 : ∀ w', Ext wr w' → Calls Tryd.prog 7 #[.agg #[.int .i64 N, .int .u64 (T : Int), .slice A L c, .int .i64 Wd], .agg #[.slice Ab nb cb, .slice Aa na ca]] w' fun ee w2 => ee = .returned (.bool b) ∧ Ext w' w2 := fun w' h =>
        (refRight_any (z := z) nb cb na ca Ab Aa Bj Aj Lb xb La xa Bb Ba nsb csb nsa csa fb fa w' (Lib.hid (hP.out.ext (kw.trans h))) HZ hN32 hL8 (HQB.out.ext (kw.trans h)) (HQA.out.ext (kw.trans h)) (by omega) (by omega) GB GA).mono fun _ _ h2 => tells_in h2 b hb
      have H1 := Lib.hid h1
      have H2 := Lib.hid h2
      clear h1 h2 hb hz
      have kk : Ext wr wr := Ext.refl wr
      have KW := Lib.hid kw
      clear kw
      go_wp2_with fail
      go_region_held3 (fun w' => w'.cell? ⟨w.heap.size, 0, none⟩ = some (.int .i64 N) ∧ w'.cell? ⟨w.heap.size, 1, none⟩ = some (.int .u64 (T : Int)) ∧ w'.cell? ⟨w.heap.size, 2, none⟩ = some (.slice A L c) ∧ w'.cell? ⟨w.heap.size, 3, none⟩ = some (.int .i64 Wd) ∧ w'.cell? ⟨w.heap.size + 1, 0, none⟩ = some (.slice Ab nb cb) ∧ w'.cell? ⟨w.heap.size + 1, 1, none⟩ = some (.slice Aa na ca)) (go_keep)
        (first
          | (go_at_call 6; refine (H1.out _ (by first | exact kk | exact Ext.drew kk)).mono ?_; rintro e5 w5 ⟨rfl, k5⟩; replace kk : Ext wr w5 := (by first | exact Ext.trans kk k5 | exact Ext.trans (Ext.drew kk) k5); have d0 := cell_ext kk v0; have d1 := cell_ext kk v1; have d2 := cell_ext kk v2; have d3 := cell_ext kk v3; have d4 := cell_ext kk s0; have d5 := cell_ext kk s1)
          | (go_at_call 7; refine (H2.out _ (by first | exact kk | exact Ext.drew kk)).mono ?_; rintro e5 w5 ⟨rfl, k5⟩; replace kk : Ext wr w5 := (by first | exact Ext.trans kk k5 | exact Ext.trans (Ext.drew kk) k5); have d0 := cell_ext kk v0; have d1 := cell_ext kk v1; have d2 := cell_ext kk v2; have d3 := cell_ext kk v3; have d4 := cell_ext kk s0; have d5 := cell_ext kk s1)
          | fail)
      all_goals
        have KZ := Lib.hid (KW.out.trans kk)
        clear kk k5
        have bb : (b == b) = true := by cases b <;> rfl
        go_wp2
        go_ret
        exact ⟨rfl, KZ.out⟩
theorem keysRight_law {N : Int} {T L c : Nat} {Wd : Int} {A : Option Addr} {q : Nat → Nat} {nb cb na ca : Nat} {Ab Aa : Option Addr} {Bj Aj : Nat → Option Addr} {Lb xb La xa : Nat → Nat} {Bb Ba : Nat → Nat → Option Addr} {nsb csb nsa csa : Nat → Nat → Nat} {fb fa : Nat → Nat → Nat → Nat} (w : World) (hP : Hid (PA w N T A L c Wd q)) (hB : Hid (QW w Ab nb cb Bj Lb xb Bb nsb csb fb)) (hA : Hid (QW w Aa na ca Aj La xa Ba nsa csa fa)) (hT : Tabs w) :
    Calls Tryd.prog 3 #[.agg #[.int .i64 N, .int .u64 (T : Int), .slice A L c, .int .i64 Wd], .agg #[.slice Ab nb cb, .slice Aa na ca]] w fun ee w' => ee = .returned (.bool true) ∧ Ext w w' :=
  keysRight_walk w hP (Lib.hid hB.out.qx) hB.out.len (Lib.hid hB.out.els) (Lib.hid hA.out.qx) hA.out.len (Lib.hid hA.out.els) hT
end Go.Proofs.YtbpehdfpiembfaaDoor
