/-
  The law RingChanges walked.
-/
import Derived.Test.YtpgcapobbmbchaaDoorZG10
import Derived.Test.YtpgcapobbmbchaaDoorZG9
import Derived.Test.YtpgcapobbmbchaaDoorZG8
namespace Go.Proofs.YtpgcapobbmbchaaDoor
open Go.RowKit
set_option linter.unusedVariables false
set_option maxRecDepth 100000

theorem PX.cut {w : World} {A : Option Addr} {L c : Nat} {As : Nat → Option Addr} {ns cs : Nat → Nat} {f : Nat → Nat → Nat} (h : PX w A L c As ns cs f) {m : Nat} (hm : m ≤ L) : PX w A m c As ns cs f :=
  ⟨Nat.le_trans hm h.room, fun h0 => by
    obtain ⟨ad, e, hc⟩ := h.cells (by omega)
    exact ⟨ad, e, fun j hj => hc j (by omega)⟩, fun j hj => h.rows j (by omega)⟩
theorem px_n {w : World} {A : Option Addr} {L c N M : Nat} {q : Nat → Nat} {As : Nat → Option Addr} {ns cs : Nat → Nat} {f : Nat → Nat → Nat} (h : PX w A L c As ns cs f) (hE : El N M q L ns f) : PX w A L c As (fun _ => N) cs f :=
  ⟨h.room, fun h0 => by
    obtain ⟨ad, e', hc⟩ := h.cells h0
    exact ⟨ad, e', fun j hj => by have := hc j hj; rwa [(hE.2.2 j hj).1] at this⟩, fun j hj => by have := h.rows j hj; rwa [(hE.2.2 j hj).1] at this⟩
theorem el_lt {N M L : Nat} {q : Nat → Nat} {ns : Nat → Nat} {f : Nat → Nat → Nat} (hE : El N M q L ns f) : ∀ j, j < L → ∀ i, i < N → f j i < q j := fun j hj i hi => by
  have h1 := hE.2.2 j hj
  exact h1.2 i (by rw [h1.1]; exact hi)
set_option maxHeartbeats 16000000 in
theorem ringChanges_walk {n : Int} {B : Option Addr} {Lp pc : Nat} {q : Nat → Nat} {A : Option Addr} {L c : Nat} {As : Nat → Option Addr} {ns cs : Nat → Nat} {f : Nat → Nat → Nat} {k lv : Int} (w : World) (n0 : -9223372036854775808 ≤ n) (n1 : n < 9223372036854775808) (hQ : FX w B Lp pc q) (hLp : Lp ≤ maxLen) (hq : Hid (∀ j, j < Lp → q j < 18446744073709551616)) (hP : Hid (PW w A L c As ns cs f)) (k0 : -9223372036854775808 ≤ k) (k1 : k < 9223372036854775808) (l0 : -9223372036854775808 ≤ lv) (l1 : lv < 9223372036854775808) (hT : Tabs w) :
    Calls Tryd.prog 5 #[.int .i64 n, .slice B Lp pc, .agg #[.slice A L c], .int .i64 k, .int .i64 lv] w fun e w' => e = .returned (.bool true) ∧ Ext w w' := by
  have HT := Lib.hid hT
  have HQ := Lib.hid hQ
  clear hT hQ
  have ka : Ext w (w.alloc (.cells #[.slice A L c] 25)) := (Ext.refl w).alloc _
  have xa0 : (w.alloc (.cells #[.slice A L c] 25)).cell? ⟨w.heap.size, 0, none⟩ = some (.slice A L c) := one_at _ _ _
  go_enter Tryd.func5, Tryd.ntmps5
  go_wp2_with fail
  refine (fixed5_any _ (HT.out.ext ka)).mono ?_
  rintro ee w1 ⟨rfl, k1'⟩
  have xa1 := cell_ext k1' xa0
  have e1 := ka.trans k1'
  clear k1' ka xa0
  go_wp2_with fail
  have kb : Ext w1 (w1.alloc (.cells #[.slice A L c] 25)) := (Ext.refl w1).alloc _
  refine (made_any n B Lp pc q (some ⟨w1.heap.size, 0, none⟩) 1 1 (fun _ => A) (fun _ => L) (fun _ => c) (fun _ => As) (fun _ => ns) (fun _ => cs) _ n0 n1 hLp (by omega) (HQ.out.ext (e1.trans kb)) hq (HT.out.ext (e1.trans kb)) (Lib.hid (one_held (one_at _ _ _))) (Lib.hid (one_rows hP.out (e1.trans kb)))).mono ?_
  rintro ee w2 (⟨h25, r, p, a, e, rfl, hRg, k2⟩ | ⟨_, rfl, k2⟩)
  case inr =>
    go_wp2
    go_ret
    exact ⟨rfl, e1.trans (kb.trans k2)⟩
  have hL30 := h25.1.2.1
  have hn32 := h25.1.1
  have hn2 := (h25.2.2.2 0 h25.2.1).1.1
  have hl := h25.1.2.2 0 (by omega)
  have hLa : L ≤ 30 := hl.1
  have HNS := Lib.hid (show ∀ i, i < L → ns i ≤ 100 from hl.2)
  have HROW := Lib.hid h25.2
  have HRG := Lib.hid hRg
  clear h25 hRg hl hLp
  have e2 := e1.trans (kb.trans k2)
  have xa2 := cell_ext (kb.trans k2) xa1
  clear e1 kb k2 xa1
  obtain ⟨N, rfl⟩ := Int.eq_ofNat_of_zero_le (show 0 ≤ n by omega)
  rw [show ((N : Int)).toNat = N by omega] at HRG
  have HN := Lib.hid (show 2 ≤ N ∧ N ≤ 32 by omega)
  clear n0 n1 hn2 hn32
  go_wp2_with fail
  refine (refCopy_any A L c As ns cs f w2 (hP.out.px.ext e2) hLa HNS (Lib.hid hP.out.words)).mono ?_
  rintro ee w3 ⟨Ao, co, Aso, cso, rfl, hpo, k3⟩
  have e3 := e2.trans k3
  have HPo := Lib.hid hpo
  have xa3 := cell_ext k3 xa2
  have HR3 := Lib.hid (HRG.out.ext k3)
  clear hpo k3 e2 xa2 HRG
  have kc3 : Ext w3 (w3.alloc (.cells #[.slice Ao L co] 25)) := (Ext.refl w3).alloc _
  have xo3 : (w3.alloc (.cells #[.slice Ao L co] 25)).cell? ⟨w3.heap.size, 0, none⟩ = some (.slice Ao L co) := one_at _ _ _
  have xa4 := cell_ext kc3 xa3
  have f3 := e3.trans kc3
  have HB3 := Lib.hid (show PB w3 Ao L co Aso ns cso f from ⟨HPo.out, by omega, fun i hi => by have := HNS.out i hi; omega⟩)
  clear xa3
  rcases Classical.em (El N Lp q L ns f) with hE | hE
  case inr =>
    have HE := Lib.hid hE
    clear hE
    by_cases ho : k % 2 = 0
    · have hke : k.tmod 2 = 0 := (tmod2 k).2 ho
      go_wp2_with fail
      refine (rNeg_no r N Lp q p a e Ao L co Aso ns cso f _ (HR3.out.ext kc3) (Lib.hid (HB3.out.ext kc3)) HE.out).mono ?_
      rintro ee w4 ⟨rfl, k4⟩
      have r4 := k4.trans ((Ext.refl w4).alloc (.cells #[.slice none 0 0] 25))
      have xo4 := cell_ext r4 xo3
      have xa5 := cell_ext r4 xa4
      have xp4 : (w4.alloc (.cells #[.slice none 0 0] 25)).cell? ⟨w4.heap.size, 0, none⟩ = some (.slice none 0 0) := one_at _ _ _
      clear xa4
      go_wp2_with fail
      refine (rTurn_even (some ⟨r, 0, none⟩) Ao L co k _ k0 k1 ho).mono ?_
      rintro ee w5 ⟨rfl, k5⟩
      have r5 := k5.trans ((Ext.refl w5).alloc (.cells #[.slice none 0 0] 25))
      have xo5 := cell_ext r5 xo4
      have xa6 := cell_ext r5 xa5
      have xp5 := cell_ext r5 xp4
      have xq5 : (w5.alloc (.cells #[.slice none 0 0] 25)).cell? ⟨w5.heap.size, 0, none⟩ = some (.slice none 0 0) := one_at _ _ _
      clear xa5
      go_wp2_with fail
      refine (rDrop_no r N Lp q p a e Ao L co Aso ns cso f lv _ (HR3.out.ext (kc3.trans (r4.trans r5))) (Lib.hid (HB3.out.ext (kc3.trans (r4.trans r5)))) HE.out).mono ?_
      rintro ee w6 ⟨rfl, k6⟩
      have r6 := k6.trans ((Ext.refl w6).alloc (.cells #[.slice none 0 0] 25))
      have xo6 := cell_ext r6 xo5
      have xa7 := cell_ext r6 xa6
      have xp6 := cell_ext r6 xp5
      have xq6 := cell_ext r6 xq5
      have xs6 : (w6.alloc (.cells #[.slice none 0 0] 25)).cell? ⟨w6.heap.size, 0, none⟩ = some (.slice none 0 0) := one_at _ _ _
      have f6 := f3.trans (r4.trans (r5.trans r6))
      clear xa6
      go_wp2_with fail
      refine (same5_yes Ao A L co c Aso As ns cso cs f f _ (HPo.out.ext (kc3.trans (r4.trans (r5.trans r6)))) (hP.out.px.ext f6) (by omega) (Lib.hid fun j hj => by have := HNS.out j hj; omega) (Lib.hid fun _ _ _ _ => rfl)).mono ?_
      rintro ee w7 ⟨rfl, k7⟩
      have xa8 := cell_ext k7 xa7
      have xp7 := cell_ext k7 xp6
      have xq7 := cell_ext k7 xq6
      have xs7 := cell_ext k7 xs6
      have f7 := f6.trans k7
      go_wp2_with fail
      refine (element_any N B Lp pc q A L c As ns cs f w7 (HQ.out.ext f7) (by omega) (hP.out.px.ext f7) (by omega) (Lib.hid fun j hj => by have := HNS.out j hj; show ns j ≤ 100000; omega)).mono ?_
      rintro ee w8 (⟨h, _⟩ | ⟨_, rfl, k8⟩)
      · exact absurd h HE.out
      have xp8 := cell_ext k8 xp7
      have xq8 := cell_ext k8 xq7
      have xs8 := cell_ext k8 xs7
      go_wp2
      go_ret
      exact ⟨rfl, f7.trans k8⟩
    have hko : ((k.tmod 2) == 0) = false := by
      have : k.tmod 2 ≠ 0 := fun h => ho ((tmod2 k).1 h)
      simpa using this
    have hko2 : ((k.tmod 2) != 0) = true := by
      have : k.tmod 2 ≠ 0 := fun h => ho ((tmod2 k).1 h)
      simpa using this
    have hko3 : ¬ k.tmod 2 = 0 := fun h => ho ((tmod2 k).1 h)
    go_wp2_with fail
    refine (rNeg_no r N Lp q p a e Ao L co Aso ns cso f _ (HR3.out.ext kc3) (Lib.hid (HB3.out.ext kc3)) HE.out).mono ?_
    rintro ee w4 ⟨rfl, k4⟩
    have r4 := k4.trans ((Ext.refl w4).alloc (.cells #[.slice none 0 0] 25))
    have xo4 := cell_ext r4 xo3
    have xa5 := cell_ext r4 xa4
    have xp4 : (w4.alloc (.cells #[.slice none 0 0] 25)).cell? ⟨w4.heap.size, 0, none⟩ = some (.slice none 0 0) := one_at _ _ _
    clear xa4
    go_wp2_with fail
    refine (rTurn_no r N Lp q p a e Ao L co Aso ns cso f k _ (HR3.out.ext (kc3.trans r4)) (Lib.hid (HB3.out.ext (kc3.trans r4))) HE.out k0 k1 ho).mono ?_
    rintro ee w5 ⟨rfl, k5⟩
    have r5 := k5.trans ((Ext.refl w5).alloc (.cells #[.slice none 0 0] 25))
    have xo5 := cell_ext r5 xo4
    have xa6 := cell_ext r5 xa5
    have xp5 := cell_ext r5 xp4
    have xq5 : (w5.alloc (.cells #[.slice none 0 0] 25)).cell? ⟨w5.heap.size, 0, none⟩ = some (.slice none 0 0) := one_at _ _ _
    clear xa5
    go_wp2_with fail
    refine (rDrop_no r N Lp q p a e Ao L co Aso ns cso f lv _ (HR3.out.ext (kc3.trans (r4.trans r5))) (Lib.hid (HB3.out.ext (kc3.trans (r4.trans r5)))) HE.out).mono ?_
    rintro ee w6 ⟨rfl, k6⟩
    have r6 := k6.trans ((Ext.refl w6).alloc (.cells #[.slice none 0 0] 25))
    have xo6 := cell_ext r6 xo5
    have xa7 := cell_ext r6 xa6
    have xp6 := cell_ext r6 xp5
    have xq6 := cell_ext r6 xq5
    have xs6 : (w6.alloc (.cells #[.slice none 0 0] 25)).cell? ⟨w6.heap.size, 0, none⟩ = some (.slice none 0 0) := one_at _ _ _
    have f6 := f3.trans (r4.trans (r5.trans r6))
    clear xa6
    go_wp2_with fail
    refine (same5_yes Ao A L co c Aso As ns cso cs f f _ (HPo.out.ext (kc3.trans (r4.trans (r5.trans r6)))) (hP.out.px.ext f6) (by omega) (Lib.hid fun j hj => by have := HNS.out j hj; omega) (Lib.hid fun _ _ _ _ => rfl)).mono ?_
    rintro ee w7 ⟨rfl, k7⟩
    have xa8 := cell_ext k7 xa7
    have xp7 := cell_ext k7 xp6
    have xq7 := cell_ext k7 xq6
    have xs7 := cell_ext k7 xs6
    have f7 := f6.trans k7
    go_wp2_with fail
    refine (element_any N B Lp pc q A L c As ns cs f w7 (HQ.out.ext f7) (by omega) (hP.out.px.ext f7) (by omega) (Lib.hid fun j hj => by have := HNS.out j hj; show ns j ≤ 100000; omega)).mono ?_
    rintro ee w8 (⟨h, _⟩ | ⟨_, rfl, k8⟩)
    · exact absurd h HE.out
    have xp8 := cell_ext k8 xp7
    have xq8 := cell_ext k8 xq7
    have xs8 := cell_ext k8 xs7
    go_wp2
    go_ret
    exact ⟨rfl, f7.trans k8⟩
  have HE := Lib.hid hE
  have hL0 := hE.1
  have hLM := hE.2.1
  clear hE
  obtain ⟨ad, rfl, hcA⟩ := hP.out.px.cells hL0
  clear hcA
  by_cases ho : k % 2 = 0
  · have hke : k.tmod 2 = 0 := (tmod2 k).2 ho
    go_wp2_with fail
    refine (rNeg_any r N Lp q p a e Ao L co Aso ns cso f _ (HR3.out.ext kc3) (Lib.hid (HB3.out.ext kc3)) HE.out).mono ?_
    rintro ee w4 ⟨Gp, Asp, csp, Fp, rfl, hpmp, hFp, k4⟩
    have HMp := Lib.hid hpmp
    have c4 : Ext w4 (w4.alloc (.cells #[.slice (some ⟨Gp, 0, none⟩) L L] 25)) := (Ext.refl w4).alloc _
    have r4 := k4.trans c4
    have xo4 := cell_ext r4 xo3
    have xa5 := cell_ext r4 xa4
    have xp4 : (w4.alloc (.cells #[.slice (some ⟨Gp, 0, none⟩) L L] 25)).cell? ⟨w4.heap.size, 0, none⟩ = some (.slice (some ⟨Gp, 0, none⟩) L L) := one_at _ _ _
    clear xa4 hpmp
    go_wp2_with fail
    refine (rTurn_even (some ⟨r, 0, none⟩) Ao L co k _ k0 k1 ho).mono ?_
    rintro ee w5 ⟨rfl, k5⟩
    have c5 : Ext w5 (w5.alloc (.cells #[.slice none 0 0] 25)) := (Ext.refl w5).alloc _
    have r5 := k5.trans c5
    have xo5 := cell_ext r5 xo4
    have xa6 := cell_ext r5 xa5
    have xp5 := cell_ext r5 xp4
    have xq5 : (w5.alloc (.cells #[.slice none 0 0] 25)).cell? ⟨w5.heap.size, 0, none⟩ = some (.slice none 0 0) := one_at _ _ _
    clear xa5
    by_cases hlv : lv < 0 ∨ (L : Int) ≤ lv
    · go_wp2_with fail
      refine (rDrop_level r N Lp q p a e Ao L co Aso ns cso f lv _ (HR3.out.ext (kc3.trans (r4.trans r5))) (Lib.hid (HB3.out.ext (kc3.trans (r4.trans r5)))) HE.out l0 l1 hlv).mono ?_
      rintro ee w6 ⟨rfl, k6⟩
      have c6 : Ext w6 (w6.alloc (.cells #[.slice none 0 0] 25)) := (Ext.refl w6).alloc _
      have r6 := k6.trans c6
      have xo6 := cell_ext r6 xo5
      have xa7 := cell_ext r6 xa6
      have xp6 := cell_ext r6 xp5
      have xq6 := cell_ext r6 xq5
      have xs6 : (w6.alloc (.cells #[.slice none 0 0] 25)).cell? ⟨w6.heap.size, 0, none⟩ = some (.slice none 0 0) := one_at _ _ _
      have f6 := f3.trans (r4.trans (r5.trans r6))
      clear xa6
      go_wp2_with fail
      refine (same5_yes Ao (some ad) L co c Aso As ns cso cs f f _ (HPo.out.ext (kc3.trans (r4.trans (r5.trans r6)))) (hP.out.px.ext f6) (by omega) (Lib.hid fun j hj => by have := HNS.out j hj; omega) (Lib.hid fun _ _ _ _ => rfl)).mono ?_
      rintro ee w7 ⟨rfl, k7⟩
      have xa8 := cell_ext k7 xa7
      have xp7 := cell_ext k7 xp6
      have xq7 := cell_ext k7 xq6
      have xs7 := cell_ext k7 xs6
      have f7 := f6.trans k7
      clear xo6 xo5 xo4 xa7
      go_wp2_with fail
      refine (element_any N B Lp pc q (some ad) L c As ns cs f w7 (HQ.out.ext f7) (by omega) (hP.out.px.ext f7) (by omega) (Lib.hid fun j hj => by have := HNS.out j hj; show ns j ≤ 100000; omega)).mono ?_
      rintro ee w8 (⟨_, rfl, k8⟩ | ⟨h, _⟩)
      case inr => exact absurd HE.out h
      have xa9 := cell_ext k8 xa8
      have xp8 := cell_ext k8 xp7
      have xq8 := cell_ext k8 xq7
      have xs8 := cell_ext k8 xs7
      have f8 := f7.trans k8
      have HPn := Lib.hid (px_n hP.out.px HE.out)
      have HLT := Lib.hid (el_lt HE.out)
      have HQ2 := Lib.hid (row_q HROW.out)
      have kp8 := c4.trans (r5.trans (r6.trans (k7.trans k8)))
      have kq8 := c5.trans (r6.trans (k7.trans k8))
      have ks8 := c6.trans (k7.trans k8)
      clear xa8 xp7 xq7 xs7 xp6 xq6 xs6 xp5 xq5 xp4
      go_wp2_with fail
      go_quiet (fail)
      have kk : Ext w8 (w8.drewN nq) := (Ext.refl w8).drewN nq
      have y1 := cell_ext kk xa9
      have y2 := cell_ext kk xp8
      have y3 := cell_ext kk xq8
      have y4 := cell_ext kk xs8
      have f10 := f8.trans kk
      have kp10 := kp8.trans kk
      have ks10 := ks8.trans kk
      clear xa9 xp8 xq8 xs8 kp8 ks8 kq8
      generalize w8.drewN nq = w10 at *
      by_cases hl0 : lv < 0
      · have k2 : Ext w10 w10 := Ext.refl w10
        go_wp2_with fail
        go_region_held3 (fun w' => w'.cell? ⟨w.heap.size, 0, none⟩ = some (.slice (some ad) L c) ∧ w'.cell? ⟨w4.heap.size, 0, none⟩ = some (.slice (some ⟨Gp, 0, none⟩) L L) ∧ w'.cell? ⟨w5.heap.size, 0, none⟩ = some (.slice none 0 0) ∧ w'.cell? ⟨w6.heap.size, 0, none⟩ = some (.slice none 0 0)) (go_keep)
          (first
            | (go_at_call_of 27 Gp; refine (same5_yes (some ⟨Gp, 0, none⟩) A11 L L c11 Asp As11 (fun _ => N) csp cs11 Fp (fun j i => dif 0 (f j i) (q j)) _ (HMp.out.px.ext (kp10.trans k2)) (hpx11.ext kx) (by omega) (Lib.hid fun _ _ => by show N ≤ 100000; have := HN.out; omega) (Lib.hid fun j hj i hi => by rw [hFp.out j hj])).mono ?_; rintro e5 w12 ⟨rfl, k12⟩; replace k2 : Ext w10 w12 := (Ext.trans k2 k12); replace kx : Ext w11 w12 := (Ext.trans kx k12); have z1 := cell_ext k2 y1; have z2 := cell_ext k2 y2; have z3 := cell_ext k2 y3; have z4 := cell_ext k2 y4)
            | (go_at_call 35; refine (refNeg_any B Lp pc q (some ad) L c N As cs f _ (HQ.out.ext f10.drew) (by omega) HQ2 (HPn.out.ext f10.drew) hLM hLa (by have := HN.out; omega) HLT).mono ?_; rintro e4 w11 ⟨A11, c11, As11, cs11, rfl, hpx11, k11⟩; replace k2 : Ext w10 w11 := (Ext.trans (Ext.drew k2) k11); have kx : Ext w11 w11 := Ext.refl w11; have z1 := cell_ext k2 y1; have z2 := cell_ext k2 y2; have z3 := cell_ext k2 y3; have z4 := cell_ext k2 y4)
            | fail)
        go_wp2
        go_ret
        exact ⟨rfl, f10.trans k2⟩
      have hl2 : (L : Int) ≤ lv := by omega
      have k2 : Ext w10 w10 := Ext.refl w10
      go_wp2_with fail
      go_region_held3 (fun w' => w'.cell? ⟨w.heap.size, 0, none⟩ = some (.slice (some ad) L c) ∧ w'.cell? ⟨w4.heap.size, 0, none⟩ = some (.slice (some ⟨Gp, 0, none⟩) L L) ∧ w'.cell? ⟨w5.heap.size, 0, none⟩ = some (.slice none 0 0) ∧ w'.cell? ⟨w6.heap.size, 0, none⟩ = some (.slice none 0 0)) (go_keep)
        (first
          | (go_at_call_of 27 Gp; refine (same5_yes (some ⟨Gp, 0, none⟩) A11 L L c11 Asp As11 (fun _ => N) csp cs11 Fp (fun j i => dif 0 (f j i) (q j)) _ (HMp.out.px.ext (kp10.trans k2)) (hpx11.ext kx) (by omega) (Lib.hid fun _ _ => by show N ≤ 100000; have := HN.out; omega) (Lib.hid fun j hj i hi => by rw [hFp.out j hj])).mono ?_; rintro e5 w12 ⟨rfl, k12⟩; replace k2 : Ext w10 w12 := (Ext.trans k2 k12); replace kx : Ext w11 w12 := (Ext.trans kx k12); have z1 := cell_ext k2 y1; have z2 := cell_ext k2 y2; have z3 := cell_ext k2 y3; have z4 := cell_ext k2 y4)
          | (go_at_call 35; refine (refNeg_any B Lp pc q (some ad) L c N As cs f _ (HQ.out.ext f10.drew) (by omega) HQ2 (HPn.out.ext f10.drew) hLM hLa (by have := HN.out; omega) HLT).mono ?_; rintro e4 w11 ⟨A11, c11, As11, cs11, rfl, hpx11, k11⟩; replace k2 : Ext w10 w11 := (Ext.trans (Ext.drew k2) k11); have kx : Ext w11 w11 := Ext.refl w11; have z1 := cell_ext k2 y1; have z2 := cell_ext k2 y2; have z3 := cell_ext k2 y3; have z4 := cell_ext k2 y4)
          | fail)
      go_wp2
      go_ret
      exact ⟨rfl, f10.trans k2⟩
    obtain ⟨l, rfl⟩ := Int.eq_ofNat_of_zero_le (show 0 ≤ lv by omega)
    have hlL : l < L := by omega
    clear hlv l0 l1
    go_wp2_with fail
    refine (rDrop_any r N Lp q p a e Ao L co Aso ns cso f l _ (HR3.out.ext (kc3.trans (r4.trans r5))) (Lib.hid (HB3.out.ext (kc3.trans (r4.trans r5)))) HE.out hlL).mono ?_
    rintro ee w6 ⟨Gs, Ass, css, Fs, rfl, hpms, hFs, k6⟩
    have HMs := Lib.hid hpms
    clear hpms
    have c6 : Ext w6 (w6.alloc (.cells #[.slice (some ⟨Gs, 0, none⟩) (l + 1) (l + 1)] 25)) := (Ext.refl w6).alloc _
    have r6 := k6.trans c6
    have xo6 := cell_ext r6 xo5
    have xa7 := cell_ext r6 xa6
    have xp6 := cell_ext r6 xp5
    have xq6 := cell_ext r6 xq5
    have xs6 : (w6.alloc (.cells #[.slice (some ⟨Gs, 0, none⟩) (l + 1) (l + 1)] 25)).cell? ⟨w6.heap.size, 0, none⟩ = some (.slice (some ⟨Gs, 0, none⟩) (l + 1) (l + 1)) := one_at _ _ _
    have f6 := f3.trans (r4.trans (r5.trans r6))
    clear xa6
    go_wp2_with fail
    refine (same5_yes Ao (some ad) L co c Aso As ns cso cs f f _ (HPo.out.ext (kc3.trans (r4.trans (r5.trans r6)))) (hP.out.px.ext f6) (by omega) (Lib.hid fun j hj => by have := HNS.out j hj; omega) (Lib.hid fun _ _ _ _ => rfl)).mono ?_
    rintro ee w7 ⟨rfl, k7⟩
    have xa8 := cell_ext k7 xa7
    have xp7 := cell_ext k7 xp6
    have xq7 := cell_ext k7 xq6
    have xs7 := cell_ext k7 xs6
    have f7 := f6.trans k7
    clear xo6 xo5 xo4 xa7
    go_wp2_with fail
    refine (element_any N B Lp pc q (some ad) L c As ns cs f w7 (HQ.out.ext f7) (by omega) (hP.out.px.ext f7) (by omega) (Lib.hid fun j hj => by have := HNS.out j hj; show ns j ≤ 100000; omega)).mono ?_
    rintro ee w8 (⟨_, rfl, k8⟩ | ⟨h, _⟩)
    case inr => exact absurd HE.out h
    have xa9 := cell_ext k8 xa8
    have xp8 := cell_ext k8 xp7
    have xq8 := cell_ext k8 xq7
    have xs8 := cell_ext k8 xs7
    have f8 := f7.trans k8
    have HPn := Lib.hid (px_n hP.out.px HE.out)
    have HLT := Lib.hid (el_lt HE.out)
    have HQ2 := Lib.hid (row_q HROW.out)
    have kp8 := c4.trans (r5.trans (r6.trans (k7.trans k8)))
    have kq8 := c5.trans (r6.trans (k7.trans k8))
    have ks8 := c6.trans (k7.trans k8)
    clear xa8 xp7 xq7 xs7 xp6 xq6 xs6 xp5 xq5 xp4
    go_wp2_with fail
    go_quiet (fail)
    have kk : Ext w8 (w8.drewN nq) := (Ext.refl w8).drewN nq
    have y1 := cell_ext kk xa9
    have y2 := cell_ext kk xp8
    have y3 := cell_ext kk xq8
    have y4 := cell_ext kk xs8
    have f10 := f8.trans kk
    have kp10 := kp8.trans kk
    have ks10 := ks8.trans kk
    clear xa9 xp8 xq8 xs8 kp8 ks8 kq8
    generalize w8.drewN nq = w10 at *
    have j1 : (l : Int) < (L : Int) := by omega
    have j2 : (0 : Int) ≤ (l : Int) + 1 := by omega
    have j5 : IntKind.i64.wrap ((l : Int) + 1) = (l : Int) + 1 := by rw [IntKind.wrap_i64]; omega
    have j3 : (l : Int) + 1 ≤ (L : Int) := by omega
    have j4 : (l : Int) + 1 ≤ (c : Int) := by have := hP.out.px.room; omega
    have k2 : Ext w10 w10 := Ext.refl w10
    go_wp2_with fail
    go_region_held3 (fun w' => w'.cell? ⟨w.heap.size, 0, none⟩ = some (.slice (some ad) L c) ∧ w'.cell? ⟨w4.heap.size, 0, none⟩ = some (.slice (some ⟨Gp, 0, none⟩) L L) ∧ w'.cell? ⟨w5.heap.size, 0, none⟩ = some (.slice none 0 0) ∧ w'.cell? ⟨w6.heap.size, 0, none⟩ = some (.slice (some ⟨Gs, 0, none⟩) (l + 1) (l + 1))) (go_keep)
      (first
        | (go_at_call_of 27 Gp; refine (same5_yes (some ⟨Gp, 0, none⟩) A11 L L c11 Asp As11 (fun _ => N) csp cs11 Fp (fun j i => dif 0 (f j i) (q j)) _ (HMp.out.px.ext (kp10.trans k2)) (hpx11.ext kx) (by omega) (Lib.hid fun _ _ => by show N ≤ 100000; have := HN.out; omega) (Lib.hid fun j hj i hi => by rw [hFp.out j hj])).mono ?_; rintro e5 w12 ⟨rfl, k12⟩; replace k2 : Ext w10 w12 := (Ext.trans k2 k12); replace kx : Ext w11 w12 := (Ext.trans kx k12); have z1 := cell_ext k2 y1; have z2 := cell_ext k2 y2; have z3 := cell_ext k2 y3; have z4 := cell_ext k2 y4)
        | (go_at_call 35; refine (refNeg_any B Lp pc q (some ad) L c N As cs f _ (HQ.out.ext f10.drew) (by omega) HQ2 (HPn.out.ext f10.drew) hLM hLa (by have := HN.out; omega) HLT).mono ?_; rintro e4 w11 ⟨A11, c11, As11, cs11, rfl, hpx11, k11⟩; replace k2 : Ext w10 w11 := (Ext.trans (Ext.drew k2) k11); have kx : Ext w11 w11 := Ext.refl w11; have z1 := cell_ext k2 y1; have z2 := cell_ext k2 y2; have z3 := cell_ext k2 y3; have z4 := cell_ext k2 y4)
        | (go_at_call_of 27 Gs; refine (same5_yes (some ⟨Gs, 0, none⟩) (some ad) (l + 1) (l + 1) c Ass As (fun _ => N) css cs Fs f _ (HMs.out.px.ext (ks10.trans k2)) ((HPn.out.cut (show l + 1 ≤ L by omega)).ext (f10.trans k2)) (by omega) (Lib.hid fun _ _ => by show N ≤ 100000; have := HN.out; omega) (Lib.hid fun j hj i hi => by rw [hFs.out j hj])).mono ?_; rintro e5 w13 ⟨rfl, k13⟩; replace k2 : Ext w10 w13 := (Ext.trans k2 k13); have z1 := cell_ext k2 y1; have z2 := cell_ext k2 y2; have z3 := cell_ext k2 y3; have z4 := cell_ext k2 y4)
        | fail)
    go_wp2
    go_ret
    exact ⟨rfl, f10.trans k2⟩
  have hko : ((k.tmod 2) == 0) = false := by
    have : k.tmod 2 ≠ 0 := fun h => ho ((tmod2 k).1 h)
    simpa using this
  have hko2 : ((k.tmod 2) != 0) = true := by
    have : k.tmod 2 ≠ 0 := fun h => ho ((tmod2 k).1 h)
    simpa using this
  have hko3 : ¬ k.tmod 2 = 0 := fun h => ho ((tmod2 k).1 h)
  go_wp2_with fail
  refine (rNeg_any r N Lp q p a e Ao L co Aso ns cso f _ (HR3.out.ext kc3) (Lib.hid (HB3.out.ext kc3)) HE.out).mono ?_
  rintro ee w4 ⟨Gp, Asp, csp, Fp, rfl, hpmp, hFp, k4⟩
  have HMp := Lib.hid hpmp
  have c4 : Ext w4 (w4.alloc (.cells #[.slice (some ⟨Gp, 0, none⟩) L L] 25)) := (Ext.refl w4).alloc _
  have r4 := k4.trans c4
  have xo4 := cell_ext r4 xo3
  have xa5 := cell_ext r4 xa4
  have xp4 : (w4.alloc (.cells #[.slice (some ⟨Gp, 0, none⟩) L L] 25)).cell? ⟨w4.heap.size, 0, none⟩ = some (.slice (some ⟨Gp, 0, none⟩) L L) := one_at _ _ _
  clear xa4 hpmp
  go_wp2_with fail
  refine (rTurn_any r N Lp q p a e Ao L co Aso ns cso f k _ (HR3.out.ext (kc3.trans r4)) (Lib.hid (HB3.out.ext (kc3.trans r4))) HE.out k0 k1 ho).mono ?_
  rintro ee w5 ⟨Gq, Asq, csq, Fq, rfl, hpmq, hFq, k5⟩
  have HMq := Lib.hid hpmq
  clear hpmq
  have c5 : Ext w5 (w5.alloc (.cells #[.slice (some ⟨Gq, 0, none⟩) L L] 25)) := (Ext.refl w5).alloc _
  have r5 := k5.trans c5
  have xo5 := cell_ext r5 xo4
  have xa6 := cell_ext r5 xa5
  have xp5 := cell_ext r5 xp4
  have xq5 : (w5.alloc (.cells #[.slice (some ⟨Gq, 0, none⟩) L L] 25)).cell? ⟨w5.heap.size, 0, none⟩ = some (.slice (some ⟨Gq, 0, none⟩) L L) := one_at _ _ _
  clear xa5
  by_cases hlv : lv < 0 ∨ (L : Int) ≤ lv
  · go_wp2_with fail
    refine (rDrop_level r N Lp q p a e Ao L co Aso ns cso f lv _ (HR3.out.ext (kc3.trans (r4.trans r5))) (Lib.hid (HB3.out.ext (kc3.trans (r4.trans r5)))) HE.out l0 l1 hlv).mono ?_
    rintro ee w6 ⟨rfl, k6⟩
    have c6 : Ext w6 (w6.alloc (.cells #[.slice none 0 0] 25)) := (Ext.refl w6).alloc _
    have r6 := k6.trans c6
    have xo6 := cell_ext r6 xo5
    have xa7 := cell_ext r6 xa6
    have xp6 := cell_ext r6 xp5
    have xq6 := cell_ext r6 xq5
    have xs6 : (w6.alloc (.cells #[.slice none 0 0] 25)).cell? ⟨w6.heap.size, 0, none⟩ = some (.slice none 0 0) := one_at _ _ _
    have f6 := f3.trans (r4.trans (r5.trans r6))
    clear xa6
    go_wp2_with fail
    refine (same5_yes Ao (some ad) L co c Aso As ns cso cs f f _ (HPo.out.ext (kc3.trans (r4.trans (r5.trans r6)))) (hP.out.px.ext f6) (by omega) (Lib.hid fun j hj => by have := HNS.out j hj; omega) (Lib.hid fun _ _ _ _ => rfl)).mono ?_
    rintro ee w7 ⟨rfl, k7⟩
    have xa8 := cell_ext k7 xa7
    have xp7 := cell_ext k7 xp6
    have xq7 := cell_ext k7 xq6
    have xs7 := cell_ext k7 xs6
    have f7 := f6.trans k7
    clear xo6 xo5 xo4 xa7
    go_wp2_with fail
    refine (element_any N B Lp pc q (some ad) L c As ns cs f w7 (HQ.out.ext f7) (by omega) (hP.out.px.ext f7) (by omega) (Lib.hid fun j hj => by have := HNS.out j hj; show ns j ≤ 100000; omega)).mono ?_
    rintro ee w8 (⟨_, rfl, k8⟩ | ⟨h, _⟩)
    case inr => exact absurd HE.out h
    have xa9 := cell_ext k8 xa8
    have xp8 := cell_ext k8 xp7
    have xq8 := cell_ext k8 xq7
    have xs8 := cell_ext k8 xs7
    have f8 := f7.trans k8
    have HPn := Lib.hid (px_n hP.out.px HE.out)
    have HLT := Lib.hid (el_lt HE.out)
    have HQ2 := Lib.hid (row_q HROW.out)
    have kp8 := c4.trans (r5.trans (r6.trans (k7.trans k8)))
    have kq8 := c5.trans (r6.trans (k7.trans k8))
    have ks8 := c6.trans (k7.trans k8)
    clear xa8 xp7 xq7 xs7 xp6 xq6 xs6 xp5 xq5 xp4
    go_wp2_with fail
    have kk : Ext w8 w8 := Ext.refl w8
    go_region_held3 (fun w' => w'.cell? ⟨w.heap.size, 0, none⟩ = some (.slice (some ad) L c) ∧ w'.cell? ⟨w4.heap.size, 0, none⟩ = some (.slice (some ⟨Gp, 0, none⟩) L L) ∧ w'.cell? ⟨w5.heap.size, 0, none⟩ = some (.slice (some ⟨Gq, 0, none⟩) L L) ∧ w'.cell? ⟨w6.heap.size, 0, none⟩ = some (.slice none 0 0)) (go_keep)
      (first
        | (go_at_call 27; refine (same5_yes (some ⟨Gq, 0, none⟩) A9 L L c9 Asq As9 (fun _ => N) csq cs9 Fq (fun j i => turnUp (q j) N (kM k N) (f j) N i) _ (HMq.out.px.ext (kq8.trans kk)) hpx9 (by omega) (Lib.hid fun _ _ => by show N ≤ 100000; have := HN.out; omega) (Lib.hid fun j hj i hi => by rw [hFq.out j hj])).mono ?_; rintro e5 w10 ⟨rfl, k10⟩; replace kk : Ext w8 w10 := (Ext.trans kk k10); have y1 := cell_ext kk xa9; have y2 := cell_ext kk xp8; have y3 := cell_ext kk xq8; have y4 := cell_ext kk xs8)
        | (go_at_call 34; refine (refTurn_any B Lp pc q (some ad) L c N As cs f k _ k0 k1 HN.out.1 (HQ.out.ext f8.drew) (by omega) HQ2 (HPn.out.ext f8.drew) hLM hLa (by have := HN.out; omega) HLT).mono ?_; rintro e4 w9 ⟨A9, c9, As9, cs9, rfl, hpx9, k9⟩; replace kk : Ext w8 w9 := (Ext.trans (Ext.drew kk) k9); have y1 := cell_ext kk xa9; have y2 := cell_ext kk xp8; have y3 := cell_ext kk xq8; have y4 := cell_ext kk xs8)
        | fail)
    have f10 := f8.trans kk
    have kp10 := kp8.trans kk
    have ks10 := ks8.trans kk
    clear hpx9 xa9 xp8 xq8 xs8 kp8 ks8 kq8
    by_cases hl0 : lv < 0
    · have k2 : Ext w10 w10 := Ext.refl w10
      go_wp2_with fail
      go_region_held3 (fun w' => w'.cell? ⟨w.heap.size, 0, none⟩ = some (.slice (some ad) L c) ∧ w'.cell? ⟨w4.heap.size, 0, none⟩ = some (.slice (some ⟨Gp, 0, none⟩) L L) ∧ w'.cell? ⟨w5.heap.size, 0, none⟩ = some (.slice (some ⟨Gq, 0, none⟩) L L) ∧ w'.cell? ⟨w6.heap.size, 0, none⟩ = some (.slice none 0 0)) (go_keep)
        (first
          | (go_at_call_of 27 Gp; refine (same5_yes (some ⟨Gp, 0, none⟩) A11 L L c11 Asp As11 (fun _ => N) csp cs11 Fp (fun j i => dif 0 (f j i) (q j)) _ (HMp.out.px.ext (kp10.trans k2)) (hpx11.ext kx) (by omega) (Lib.hid fun _ _ => by show N ≤ 100000; have := HN.out; omega) (Lib.hid fun j hj i hi => by rw [hFp.out j hj])).mono ?_; rintro e5 w12 ⟨rfl, k12⟩; replace k2 : Ext w10 w12 := (Ext.trans k2 k12); replace kx : Ext w11 w12 := (Ext.trans kx k12); have z1 := cell_ext k2 y1; have z2 := cell_ext k2 y2; have z3 := cell_ext k2 y3; have z4 := cell_ext k2 y4)
          | (go_at_call 35; refine (refNeg_any B Lp pc q (some ad) L c N As cs f _ (HQ.out.ext f10.drew) (by omega) HQ2 (HPn.out.ext f10.drew) hLM hLa (by have := HN.out; omega) HLT).mono ?_; rintro e4 w11 ⟨A11, c11, As11, cs11, rfl, hpx11, k11⟩; replace k2 : Ext w10 w11 := (Ext.trans (Ext.drew k2) k11); have kx : Ext w11 w11 := Ext.refl w11; have z1 := cell_ext k2 y1; have z2 := cell_ext k2 y2; have z3 := cell_ext k2 y3; have z4 := cell_ext k2 y4)
          | fail)
      go_wp2
      go_ret
      exact ⟨rfl, f10.trans k2⟩
    have hl2 : (L : Int) ≤ lv := by omega
    have k2 : Ext w10 w10 := Ext.refl w10
    go_wp2_with fail
    go_region_held3 (fun w' => w'.cell? ⟨w.heap.size, 0, none⟩ = some (.slice (some ad) L c) ∧ w'.cell? ⟨w4.heap.size, 0, none⟩ = some (.slice (some ⟨Gp, 0, none⟩) L L) ∧ w'.cell? ⟨w5.heap.size, 0, none⟩ = some (.slice (some ⟨Gq, 0, none⟩) L L) ∧ w'.cell? ⟨w6.heap.size, 0, none⟩ = some (.slice none 0 0)) (go_keep)
      (first
        | (go_at_call_of 27 Gp; refine (same5_yes (some ⟨Gp, 0, none⟩) A11 L L c11 Asp As11 (fun _ => N) csp cs11 Fp (fun j i => dif 0 (f j i) (q j)) _ (HMp.out.px.ext (kp10.trans k2)) (hpx11.ext kx) (by omega) (Lib.hid fun _ _ => by show N ≤ 100000; have := HN.out; omega) (Lib.hid fun j hj i hi => by rw [hFp.out j hj])).mono ?_; rintro e5 w12 ⟨rfl, k12⟩; replace k2 : Ext w10 w12 := (Ext.trans k2 k12); replace kx : Ext w11 w12 := (Ext.trans kx k12); have z1 := cell_ext k2 y1; have z2 := cell_ext k2 y2; have z3 := cell_ext k2 y3; have z4 := cell_ext k2 y4)
        | (go_at_call 35; refine (refNeg_any B Lp pc q (some ad) L c N As cs f _ (HQ.out.ext f10.drew) (by omega) HQ2 (HPn.out.ext f10.drew) hLM hLa (by have := HN.out; omega) HLT).mono ?_; rintro e4 w11 ⟨A11, c11, As11, cs11, rfl, hpx11, k11⟩; replace k2 : Ext w10 w11 := (Ext.trans (Ext.drew k2) k11); have kx : Ext w11 w11 := Ext.refl w11; have z1 := cell_ext k2 y1; have z2 := cell_ext k2 y2; have z3 := cell_ext k2 y3; have z4 := cell_ext k2 y4)
        | fail)
    go_wp2
    go_ret
    exact ⟨rfl, f10.trans k2⟩
  obtain ⟨l, rfl⟩ := Int.eq_ofNat_of_zero_le (show 0 ≤ lv by omega)
  have hlL : l < L := by omega
  clear hlv l0 l1
  go_wp2_with fail
  refine (rDrop_any r N Lp q p a e Ao L co Aso ns cso f l _ (HR3.out.ext (kc3.trans (r4.trans r5))) (Lib.hid (HB3.out.ext (kc3.trans (r4.trans r5)))) HE.out hlL).mono ?_
  rintro ee w6 ⟨Gs, Ass, css, Fs, rfl, hpms, hFs, k6⟩
  have HMs := Lib.hid hpms
  clear hpms
  have c6 : Ext w6 (w6.alloc (.cells #[.slice (some ⟨Gs, 0, none⟩) (l + 1) (l + 1)] 25)) := (Ext.refl w6).alloc _
  have r6 := k6.trans c6
  have xo6 := cell_ext r6 xo5
  have xa7 := cell_ext r6 xa6
  have xp6 := cell_ext r6 xp5
  have xq6 := cell_ext r6 xq5
  have xs6 : (w6.alloc (.cells #[.slice (some ⟨Gs, 0, none⟩) (l + 1) (l + 1)] 25)).cell? ⟨w6.heap.size, 0, none⟩ = some (.slice (some ⟨Gs, 0, none⟩) (l + 1) (l + 1)) := one_at _ _ _
  have f6 := f3.trans (r4.trans (r5.trans r6))
  clear xa6
  go_wp2_with fail
  refine (same5_yes Ao (some ad) L co c Aso As ns cso cs f f _ (HPo.out.ext (kc3.trans (r4.trans (r5.trans r6)))) (hP.out.px.ext f6) (by omega) (Lib.hid fun j hj => by have := HNS.out j hj; omega) (Lib.hid fun _ _ _ _ => rfl)).mono ?_
  rintro ee w7 ⟨rfl, k7⟩
  have xa8 := cell_ext k7 xa7
  have xp7 := cell_ext k7 xp6
  have xq7 := cell_ext k7 xq6
  have xs7 := cell_ext k7 xs6
  have f7 := f6.trans k7
  clear xo6 xo5 xo4 xa7
  go_wp2_with fail
  refine (element_any N B Lp pc q (some ad) L c As ns cs f w7 (HQ.out.ext f7) (by omega) (hP.out.px.ext f7) (by omega) (Lib.hid fun j hj => by have := HNS.out j hj; show ns j ≤ 100000; omega)).mono ?_
  rintro ee w8 (⟨_, rfl, k8⟩ | ⟨h, _⟩)
  case inr => exact absurd HE.out h
  have xa9 := cell_ext k8 xa8
  have xp8 := cell_ext k8 xp7
  have xq8 := cell_ext k8 xq7
  have xs8 := cell_ext k8 xs7
  have f8 := f7.trans k8
  have HPn := Lib.hid (px_n hP.out.px HE.out)
  have HLT := Lib.hid (el_lt HE.out)
  have HQ2 := Lib.hid (row_q HROW.out)
  have kp8 := c4.trans (r5.trans (r6.trans (k7.trans k8)))
  have kq8 := c5.trans (r6.trans (k7.trans k8))
  have ks8 := c6.trans (k7.trans k8)
  clear xa8 xp7 xq7 xs7 xp6 xq6 xs6 xp5 xq5 xp4
  go_wp2_with fail
  have kk : Ext w8 w8 := Ext.refl w8
  go_region_held3 (fun w' => w'.cell? ⟨w.heap.size, 0, none⟩ = some (.slice (some ad) L c) ∧ w'.cell? ⟨w4.heap.size, 0, none⟩ = some (.slice (some ⟨Gp, 0, none⟩) L L) ∧ w'.cell? ⟨w5.heap.size, 0, none⟩ = some (.slice (some ⟨Gq, 0, none⟩) L L) ∧ w'.cell? ⟨w6.heap.size, 0, none⟩ = some (.slice (some ⟨Gs, 0, none⟩) (l + 1) (l + 1))) (go_keep)
    (first
      | (go_at_call 27; refine (same5_yes (some ⟨Gq, 0, none⟩) A9 L L c9 Asq As9 (fun _ => N) csq cs9 Fq (fun j i => turnUp (q j) N (kM k N) (f j) N i) _ (HMq.out.px.ext (kq8.trans kk)) hpx9 (by omega) (Lib.hid fun _ _ => by show N ≤ 100000; have := HN.out; omega) (Lib.hid fun j hj i hi => by rw [hFq.out j hj])).mono ?_; rintro e5 w10 ⟨rfl, k10⟩; replace kk : Ext w8 w10 := (Ext.trans kk k10); have y1 := cell_ext kk xa9; have y2 := cell_ext kk xp8; have y3 := cell_ext kk xq8; have y4 := cell_ext kk xs8)
      | (go_at_call 34; refine (refTurn_any B Lp pc q (some ad) L c N As cs f k _ k0 k1 HN.out.1 (HQ.out.ext f8.drew) (by omega) HQ2 (HPn.out.ext f8.drew) hLM hLa (by have := HN.out; omega) HLT).mono ?_; rintro e4 w9 ⟨A9, c9, As9, cs9, rfl, hpx9, k9⟩; replace kk : Ext w8 w9 := (Ext.trans (Ext.drew kk) k9); have y1 := cell_ext kk xa9; have y2 := cell_ext kk xp8; have y3 := cell_ext kk xq8; have y4 := cell_ext kk xs8)
      | fail)
  have f10 := f8.trans kk
  have kp10 := kp8.trans kk
  have ks10 := ks8.trans kk
  clear hpx9 xa9 xp8 xq8 xs8 kp8 ks8 kq8
  have j1 : (l : Int) < (L : Int) := by omega
  have j2 : (0 : Int) ≤ (l : Int) + 1 := by omega
  have j5 : IntKind.i64.wrap ((l : Int) + 1) = (l : Int) + 1 := by rw [IntKind.wrap_i64]; omega
  have j3 : (l : Int) + 1 ≤ (L : Int) := by omega
  have j4 : (l : Int) + 1 ≤ (c : Int) := by have := hP.out.px.room; omega
  have k2 : Ext w10 w10 := Ext.refl w10
  go_wp2_with fail
  go_region_held3 (fun w' => w'.cell? ⟨w.heap.size, 0, none⟩ = some (.slice (some ad) L c) ∧ w'.cell? ⟨w4.heap.size, 0, none⟩ = some (.slice (some ⟨Gp, 0, none⟩) L L) ∧ w'.cell? ⟨w5.heap.size, 0, none⟩ = some (.slice (some ⟨Gq, 0, none⟩) L L) ∧ w'.cell? ⟨w6.heap.size, 0, none⟩ = some (.slice (some ⟨Gs, 0, none⟩) (l + 1) (l + 1))) (go_keep)
    (first
      | (go_at_call_of 27 Gp; refine (same5_yes (some ⟨Gp, 0, none⟩) A11 L L c11 Asp As11 (fun _ => N) csp cs11 Fp (fun j i => dif 0 (f j i) (q j)) _ (HMp.out.px.ext (kp10.trans k2)) (hpx11.ext kx) (by omega) (Lib.hid fun _ _ => by show N ≤ 100000; have := HN.out; omega) (Lib.hid fun j hj i hi => by rw [hFp.out j hj])).mono ?_; rintro e5 w12 ⟨rfl, k12⟩; replace k2 : Ext w10 w12 := (Ext.trans k2 k12); replace kx : Ext w11 w12 := (Ext.trans kx k12); have z1 := cell_ext k2 y1; have z2 := cell_ext k2 y2; have z3 := cell_ext k2 y3; have z4 := cell_ext k2 y4)
      | (go_at_call 35; refine (refNeg_any B Lp pc q (some ad) L c N As cs f _ (HQ.out.ext f10.drew) (by omega) HQ2 (HPn.out.ext f10.drew) hLM hLa (by have := HN.out; omega) HLT).mono ?_; rintro e4 w11 ⟨A11, c11, As11, cs11, rfl, hpx11, k11⟩; replace k2 : Ext w10 w11 := (Ext.trans (Ext.drew k2) k11); have kx : Ext w11 w11 := Ext.refl w11; have z1 := cell_ext k2 y1; have z2 := cell_ext k2 y2; have z3 := cell_ext k2 y3; have z4 := cell_ext k2 y4)
      | (go_at_call_of 27 Gs; refine (same5_yes (some ⟨Gs, 0, none⟩) (some ad) (l + 1) (l + 1) c Ass As (fun _ => N) css cs Fs f _ (HMs.out.px.ext (ks10.trans k2)) ((HPn.out.cut (show l + 1 ≤ L by omega)).ext (f10.trans k2)) (by omega) (Lib.hid fun _ _ => by show N ≤ 100000; have := HN.out; omega) (Lib.hid fun j hj i hi => by rw [hFs.out j hj])).mono ?_; rintro e5 w13 ⟨rfl, k13⟩; replace k2 : Ext w10 w13 := (Ext.trans k2 k13); have z1 := cell_ext k2 y1; have z2 := cell_ext k2 y2; have z3 := cell_ext k2 y3; have z4 := cell_ext k2 y4)
      | fail)
  go_wp2
  go_ret
  exact ⟨rfl, f10.trans k2⟩
end Go.Proofs.YtpgcapobbmbchaaDoor
