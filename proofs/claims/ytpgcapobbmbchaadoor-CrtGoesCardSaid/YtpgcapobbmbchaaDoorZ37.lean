/-
  The calls of layer 5 whose answers the document fixes.
-/
import Derived.Test.YtpgcapobbmbchaaDoorZ36
import Derived.Test.YtpgcapobbmbchaaDoorZGOpen
namespace Go.Proofs.YtpgcapobbmbchaaDoor
open Go.RowKit
set_option linter.unusedVariables false
set_option maxRecDepth 100000

theorem is13 : isS 13 = true := by decide +kernel
theorem sq13 : ∃ x, x < 13 ∧ noSq 13 x = true := ⟨2, by omega, noSq_pm (by omega) (by decide +kernel)⟩
def q2 (i : Nat) : Nat := if i = 0 then 5 else 13
theorem row2 : RowP 2 2 q2 := by
  have s4 : stepS (2 * (2 : Int).toNat) = true := by decide +kernel
  refine ⟨by omega, by omega, fun j hj => ?_⟩
  rcases (show j = 0 ∨ j = 1 by omega) with rfl | rfl
  · exact ⟨⟨by omega, by decide, s4, by decide, is5⟩, fun i hi => by omega⟩
  · refine ⟨⟨by omega, by decide, s4, by decide, is13⟩, fun i hi => ?_⟩
    obtain rfl : i = 0 := by omega
    decide
theorem vx_two (w : World) (a b : Int) : VX (w.alloc (.cells #[.int .i64 a, .int .i64 b] 2)) (some ⟨w.heap.size, 0, none⟩) 2 2 (fun i => if i = 0 then a else b) := by
  refine ⟨Nat.le_refl _, fun _ => ⟨_, rfl, fun j hj => ?_⟩⟩
  rw [Addr.add_lit, Nat.zero_add]
  rcases (show j = 0 ∨ j = 1 by omega) with rfl | rfl <;> simp
theorem PM.pb {w : World} {G L n : Nat} {As : Nat → Option Addr} {cs : Nat → Nat} {F : Nat → Nat → Nat} (h : PM w G L n As cs F) (hL : L ≤ 1000) (hn : n ≤ 1000) : PB w (some ⟨G, 0, none⟩) L L As (fun _ => n) cs F := ⟨h.px, by omega, fun _ _ => by show n ≤ _; omega⟩
theorem nega2 (a b : Nat → Int) : nega 2 a b 0 = a 0 * b 0 - a 1 * b 1 ∧ nega 2 a b 1 = a 0 * b 1 + a 1 * b 0 := by
  unfold nega
  simp [S]
  omega
theorem fixX {F : Nat → Nat → Nat} (h : ∀ j, j < 2 → F j = fun i => lif ((fun i => if i = 0 then (0 : Int) else 1) i) (q2 j)) : (F 0 0 = 0 ∧ F 0 1 = 1) ∧ F 1 0 = 0 ∧ F 1 1 = 1 := by
  rw [h 0 (by omega), h 1 (by omega)]
  decide
theorem px_two (w : World) (A0 A1 : Option Addr) (c0 c1 : Nat) (f0 f1 : Nat → Nat) (h0 : FX w A0 2 c0 f0) (h1 : FX w A1 2 c1 f1) : PX (w.alloc (.cells #[.slice A0 2 c0, .slice A1 2 c1] 22)) (some ⟨w.heap.size, 0, none⟩) 2 2 (fun j => if j = 0 then A0 else A1) (fun _ => 2) (fun j => if j = 0 then c0 else c1) (fun j => if j = 0 then f0 else f1) := by
  refine ⟨Nat.le_refl _, fun _ => ⟨_, rfl, fun j hj => ?_⟩, fun j hj => ?_⟩
  · rw [Addr.add_lit, Nat.zero_add]
    rcases (show j = 0 ∨ j = 1 by omega) with rfl | rfl <;> simp
  · rcases (show j = 0 ∨ j = 1 by omega) with rfl | rfl
    · exact h0.ext ((Ext.refl w).alloc _)
    · exact h1.ext ((Ext.refl w).alloc _)
/-- Two lists of two words, laid one behind the other, and what holds them. -/
theorem px_laid (w : World) (a b c d : Nat) (za zb zc zd : Int) (ha : za = a) (hb : zb = b) (hc : zc = c) (hd : zd = d) : PX (((w.alloc (.cells #[.int .u64 za, .int .u64 zb] 79)).alloc (.cells #[.int .u64 zc, .int .u64 zd] 79)).alloc (.cells #[.slice (some ⟨w.heap.size, 0, none⟩) 2 2, .slice (some ⟨w.heap.size + 1, 0, none⟩) 2 2] 22)) (some ⟨w.heap.size + 1 + 1, 0, none⟩) 2 2 (fun j => if j = 0 then some ⟨w.heap.size, 0, none⟩ else some ⟨w.heap.size + 1, 0, none⟩) (fun _ => 2) (fun j => if j = 0 then 2 else 2) (fun j => if j = 0 then (fun i => if i = 0 then a else b) else (fun i => if i = 0 then c else d)) := by
  have h1 := fx_two (w.alloc (.cells #[.int .u64 za, .int .u64 zb] 79)) c d zc zd hc hd
  rw [show (w.alloc (.cells #[.int .u64 za, .int .u64 zb] 79)).heap.size = w.heap.size + 1 by simp] at h1
  have h := px_two ((w.alloc (.cells #[.int .u64 za, .int .u64 zb] 79)).alloc (.cells #[.int .u64 zc, .int .u64 zd] 79)) (some ⟨w.heap.size, 0, none⟩) (some ⟨w.heap.size + 1, 0, none⟩) 2 2 _ _ ((fx_two w a b za zb ha hb).ext ((Ext.refl _).alloc _)) h1
  rw [show ((w.alloc (.cells #[.int .u64 za, .int .u64 zb] 79)).alloc (.cells #[.int .u64 zc, .int .u64 zd] 79)).heap.size = w.heap.size + 1 + 1 by simp] at h
  exact h
set_option maxHeartbeats 4000000 in
theorem fixed5_any (w : World) (hT : Tabs w) : Calls Tryd.prog 15 #[] w fun e w' => e = .returned (.bool true) ∧ Ext w w' := by
  have HT := Lib.hid hT
  clear hT
  go_enter Tryd.func15, Tryd.ntmps15
  go_wp2_with fail
  have ka : Ext w (w.alloc (.cells #[.int .u64 5, .int .u64 13] 79)) := (Ext.refl w).alloc _
  have hq : FX (w.alloc (.cells #[.int .u64 5, .int .u64 13] 79)) (some ⟨w.heap.size, 0, none⟩) 2 2 q2 := fx_two w 5 13 5 13 rfl rfl
  refine (ringNew_any 2 (some ⟨w.heap.size, 0, none⟩) 2 2 q2 _ (by omega) (by omega) (by omega) hq (Lib.hid (all_two (by decide) (by decide))) (HT.out.ext ka)).mono ?_
  rintro ee w1 (⟨h, _⟩ | ⟨_, r, p, a, e, rfl, hR, k1⟩)
  · exact absurd row2 h
  rw [show (2 : Int).toNat = 2 from rfl] at hR
  have HR := Lib.hid hR
  clear hR hq
  have kw1 := ka.trans k1
  go_wp2_with fail
  have kb : Ext w1 (w1.alloc (.cells #[.int .i64 0, .int .i64 1] 2)) := (Ext.refl w1).alloc _
  refine (rLift_any r 2 2 q2 p a e (some ⟨w1.heap.size, 0, none⟩) 2 1 _ _ (HR.out.ext kb) (by omega) (vx_two w1 0 1) (Lib.hid (all_two (by decide) (by decide)))).mono ?_
  rintro ee w2 ⟨G, As, cs, F, rfl, hpm, hF, k2⟩
  have kw2 := kb.trans k2
  obtain ⟨⟨F00, F01⟩, F10, F11⟩ := fixX hF.out
  have HF := Lib.hid (show (F 0 0 = 0 ∧ F 0 1 = 1) ∧ F 1 0 = 0 ∧ F 1 1 = 1 from ⟨⟨F00, F01⟩, F10, F11⟩)
  have HEl := Lib.hid (show El 2 2 q2 2 (fun _ => 2) F from ⟨by omega, by omega, all_two ⟨rfl, all_two (by rw [F00]; decide) (by rw [F01]; decide)⟩ ⟨rfl, all_two (by rw [F10]; decide) (by rw [F11]; decide)⟩⟩)
  have HP := Lib.hid (hpm.pb (by omega) (by omega))
  clear F00 F01 F10 F11 hF hpm k2 kb
  go_wp2_with fail
  have kc : Ext w2 (w2.alloc (.cells #[.slice (some ⟨G, 0, none⟩) 2 2] 25)) := (Ext.refl w2).alloc _
  have x0 : (w2.alloc (.cells #[.slice (some ⟨G, 0, none⟩) 2 2] 25)).cell? ⟨w2.heap.size, 0, none⟩ = some (.slice (some ⟨G, 0, none⟩) 2 2) := one_at _ _ _
  refine (rMul_any r 2 2 q2 p a e _ _ 2 2 2 As As (fun _ => 2) cs (fun _ => 2) cs F F _ (HR.out.ext (kw2.trans kc)) (Lib.hid (HP.out.ext kc)) (Lib.hid (HP.out.ext kc)) ⟨HEl.out, HEl.out⟩ (all_two sq5 sq13)).mono ?_
  rintro ee w3 ⟨G3, As3, cs3, Y, rfl, hpm3, hY, k3⟩
  have kw3 := kc.trans k3
  have HY := Lib.hid (show (Y 0 0 = 4 ∧ Y 0 1 = 0) ∧ Y 1 0 = 12 ∧ Y 1 1 = 0 by
    obtain ⟨⟨f00, f01⟩, f10, f11⟩ := HF.out
    have y0 := hY.out 0 (by omega)
    have y1 := hY.out 1 (by omega)
    have n0 := nega2 (fun k => (F 0 k : Int)) (fun k => (F 0 k : Int))
    have n1 := nega2 (fun k => (F 1 k : Int)) (fun k => (F 1 k : Int))
    simp only [f00, f01] at n0
    simp only [f10, f11] at n1
    refine ⟨⟨?_, ?_⟩, ?_, ?_⟩
    · have h := (y0 0 (by omega)).2; rw [n0.1] at h; exact M.lt (q := 5) (h.trans (by unfold M; decide)) (y0 0 (by omega)).1 (by omega)
    · have h := (y0 1 (by omega)).2; rw [n0.2] at h; exact M.lt (q := 5) (h.trans (by unfold M; decide)) (y0 1 (by omega)).1 (by omega)
    · have h := (y1 0 (by omega)).2; rw [n1.1] at h; exact M.lt (q := 13) (h.trans (by unfold M; decide)) (y1 0 (by omega)).1 (by omega)
    · have h := (y1 1 (by omega)).2; rw [n1.2] at h; exact M.lt (q := 13) (h.trans (by unfold M; decide)) (y1 1 (by omega)).1 (by omega))
  have HP3 := Lib.hid hpm3
  have x3 := cell_ext k3 x0
  clear hY hpm3 k3 kc x0
  have kd : Ext w3 (w3.alloc (.cells #[.slice (some ⟨G3, 0, none⟩) 2 2] 25)) := (Ext.refl w3).alloc _
  have x4 := cell_ext kd x3
  have y4 : (w3.alloc (.cells #[.slice (some ⟨G3, 0, none⟩) 2 2] 25)).cell? ⟨w3.heap.size, 0, none⟩ = some (.slice (some ⟨G3, 0, none⟩) 2 2) := one_at _ _ _
  go_wp2_with fail
  refine (rTurn_any r 2 2 q2 p a e _ 2 2 As (fun _ => 2) cs F 3 _ (HR.out.ext (kw2.trans (kw3.trans kd))) (Lib.hid (HP.out.ext (kw3.trans kd))) HEl.out (by omega) (by omega) (by omega)).mono ?_
  rintro ee w4 ⟨G4, As4, cs4, Z, rfl, hpm4, hZ, k4⟩
  have kw4 := kd.trans k4
  have HZ := Lib.hid (show (Z 0 0 = 0 ∧ Z 0 1 = 4) ∧ Z 1 0 = 0 ∧ Z 1 1 = 12 by
    obtain ⟨⟨f00, f01⟩, f10, f11⟩ := HF.out
    rw [hZ.out 0 (by omega), hZ.out 1 (by omega)]
    have hk : kM 3 2 = 3 := by decide
    simp only [hk, turnUp, f00, f01, f10, f11]
    decide)
  have HP4 := Lib.hid hpm4
  have y5 := cell_ext k4 y4
  clear hZ hpm4 k4 kd x4 y4 x3
  have ke : Ext w4 (w4.alloc (.cells #[.slice (some ⟨G4, 0, none⟩) 2 2] 25)) := (Ext.refl w4).alloc _
  have y6 := cell_ext ke y5
  have z6 : (w4.alloc (.cells #[.slice (some ⟨G4, 0, none⟩) 2 2] 25)).cell? ⟨w4.heap.size, 0, none⟩ = some (.slice (some ⟨G4, 0, none⟩) 2 2) := one_at _ _ _
  have hsz : (w4.alloc (.cells #[.slice (some ⟨G4, 0, none⟩) 2 2] 25)).heap.size = w4.heap.size + 1 := by simp
  go_wp2_with fail
  generalize w4.alloc (.cells #[.slice (some ⟨G4, 0, none⟩) 2 2] 25) = V at *
  rw [← hsz]
  have kf : Ext V (((V.alloc (.cells #[.int .u64 4, .int .u64 0] 79)).alloc (.cells #[.int .u64 12, .int .u64 0] 79)).alloc (.cells #[.slice (some ⟨V.heap.size, 0, none⟩) 2 2, .slice (some ⟨V.heap.size + 1, 0, none⟩) 2 2] 22)) := (((Ext.refl V).alloc _).alloc _).alloc _
  refine (same5_yes (some ⟨G3, 0, none⟩) _ 2 2 2 As3 _ (fun _ => 2) cs3 _ Y _ _ (HP3.out.px.ext (kw4.trans (ke.trans kf))) (px_laid V 4 0 12 0 4 0 12 0 rfl rfl rfl rfl) (by omega) (Lib.hid fun _ _ => by show (2 : Nat) ≤ 100000; omega) (Lib.hid (all_two (all_two HY.out.1.1 HY.out.1.2) (all_two HY.out.2.1 HY.out.2.2)))).mono ?_
  rintro ee w5 ⟨rfl, k5⟩
  have z7 := cell_ext (kf.trans k5) z6
  have kw5 := kf.trans k5
  go_wp2_with fail
  have kg : Ext w5 (((w5.alloc (.cells #[.int .u64 0, .int .u64 4] 79)).alloc (.cells #[.int .u64 0, .int .u64 12] 79)).alloc (.cells #[.slice (some ⟨w5.heap.size, 0, none⟩) 2 2, .slice (some ⟨w5.heap.size + 1, 0, none⟩) 2 2] 22)) := (((Ext.refl w5).alloc _).alloc _).alloc _
  refine (same5_yes (some ⟨G4, 0, none⟩) _ 2 2 2 As4 _ (fun _ => 2) cs4 _ Z _ _ (HP4.out.px.ext (ke.trans (kw5.trans kg))) (px_laid w5 0 4 0 12 0 4 0 12 rfl rfl rfl rfl) (by omega) (Lib.hid fun _ _ => by show (2 : Nat) ≤ 100000; omega) (Lib.hid (all_two (all_two HZ.out.1.1 HZ.out.1.2) (all_two HZ.out.2.1 HZ.out.2.2)))).mono ?_
  rintro ee w6 ⟨rfl, k6⟩
  go_wp2
  go_ret
  exact ⟨rfl, kw1.trans (kw2.trans (kw3.trans (kw4.trans (ke.trans (kw5.trans (kg.trans k6))))))⟩
set_option maxHeartbeats 2000000 in
/-- The law RingNil walked. -/
theorem ringNil_walk (A : Option Addr) (L c : Nat) (k : Int) (w : World) (k0 : -9223372036854775808 ≤ k) (k1 : k < 9223372036854775808) (hT : Tabs w) : Calls Tryd.prog 8 #[.agg #[.slice A L c], .int .i64 k] w fun e w' => e = .returned (.bool true) ∧ Ext w w' := by
  have HT := Lib.hid hT
  clear hT
  have ka : Ext w (w.alloc (.cells #[.slice A L c] 25)) := (Ext.refl w).alloc _
  have xa : (w.alloc (.cells #[.slice A L c] 25)).cell? ⟨w.heap.size, 0, none⟩ = some (.slice A L c) := one_at _ _ _
  go_enter Tryd.func8, Tryd.ntmps8
  go_wp2_with fail
  refine (fixed5_any _ (HT.out.ext ka)).mono ?_
  rintro ee w1 ⟨rfl, k1⟩
  have x1 := cell_ext k1 xa
  have e1 := ka.trans k1
  clear k1 ka xa
  go_wp2_with fail
  refine (Level_nil A L c w1).mono ?_
  rintro ee w2 ⟨rfl, k2⟩
  have x2 := cell_ext k2 x1
  have e2 := e1.trans k2
  clear k2 x1 e1
  go_wp2_with fail
  refine (rAdd_nil A A L c L c w2).mono ?_
  rintro ee w3 ⟨rfl, k3⟩
  have x3 := cell_ext k3 x2
  have e3 := e2.trans k3
  have f3 : Ext w (w3.alloc (.cells #[.slice none 0 0] 25)) := e3.alloc _
  have y3 := cell_ext ((Ext.refl w3).alloc (.cells #[.slice none 0 0] 25)) x3
  clear k3 x2
  go_wp2_with fail
  refine (rSub_nil A A L c L c _).mono ?_
  rintro ee w4 ⟨rfl, k4⟩
  have x4 := cell_ext k4 y3
  have e4 := f3.trans k4
  have f4 : Ext w (w4.alloc (.cells #[.slice none 0 0] 25)) := e4.alloc _
  have y4 := cell_ext ((Ext.refl w4).alloc (.cells #[.slice none 0 0] 25)) x4
  clear k4 y3
  go_wp2_with fail
  refine (rNeg_nil A L c _).mono ?_
  rintro ee w5 ⟨rfl, k5⟩
  have x5 := cell_ext k5 y4
  have e5 := f4.trans k5
  have f5 : Ext w (w5.alloc (.cells #[.slice none 0 0] 25)) := e5.alloc _
  have y5 := cell_ext ((Ext.refl w5).alloc (.cells #[.slice none 0 0] 25)) x5
  clear k5 y4
  go_wp2_with fail
  refine (rMul_nil A A L c L c _).mono ?_
  rintro ee w6 ⟨rfl, k6⟩
  have x6 := cell_ext k6 y5
  have e6 := f5.trans k6
  have f6 : Ext w (w6.alloc (.cells #[.slice none 0 0] 25)) := e6.alloc _
  have y6 := cell_ext ((Ext.refl w6).alloc (.cells #[.slice none 0 0] 25)) x6
  clear k6 y5
  go_wp2_with fail
  have hturn : Calls Tryd.prog 32 #[.pointer none, .agg #[.slice A L c], .int .i64 k] (w6.alloc (.cells #[.slice none 0 0] 25)) (Errs (w6.alloc (.cells #[.slice none 0 0] 25)) 1) := by
    by_cases ho : k % 2 = 0
    · exact rTurn_even none A L c k _ k0 k1 ho
    · exact rTurn_nil A L c k _ k0 k1 ho
  refine hturn.mono ?_
  rintro ee w7 ⟨rfl, k7⟩
  have x7 := cell_ext k7 y6
  have e7 := f6.trans k7
  have f7 : Ext w (w7.alloc (.cells #[.slice none 0 0] 25)) := e7.alloc _
  have y7 := cell_ext ((Ext.refl w7).alloc (.cells #[.slice none 0 0] 25)) x7
  clear k7 y6
  go_wp2_with fail
  refine (rDrop_nil A L c k _).mono ?_
  rintro ee w8 ⟨rfl, k8⟩
  have x8 := cell_ext k8 y7
  have e8 := f7.trans k8
  have f8 : Ext w (w8.alloc (.cells #[.slice none 0 0] 25)) := e8.alloc _
  have y8 := cell_ext ((Ext.refl w8).alloc (.cells #[.slice none 0 0] 25)) x8
  clear k8 y7
  go_wp2_with fail
  refine (rLift_nil none 0 0 k _ k0 k1).mono ?_
  rintro ee w9 ⟨rfl, k9⟩
  have e9 := f8.trans k9
  clear k9 y8
  go_wp2
  go_ret
  exact ⟨rfl, e9.alloc _⟩
theorem ringNilX {A : Option Addr} {L c : Nat} {As : Nat → Option Addr} {ns cs : Nat → Nat} {f : Nat → Nat → Nat} {k : Int} (w : World) (hP : Hid (PW w A L c As ns cs f)) (k0 : -9223372036854775808 ≤ k) (k1 : k < 9223372036854775808) (hT : Tabs w) : Calls Tryd.prog 8 #[.agg #[.slice A L c], .int .i64 k] w fun e w' => e = .returned (.bool true) ∧ Ext w w' := ringNil_walk A L c k w k0 k1 hT
end Go.Proofs.YtpgcapobbmbchaaDoor

/-
  What the inner calls of the laws of layer 5 answer: few, made; which rings and elements there are by the document.
-/
namespace Go.Proofs.YtpgcapobbmbchaaDoor
open Go.RowKit
set_option linter.unusedVariables false
set_option maxRecDepth 100000

/-- There is not too much. -/
def FewP (n : Int) (Lp m : Nat) (L : Nat → Nat) (ns : Nat → Nat → Nat) : Prop := n ≤ 32 ∧ Lp ≤ 30 ∧ ∀ j, j < m → L j ≤ 30 ∧ ∀ i, i < L j → ns j i ≤ 100
set_option maxHeartbeats 4000000 in
theorem few5_any (n : Int) (B : Option Addr) (Lp pc : Nat) (E : Option Addr) (m mc : Nat) (A : Nat → Option Addr) (L c : Nat → Nat) (As : Nat → Nat → Option Addr) (ns cs : Nat → Nat → Nat) (w : World) (n0 : -9223372036854775808 ≤ n) (n1 : n < 9223372036854775808) (hLp : Lp ≤ maxLen) (hm : m ≤ 1000)
    (hE : Hid (0 < m → ∃ ad, E = some ad ∧ ∀ j, j < m → w.cell? (ad.add j) = some (.slice (A j) (L j) (c j))))
    (hX : Hid (∀ j, j < m → (0 < L j → ∃ ad, A j = some ad ∧ ∀ i, i < L j → w.cell? (ad.add i) = some (.slice (As j i) (ns j i) (cs j i))) ∧ L j ≤ maxLen ∧ ∀ i, i < L j → ns j i ≤ maxLen)) :
    Calls Tryd.prog 16 #[.int .i64 n, .slice B Lp pc, .slice E m mc] w (Tells w (FewP n Lp m L ns)) := by
  have hmx : maxLen = 9223372036854775807 := rfl
  by_cases g0 : 32 < n
  · have HN := Lib.hid (show ¬ FewP n Lp m L ns from fun h => by have := h.1; omega)
    go_enter Tryd.func16, Tryd.ntmps16
    go_wp2
    go_ret
    exact Tells.no HN.out (Ext.refl _)
  by_cases g1 : 30 < Lp
  · have HN := Lib.hid (show ¬ FewP n Lp m L ns from fun h => by have := h.2.1; omega)
    go_enter Tryd.func16, Tryd.ntmps16
    go_wp2
    go_ret
    exact Tells.no HN.out (Ext.refl _)
  go_enter Tryd.func16, Tryd.ntmps16
  go_wp2
  go_loopw [20] (fun i wr => ∃ k : Nat, k ≤ m ∧ i = .int .i64 (k : Int) ∧ Hid (∀ j, j < k → L j ≤ 30 ∧ ∀ i, i < L j → ns j i ≤ 100) ∧ Ext w wr) (fun i _ => m - (intOf i).toNat)
  case atStart => exact ⟨0, by omega, rfl, Lib.hid fun i hi => by omega, Ext.refl _⟩
  case round =>
    obtain ⟨k, hk, rfl, hno, kr⟩ := hrel
    by_cases hlt : k < m
    · obtain ⟨ad, rfl, hc⟩ := hE.out (by omega)
      have hcell := cell_ext kr (hc k hlt)
      obtain ⟨h1, h2, h3⟩ := hX.out k hlt
      have H1 := Lib.hid h1
      have H3 := Lib.hid h3
      clear hc h1 h3
      by_cases g2 : 30 < L k
      · have HN := Lib.hid (show ¬ FewP n Lp m L ns from fun h => by have := (h.2.2 k hlt).1; omega)
        go_wp2
        go_ret
        exact Tells.no HN.out (kr.alloc _)
      have kV : Ext wr (wr.alloc (.cells #[.slice (A k) (L k) (c k)] 25)) := (Ext.refl wr).alloc _
      go_wp2
      generalize wr.alloc (.cells #[.slice (A k) (L k) (c k)] 25) = V at *
      go_loopw [31] (fun i wz => ∃ j : Nat, j ≤ L k ∧ i = .int .i64 (j : Int) ∧ Hid (∀ i, i < j → ns k i ≤ 100) ∧ wz = V) (fun i _ => L k - (intOf i).toNat)
      case atStart => exact ⟨0, by omega, rfl, Lib.hid fun i hi => by omega, rfl⟩
      case round =>
        obtain ⟨j, hj, rfl, hno2, rfl⟩ := hrel
        by_cases hlt2 : j < L k
        · obtain ⟨ad2, e2, hc2⟩ := H1.out (by omega)
          have hcell2 := cell_ext (kr.trans kV) (hc2 j hlt2)
          have hnl := H3.out j hlt2
          rw [e2]
          clear hc2
          by_cases g3 : 100 < ns k j
          · have HN := Lib.hid (show ¬ FewP n Lp m L ns from fun h => by have := (h.2.2 k hlt).2 j hlt2; omega)
            go_wp2
            go_ret
            exact Tells.no HN.out (kr.trans kV)
          · have HE := Lib.hid (show ∀ i, i < j + 1 → ns k i ≤ 100 from fun i hi => by
              by_cases h : i = j
              · subst h; omega
              · exact hno2.out i (by omega))
            go_wp2
            exact ⟨⟨j + 1, by omega, by go_num, HE, by trivial⟩, by simp [intOf]; omega⟩
        · have HE := Lib.hid (show ∀ i, i < k + 1 → L i ≤ 30 ∧ ∀ l, l < L i → ns i l ≤ 100 from fun i hi => by
            by_cases h : i = k
            · subst h; exact ⟨by omega, fun l hl => hno2.out l (by omega)⟩
            · exact hno.out i (by omega))
          go_wp2
          exact ⟨⟨k + 1, by omega, by go_num, HE, kr.trans kV⟩, by simp [intOf]; omega⟩
    · have HE := Lib.hid (show FewP n Lp m L ns from ⟨by omega, by omega, fun j hj => hno.out j (by omega)⟩)
      go_wp2
      go_ret
      exact Tells.yes HE.out kr
set_option maxHeartbeats 4000000 in
/-- The document's answer: may there be a ring? -/
theorem chk5_any (n : Int) (A : Option Addr) (L c : Nat) (q : Nat → Nat) (w : World) (h0 : -9223372036854775808 ≤ n) (hn1 : n ≤ 32) (hL : L ≤ 100000) (hX : FX w A L c q) (hq : Hid (∀ j, j < L → q j < 18446744073709551616)) :
    Calls Tryd.prog 18 #[.int .i64 n, .slice A L c] w fun ee w' => (RowP n L q ∧ ee = .returned (.int .i64 0) ∨ ¬ RowP n L q ∧ ee = .returned (.int .i64 1)) ∧ Ext w w' := by
  have HX := Lib.hid hX
  clear hX
  by_cases g0 : L = 0
  · subst g0
    have HN := Lib.hid (show ¬ RowP n 0 q from fun h => by have := h.1; omega)
    go_enter Tryd.func18, Tryd.ntmps18
    go_wp2
    go_ret
    exact ⟨.inr ⟨HN.out, rfl⟩, Ext.refl _⟩
  by_cases g1 : 24 < L
  · have HN := Lib.hid (show ¬ RowP n L q from fun h => by have := h.2.1; omega)
    go_enter Tryd.func18, Tryd.ntmps18
    go_wp2
    go_ret
    exact ⟨.inr ⟨HN.out, rfl⟩, Ext.refl _⟩
  go_enter Tryd.func18, Tryd.ntmps18
  go_wp2
  go_loopw [19] (fun i wr => ∃ k : Nat, k ≤ L ∧ i = .int .i64 (k : Int) ∧ Hid (∀ j, j < k → FitP n (q j) ∧ ∀ i, i < j → q i ≠ q j) ∧ Ext w wr) (fun i _ => L - (intOf i).toNat)
  case atStart => exact ⟨0, by omega, rfl, Lib.hid fun i hi => by omega, Ext.refl _⟩
  case round =>
    obtain ⟨k, hk, rfl, hno, kr⟩ := hrel
    by_cases hlt : k < L
    · have hx := HX.out.ext kr
      obtain ⟨ad, rfl, hc⟩ := hx.cells (by omega)
      have hcell := hc k hlt
      have hql := hq.out k hlt
      have hroom := hx.room
      clear hc hx
      go_wp2_with fail
      refine (chk0_any n (q k) wr h0 hn1 hql).mono ?_
      rintro ee w2 ⟨z, hz, rfl, k2⟩
      rcases hz with ⟨rfl, hfit⟩ | ⟨rfl, hfit⟩
      case inr =>
        have HN := Lib.hid (show ¬ RowP n L q from fun h => hfit (h.2.2 k hlt).1)
        clear hfit
        go_wp2
        go_ret
        exact ⟨.inr ⟨HN.out, rfl⟩, kr.trans k2⟩
      have HF := Lib.hid hfit
      clear hfit
      have i0 : (0 : Int) ≤ (k : Int) := by omega
      have i1 : (k : Int) ≤ (L : Int) := by omega
      have i2 : (k : Int) ≤ (c : Int) := by omega
      go_wp2
      go_loopw [32] (fun i wz => ∃ j : Nat, j ≤ k ∧ i = .int .i64 (j : Int) ∧ Hid (∀ i, i < j → q i ≠ q k) ∧ wz = w2) (fun i _ => k - (intOf i).toNat)
      case atStart => exact ⟨0, by omega, rfl, Lib.hid fun i hi => by omega, rfl⟩
      case round =>
        obtain ⟨j, hj, rfl, hno2, rfl⟩ := hrel
        by_cases hlt2 : j < k
        · obtain ⟨ad2, e2, hc2⟩ := (HX.out.ext (kr.trans k2)).cells (by omega)
          have hcell2 := hc2 j (by omega)
          injection e2 with e2
          subst e2
          clear hc2
          by_cases g3 : q j = q k
          · have HN := Lib.hid (show ¬ RowP n L q from fun h => (h.2.2 k hlt).2 j hlt2 g3)
            rw [g3] at hcell2
            clear g3
            generalize q k = qk at *
            go_wp2
            go_ret
            exact ⟨.inr ⟨HN.out, rfl⟩, kr.trans k2⟩
          · have HE := Lib.hid (show ∀ i, i < j + 1 → q i ≠ q k from fun i hi => by
              by_cases h : i = j
              · subst h; exact g3
              · exact hno2.out i (by omega))
            have hne : ((q j : Int) == (q k : Int)) = false := by simp; omega
            clear g3
            go_wp2
            exact ⟨⟨j + 1, by omega, by go_num, HE, by trivial⟩, by simp [intOf]; omega⟩
        · have HE := Lib.hid (show ∀ j, j < k + 1 → FitP n (q j) ∧ ∀ i, i < j → q i ≠ q j from fun i hi => by
            by_cases h : i = k
            · subst h; exact ⟨HF.out, fun l hl => hno2.out l (by omega)⟩
            · exact hno.out i (by omega))
          go_wp2
          exact ⟨⟨k + 1, by omega, by go_num, HE, kr.trans k2⟩, by simp [intOf]; omega⟩
    · have HE := Lib.hid (show RowP n L q from ⟨by omega, by omega, fun j hj => hno.out j (by omega)⟩)
      go_wp2
      go_ret
      exact ⟨.inl ⟨HE.out, rfl⟩, kr⟩
theorem fits_any (A : Option Addr) (N c q : Nat) (n : Int) (f : Nat → Nat) (w : World) (hX : FX w A N c f) (hN : N ≤ 100000) :
    Calls Tryd.prog 66 #[.slice A N c, .int .i64 n, .int .u64 (q : Int)] w (Tells w ((N : Int) = n ∧ ∀ i, i < N → f i < q)) := by
  by_cases g0 : (N : Int) = n
  case neg =>
    have HN := Lib.hid (show ¬ ((N : Int) = n ∧ ∀ i, i < N → f i < q) from fun h => g0 h.1)
    have hne : ((N : Int) != n) = true := by simpa using g0
    clear g0
    go_enter Tryd.func66, Tryd.ntmps66
    go_wp2
    go_ret
    exact Tells.no HN.out (Ext.refl _)
  subst g0
  have hne : ((N : Int) != (N : Int)) = false := by simp
  go_enter Tryd.func66, Tryd.ntmps66
  go_wp2
  go_loop [15] (fun i => ∃ m : Nat, m ≤ N ∧ i = .int .i64 (m : Int) ∧ Hid (∀ i, i < m → f i < q)) (fun i => N - (intOf i).toNat)
  case atStart => exact ⟨0, by omega, rfl, Lib.hid fun i hi => by omega⟩
  case round =>
    obtain ⟨m, hm, rfl, hno⟩ := hrel
    by_cases hlt : m < N
    · obtain ⟨ad, rfl, hc⟩ := hX.cells (by omega)
      have hcell := hc m hlt
      clear hc
      by_cases he : f m < q
      · have HE := Lib.hid (show ∀ i, i < m + 1 → f i < q from fun i hi => by
          by_cases h : i = m
          · rw [h]; exact he
          · exact hno.out i (by omega))
        generalize f m = y at *
        go_wp2
        exact ⟨⟨m + 1, by omega, by go_num, HE⟩, by simp [intOf]; omega⟩
      · have HE := Lib.hid (show ¬ ∀ i, i < N → f i < q from fun h => he (h m hlt))
        generalize f m = y at *
        go_wp2
        go_ret
        exact Tells.no HE.out (Ext.refl _)
    · have HE := Lib.hid (show ∀ i, i < N → f i < q from fun i hi => hno.out i (by omega))
      go_wp2
      go_ret
      exact Tells.yes HE.out (Ext.refl _)
set_option maxHeartbeats 4000000 in
theorem element_any (n : Nat) (B : Option Addr) (M bc : Nat) (q : Nat → Nat) (A : Option Addr) (L c : Nat) (As : Nat → Option Addr) (ns cs : Nat → Nat) (f : Nat → Nat → Nat) (w : World) (hQ : FX w B M bc q) (hM : M ≤ 1000) (hX : PX w A L c As ns cs f) (hL : L ≤ 1000) (hn : Hid (∀ j, j < L → ns j ≤ 100000)) :
    Calls Tryd.prog 20 #[.int .i64 (n : Int), .slice B M bc, .agg #[.slice A L c]] w (Tells w (El n M q L ns f)) := by
  have kV : Ext w (w.alloc (.cells #[.slice A L c] 25)) := (Ext.refl w).alloc _
  have HX := Lib.hid (hX.ext kV)
  have HQ := Lib.hid (hQ.ext kV)
  have x0 : (w.alloc (.cells #[.slice A L c] 25)).cell? ⟨w.heap.size, 0, none⟩ = some (.slice A L c) := one_at _ _ _
  clear hX hQ
  by_cases g0 : L = 0
  · subst g0
    have HE := Lib.hid (show ¬ El n M q 0 ns f from fun h => by have := h.1; omega)
    go_enter Tryd.func20, Tryd.ntmps20
    go_wp2
    go_ret
    exact Tells.no HE.out kV
  by_cases g1 : M < L
  · have HE := Lib.hid (show ¬ El n M q L ns f from fun h => by have := h.2.1; omega)
    go_enter Tryd.func20, Tryd.ntmps20
    go_wp2
    go_ret
    exact Tells.no HE.out kV
  go_enter Tryd.func20, Tryd.ntmps20
  go_wp2
  generalize w.alloc (.cells #[.slice A L c] 25) = V at *
  go_loopw [24] (fun i wr => ∃ m : Nat, m ≤ L ∧ i = .int .i64 (m : Int) ∧ Hid (∀ j, j < m → ns j = n ∧ ∀ i, i < ns j → f j i < q j) ∧ Ext V wr) (fun i _ => L - (intOf i).toNat)
  case atStart => exact ⟨0, by omega, rfl, Lib.hid fun i hi => by omega, Ext.refl V⟩
  case round =>
    obtain ⟨m, hm, rfl, hno, kr⟩ := hrel
    by_cases hlt : m < L
    · obtain ⟨ad, rfl, hc⟩ := (HX.out.ext kr).cells (by omega)
      obtain ⟨ad2, rfl, hc2⟩ := (HQ.out.ext kr).cells (by omega)
      have hcell := hc m hlt
      have hcell2 := hc2 m (by omega)
      have HXm := Lib.hid ((HX.out.ext kr).rows m hlt)
      have hnm := hn.out m hlt
      clear hc hc2
      have i0 : (0 : Int) ≤ (m : Int) := by omega
      have i1 : (m : Int) < (M : Int) := by omega
      go_wp2_with fail
      refine (fits_any (As m) (ns m) (cs m) (q m) (n : Int) (f m) wr HXm.out hnm).mono ?_
      rintro ee w2 (⟨hy, rfl, k2⟩ | ⟨hy, rfl, k2⟩)
      · have HE := Lib.hid (show ∀ j, j < m + 1 → ns j = n ∧ ∀ i, i < ns j → f j i < q j from fun j hj => by
          by_cases h : j = m
          · subst h; exact ⟨by have := hy.1; omega, hy.2⟩
          · exact hno.out j (by omega))
        clear hy
        go_wp2
        exact ⟨⟨m + 1, by omega, by go_num, HE, kr.trans k2⟩, by simp [intOf]; omega⟩
      · have HE := Lib.hid (show ¬ El n M q L ns f from fun h => hy ⟨by have := (h.2.2 m hlt).1; omega, (h.2.2 m hlt).2⟩)
        clear hy
        go_wp2
        go_ret
        exact Tells.no HE.out (kV.trans (kr.trans k2))
    · have HE := Lib.hid (show El n M q L ns f from ⟨by omega, by omega, fun j hj => hno.out j (by omega)⟩)
      go_wp2
      go_ret
      exact Tells.yes HE.out (kV.trans kr)
/-- What made answers. -/
def MadeP (w : World) (P : Prop) (n L : Nat) (q : Nat → Nat) (ee : Ending) (w' : World) : Prop :=
  (P ∧ ∃ (r : Nat) (p : Nat → Nat) (a e : Nat → Nat → Nat), ee = .returned (.tuple #[.pointer (some ⟨r, 0, none⟩), .bool true]) ∧ Rg w' r n L q p a e ∧ Ext w w') ∨ (¬ P ∧ ee = .returned (.tuple #[.pointer none, .bool false]) ∧ Ext w w')
set_option maxHeartbeats 4000000 in
theorem made_any (n : Int) (B : Option Addr) (Lp pc : Nat) (q : Nat → Nat) (E : Option Addr) (m mc : Nat) (A : Nat → Option Addr) (L c : Nat → Nat) (As : Nat → Nat → Option Addr) (ns cs : Nat → Nat → Nat) (w : World) (n0 : -9223372036854775808 ≤ n) (n1 : n < 9223372036854775808) (hLp : Lp ≤ maxLen) (hm : m ≤ 1000)
    (hQ : FX w B Lp pc q) (hq : Hid (∀ j, j < Lp → q j < 18446744073709551616)) (hT : Tabs w)
    (hE : Hid (0 < m → ∃ ad, E = some ad ∧ ∀ j, j < m → w.cell? (ad.add j) = some (.slice (A j) (L j) (c j))))
    (hX : Hid (∀ j, j < m → (0 < L j → ∃ ad, A j = some ad ∧ ∀ i, i < L j → w.cell? (ad.add i) = some (.slice (As j i) (ns j i) (cs j i))) ∧ L j ≤ maxLen ∧ ∀ i, i < L j → ns j i ≤ maxLen)) :
    Calls Tryd.prog 21 #[.int .i64 n, .slice B Lp pc, .slice E m mc] w (MadeP w (FewP n Lp m L ns ∧ RowP n Lp q) n.toNat Lp q) := by
  have HQ := Lib.hid hQ
  have HT := Lib.hid hT
  clear hQ hT
  go_enter Tryd.func21, Tryd.ntmps21
  go_wp2_with fail
  refine (few5_any n B Lp pc E m mc A L c As ns cs w n0 n1 hLp hm hE hX).mono ?_
  rintro ee w1 (⟨hf, rfl, k1⟩ | ⟨hf, rfl, k1⟩)
  case inr =>
    have HF := Lib.hid hf
    clear hf
    go_wp2
    go_ret2
    exact .inr ⟨fun h => HF.out h.1, rfl, k1⟩
  have hn32 := hf.1
  have hL30 := hf.2.1
  have HF := Lib.hid hf
  clear hf
  go_wp2_with fail
  refine (chk5_any n B Lp pc q w1 n0 hn32 (by omega) (HQ.out.ext k1) hq).mono ?_
  rintro ee w2 ⟨⟨hR, rfl⟩ | ⟨hR, rfl⟩, k2⟩
  case inr =>
    have HR := Lib.hid hR
    clear hR
    go_wp2
    go_ret2
    exact .inr ⟨fun h => HR.out h.2, rfl, k1.trans k2⟩
  have HR := Lib.hid hR
  clear hR
  go_wp2_with fail
  refine (ringNew_any n B Lp pc q w2 n0 hn32 (by omega) (HQ.out.ext (k1.trans k2)) hq (HT.out.ext (k1.trans k2))).mono ?_
  rintro ee w3 (⟨h, _⟩ | ⟨_, r, p, a, e, rfl, hRg, k3⟩)
  · exact absurd HR.out h
  have HRG := Lib.hid hRg
  clear hRg
  go_wp2
  go_ret2
  exact .inl ⟨⟨HF.out, HR.out⟩, r, p, a, e, rfl, HRG.out, k1.trans (k2.trans k3)⟩
end Go.Proofs.YtpgcapobbmbchaaDoor

/-
  What isRow of package crt answers, and what the document says of it.
-/
namespace Go.Proofs.YtpgcapobbmbchaaDoor
open Go.RowKit
set_option linter.unusedVariables false
set_option maxRecDepth 100000

/-- A number that a row may have. -/
def OkQ (x : Nat) : Prop := 3 ≤ x ∧ x < 2305843009213693952 ∧ isS x = true
/-- Is it a row? -/
def RowC (L : Nat) (q : Nat → Nat) : Prop := 0 < L ∧ L ≤ 24 ∧ ∀ j, j < L → OkQ (q j) ∧ ∀ i, i < j → q i ≠ q j
set_option maxHeartbeats 4000000 in
theorem isRow_any (A : Option Addr) (L c : Nat) (q : Nat → Nat) (w : World) (hL : L ≤ 100000) (hX : FX w A L c q) (hq : Hid (∀ j, j < L → q j < 18446744073709551616)) (hT : Tabs w) :
    Calls Tryd.prog 83 #[.slice A L c] w (Tells w (RowC L q)) := by
  have HT := Lib.hid hT
  have HX := Lib.hid hX
  clear hT hX
  by_cases g0 : L = 0
  · subst g0
    have HN := Lib.hid (show ¬ RowC 0 q from fun h => by have := h.1; omega)
    go_enter Tryd.func83, Tryd.ntmps83
    go_wp2
    go_ret
    exact Tells.no HN.out (Ext.refl _)
  have g0b : ((L : Int) == 0) = false := by simp; omega
  by_cases g1 : 24 < L
  · have HN := Lib.hid (show ¬ RowC L q from fun h => by have := h.2.1; omega)
    go_enter Tryd.func83, Tryd.ntmps83
    go_wp2
    go_ret
    exact Tells.no HN.out (Ext.refl _)
  go_enter Tryd.func83, Tryd.ntmps83
  go_wp2
  go_loopw [15] (fun i wr => ∃ k : Nat, k ≤ L ∧ i = .int .i64 (k : Int) ∧ Hid (∀ j, j < k → OkQ (q j) ∧ ∀ i, i < j → q i ≠ q j) ∧ Ext w wr) (fun i _ => L - (intOf i).toNat)
  case atStart => exact ⟨0, by omega, rfl, Lib.hid fun j hj => by omega, Ext.refl _⟩
  case round =>
    obtain ⟨k, hk, rfl, hall, kr⟩ := hrel
    by_cases hlt : k < L
    · have hx := HX.out.ext kr
      obtain ⟨ad, rfl, hc⟩ := hx.cells (by omega)
      have hcell := hc k hlt
      have hql := hq.out k hlt
      have hroom := hx.room
      clear hc
      have HXk := Lib.hid (hx.cut (m := k) (by omega))
      clear hx
      have i0 : (0 : Int) ≤ (k : Int) := by omega
      have i1 : (k : Int) ≤ (L : Int) := by omega
      have i2 : (k : Int) ≤ (c : Int) := by omega
      by_cases h3 : q k < 3
      · have HN := Lib.hid (show ¬ RowC L q from fun h => by have := (h.2.2 k hlt).1.1; omega)
        go_wp2
        go_ret
        exact Tells.no HN.out kr
      by_cases h4 : 2305843009213693952 ≤ q k
      · have HN := Lib.hid (show ¬ RowC L q from fun h => by have := (h.2.2 k hlt).1.2.1; omega)
        have h5 : (2305843009213693952 ≤ (q k : Int)) = True := by simp; omega
        go_wp2
        go_ret
        exact Tells.no HN.out kr
      have h5 : (2305843009213693952 ≤ (q k : Int)) = False := by simp; omega
      have h6 : ((q k : Int) < 3) = False := by simp; omega
      have h7 : decide (2305843009213693952 ≤ (q k : Int)) = false := by simp; omega
      have h8 : decide ((q k : Int) < 3) = false := by simp; omega
      have H34 := Lib.hid (And.intro h3 h4)
      clear h3 h4
      go_wp2_with fail
      refine (contains_any _ k c (q k) q wr HXk.out (by omega)).mono ?_
      rintro ee w1 ⟨b, hb, rfl, rfl⟩
      cases b
      case true =>
        have HN := Lib.hid (show ¬ RowC L q from fun h => by
          obtain ⟨i, hi, he⟩ := hb.out.1 rfl
          exact (h.2.2 k hlt).2 i hi he)
        go_wp2
        go_ret
        exact Tells.no HN.out kr
      have HB := Lib.hid (show ∀ i, i < k → q i ≠ q k from fun i hi he => by
        have := hb.out.2 ⟨i, hi, he⟩; cases this)
      clear hb
      go_wp2_with fail
      refine (is_any (q k) wr hql (HT.out.ext kr)).mono ?_
      cases hi : isS (q k)
      · rintro ee w2 ⟨rfl, k2⟩
        have HN := Lib.hid (show ¬ RowC L q from fun h => by have := (h.2.2 k hlt).1.2.2; rw [hi] at this; cases this)
        clear hi
        go_wp2
        go_ret
        exact Tells.no HN.out (kr.trans k2)
      · rintro ee w2 ⟨rfl, k2⟩
        have HALL := Lib.hid (show ∀ j, j < k + 1 → OkQ (q j) ∧ ∀ i, i < j → q i ≠ q j from fun j hj => by
          by_cases hjk : j = k
          · subst hjk; exact ⟨⟨by have := H34.out.1; omega, by have := H34.out.2; omega, hi⟩, HB.out⟩
          · exact hall.out j (by omega))
        clear hi
        go_wp2
        exact ⟨⟨k + 1, by omega, by go_num, HALL, kr.trans k2⟩, by simp [intOf]; omega⟩
    · have HP := Lib.hid (show RowC L q from ⟨by omega, by omega, fun j hj => hall.out j (by omega)⟩)
      go_wp2
      go_ret
      exact Tells.yes HP.out kr
set_option maxHeartbeats 4000000 in
theorem refRow_any (A : Option Addr) (L c : Nat) (q : Nat → Nat) (w : World) (hL : L ≤ 100000) (hX : FX w A L c q) (hq : Hid (∀ j, j < L → q j < 18446744073709551616)) :
    Calls Tryd.prog 46 #[.slice A L c] w (Tells w (RowC L q)) := by
  have HX := Lib.hid hX
  clear hX
  by_cases g0 : L = 0
  · subst g0
    have HN := Lib.hid (show ¬ RowC 0 q from fun h => by have := h.1; omega)
    go_enter Tryd.func46, Tryd.ntmps46
    go_wp2
    go_ret
    exact Tells.no HN.out (Ext.refl _)
  by_cases g1 : 24 < L
  · have HN := Lib.hid (show ¬ RowC L q from fun h => by have := h.2.1; omega)
    go_enter Tryd.func46, Tryd.ntmps46
    go_wp2
    go_ret
    exact Tells.no HN.out (Ext.refl _)
  go_enter Tryd.func46, Tryd.ntmps46
  go_wp2
  go_loopw [17] (fun i wr => ∃ k : Nat, k ≤ L ∧ i = .int .i64 (k : Int) ∧ Hid (∀ j, j < k → OkQ (q j) ∧ ∀ i, i < j → q i ≠ q j) ∧ Ext w wr) (fun i _ => L - (intOf i).toNat)
  case atStart => exact ⟨0, by omega, rfl, Lib.hid fun j hj => by omega, Ext.refl _⟩
  case round =>
    obtain ⟨k, hk, rfl, hno, kr⟩ := hrel
    by_cases hlt : k < L
    · have hx := HX.out.ext kr
      obtain ⟨ad, rfl, hc⟩ := hx.cells (by omega)
      have hcell := hc k hlt
      have hql := hq.out k hlt
      have hroom := hx.room
      clear hc hx
      by_cases h3 : q k < 3
      · have HN := Lib.hid (show ¬ RowC L q from fun h => by have := (h.2.2 k hlt).1.1; omega)
        go_wp2
        go_ret
        exact Tells.no HN.out kr
      by_cases h4 : 2305843009213693952 ≤ q k
      · have HN := Lib.hid (show ¬ RowC L q from fun h => by have := (h.2.2 k hlt).1.2.1; omega)
        have h5 : (2305843009213693952 ≤ (q k : Int)) = True := by simp; omega
        go_wp2
        go_ret
        exact Tells.no HN.out kr
      have h5 : (2305843009213693952 ≤ (q k : Int)) = False := by simp; omega
      have h6 : ((q k : Int) < 3) = False := by simp; omega
      have h7 : decide (2305843009213693952 ≤ (q k : Int)) = false := by simp; omega
      have h8 : decide ((q k : Int) < 3) = false := by simp; omega
      have H34 := Lib.hid (And.intro h3 h4)
      clear h3 h4
      go_wp2_with fail
      refine (ris_any (q k) wr hql).mono ?_
      cases hi : isR (q k)
      · rintro ee w2 ⟨rfl, k2⟩
        have HN := Lib.hid (show ¬ RowC L q from fun h => by have := (h.2.2 k hlt).1.2.2; rw [is_same, hi] at this; cases this)
        clear hi
        go_wp2
        go_ret
        exact Tells.no HN.out (kr.trans k2)
      rintro ee w2 ⟨rfl, k2⟩
      have HF := Lib.hid (show OkQ (q k) from ⟨by have := H34.out.1; omega, by have := H34.out.2; omega, by rw [is_same]; exact hi⟩)
      clear hi h5 h6 h7 h8
      have i0 : (0 : Int) ≤ (k : Int) := by omega
      have i1 : (k : Int) ≤ (L : Int) := by omega
      have i2 : (k : Int) ≤ (c : Int) := by omega
      go_wp2
      go_loopw [37] (fun i wz => ∃ j : Nat, j ≤ k ∧ i = .int .i64 (j : Int) ∧ Hid (∀ i, i < j → q i ≠ q k) ∧ wz = w2) (fun i _ => k - (intOf i).toNat)
      case atStart => exact ⟨0, by omega, rfl, Lib.hid fun i hi => by omega, rfl⟩
      case round =>
        obtain ⟨j, hj, rfl, hno2, rfl⟩ := hrel
        by_cases hlt2 : j < k
        · obtain ⟨ad2, e2, hc2⟩ := (HX.out.ext (kr.trans k2)).cells (by omega)
          have hcell2 := hc2 j (by omega)
          injection e2 with e2
          subst e2
          clear hc2
          by_cases g3 : q j = q k
          · have HN := Lib.hid (show ¬ RowC L q from fun h => (h.2.2 k hlt).2 j hlt2 g3)
            rw [g3] at hcell2
            clear g3
            generalize q k = qk at *
            go_wp2
            go_ret
            exact Tells.no HN.out (kr.trans k2)
          · have HE := Lib.hid (show ∀ i, i < j + 1 → q i ≠ q k from fun i hi => by
              by_cases h : i = j
              · subst h; exact g3
              · exact hno2.out i (by omega))
            have hne : ((q j : Int) == (q k : Int)) = false := by simp; omega
            clear g3
            go_wp2
            exact ⟨⟨j + 1, by omega, by go_num, HE, by trivial⟩, by simp [intOf]; omega⟩
        · have HE := Lib.hid (show ∀ j, j < k + 1 → OkQ (q j) ∧ ∀ i, i < j → q i ≠ q j from fun i hi => by
            by_cases h : i = k
            · subst h; exact ⟨HF.out, fun l hl => hno2.out l (by omega)⟩
            · exact hno.out i (by omega))
          go_wp2
          exact ⟨⟨k + 1, by omega, by go_num, HE, kr.trans k2⟩, by simp [intOf]; omega⟩
    · have HE := Lib.hid (show RowC L q from ⟨by omega, by omega, fun j hj => hno.out j (by omega)⟩)
      go_wp2
      go_ret
      exact Tells.yes HE.out kr
end Go.Proofs.YtpgcapobbmbchaaDoor

/-
  Lists of words, and lists of lists, that are made by appending.
-/
namespace Go.Proofs.YtpgcapobbmbchaaDoor
open Go.RowKit
set_option linter.unusedVariables false
set_option maxRecDepth 100000

theorem add_block (ad : Addr) (j : Nat) : (ad.add j).block = ad.block := by unfold Addr.add; split <;> rfl
theorem map_snoc {α : Type} (k : Nat) (F : Nat → α) : (List.range k).map F ++ [F k] = (List.range (k + 1)).map F := by
  rw [List.range_succ, List.map_append]; rfl
theorem own_slice {w : World} {B : Nat} {e : TypeId} {s : Nat} {v : Value} {n : Nat} {xs : List Value} (h : w.ownsRow B e s v n xs) : ∃ A c, v = .slice A n c := by
  rcases h.2 with ⟨rfl, rfl⟩ | ⟨g, cap, cur, rfl, _⟩
  · exact ⟨none, 0, rfl⟩
  · exact ⟨_, _, rfl⟩
/-- A list of words that is being made, from block B on. -/
def LR (B : Nat) (w0 w : World) (v : Value) (k : Nat) (F : Nat → Nat) : Prop := w.ownsRow B 79 1 v k (u64s ((List.range k).map F)) ∧ Below B w0 w
theorem LR.nil (w : World) (F : Nat → Nat) : LR w.heap.size w w (.slice none 0 0) 0 F := ⟨World.ownsRow_nil _ _ _ _, Below.refl _ _⟩
theorem LR.push {B : Nat} {w0 w w1 : World} {v v' : Value} {k z : Nat} {F : Nat → Nat} {o : Obj} (h : LR B w0 w v k F) (hB : B ≤ w.heap.size) (hz : z = F k)
    (h1 : w1.ownsRow B 79 1 v' (k + 1) (u64s ((List.range k).map F) ++ [Value.int .u64 (z : Int)])) (hg : (w.alloc o).grownBy w1 v.ownBlock) : LR B w0 w1 v' (k + 1) F := by
  rw [u64s_snoc, hz, map_snoc] at h1
  exact ⟨h1, (h.2.alloc hB o).grown hg (by simp; omega) (fun k e => (h.1.lt k e).1)⟩
theorem LR.ext {B : Nat} {w0 w w' : World} {v : Value} {k : Nat} {F : Nat → Nat} (h : LR B w0 w v k F) (hb : Ext w w') (hB : B ≤ w.heap.size) : LR B w0 w' v k F := by
  refine ⟨⟨h.1.1, ?_⟩, Below.trans h.2 (Below.mono hb hB)⟩
  rcases h.1.2 with h0 | ⟨g, cap, cur, e, hg, hh, h1⟩
  · exact .inl h0
  · exact .inr ⟨g, cap, cur, e, hg, (hb.block g (Array.getElem?_eq_some_iff.1 hh).1).trans hh, h1⟩
theorem LR.alloc {B : Nat} {w0 w : World} {v : Value} {k : Nat} {F : Nat → Nat} (h : LR B w0 w v k F) (o : Obj) : (w.alloc o).ownsRow B 79 1 v k (u64s ((List.range k).map F)) := h.1.alloc o
/-- A list of words in a block of words. -/
structure TX (w : World) (A : Option Addr) (n c : Nat) (f : Nat → Nat) : Prop where
  fx : FX w A n c f
  typed : ∀ ad, A = some ad → ∃ cur fz, w.heap[ad.block]? = some (.cells cur 79 fz)
theorem TX.ext {w w' : World} {A : Option Addr} {n c : Nat} {f : Nat → Nat} (h : TX w A n c f) (k : Ext w w') : TX w' A n c f :=
  ⟨h.fx.ext k, fun ad e => by
    obtain ⟨cur, fz, hc⟩ := h.typed ad e
    exact ⟨cur, fz, (k.block _ (Array.getElem?_eq_some_iff.1 hc).1).trans hc⟩⟩
theorem TX.congr {w : World} {A : Option Addr} {n c : Nat} {f f' : Nat → Nat} (h : TX w A n c f) (e : ∀ i, i < n → f i = f' i) : TX w A n c f' := ⟨h.fx.congr e, h.typed⟩
theorem LR.tx {B : Nat} {w0 w : World} {v : Value} {k : Nat} {F : Nat → Nat} (h : LR B w0 w v k F) (hF : ∀ i, i < k → F i < 18446744073709551616) : ∃ A c, v = .slice A k c ∧ TX w A k c F := by
  obtain ⟨A, c, e, hr⟩ := rd_of_own h.1 (fun x hx => by
    obtain ⟨j, hj, rfl⟩ := List.mem_map.1 hx
    rw [W64_eq]; exact hF j (List.mem_range.1 hj))
  refine ⟨A, c, e, (fx_of_rd hr).congr fun i hi => getD_range hi, fun ad e2 => ?_⟩
  rcases h.1.2 with ⟨e3, _⟩ | ⟨g, cap, cur, e3, _, hh, _⟩
  · rw [e, e2] at e3; cases e3
  · rw [e, e2] at e3
    injection e3 with e4
    injection e4 with e4
    subst e4
    exact ⟨cur, _, hh⟩
/-- A list of lists that is being made, from block B on. -/
def SR (B : Nat) (w : World) (v : Value) (k : Nat) (S : Nat → Value) : Prop := w.ownsRow B 22 1 v k ((List.range k).map S)
theorem SR.nil (B : Nat) (w : World) (S : Nat → Value) : SR B w (.slice none 0 0) 0 S := World.ownsRow_nil _ _ _ _
theorem SR.ext {B : Nat} {w w' : World} {v : Value} {k : Nat} {S : Nat → Value} (h : SR B w v k S) (hb : Ext w w') : SR B w' v k S := by
  refine ⟨h.1, ?_⟩
  rcases h.2 with h0 | ⟨g, cap, cur, e, hg, hh, h1⟩
  · exact .inl h0
  · exact .inr ⟨g, cap, cur, e, hg, (hb.block g (Array.getElem?_eq_some_iff.1 hh).1).trans hh, h1⟩
theorem SR.congr {B : Nat} {w : World} {v : Value} {k : Nat} {S S' : Nat → Value} (h : SR B w v k S) (e : ∀ j, j < k → S j = S' j) : SR B w v k S' := by
  unfold SR at h ⊢
  rwa [List.map_congr_left (fun j hj => e j (List.mem_range.1 hj))] at h
/-- What is changed besides the own row. -/
theorem SR.set {B : Nat} {w : World} {v u : Value} {k x o m : Nat} {S : Nat → Value} {F' : Nat → Value} (h : SR B w v k S) (hx : RW w x 25 m F') : SR B (w.setCell ⟨x, o, none⟩ u) v k S := by
  refine ⟨h.1, ?_⟩
  rcases h.2 with h0 | ⟨g, cap, cur, e, hb, hh, h1, h2, h3, h4⟩
  · exact .inl h0
  · refine .inr ⟨g, cap, cur, e, hb, ?_, h1, h2, h3, h4⟩
    rw [Below.heap_setCell _ _ _ _ (fun e' => ?_)]
    · exact hh
    · have e2 : g = x := by simpa using e'
      subst e2
      unfold RW at hx
      rw [hh] at hx
      injection hx with hx
      injection hx with _ hx
      exact absurd hx (by decide)
/-- Lists and a row of lists that grows keep apart. -/
theorem TX.grown {B : Nat} {w w' : World} {v : Value} {k : Nat} {S : Nat → Value} {A : Option Addr} {n c : Nat} {f : Nat → Nat} (h : TX w A n c f) (hs : SR B w v k S) (hg : w.grownBy w' v.ownBlock) : TX w' A n c f := by
  have hne : ∀ ad, A = some ad → some ad.block ≠ v.ownBlock := fun ad e e2 => by
    obtain ⟨cur, fz, hc⟩ := h.typed ad e
    rcases hs.2 with ⟨rfl, _⟩ | ⟨g, cap, cur', rfl, _, hh, _⟩
    · simp [Value.ownBlock] at e2
    · simp [Value.ownBlock] at e2
      rw [e2, hh] at hc
      injection hc with hc
      injection hc with _ hc
      exact absurd hc (by decide)
  have hkeep : ∀ ad, A = some ad → w'.heap[ad.block]? = w.heap[ad.block]? := fun ad e => by
    obtain ⟨cur, fz, hc⟩ := h.typed ad e
    exact hg.block _ (Array.getElem?_eq_some_iff.1 hc).1 (fun e2 => hne ad e e2)
  refine ⟨⟨h.fx.room, fun hn => ?_⟩, fun ad e => ?_⟩
  · obtain ⟨ad, e, hc⟩ := h.fx.cells hn
    refine ⟨ad, e, fun j hj => ?_⟩
    have h2 : w'.heap[(ad.add j).block]? = w.heap[(ad.add j).block]? := by rw [add_block]; exact hkeep ad e
    rw [World.cell?_of_block h2]
    exact hc j hj
  · obtain ⟨cur, fz, hc⟩ := h.typed ad e
    exact ⟨cur, fz, (hkeep ad e).trans hc⟩
theorem TX.set {w : World} {A : Option Addr} {n c x o m : Nat} {f : Nat → Nat} {u : Value} {F' : Nat → Value} (h : TX w A n c f) (hx : RW w x 25 m F') : TX (w.setCell ⟨x, o, none⟩ u) A n c f := by
  have hkeep : ∀ ad, A = some ad → (w.setCell ⟨x, o, none⟩ u).heap[ad.block]? = w.heap[ad.block]? := fun ad e => by
    obtain ⟨cur, fz, hc⟩ := h.typed ad e
    refine Below.heap_setCell _ _ _ _ (fun e' => ?_)
    have e2 : ad.block = x := by simpa using e'
    unfold RW at hx
    rw [← e2, hc] at hx
    injection hx with hx
    injection hx with _ hx
    exact absurd hx (by decide)
  refine ⟨⟨h.fx.room, fun hn => ?_⟩, fun ad e => ?_⟩
  · obtain ⟨ad, e, hc⟩ := h.fx.cells hn
    refine ⟨ad, e, fun j hj => ?_⟩
    have h2 : (w.setCell ⟨x, o, none⟩ u).heap[(ad.add j).block]? = w.heap[(ad.add j).block]? := by rw [add_block]; exact hkeep ad e
    rw [World.cell?_of_block h2]
    exact hc j hj
  · obtain ⟨cur, fz, hc⟩ := h.typed ad e
    exact ⟨cur, fz, (hkeep ad e).trans hc⟩
theorem UW.tx {w : World} {g n : Nat} {f : Nat → Nat} (h : UW w g n f) : TX w (some ⟨g, 0, none⟩) n n f := ⟨UW.fx h, fun ad e => by injection e with e; subst e; exact ⟨_, _, h⟩⟩
/-- A block beside the own row stays. -/
theorem RW.grown {B : Nat} {w w' : World} {v : Value} {k x m : Nat} {t : TypeId} {S F : Nat → Value} (h : RW w x t m F) (hs : SR B w v k S) (ht : t ≠ 22) (hg : w.grownBy w' v.ownBlock) : RW w' x t m F := by
  refine RW.keep h (hg.block x h.lt (fun e2 => ?_))
  rcases hs.2 with ⟨rfl, _⟩ | ⟨g, cap, cur', rfl, _, hh, _⟩
  · simp [Value.ownBlock] at e2
  · simp [Value.ownBlock] at e2
    unfold RW at h
    rw [e2, hh] at h
    injection h with h
    injection h with _ h
    exact absurd h.symm ht
theorem SR.cells {B : Nat} {w : World} {v : Value} {k : Nat} {S : Nat → Value} (h : SR B w v k S) : ∃ A c, v = .slice A k c ∧ k ≤ c ∧ (0 < k → ∃ ad, A = some ad ∧ ∀ j, j < k → w.cell? (ad.add j) = some (S j)) := by
  have h0 := h
  rcases h.2 with ⟨rfl, rfl⟩ | ⟨g, cap, cur, rfl, _, hh, hle, _⟩
  · exact ⟨none, 0, rfl, Nat.le_refl _, fun h => absurd h (by omega)⟩
  · refine ⟨_, cap, rfl, hle, fun _ => ⟨_, rfl, fun j hj => ?_⟩⟩
    exact World.ownsRow.cells (g := g) h0 rfl j _ (by rw [List.getElem?_map, List.getElem?_range hj]; rfl)
theorem one_slice {A : Option Addr} {n c : Nat} : ∀ u ∈ [Value.slice A n c], u.oneCell' = true := by
  intro u hu; simp at hu; subst hu; rfl
/-- An element that a reference makes: k lists so far, each as F tells. -/
structure Mk (w : World) (B : Nat) (v : Value) (k n : Nat) (F : Nat → Nat → Nat) : Prop where
  ex : ∃ (As : Nat → Option Addr) (cs : Nat → Nat), SR B w v k (fun j => .slice (As j) n (cs j)) ∧ ∀ j, j < k → TX w (As j) n (cs j) (F j)
theorem Mk.nil (w : World) (B n : Nat) (F : Nat → Nat → Nat) : Mk w B (.slice none 0 0) 0 n F := ⟨fun _ => none, fun _ => 0, SR.nil _ _ _, fun j hj => absurd hj (by omega)⟩
theorem Mk.ext {w w' : World} {B : Nat} {v : Value} {k n : Nat} {F : Nat → Nat → Nat} (h : Mk w B v k n F) (hb : Ext w w') : Mk w' B v k n F := by
  obtain ⟨As, cs, h1, h2⟩ := h.ex
  exact ⟨As, cs, h1.ext hb, fun j hj => (h2 j hj).ext hb⟩
theorem Mk.set {w : World} {B : Nat} {v u : Value} {k n x o m : Nat} {F : Nat → Nat → Nat} {F' : Nat → Value} (h : Mk w B v k n F) (hx : RW w x 25 m F') : Mk (w.setCell ⟨x, o, none⟩ u) B v k n F := by
  obtain ⟨As, cs, h1, h2⟩ := h.ex
  exact ⟨As, cs, h1.set hx, fun j hj => (h2 j hj).set hx⟩
theorem Mk.push {w w1 : World} {B : Nat} {v v' : Value} {k n c : Nat} {A : Option Addr} {F : Nat → Nat → Nat} {As : Nat → Option Addr} {cs : Nat → Nat} {o : Obj} (h1 : SR B w v k (fun j => .slice (As j) n (cs j))) (h2 : ∀ j, j < k → TX w (As j) n (cs j) (F j)) (hl : TX w A n c (F k))
    (ho : w1.ownsRow B 22 1 v' (k + 1) ((List.range k).map (fun j => Value.slice (As j) n (cs j)) ++ [.slice A n c])) (hg : (w.alloc o).grownBy w1 v.ownBlock) : Mk w1 B v' (k + 1) n F := by
  have ka : Ext w (w.alloc o) := (Ext.refl w).alloc o
  refine ⟨fun j => if j = k then A else As j, fun j => if j = k then c else cs j, ?_, fun j hj => ?_⟩
  · have e : (List.range k).map (fun j => Value.slice (As j) n (cs j)) ++ [.slice A n c] = (List.range (k + 1)).map (fun j => Value.slice (if j = k then A else As j) n (if j = k then c else cs j)) := by
      rw [← map_snoc k (fun j => Value.slice (if j = k then A else As j) n (if j = k then c else cs j))]
      congr 1
      · refine List.map_congr_left fun j hj => ?_
        have := List.mem_range.1 hj
        simp only [if_neg (show ¬ j = k by omega)]
      · simp
    rw [e] at ho
    exact ho
  · by_cases hjk : j = k
    · subst hjk
      simp only [if_true]
      exact (hl.ext ka).grown (h1.ext ka) hg
    · simp only [if_neg hjk]
      exact ((h2 j (by omega)).ext ka).grown (h1.ext ka) hg
theorem Mk.px {w : World} {B : Nat} {v : Value} {k n : Nat} {F : Nat → Nat → Nat} (h : Mk w B v k n F) : ∃ A c As cs, v = .slice A k c ∧ PX w A k c As (fun _ => n) cs F := by
  obtain ⟨As, cs, h1, h2⟩ := h.ex
  obtain ⟨A, c, e, hle, hc⟩ := h1.cells
  exact ⟨A, c, As, cs, e, hle, hc, fun j hj => (h2 j hj).fx⟩
end Go.Proofs.YtpgcapobbmbchaaDoor
