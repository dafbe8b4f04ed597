/-
  How polynomials and rows of numbers that are handed in read.
-/
import Derived.Test.YtpgcapobbmbchaaDoorZG5
import Derived.Test.YtpgcapobbmbchaaDoorTOpen
import Derived.Deep.Matrix
namespace Go.Proofs.YtpgcapobbmbchaaDoor
open Go.ChangeShapes Go.WideShapes Go.ChangeAt Go.RowKit Go.Joins
set_option linter.unusedVariables false
set_option maxRecDepth 100000

section
variable {H : Type} {enc : TypeId × Value → H}
/-- A polynomial that is handed in. -/
structure PW (W : World) (A : Option Addr) (L c : Nat) (As : Nat → Option Addr) (ns cs : Nat → Nat) (f : Nat → Nat → Nat) : Prop where
  px : PX W A L c As ns cs f
  len : L ≤ maxLen
  lens : ∀ j, j < L → ns j ≤ maxLen
  words : ∀ j, j < L → ∀ i, i < ns j → f j i < 18446744073709551616
theorem c_us : Tryd.prog.cellsOf 22 = 1 := by kernel_rfl
theorem c_poly : Tryd.prog.cellsOf 25 = 1 := by kernel_rfl
theorem rows_cells {W : World} {fuel : Nat} {cs : List Value} {x : DataW H × List MemPlace} (h : DataW.trod enc Tryd.prog W 0 (fun _ => true) true fuel 23 cs = some x) :
    ∃ A L c As ns ds f, cs = [.slice A L c] ∧ PW W A L c As ns ds f := by
  rcases Deep.open_int_rows Tryd.underlying23 Tryd.underlying22 Tryd.underlying79 c_us c_u64 h with ⟨rfl, _⟩ | ⟨a, len, cap, A, L, C, Z, rfl, _, hl, hm, _, hr⟩
  · exact ⟨none, 0, 0, fun _ => none, fun _ => 0, fun _ => 0, fun _ _ => 0, rfl, ⟨⟨Nat.le_refl _, fun h => absurd h (by omega), fun j hj => absurd hj (by omega)⟩, Nat.zero_le _, fun j hj => absurd hj (by omega), fun j hj => absurd hj (by omega)⟩⟩
  · have hw : ∀ r, r < len → ∀ j, j < L r → ∃ z : Int, (Z r)[j]? = some z ∧ 0 ≤ z ∧ z < 18446744073709551616 := fun r hr' j hj => by
      obtain ⟨_, h1, _, h3, h4, _⟩ := hr r (by omega)
      have hl2 : j < (Z r).length := by omega
      exact ⟨(Z r)[j], List.getElem?_eq_getElem hl2, word_of (h4 _ (List.getElem_mem hl2))⟩
    refine ⟨some a, len, cap, A, L, C, fun r j => ((Z r).getD j 0).toNat, rfl, ⟨⟨hl, fun _ => ⟨a, rfl, fun j hj => (hr j (by omega)).1⟩, fun j hj => ?_⟩, by omega, fun j hj => ?_, fun j hj i hi => ?_⟩⟩
    · obtain ⟨_, h1, h2, h3, h4, h5, h6⟩ := hr j (by omega)
      refine ⟨h1, fun hn => ?_⟩
      cases hA : A j with
      | none => have := h5 hA; omega
      | some a' =>
        refine ⟨a', rfl, fun i hi => ?_⟩
        obtain ⟨z, hz1, hz2, hz3⟩ := hw j hj i hi
        have e : (Z j).getD i 0 = z := by rw [List.getD_eq_getElem?_getD, hz1, Option.getD_some]
        have hc := (h6 a' hA).2 i (by omega)
        show W.cell? (a'.add i) = some (.int .u64 (((Z j).getD i 0).toNat : Int))
        rw [e] at hc ⊢
        rw [Int.toNat_of_nonneg hz2]
        exact hc
    · obtain ⟨_, h1, h2, _⟩ := hr j (by omega)
      omega
    · obtain ⟨z, hz1, hz2, hz3⟩ := hw j hj i hi
      show ((Z j).getD i 0).toNat < _
      rw [List.getD_eq_getElem?_getD, hz1, Option.getD_some]
      omega
theorem poly_open {W : World} {r : Reach} {b0 : Nat} {v : Value} {d : DataW H} {p : List MemPlace} (hv : Value.okWide Tryd.prog W r b0 25 v) (h : DataW.Trod enc Tryd.prog W 0 (fun _ => true) true 25 v d p) :
    ∃ A L c As ns ds f, v = .agg #[.slice A L c] ∧ PW W A L c As ns ds f := by
  obtain ⟨cs, rfl, hsz⟩ := okWide_struct Tryd.underlying25 hv
  obtain ⟨fuel, hf⟩ := h
  obtain ⟨xs, n, _, _, hl, hlen, hx⟩ := DataW.trod_struct Tryd.underlying25 hf
  have hs := hsz.trans c_poly
  obtain ⟨c0, rfl⟩ : ∃ c0, cs = #[c0] := by
    match cs, hs with
    | ⟨[c0]⟩, _ => exact ⟨c0, rfl⟩
  match xs, hlen with
  | [y0], _ =>
    have h0 : DataW.trod enc Tryd.prog W 0 (fun _ => true) true n 23 [c0] = some y0 := by
      have h1 := hx 0 _ rfl
      have e : Tryd.prog.cellsOf 23 = 1 := by kernel_rfl
      simpa [Value.cells, e] using h1
    obtain ⟨A, L, c, As, ns, ds, f, e0, hp⟩ := rows_cells h0
    simp at e0
    subst e0
    exact ⟨A, L, c, As, ns, ds, f, rfl, hp⟩
theorem c_i64 : Tryd.prog.cellsOf 2 = 1 := by kernel_rfl
/-- Numbers that are handed in. -/
theorem longs_open {W : World} {v : Value} {d : DataW H} {p : List MemPlace} (h : DataW.Trod enc Tryd.prog W 0 (fun _ => true) true 50 v d p) :
    ∃ A n c z, v.cells.toList = [.slice A n c] ∧ VX W A n c z ∧ n ≤ maxLen ∧ ∀ i, i < n → -9223372036854775808 ≤ z i ∧ z i < 9223372036854775808 := by
  obtain ⟨fuel, hf⟩ := h
  rcases ChangeShapes.open_ints Tryd.underlying50 Tryd.underlying2 c_i64 hf with ⟨e, _⟩ | ⟨a, len, cap, zs, e, _, hl, hm, hz, _, hcell, hwz⟩
  · exact ⟨none, 0, 0, fun _ => 0, e, ⟨Nat.le_refl _, fun h => absurd h (by omega)⟩, Nat.zero_le _, fun i hi => absurd hi (by omega)⟩
  · simp only [if_true] at hz
    refine ⟨some a, len, cap, fun j => zs.getD j 0, e, ⟨hl, fun hn => ⟨a, rfl, fun j hj => hcell j (by omega)⟩⟩, by omega, fun j hj => ?_⟩
    have hl2 : j < zs.length := by omega
    have h1 := long_of (hwz _ (List.getElem_mem hl2))
    show -9223372036854775808 ≤ zs.getD j 0 ∧ zs.getD j 0 < 9223372036854775808
    rw [List.getD_eq_getElem?_getD, List.getElem?_eq_getElem hl2, Option.getD_some]
    omega
end
end Go.Proofs.YtpgcapobbmbchaaDoor

/-
  The calls of layer 5 whose answers the document fixes.
-/
namespace Go.Proofs.YtpgcapobbmbchaaDoor
open Go.RowKit
set_option linter.unusedVariables false
set_option maxRecDepth 100000

theorem is13 : isS 13 = true := by decide +kernel
theorem sq13 : ∃ x, x < 13 ∧ noSq 13 x = true := ⟨2, by omega, noSq_pm (by omega) (by decide +kernel)⟩
def q2 (i : Nat) : Nat := if i = 0 then 5 else 13
theorem row2 : RowP 2 2 q2 := by
  have s4 : stepS (2 * (2 : Int).toNat) = true := by decide +kernel
  refine ⟨by omega, by omega, fun j hj => ?_⟩
  rcases (show j = 0 ∨ j = 1 by omega) with rfl | rfl
  · exact ⟨⟨by omega, by decide, s4, by decide, is5⟩, fun i hi => by omega⟩
  · refine ⟨⟨by omega, by decide, s4, by decide, is13⟩, fun i hi => ?_⟩
    obtain rfl : i = 0 := by omega
    decide
theorem vx_two (w : World) (a b : Int) : VX (w.alloc (.cells #[.int .i64 a, .int .i64 b] 2)) (some ⟨w.heap.size, 0, none⟩) 2 2 (fun i => if i = 0 then a else b) := by
  refine ⟨Nat.le_refl _, fun _ => ⟨_, rfl, fun j hj => ?_⟩⟩
  rw [Addr.add_lit, Nat.zero_add]
  rcases (show j = 0 ∨ j = 1 by omega) with rfl | rfl <;> simp
theorem PM.pb {w : World} {G L n : Nat} {As : Nat → Option Addr} {cs : Nat → Nat} {F : Nat → Nat → Nat} (h : PM w G L n As cs F) (hL : L ≤ 1000) (hn : n ≤ 1000) : PB w (some ⟨G, 0, none⟩) L L As (fun _ => n) cs F := ⟨h.px, by omega, fun _ _ => by show n ≤ _; omega⟩
theorem nega2 (a b : Nat → Int) : nega 2 a b 0 = a 0 * b 0 - a 1 * b 1 ∧ nega 2 a b 1 = a 0 * b 1 + a 1 * b 0 := by
  unfold nega
  simp [S]
  omega
theorem fixX {F : Nat → Nat → Nat} (h : ∀ j, j < 2 → F j = fun i => lif ((fun i => if i = 0 then (0 : Int) else 1) i) (q2 j)) : (F 0 0 = 0 ∧ F 0 1 = 1) ∧ F 1 0 = 0 ∧ F 1 1 = 1 := by
  rw [h 0 (by omega), h 1 (by omega)]
  decide
theorem px_two (w : World) (A0 A1 : Option Addr) (c0 c1 : Nat) (f0 f1 : Nat → Nat) (h0 : FX w A0 2 c0 f0) (h1 : FX w A1 2 c1 f1) : PX (w.alloc (.cells #[.slice A0 2 c0, .slice A1 2 c1] 22)) (some ⟨w.heap.size, 0, none⟩) 2 2 (fun j => if j = 0 then A0 else A1) (fun _ => 2) (fun j => if j = 0 then c0 else c1) (fun j => if j = 0 then f0 else f1) := by
  refine ⟨Nat.le_refl _, fun _ => ⟨_, rfl, fun j hj => ?_⟩, fun j hj => ?_⟩
  · rw [Addr.add_lit, Nat.zero_add]
    rcases (show j = 0 ∨ j = 1 by omega) with rfl | rfl <;> simp
  · rcases (show j = 0 ∨ j = 1 by omega) with rfl | rfl
    · exact h0.ext ((Ext.refl w).alloc _)
    · exact h1.ext ((Ext.refl w).alloc _)
/-- Two lists of two words, laid one behind the other, and what holds them. -/
theorem px_laid (w : World) (a b c d : Nat) (za zb zc zd : Int) (ha : za = a) (hb : zb = b) (hc : zc = c) (hd : zd = d) : PX (((w.alloc (.cells #[.int .u64 za, .int .u64 zb] 79)).alloc (.cells #[.int .u64 zc, .int .u64 zd] 79)).alloc (.cells #[.slice (some ⟨w.heap.size, 0, none⟩) 2 2, .slice (some ⟨w.heap.size + 1, 0, none⟩) 2 2] 22)) (some ⟨w.heap.size + 1 + 1, 0, none⟩) 2 2 (fun j => if j = 0 then some ⟨w.heap.size, 0, none⟩ else some ⟨w.heap.size + 1, 0, none⟩) (fun _ => 2) (fun j => if j = 0 then 2 else 2) (fun j => if j = 0 then (fun i => if i = 0 then a else b) else (fun i => if i = 0 then c else d)) := by
  have h1 := fx_two (w.alloc (.cells #[.int .u64 za, .int .u64 zb] 79)) c d zc zd hc hd
  rw [show (w.alloc (.cells #[.int .u64 za, .int .u64 zb] 79)).heap.size = w.heap.size + 1 by simp] at h1
  have h := px_two ((w.alloc (.cells #[.int .u64 za, .int .u64 zb] 79)).alloc (.cells #[.int .u64 zc, .int .u64 zd] 79)) (some ⟨w.heap.size, 0, none⟩) (some ⟨w.heap.size + 1, 0, none⟩) 2 2 _ _ ((fx_two w a b za zb ha hb).ext ((Ext.refl _).alloc _)) h1
  rw [show ((w.alloc (.cells #[.int .u64 za, .int .u64 zb] 79)).alloc (.cells #[.int .u64 zc, .int .u64 zd] 79)).heap.size = w.heap.size + 1 + 1 by simp] at h
  exact h
set_option maxHeartbeats 4000000 in
theorem fixed5_any (w : World) (hT : Tabs w) : Calls Tryd.prog 15 #[] w fun e w' => e = .returned (.bool true) ∧ Ext w w' := by
  have HT := Lib.hid hT
  clear hT
  go_enter Tryd.func15, Tryd.ntmps15
  go_wp2_with fail
  have ka : Ext w (w.alloc (.cells #[.int .u64 5, .int .u64 13] 79)) := (Ext.refl w).alloc _
  have hq : FX (w.alloc (.cells #[.int .u64 5, .int .u64 13] 79)) (some ⟨w.heap.size, 0, none⟩) 2 2 q2 := fx_two w 5 13 5 13 rfl rfl
  refine (ringNew_any 2 (some ⟨w.heap.size, 0, none⟩) 2 2 q2 _ (by omega) (by omega) (by omega) hq (Lib.hid (all_two (by decide) (by decide))) (HT.out.ext ka)).mono ?_
  rintro ee w1 (⟨h, _⟩ | ⟨_, r, p, a, e, rfl, hR, k1⟩)
  · exact absurd row2 h
  rw [show (2 : Int).toNat = 2 from rfl] at hR
  have HR := Lib.hid hR
  clear hR hq
  have kw1 := ka.trans k1
  go_wp2_with fail
  have kb : Ext w1 (w1.alloc (.cells #[.int .i64 0, .int .i64 1] 2)) := (Ext.refl w1).alloc _
  refine (rLift_any r 2 2 q2 p a e (some ⟨w1.heap.size, 0, none⟩) 2 1 _ _ (HR.out.ext kb) (by omega) (vx_two w1 0 1) (Lib.hid (all_two (by decide) (by decide)))).mono ?_
  rintro ee w2 ⟨G, As, cs, F, rfl, hpm, hF, k2⟩
  have kw2 := kb.trans k2
  obtain ⟨⟨F00, F01⟩, F10, F11⟩ := fixX hF.out
  have HF := Lib.hid (show (F 0 0 = 0 ∧ F 0 1 = 1) ∧ F 1 0 = 0 ∧ F 1 1 = 1 from ⟨⟨F00, F01⟩, F10, F11⟩)
  have HEl := Lib.hid (show El 2 2 q2 2 (fun _ => 2) F from ⟨by omega, by omega, all_two ⟨rfl, all_two (by rw [F00]; decide) (by rw [F01]; decide)⟩ ⟨rfl, all_two (by rw [F10]; decide) (by rw [F11]; decide)⟩⟩)
  have HP := Lib.hid (hpm.pb (by omega) (by omega))
  clear F00 F01 F10 F11 hF hpm k2 kb
  go_wp2_with fail
  have kc : Ext w2 (w2.alloc (.cells #[.slice (some ⟨G, 0, none⟩) 2 2] 25)) := (Ext.refl w2).alloc _
  have x0 : (w2.alloc (.cells #[.slice (some ⟨G, 0, none⟩) 2 2] 25)).cell? ⟨w2.heap.size, 0, none⟩ = some (.slice (some ⟨G, 0, none⟩) 2 2) := one_at _ _ _
  refine (rMul_any r 2 2 q2 p a e _ _ 2 2 2 As As (fun _ => 2) cs (fun _ => 2) cs F F _ (HR.out.ext (kw2.trans kc)) (Lib.hid (HP.out.ext kc)) (Lib.hid (HP.out.ext kc)) ⟨HEl.out, HEl.out⟩ (all_two sq5 sq13)).mono ?_
  rintro ee w3 ⟨G3, As3, cs3, Y, rfl, hpm3, hY, k3⟩
  have kw3 := kc.trans k3
  have HY := Lib.hid (show (Y 0 0 = 4 ∧ Y 0 1 = 0) ∧ Y 1 0 = 12 ∧ Y 1 1 = 0 by
    obtain ⟨⟨f00, f01⟩, f10, f11⟩ := HF.out
    have y0 := hY.out 0 (by omega)
    have y1 := hY.out 1 (by omega)
    have n0 := nega2 (fun k => (F 0 k : Int)) (fun k => (F 0 k : Int))
    have n1 := nega2 (fun k => (F 1 k : Int)) (fun k => (F 1 k : Int))
    simp only [f00, f01] at n0
    simp only [f10, f11] at n1
    refine ⟨⟨?_, ?_⟩, ?_, ?_⟩
    · have h := (y0 0 (by omega)).2; rw [n0.1] at h; exact M.lt (q := 5) (h.trans (by unfold M; decide)) (y0 0 (by omega)).1 (by omega)
    · have h := (y0 1 (by omega)).2; rw [n0.2] at h; exact M.lt (q := 5) (h.trans (by unfold M; decide)) (y0 1 (by omega)).1 (by omega)
    · have h := (y1 0 (by omega)).2; rw [n1.1] at h; exact M.lt (q := 13) (h.trans (by unfold M; decide)) (y1 0 (by omega)).1 (by omega)
    · have h := (y1 1 (by omega)).2; rw [n1.2] at h; exact M.lt (q := 13) (h.trans (by unfold M; decide)) (y1 1 (by omega)).1 (by omega))
  have HP3 := Lib.hid hpm3
  have x3 := cell_ext k3 x0
  clear hY hpm3 k3 kc x0
  have kd : Ext w3 (w3.alloc (.cells #[.slice (some ⟨G3, 0, none⟩) 2 2] 25)) := (Ext.refl w3).alloc _
  have x4 := cell_ext kd x3
  have y4 : (w3.alloc (.cells #[.slice (some ⟨G3, 0, none⟩) 2 2] 25)).cell? ⟨w3.heap.size, 0, none⟩ = some (.slice (some ⟨G3, 0, none⟩) 2 2) := one_at _ _ _
  go_wp2_with fail
  refine (rTurn_any r 2 2 q2 p a e _ 2 2 As (fun _ => 2) cs F 3 _ (HR.out.ext (kw2.trans (kw3.trans kd))) (Lib.hid (HP.out.ext (kw3.trans kd))) HEl.out (by omega) (by omega) (by omega)).mono ?_
  rintro ee w4 ⟨G4, As4, cs4, Z, rfl, hpm4, hZ, k4⟩
  have kw4 := kd.trans k4
  have HZ := Lib.hid (show (Z 0 0 = 0 ∧ Z 0 1 = 4) ∧ Z 1 0 = 0 ∧ Z 1 1 = 12 by
    obtain ⟨⟨f00, f01⟩, f10, f11⟩ := HF.out
    rw [hZ.out 0 (by omega), hZ.out 1 (by omega)]
    have hk : kM 3 2 = 3 := by decide
    simp only [hk, turnUp, f00, f01, f10, f11]
    decide)
  have HP4 := Lib.hid hpm4
  have y5 := cell_ext k4 y4
  clear hZ hpm4 k4 kd x4 y4 x3
  have ke : Ext w4 (w4.alloc (.cells #[.slice (some ⟨G4, 0, none⟩) 2 2] 25)) := (Ext.refl w4).alloc _
  have y6 := cell_ext ke y5
  have z6 : (w4.alloc (.cells #[.slice (some ⟨G4, 0, none⟩) 2 2] 25)).cell? ⟨w4.heap.size, 0, none⟩ = some (.slice (some ⟨G4, 0, none⟩) 2 2) := one_at _ _ _
  have hsz : (w4.alloc (.cells #[.slice (some ⟨G4, 0, none⟩) 2 2] 25)).heap.size = w4.heap.size + 1 := by simp
  go_wp2_with fail
  generalize w4.alloc (.cells #[.slice (some ⟨G4, 0, none⟩) 2 2] 25) = V at *
  rw [← hsz]
  have kf : Ext V (((V.alloc (.cells #[.int .u64 4, .int .u64 0] 79)).alloc (.cells #[.int .u64 12, .int .u64 0] 79)).alloc (.cells #[.slice (some ⟨V.heap.size, 0, none⟩) 2 2, .slice (some ⟨V.heap.size + 1, 0, none⟩) 2 2] 22)) := (((Ext.refl V).alloc _).alloc _).alloc _
  refine (same5_yes (some ⟨G3, 0, none⟩) _ 2 2 2 As3 _ (fun _ => 2) cs3 _ Y _ _ (HP3.out.px.ext (kw4.trans (ke.trans kf))) (px_laid V 4 0 12 0 4 0 12 0 rfl rfl rfl rfl) (by omega) (Lib.hid fun _ _ => by show (2 : Nat) ≤ 100000; omega) (Lib.hid (all_two (all_two HY.out.1.1 HY.out.1.2) (all_two HY.out.2.1 HY.out.2.2)))).mono ?_
  rintro ee w5 ⟨rfl, k5⟩
  have z7 := cell_ext (kf.trans k5) z6
  have kw5 := kf.trans k5
  go_wp2_with fail
  have kg : Ext w5 (((w5.alloc (.cells #[.int .u64 0, .int .u64 4] 79)).alloc (.cells #[.int .u64 0, .int .u64 12] 79)).alloc (.cells #[.slice (some ⟨w5.heap.size, 0, none⟩) 2 2, .slice (some ⟨w5.heap.size + 1, 0, none⟩) 2 2] 22)) := (((Ext.refl w5).alloc _).alloc _).alloc _
  refine (same5_yes (some ⟨G4, 0, none⟩) _ 2 2 2 As4 _ (fun _ => 2) cs4 _ Z _ _ (HP4.out.px.ext (ke.trans (kw5.trans kg))) (px_laid w5 0 4 0 12 0 4 0 12 rfl rfl rfl rfl) (by omega) (Lib.hid fun _ _ => by show (2 : Nat) ≤ 100000; omega) (Lib.hid (all_two (all_two HZ.out.1.1 HZ.out.1.2) (all_two HZ.out.2.1 HZ.out.2.2)))).mono ?_
  rintro ee w6 ⟨rfl, k6⟩
  go_wp2
  go_ret
  exact ⟨rfl, kw1.trans (kw2.trans (kw3.trans (kw4.trans (ke.trans (kw5.trans (kg.trans k6))))))⟩
set_option maxHeartbeats 2000000 in
/-- The law RingNil walked. -/
theorem ringNil_walk (A : Option Addr) (L c : Nat) (k : Int) (w : World) (k0 : -9223372036854775808 ≤ k) (k1 : k < 9223372036854775808) (hT : Tabs w) : Calls Tryd.prog 8 #[.agg #[.slice A L c], .int .i64 k] w fun e w' => e = .returned (.bool true) ∧ Ext w w' := by
  have HT := Lib.hid hT
  clear hT
  have ka : Ext w (w.alloc (.cells #[.slice A L c] 25)) := (Ext.refl w).alloc _
  have xa : (w.alloc (.cells #[.slice A L c] 25)).cell? ⟨w.heap.size, 0, none⟩ = some (.slice A L c) := one_at _ _ _
  go_enter Tryd.func8, Tryd.ntmps8
  go_wp2_with fail
  refine (fixed5_any _ (HT.out.ext ka)).mono ?_
  rintro ee w1 ⟨rfl, k1⟩
  have x1 := cell_ext k1 xa
  have e1 := ka.trans k1
  clear k1 ka xa
  go_wp2_with fail
  refine (Level_nil A L c w1).mono ?_
  rintro ee w2 ⟨rfl, k2⟩
  have x2 := cell_ext k2 x1
  have e2 := e1.trans k2
  clear k2 x1 e1
  go_wp2_with fail
  refine (rAdd_nil A A L c L c w2).mono ?_
  rintro ee w3 ⟨rfl, k3⟩
  have x3 := cell_ext k3 x2
  have e3 := e2.trans k3
  have f3 : Ext w (w3.alloc (.cells #[.slice none 0 0] 25)) := e3.alloc _
  have y3 := cell_ext ((Ext.refl w3).alloc (.cells #[.slice none 0 0] 25)) x3
  clear k3 x2
  go_wp2_with fail
  refine (rSub_nil A A L c L c _).mono ?_
  rintro ee w4 ⟨rfl, k4⟩
  have x4 := cell_ext k4 y3
  have e4 := f3.trans k4
  have f4 : Ext w (w4.alloc (.cells #[.slice none 0 0] 25)) := e4.alloc _
  have y4 := cell_ext ((Ext.refl w4).alloc (.cells #[.slice none 0 0] 25)) x4
  clear k4 y3
  go_wp2_with fail
  refine (rNeg_nil A L c _).mono ?_
  rintro ee w5 ⟨rfl, k5⟩
  have x5 := cell_ext k5 y4
  have e5 := f4.trans k5
  have f5 : Ext w (w5.alloc (.cells #[.slice none 0 0] 25)) := e5.alloc _
  have y5 := cell_ext ((Ext.refl w5).alloc (.cells #[.slice none 0 0] 25)) x5
  clear k5 y4
  go_wp2_with fail
  refine (rMul_nil A A L c L c _).mono ?_
  rintro ee w6 ⟨rfl, k6⟩
  have x6 := cell_ext k6 y5
  have e6 := f5.trans k6
  have f6 : Ext w (w6.alloc (.cells #[.slice none 0 0] 25)) := e6.alloc _
  have y6 := cell_ext ((Ext.refl w6).alloc (.cells #[.slice none 0 0] 25)) x6
  clear k6 y5
  go_wp2_with fail
  have hturn : Calls Tryd.prog 32 #[.pointer none, .agg #[.slice A L c], .int .i64 k] (w6.alloc (.cells #[.slice none 0 0] 25)) (Errs (w6.alloc (.cells #[.slice none 0 0] 25)) 1) := by
    by_cases ho : k % 2 = 0
    · exact rTurn_even none A L c k _ k0 k1 ho
    · exact rTurn_nil A L c k _ k0 k1 ho
  refine hturn.mono ?_
  rintro ee w7 ⟨rfl, k7⟩
  have x7 := cell_ext k7 y6
  have e7 := f6.trans k7
  have f7 : Ext w (w7.alloc (.cells #[.slice none 0 0] 25)) := e7.alloc _
  have y7 := cell_ext ((Ext.refl w7).alloc (.cells #[.slice none 0 0] 25)) x7
  clear k7 y6
  go_wp2_with fail
  refine (rDrop_nil A L c k _).mono ?_
  rintro ee w8 ⟨rfl, k8⟩
  have x8 := cell_ext k8 y7
  have e8 := f7.trans k8
  have f8 : Ext w (w8.alloc (.cells #[.slice none 0 0] 25)) := e8.alloc _
  have y8 := cell_ext ((Ext.refl w8).alloc (.cells #[.slice none 0 0] 25)) x8
  clear k8 y7
  go_wp2_with fail
  refine (rLift_nil none 0 0 k _ k0 k1).mono ?_
  rintro ee w9 ⟨rfl, k9⟩
  have e9 := f8.trans k9
  clear k9 y8
  go_wp2
  go_ret
  exact ⟨rfl, e9.alloc _⟩
theorem ringNilX {A : Option Addr} {L c : Nat} {As : Nat → Option Addr} {ns cs : Nat → Nat} {f : Nat → Nat → Nat} {k : Int} (w : World) (hP : Hid (PW w A L c As ns cs f)) (k0 : -9223372036854775808 ≤ k) (k1 : k < 9223372036854775808) (hT : Tabs w) : Calls Tryd.prog 8 #[.agg #[.slice A L c], .int .i64 k] w fun e w' => e = .returned (.bool true) ∧ Ext w w' := ringNil_walk A L c k w k0 k1 hT
end Go.Proofs.YtpgcapobbmbchaaDoor
