/-
  The law GraphChecks walked.
-/
import Derived.Test.YtmmninjiklgebaaJRk
import Derived.Test.YtmmninjiklgebaaJFx
namespace Go.Proofs.Ytmmninjiklgebaa
open Go.RowKit
set_option linter.unusedVariables false
set_option maxRecDepth 100000

/-- A graph's nodes, as they are handed in: lists of whatever length. -/
structure GW (w : World) (A : Option Addr) (c : Nat) (nodes : List Nd) : Prop where
  room : nodes.length ≤ c
  cells : 0 < nodes.length → ∃ ad, A = some ad ∧ ∀ (j : Nat) (x : Nd), nodes[j]? = some x → ∃ As Ad Ab cs cd cb, (ZX w As x.sh.length cs x.sh ∧ ZX w Ad x.da.length cd x.da ∧ ZX w Ab x.bi.length cb x.bi) ∧
    (∀ (f : Nat) (v : Value), [Value.int .i64 x.k, .int .i64 x.a, .int .i64 x.b, .slice As x.sh.length cs, .int .i64 x.lo, .int .i64 x.hi, .int .i64 x.sz, .slice Ad x.da.length cd, .slice Ab x.bi.length cb][f]? = some v → w.cell? ((ad.add (j * 9)).add f) = some v)
theorem GW.ext {w w' : World} {A : Option Addr} {c : Nat} {nodes : List Nd} (h : GW w A c nodes) (k : Ext w w') : GW w' A c nodes :=
  ⟨h.room, fun hn => by
    obtain ⟨ad, e, hc⟩ := h.cells hn
    exact ⟨ad, e, fun j x hx => by
      obtain ⟨As, Ad, Ab, cs, cd, cb, ⟨h1, h2, h3⟩, h4⟩ := hc j x hx
      exact ⟨As, Ad, Ab, cs, cd, cb, ⟨h1.ext k, h2.ext k, h3.ext k⟩, fun f v hv => cell_ext k (h4 f v hv)⟩⟩⟩
/-- Few nodes of short lists. -/
def FewN (nodes : List Nd) : Prop := nodes.length ≤ 40 ∧ ∀ x ∈ nodes, x.sh.length ≤ 20 ∧ x.da.length ≤ 5000 ∧ x.bi.length ≤ 200
theorem GW.gx {w : World} {A : Option Addr} {c : Nat} {nodes : List Nd} (h : GW w A c nodes) (hf : FewN nodes) : GX w A c nodes :=
  ⟨h.room, fun hn => by
    obtain ⟨ad, e, hc⟩ := h.cells hn
    exact ⟨ad, e, fun j x hx => by
      obtain ⟨As, Ad, Ab, cs, cd, cb, ⟨h1, h2, h3⟩, h4⟩ := hc j x hx
      obtain ⟨l1, l2, l3⟩ := hf.2 x (List.mem_of_getElem? hx)
      exact ⟨As, Ad, Ab, cs, cd, cb, ⟨h1, h2, h3, by omega, by omega, by omega⟩, h4⟩⟩⟩
/-- What Few answers. -/
def FewPost (nodes : List Nd) (w : World) (e : Ending) (w' : World) : Prop := ∃ b : Bool, e = .returned (.bool b) ∧ (b = true → FewN nodes) ∧ Ext w w'
set_option maxHeartbeats 4000000 in
theorem few_any (nodes : List Nd) (A : Option Addr) (c : Nat) (out : Int) (w : World) (hG : Hid (GW w A c nodes)) :
    Calls Try.prog 10 #[.agg #[.slice A nodes.length c, .int .i64 out]] w fun e w' => FewPost nodes w e w' := by
  have q0 : (w.alloc (.cells #[.slice A nodes.length c, .int .i64 out] 24)).cell? ⟨w.heap.size, 0, none⟩ = some (.slice A nodes.length c) := by simp
  by_cases b0 : (40 : Int) < (nodes.length : Int)
  · go_enter Try.func10, Try.ntmps10
    go_wp2
    go_ret
    exact ⟨false, rfl, (fun h => by cases h), (Ext.refl w).alloc _⟩
  have HK := Lib.hid (show Ext w (w.alloc (.cells #[.slice A nodes.length c, .int .i64 out] 24)) from (Ext.refl w).alloc _)
  go_enter Try.func10, Try.ntmps10
  go_wp2_with fail
  go_loopw [12] (fun i wr => ∃ k : Nat, k ≤ nodes.length ∧ i = .int .i64 (k : Int) ∧ Hid (Ext w wr) ∧ Hid (∀ j x, j < k → nodes[j]? = some x → x.sh.length ≤ 20 ∧ x.da.length ≤ 5000 ∧ x.bi.length ≤ 200)) (fun i _ => nodes.length - (intOf i).toNat)
  case atStart => exact ⟨0, by omega, rfl, HK, Lib.hid (fun j x h => absurd h (by omega))⟩
  case round =>
    obtain ⟨k, hk, rfl, hE, hP⟩ := hrel
    by_cases hlt : k < nodes.length
    · obtain ⟨x, hx⟩ : ∃ x, nodes[k]? = some x := ⟨_, List.getElem?_eq_getElem hlt⟩
      obtain ⟨ad, rfl, hc⟩ := (hG.out.ext hE.out).cells (by omega)
      obtain ⟨As, Ad, Ab, cs, cd, cb, hnd, hcell⟩ := hc k x hx
      have HX := Lib.hid hx
      clear hc hnd hx
      have j0 : (0 : Int) ≤ (k : Int) := by omega
      have j1 : (k : Int) < (nodes.length : Int) := by omega
      have c0 : wr.cell? (ad.add (k * 9)) = some (.int .i64 x.k) := by have := hcell 0 (.int .i64 x.k) rfl; rw [add0J] at this; exact this
      have c1 : wr.cell? ⟨(ad.add (k * 9)).block, (ad.add (k * 9)).off + 1, none⟩ = some (.int .i64 x.a) := hcell 1 (.int .i64 x.a) rfl
      have c2 : wr.cell? ⟨(ad.add (k * 9)).block, (ad.add (k * 9)).off + 2, none⟩ = some (.int .i64 x.b) := hcell 2 (.int .i64 x.b) rfl
      have c3 : wr.cell? ⟨(ad.add (k * 9)).block, (ad.add (k * 9)).off + 3, none⟩ = some (.slice As x.sh.length cs) := hcell 3 (.slice As x.sh.length cs) rfl
      have c4 : wr.cell? ⟨(ad.add (k * 9)).block, (ad.add (k * 9)).off + 4, none⟩ = some (.int .i64 x.lo) := hcell 4 (.int .i64 x.lo) rfl
      have c5 : wr.cell? ⟨(ad.add (k * 9)).block, (ad.add (k * 9)).off + 5, none⟩ = some (.int .i64 x.hi) := hcell 5 (.int .i64 x.hi) rfl
      have c6 : wr.cell? ⟨(ad.add (k * 9)).block, (ad.add (k * 9)).off + 6, none⟩ = some (.int .i64 x.sz) := hcell 6 (.int .i64 x.sz) rfl
      have c7 : wr.cell? ⟨(ad.add (k * 9)).block, (ad.add (k * 9)).off + 7, none⟩ = some (.slice Ad x.da.length cd) := hcell 7 (.slice Ad x.da.length cd) rfl
      have c8 : wr.cell? ⟨(ad.add (k * 9)).block, (ad.add (k * 9)).off + 8, none⟩ = some (.slice Ab x.bi.length cb) := hcell 8 (.slice Ab x.bi.length cb) rfl
      clear hcell
      obtain ⟨m0, m1, m2, m3, m4, m5, m6, m7, m8⟩ := nine_at wr (.int .i64 x.k) (.int .i64 x.a) (.int .i64 x.b) (.slice As x.sh.length cs) (.int .i64 x.lo) (.int .i64 x.hi) (.int .i64 x.sz) (.slice Ad x.da.length cd) (.slice Ab x.bi.length cb) 43
      by_cases d1 : (5000 : Int) < (x.da.length : Int)
      · go_wp2
        go_ret
        exact ⟨false, rfl, (fun h => by cases h), hE.out.alloc _⟩
      by_cases d2 : (200 : Int) < (x.bi.length : Int)
      · go_wp2
        go_ret
        exact ⟨false, rfl, (fun h => by cases h), hE.out.alloc _⟩
      by_cases d3 : (20 : Int) < (x.sh.length : Int)
      · go_wp2
        go_ret
        exact ⟨false, rfl, (fun h => by cases h), hE.out.alloc _⟩
      have HP2 := Lib.hid (show ∀ j y, j < k + 1 → nodes[j]? = some y → y.sh.length ≤ 20 ∧ y.da.length ≤ 5000 ∧ y.bi.length ≤ 200 from fun j y hj hy => by
        rcases Nat.lt_or_ge j k with g | g
        · exact hP.out j y g hy
        · obtain rfl : j = k := by omega
          rw [HX.out] at hy
          injection hy with hy
          subst hy
          omega)
      go_wp2
      go_roundw
      case rel => exact ⟨k + 1, by omega, by go_num, Lib.hid (hE.out.alloc _), HP2⟩
      case measure => simp [intOf]; omega
    · have hkn : k = nodes.length := by omega
      have HF := Lib.hid (show FewN nodes from ⟨by omega, fun x hx => by
        obtain ⟨j, hj, e⟩ := List.getElem_of_mem hx
        exact hP.out j x (by omega) (by rw [List.getElem?_eq_getElem hj, e])⟩)
      go_wp2
      go_ret
      exact ⟨true, rfl, fun _ => HF.out, hE.out⟩
set_option maxHeartbeats 4000000 in
theorem sameShapes_any (A A' : Option Addr) (c c' : Nat) (shs : List (List Int)) (w : World) (h : Hid (SX w A c shs)) (h' : Hid (SX w A' c' shs)) (hr : Hid (Rights shs)) (hl : shs.length ≤ 1000) :
    Calls Try.prog 13 #[.slice A shs.length c, .slice A' shs.length c'] w fun e w' => e = .returned (.bool true) ∧ Ext w w' := by
  go_enter Try.func13, Try.ntmps13
  go_wp2_with fail
  go_loopw [13] (fun i wr => ∃ k : Nat, k ≤ shs.length ∧ i = .int .i64 (k : Int) ∧ Hid (Ext w wr)) (fun i _ => shs.length - (intOf i).toNat)
  case atStart => exact ⟨0, by omega, rfl, Lib.hid (Ext.refl _)⟩
  case round =>
    obtain ⟨k, hk, rfl, hE⟩ := hrel
    by_cases hlt : k < shs.length
    · obtain ⟨s, hs⟩ : ∃ s, shs[k]? = some s := ⟨_, List.getElem?_eq_getElem hlt⟩
      obtain ⟨ad, rfl, hc⟩ := (h.out.ext hE.out).cells (by omega)
      obtain ⟨ad', rfl, hc'⟩ := (h'.out.ext hE.out).cells (by omega)
      obtain ⟨B, d, c0, hz⟩ := hc k s hs
      obtain ⟨B2, d2, c1, hz2⟩ := hc' k s hs
      have HZ := Lib.hid hz
      have HZ2 := Lib.hid hz2
      have ls := (entN_len (hr.out s (List.mem_of_getElem? hs))).2
      clear hc hc' hz hz2 hs
      have j0 : (0 : Int) ≤ (k : Int) := by omega
      have j1 : (k : Int) < (shs.length : Int) := by omega
      go_wp2_with fail
      refine wp_region_held_drew (S := (fun w' => Ext wr w')) (by kernel_rfl) ?_ (fun hHeld => ?_)
      · (try dsimp only); repeat (first | exact Ext.refl _ | assumption | refine Ext.drew ?_ | refine Ext.drewN ?_ _ | refine Ext.alloc ?_ _)
      refine wpAnyH_take (i := 0) (oi := _) (v := ?_) rfl (by kernel_rfl) (by kernel_rfl) (by kernel_rfl) (fun _ _ _ h => h) (Or.inl ⟨by first | kernel_rfl | rfl, ?_⟩) (by assumption) ?_
      rotate_left
      · (intro wS hSw; (try dsimp only at hSw); have z0 := cell_ext hSw c0; have z1 := cell_ext hSw c1; (try go_simp); (try with_reducible rfl))
      try simp only [Act.put, s1, s2, s3]
      refine wpAnyH_take (i := 1) (oi := _) (v := ?_) rfl (by kernel_rfl) (by kernel_rfl) (by kernel_rfl) (fun _ _ _ h => h) (Or.inl ⟨by first | kernel_rfl | rfl, ?_⟩) (by assumption) ?_
      rotate_left
      · (intro wS hSw; (try dsimp only at hSw); have z0 := cell_ext hSw c0; have z1 := cell_ext hSw c1; (try go_simp); (try with_reducible rfl))
      try simp only [Act.put, s1, s2, s3]
      refine wpAnyH_take (i := 2) (oi := _) (v := ?_) rfl (by kernel_rfl) (by kernel_rfl) (by kernel_rfl) (fun _ _ _ h => h) (Or.inl ⟨by first | kernel_rfl | rfl, ?_⟩) (by assumption) ?_
      rotate_left
      · (intro wS hSw; (try dsimp only at hSw); have z0 := cell_ext hSw c0; have z1 := cell_ext hSw c1; (try go_simp); (try with_reducible rfl))
      try simp only [Act.put, s1, s2, s3]
      refine wpAnyH_take (i := 3) (oi := _) (v := ?_) rfl (by kernel_rfl) (by kernel_rfl) (by kernel_rfl) (fun _ _ _ h => h) (Or.inl ⟨by first | kernel_rfl | rfl, ?_⟩) (by assumption) ?_
      rotate_left
      · (intro wS hSw; (try dsimp only at hSw); have z0 := cell_ext hSw c0; have z1 := cell_ext hSw c1; (try go_simp); (try with_reducible rfl))
      try simp only [Act.put, s1, s2, s3]
      refine wpAnyH_take (i := 4) (oi := _) (v := ?_) rfl (by kernel_rfl) (by kernel_rfl) (by kernel_rfl) (fun _ _ _ h => h) (Or.inl ⟨by first | kernel_rfl | rfl, ?_⟩) (by assumption) ?_
      rotate_left
      · (intro wS hSw; (try dsimp only at hSw); have z0 := cell_ext hSw c0; have z1 := cell_ext hSw c1; (try go_simp); (try with_reducible rfl))
      try simp only [Act.put, s1, s2, s3]
      refine wpAnyH_take (i := 5) (oi := _) (v := ?_) rfl (by kernel_rfl) (by kernel_rfl) (by kernel_rfl) (fun _ _ _ h => h) (Or.inl ⟨by first | kernel_rfl | rfl, ?_⟩) (by assumption) ?_
      rotate_left
      · (intro wS hSw; (try dsimp only at hSw); have z0 := cell_ext hSw c0; have z1 := cell_ext hSw c1; (try go_simp); (try with_reducible rfl))
      try simp only [Act.put, s1, s2, s3]
      refine wpAnyH_take (i := 6) (oi := _) (v := ?_) rfl (by kernel_rfl) (by kernel_rfl) (by kernel_rfl) (fun _ _ _ h => h) (Or.inl ⟨by first | kernel_rfl | rfl, ?_⟩) (by assumption) ?_
      rotate_left
      · (intro wS hSw; (try dsimp only at hSw); have z0 := cell_ext hSw c0; have z1 := cell_ext hSw c1; (try go_simp); (try with_reducible rfl))
      try simp only [Act.put, s1, s2, s3]
      refine wpAnyH_take (i := 7) (oi := _) (v := ?_) rfl (by kernel_rfl) (by kernel_rfl) (by kernel_rfl) (fun _ _ _ h => h) (Or.inl ⟨by first | kernel_rfl | rfl, ?_⟩) (by assumption) ?_
      rotate_left
      · (intro wS hSw; (try dsimp only at hSw); have z0 := cell_ext hSw c0; have z1 := cell_ext hSw c1; (try go_simp); (try with_reducible rfl))
      try simp only [Act.put, s1, s2, s3]
      refine wpAnyH_ready (rs := [8]) (by kernel_rfl) (by simp) ?_
      refine AllReadyH.cons rfl (fun KQ hKQ => ?_) AllReadyH.nil
      go_simp
      (refine (same_any B B2 s.length s.length d d2 s s _ (Lib.hid (HZ.out.ext (by repeat (first | exact Ext.refl _ | assumption | refine Ext.drew ?_ | refine Ext.drewN ?_ _ | refine Ext.alloc ?_ _)))) (Lib.hid (HZ2.out.ext (by repeat (first | exact Ext.refl _ | assumption | refine Ext.drew ?_ | refine Ext.drewN ?_ _ | refine Ext.alloc ?_ _)))) (by omega) (by omega)).mono ?_; rintro e8 w8 ⟨rfl, k8⟩; rw [show decide (s = s) = true from decide_eq_true rfl]; have kc : Ext wr w8 := Ext.trans (by repeat (first | exact Ext.refl _ | assumption | refine Ext.drew ?_ | refine Ext.drewN ?_ _ | refine Ext.alloc ?_ _)) k8)
      refine hKQ.out _ _ ?_ (fun hHeld => ?_)
      · (try dsimp only); repeat (first | exact Ext.refl _ | assumption | refine Ext.drew ?_ | refine Ext.drewN ?_ _ | refine Ext.alloc ?_ _)
      clear hKQ KQ
      try simp only [Act.put, s1, s2, s3]
      refine wpAnyH_ready (rs := [9]) (by kernel_rfl) (by simp) ?_
      refine AllReadyH.cons rfl (fun KQ hKQ => ?_) AllReadyH.nil
      go_simp
      refine hKQ.out _ _ ?_ (fun hHeld => ?_)
      · (try dsimp only); repeat (first | exact Ext.refl _ | assumption | refine Ext.drew ?_ | refine Ext.drewN ?_ _ | refine Ext.alloc ?_ _)
      clear hKQ KQ
      try simp only [Act.put, s1, s2, s3]
      refine wpAnyH_done (by kernel_rfl) ?_ _
      go_wp2
      go_roundw
      case rel => exact ⟨k + 1, by omega, by go_num, Lib.hid (hE.out.trans kc)⟩
      case measure => simp [intOf]; omega
    · have hkn : k = shs.length := by omega
      go_wp2
      go_ret
      exact ⟨rfl, hE.out⟩
theorem sameNone_any (w : World) : Calls Try.prog 13 #[.slice none 0 0, .slice none 0 0] w fun e w' => e = .returned (.bool true) ∧ Ext w w' :=
  sameShapes_any none none 0 0 [] w (Lib.hid ⟨Nat.le_refl _, fun h => absurd h (by simp)⟩) (Lib.hid ⟨Nat.le_refl _, fun h => absurd h (by simp)⟩) (Lib.hid fun s h => by cases h) (by decide)
set_option maxHeartbeats 1000000 in
theorem graphChecks_walk (nodes : List Nd) (A : Option Addr) (c : Nat) (out : Int) (w : World) (hG : Hid (GW w A c nodes)) :
    Calls Try.prog 3 #[.agg #[.slice A nodes.length c, .int .i64 out]] w fun e w' => e = .returned (.bool true) ∧ Ext w w' := by
  have q0 : (w.alloc (.cells #[.slice A nodes.length c, .int .i64 out] 24)).cell? ⟨w.heap.size, 0, none⟩ = some (.slice A nodes.length c) := by simp
  have q1 : (w.alloc (.cells #[.slice A nodes.length c, .int .i64 out] 24)).cell? ⟨w.heap.size, 1, none⟩ = some (.int .i64 out) := by simp
  have kk : Ext w (w.alloc (.cells #[.slice A nodes.length c, .int .i64 out] 24)) := (Ext.refl w).alloc _
  go_enter Try.func3, Try.ntmps3
  go_wp2_with fail
  generalize w.alloc (.cells #[.slice A nodes.length c, .int .i64 out] 24) = V at *
  refine (fixed16_any V).mono ?_
  rintro e1 w1 ⟨rfl, k1⟩
  replace q0 := cell_ext k1 q0
  replace q1 := cell_ext k1 q1
  replace kk := kk.trans k1
  clear k1
  go_wp2_with fail
  refine (few_any nodes A c out w1 (Lib.hid (hG.out.ext kk))).mono ?_
  rintro e2 w2 ⟨b, rfl, hb, k1⟩
  replace q0 := cell_ext k1 q0
  replace q1 := cell_ext k1 q1
  replace kk := kk.trans k1
  clear k1
  cases b
  · go_wp2
    go_ret
    exact ⟨rfl, kk⟩
  have HF := Lib.hid (hb rfl)
  have hn : nodes.length ≤ 1000 := by have := HF.out.1; omega
  clear hb
  go_wp2_with fail
  refine (graphCheck nodes A c out w2 (Lib.hid ((hG.out.gx HF.out).ext kk)) hn).mono ?_
  intro e3 w3 h3
  have H3 := Lib.hid h3
  have k1 : Ext w2 w3 := by rcases h3 with ⟨_, _, _, _, _, _, _, _, h⟩ | ⟨_, _, _, _, h⟩ <;> exact h
  replace q0 := cell_ext k1 q0
  replace q1 := cell_ext k1 q1
  replace kk := kk.trans k1
  clear h3 k1
  rcases H3.out with ⟨shs, A1, c1, h1, rfl, h2, h4, h5, _⟩ | ⟨n, h1, h2, rfl, _⟩
  · have H1 := Lib.hid h1
    have H2 := Lib.hid h2
    have H4 := Lib.hid h4
    have H5 := Lib.hid h5
    clear h1 h2 h4 h5 H3
    go_wp2_with fail
    refine (rcheck_any nodes A c out w3 (Lib.hid ((hG.out.gx HF.out).ext kk)) hn).mono ?_
    rintro e4 w4 (⟨shs2, A2, c2, g1, rfl, g2, _, g5, k4⟩ | ⟨n, g1, _⟩)
    · rw [H1.out] at g1
      injection g1 with g1
      subst g1
      have G2 := Lib.hid g2
      have K4 := Lib.hid k4
      clear g2 k4 g5
      go_wp2_with fail
      refine (sameShapes_any A1 A2 c1 c2 shs w4 (Lib.hid (H2.out.ext K4.out)) G2 H4 (by have := H5.out; omega)).mono ?_
      rintro e5 w5 ⟨rfl, k5⟩
      go_wp2
      go_ret
      exact ⟨rfl, kk.trans (K4.out.trans k5)⟩
    · rw [H1.out] at g1
      cases g1
  · have H1 := Lib.hid h1
    clear h1 H3
    go_wp2_with fail
    refine (rcheck_any nodes A c out w3 (Lib.hid ((hG.out.gx HF.out).ext kk)) hn).mono ?_
    rintro e4 w4 (⟨shs2, A2, c2, g1, _⟩ | ⟨m, g1, _, rfl, k4⟩)
    · rw [H1.out] at g1
      cases g1
    · rw [H1.out] at g1
      injection g1 with g1
      subst g1
      have K4 := Lib.hid k4
      clear k4
      go_wp2_with fail
      refine (sameNone_any w4).mono ?_
      rintro e5 w5 ⟨rfl, k5⟩
      go_wp2
      go_ret
      exact ⟨rfl, kk.trans (K4.out.trans k5)⟩
end Go.Proofs.Ytmmninjiklgebaa
