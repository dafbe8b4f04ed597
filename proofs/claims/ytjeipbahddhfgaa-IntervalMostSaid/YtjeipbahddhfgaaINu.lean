/-
  Spans of any graph, over what a sum's span is; the numbers of a power.
-/
import Derived.Test.YtjeipbahddhfgaaISp
namespace Go.Proofs.Ytjeipbahddhfgaa
open Go.RowKit
set_option linter.unusedVariables false
set_option maxRecDepth 100000

/-- What Spans answers. -/
def graphSp (G : Pl → List (Int × Int) → Int × Int) (nodes : List Nd) (out : Int) : Except Nat (List (Int × Int)) :=
  match checkR nodes out with | .error k => .error k | .ok shs => spansR G (placesF nodes shs) []
def SpsPost (w : World) (r : Except Nat (List (Int × Int))) (e : Ending) (w' : World) : Prop :=
  (∃ ks A c, r = .ok ks ∧ e = .returned (.tuple #[.slice A ks.length c, .int .i64 0]) ∧ SpX w' A c ks ∧ Near ks ∧ Ext w w') ∨ (∃ k : Nat, r = .error k ∧ (k = 3 ∨ k = 4 ∨ k = 5) ∧ e = .returned (.tuple #[.slice none 0 0, .int .i64 (k : Int)]) ∧ Ext w w')
theorem near_all {x : Nd} (h : nearOK x = true) : (In20 x.lo ∧ In20 x.hi) ∧ ∀ z ∈ x.da, In20 z := by
  simp only [nearOK, Bool.and_eq_true, near1, decide_eq_true_eq] at h
  refine ⟨⟨h.2.1, h.2.2.1⟩, fun z hz => ?_⟩
  have h3 := h.2.2.2.1
  unfold nearB at h3
  rw [List.all_eq_true] at h3
  have := h3 z hz
  simp only [Bool.and_eq_true, decide_eq_true_eq] at this
  exact this
theorem placesF_inv {nodes : List Nd} {shs : List (List Int)} {j : Nat} {p : Pl} (h : (placesF nodes shs)[j]? = some p) : ∃ x, nodes[j]? = some x ∧ p = ⟨x, shs.getD j [], shs.getD x.a.toNat []⟩ := by
  have hj := (List.getElem?_eq_some_iff.1 h).1
  unfold placesF at hj
  rw [List.length_map, List.length_range] at hj
  obtain ⟨x, hx⟩ : ∃ x, nodes[j]? = some x := ⟨_, List.getElem?_eq_getElem hj⟩
  rw [placesF_at hx] at h
  injection h with h
  exact ⟨x, hx, h.symm⟩
theorem checkR_all {nodes : List Nd} {out : Int} {shs : List (List Int)} (h : checkR nodes out = .ok shs) : (0 < nodes.length ∧ nodes.length ≤ 24 ∧ 0 ≤ out ∧ out < (nodes.length : Int) ∧ shs.length = nodes.length) ∧ ∀ (j : Nat) (x : Nd), nodes[j]? = some x → ∃ s, shs[j]? = some s ∧ nodeR x (shs.take j) = .ok s := by
  unfold checkR at h
  split at h
  · cases h
  · rename_i hn
    have h2 := chk_all nodes [] shs h
    obtain ⟨⟨more, e, hl⟩, hall⟩ := h2
    refine ⟨⟨by omega, by omega, by omega, by omega, by rw [e]; simpa using hl⟩, fun j x hx => ?_⟩
    have := hall j x hx
    simpa using this
theorem plok_of {nodes : List Nd} {out : Int} {shs : List (List Int)} (h : checkR nodes out = .ok shs) {j : Nat} {p : Pl} (hp : (placesF nodes shs)[j]? = some p) : PlOk p j := by
  obtain ⟨x, hx, rfl⟩ := placesF_inv hp
  obtain ⟨s, hs, hno⟩ := (checkR_all h).2 j x hx
  obtain ⟨hf, _, hn⟩ := node_form_of hno
  obtain ⟨hlh, hda⟩ := near_all hn
  refine ⟨fun _ => hlh, fun h8 => ?_⟩
  dsimp only at h8 ⊢
  unfold formB at hf
  rw [show mayL x.k = some [true, false, false, false, false, true, false] by rw [h8]; rfl] at hf
  simp only [Bool.and_eq_true, behB, toldB, h8] at hf
  obtain ⟨_, ⟨hb, _⟩, ht⟩ := hf
  simp at hb ht
  constructor
  · match hd : x.da, ht with
    | [c0, c1, c2], _ =>
      rw [hd] at hda
      exact ⟨c0, c1, c2, rfl, hda _ (by simp), hda _ (by simp), hda _ (by simp)⟩
  · have hjl := (List.getElem?_eq_some_iff.1 hs).1
    simp [ahB] at hb
    exact ⟨x.a.toNat, by omega, by omega⟩
set_option maxHeartbeats 1000000 in
theorem Spans_any (G : Pl → List (Int × Int) → Int × Int) (nodes : List Nd) (A : Option Addr) (c : Nat) (out : Int) (w : World) (hG : Hid (GX w A c nodes)) (hn : nodes.length ≤ 1000) (hS : Hid (∀ shs, checkR nodes out = .ok shs → ∀ (j : Nat) (p : Pl), (placesF nodes shs)[j]? = some p → p.x.k ≠ 1 → p.x.k ≠ 8 → SumOk G p j)) :
    Calls Try.prog 18 #[.agg #[.slice A nodes.length c, .int .i64 out]] w fun e w' => SpsPost w (graphSp G nodes out) e w' := by
  have q0 : (w.alloc (.cells #[.slice A nodes.length c, .int .i64 out] 26)).cell? ⟨w.heap.size, 0, none⟩ = some (.slice A nodes.length c) := by simp
  have q1 : (w.alloc (.cells #[.slice A nodes.length c, .int .i64 out] 26)).cell? ⟨w.heap.size, 1, none⟩ = some (.int .i64 out) := by simp
  have k0 : Ext w (w.alloc (.cells #[.slice A nodes.length c, .int .i64 out] 26)) := (Ext.refl w).alloc _
  go_enter Try.func18, Try.ntmps18
  go_wp2_with fail
  refine (placesOf_any nodes A c out _ (Lib.hid (hG.out.ext k0)) hn).mono ?_
  intro e1 w1 hq
  rcases hq with ⟨shs, A1, c1, hr, rfl, hps, k1⟩ | ⟨er, hr, her, rfl, k1⟩
  · have HR := Lib.hid hr
    have HPS := Lib.hid hps
    have hpl : (placesF nodes shs).length = nodes.length := by unfold placesF; rw [List.length_map, List.length_range]
    have HCALL := Lib.hid (spansOf_any G (placesF nodes shs) A1 c1 w1 HPS (by omega) (Lib.hid fun j p hp => plok_of hr hp) (Lib.hid fun j p hp h1 h8 => hS.out shs hr j p hp h1 h8))
    rw [hpl] at HCALL
    have HK := Lib.hid (k0.trans k1)
    clear hr hps hpl k0 k1
    go_wp2_with fail
    refine HCALL.out.mono ?_
    intro e2 w2 hq2
    have HGS := Lib.hid (show graphSp G nodes out = spansR G (placesF nodes shs) [] by unfold graphSp; rw [HR.out])
    rcases hq2 with ⟨ks, A2, c2, hks, rfl, hsx, hne, k2⟩ | ⟨hks, rfl, k2⟩
    · have HX := Lib.hid hsx
      have HKS := Lib.hid hks
      have HN := Lib.hid hne
      clear hsx hks hne
      go_wp2
      go_ret2
      exact .inl ⟨ks, A2, c2, by rw [HGS.out, HKS.out], rfl, HX.out, HN.out, HK.out.trans k2⟩
    · have HKS := Lib.hid hks
      clear hks
      go_wp2
      go_ret2
      exact .inr ⟨5, by rw [HGS.out, HKS.out], by omega, rfl, HK.out.trans k2⟩
  · have he : ¬ (er : Int) = 0 := by omega
    have HR := Lib.hid (show graphSp G nodes out = .error er by unfold graphSp; rw [hr])
    clear hr
    go_wp2
    go_ret2
    exact .inr ⟨er, HR.out, her, rfl, k0.trans k1⟩
/-- What lies at A lies in a block of numbers. -/
def TyI (w : World) (A : Option Addr) : Prop := ∀ ad, A = some ad → ∃ cur fz, w.heap[ad.block]? = some (.cells cur 3 fz)
theorem TyI.ext {w w' : World} {A : Option Addr} (h : TyI w A) (k : Ext w w') : TyI w' A := fun ad e => by
  obtain ⟨cur, fz, hc⟩ := h ad e
  exact ⟨cur, fz, (k.block _ (Array.getElem?_eq_some_iff.1 hc).1).trans hc⟩
theorem make_zI (c : Nat) (hc : c ≤ 1000) (w : World) :
    (Instr.makeSlice 38 (.int .i64 (c : Int)) (.int .i64 (c : Int))).run Try.prog w = .ok (.slice (some ⟨w.heap.size, 0, none⟩) c c) (w.alloc (.cells ((List.range c).map fun _ => Value.int .i64 0).toArray 3)) := by
  obtain ⟨i0, hi, hz0, hz1, hz2⟩ := info_partsJ info_intJ
  have hr := run_make (P := Try.prog) w 38 3 i0 (.int .i64 0) Try.underlying38 hi hz0 .i64 .i64 (c : Int) (c : Int) (by omega) (by omega) (by rw [hz2]; omega) (by omega)
  rw [hz1] at hr
  simp only [Int.toNat_natCast] at hr
  rw [hr]
  have e : madeCells (Value.int .i64 0).cells (c * 1) = ((List.range c).map fun _ => Value.int .i64 0).toArray := by
    unfold madeCells
    apply Array.toList_inj.1
    apply List.ext_getElem?
    intro j
    by_cases hj : j < c
    · simp [hj, Value.cells, Nat.mod_one]
    · simp [hj]
  rw [e]
set_option maxHeartbeats 1000000 in
theorem numbers8_any (x : Nd) (As Ad Ab Ah At : Option Addr) (cs cd cb ch ct : Nat) (s t : List Int) (S : Value) (Ak : Option Addr) (ck : Nat) (vs : List (List Int)) (vals : List Int) (w : World) (hX : Hid (PcX w x As Ad Ab Ah At cs cd cb ch ct s t)) (hV : Hid (SX w Ak ck vs)) (hk : Hid (x.k = 8)) (ia : Nat) (hia : x.a = (ia : Int)) (hva : Hid (vs[ia]? = some vals)) (hvl : Hid (entN s = (vals.length : Int))) (hln : vs.length ≤ 1000) (c0 c1 c2 : Int) (hd : Hid (x.da = [c0, c1, c2])) (hC : In20 c0 ∧ In20 c1 ∧ In20 c2) (hin : Hid (∀ z ∈ vals, In20 z)) :
    Calls Try.prog 37 #[.agg #[.int .i64 x.k, .int .i64 x.a, .int .i64 x.b, .slice As x.sh.length cs, .int .i64 x.lo, .int .i64 x.hi, .int .i64 x.sz, .slice Ad x.da.length cd, .slice Ab x.bi.length cb, .slice Ah s.length ch, .slice At t.length ct, S], .slice Ak vs.length ck] w fun e w' => ∃ A n c, e = .returned (.slice A n c) ∧ ZX w' A n c (vals.map (pwF x.da)) ∧ TyI w' A ∧ Frsh w.heap.size A ∧ Ext w w' := by
  obtain ⟨k_, a, b, sh, lo, hv, sz, da, bi⟩ := x
  dsimp only at *
  subst hia
  obtain rfl := hk.out
  obtain ⟨y0, y1, y2, y3, y4, y5, y6, y7, y8, y9, y10, y11⟩ := twelve_at w (.int .i64 8) (.int .i64 (ia : Int)) (.int .i64 b) (.slice As sh.length cs) (.int .i64 lo) (.int .i64 hv) (.int .i64 sz) (.slice Ad da.length cd) (.slice Ab bi.length cb) (.slice Ah s.length ch) (.slice At t.length ct) S 77
  obtain ⟨W, hW⟩ : ∃ W, W = w.alloc (.cells #[.int .i64 8, .int .i64 (ia : Int), .int .i64 b, .slice As sh.length cs, .int .i64 lo, .int .i64 hv, .int .i64 sz, .slice Ad da.length cd, .slice Ab bi.length cb, .slice Ah s.length ch, .slice At t.length ct, S] 77) := ⟨_, rfl⟩
  have kW : Ext w W := by rw [hW]; exact (Ext.refl w).alloc _
  have HSW := Lib.hid (show W.heap.size = w.heap.size + 1 by rw [hW]; simp)
  obtain ⟨ad, rfl, hvc⟩ := hV.out.cells (by have := (List.getElem?_eq_some_iff.1 hva.out).1; omega)
  obtain ⟨B, d, d1, hz⟩ := hvc ia vals hva.out
  have hil := (List.getElem?_eq_some_iff.1 hva.out).1
  have d1 := cell_ext kW d1
  have HZ := Lib.hid (hz.ext kW)
  have HPC := Lib.hid (hX.out.ext kW)
  have HIN := Lib.hid (show ∀ j, j < vals.length → In20 (vals.getD j 0) from fun j hj => by rw [List.getD_eq_getElem?_getD, List.getElem?_eq_getElem hj]; exact hin.out _ (List.getElem_mem hj))
  have hvl64 : vals.length ≤ 64 := by have := entN_le s; have := hvl.out; omega
  have i0 : (0 : Int) ≤ (ia : Int) := by omega
  have i1 : (ia : Int) < (vs.length : Int) := by omega
  have hm := make_zI vals.length (by omega) W
  have HROW := Lib.hid (RJ.new W 3 vals.length (fun _ => .int .i64 0))
  have HE := Lib.hid ((Ext.refl W).alloc (.cells ((List.range vals.length).map fun _ => Value.int .i64 0).toArray 3))
  clear hvc hz
  rw [← hW] at y0 y1 y2 y3 y4 y5 y6 y7 y8 y9 y10 y11
  go_enter Try.func37, Try.ntmps37
  go_wp2_with fail
  rw [← hW]
  clear hW
  refine (ent_any Ah s.length ch s _ (Lib.hid HPC.out.sh)).mono ?_
  rintro e1 w1 ⟨rfl, hw1⟩
  obtain rfl := hw1.symm
  rw [hvl.out]
  go_wp2_with fail
  go_loopw [13] (fun i wr => ∃ (kk : Nat) (F : Nat → Value), kk ≤ vals.length ∧ i = .int .i64 (kk : Int) ∧ Hid (RJ wr W.heap.size 3 vals.length F) ∧ Hid (∀ j, j < kk → F j = .int .i64 (pwF da (vals.getD j 0))) ∧ Hid (Ext W wr)) (fun i _ => vals.length - (intOf i).toNat)
  case atStart => exact ⟨0, _, by omega, rfl, HROW, Lib.hid (fun j h => absurd h (by omega)), HE⟩
  case round =>
    obtain ⟨kk, F, hkl, rfl, hF, hP, hE⟩ := hrel
    have hEv := hE.out
    have x0 := cell_ext hEv y0
    have x1 := cell_ext hEv y1
    have x2 := cell_ext hEv y2
    have x3 := cell_ext hEv y3
    have x4 := cell_ext hEv y4
    have x5 := cell_ext hEv y5
    have x6 := cell_ext hEv y6
    have x7 := cell_ext hEv y7
    have x8 := cell_ext hEv y8
    have x9 := cell_ext hEv y9
    have x10 := cell_ext hEv y10
    have x11 := cell_ext hEv y11
    by_cases hlt : kk < vals.length
    · obtain ⟨adv, z, hB, hzz, d2⟩ := HZ.out.at_ hlt
      subst hB
      have ez : z = vals.getD kk 0 := by rw [List.getD_eq_getElem?_getD, hzz]; rfl
      have HEZ := Lib.hid ez
      have hzi : In20 z := by rw [ez]; exact HIN.out kk hlt
      have x12 := cell_ext hEv d1
      have x13 := cell_ext hEv d2
      clear hzz ez
      have j0 : (0 : Int) ≤ (kk : Int) := by omega
      have j1 : (kk : Int) < (vals.length : Int) := by omega
      go_wp2_with fail
      refine wp_region_held_drew (S := (fun w' => Ext W w')) (by kernel_rfl) ?_ (fun hHeld => ?_)
      · (try dsimp only); first | ((repeat (first | with_reducible assumption | refine Ext.drew ?_ | refine Ext.drewN ?_ _ | refine Ext.alloc ?_ _)); done) | (refine Ext.set (p := ⟨W.heap.size, kk, none⟩) ?_ (Nat.le_refl _) _; (repeat (first | with_reducible assumption | refine Ext.drew ?_ | refine Ext.drewN ?_ _ | refine Ext.alloc ?_ _)); done)
      refine wpAnyH_take (i := 0) (oi := _) (v := ?_) rfl (by kernel_rfl) (by kernel_rfl) (by kernel_rfl) (fun _ _ _ h => h) (Or.inl ⟨by first | kernel_rfl | rfl, ?_⟩) (by assumption) ?_
      rotate_left
      · (intro wS hSw; (try dsimp only at hSw); have z0 := cell_ext hSw y0; have z1 := cell_ext hSw y1; have z2 := cell_ext hSw y2; have z3 := cell_ext hSw y3; have z4 := cell_ext hSw y4; have z5 := cell_ext hSw y5; have z6 := cell_ext hSw y6; have z7 := cell_ext hSw y7; have z8 := cell_ext hSw y8; have z9 := cell_ext hSw y9; have z10 := cell_ext hSw y10; have z11 := cell_ext hSw y11; have z12 := cell_ext hSw d1; have z13 := cell_ext hSw d2; (try go_simp); (try with_reducible rfl))
      try simp only [Act.put, s1, s2, s3]
      refine wpAnyH_take (i := 1) (oi := _) (v := ?_) rfl (by kernel_rfl) (by kernel_rfl) (by kernel_rfl) (fun _ _ _ h => h) (Or.inl ⟨by first | kernel_rfl | rfl, ?_⟩) (by assumption) ?_
      rotate_left
      · (intro wS hSw; (try dsimp only at hSw); have z0 := cell_ext hSw y0; have z1 := cell_ext hSw y1; have z2 := cell_ext hSw y2; have z3 := cell_ext hSw y3; have z4 := cell_ext hSw y4; have z5 := cell_ext hSw y5; have z6 := cell_ext hSw y6; have z7 := cell_ext hSw y7; have z8 := cell_ext hSw y8; have z9 := cell_ext hSw y9; have z10 := cell_ext hSw y10; have z11 := cell_ext hSw y11; have z12 := cell_ext hSw d1; have z13 := cell_ext hSw d2; (try go_simp); (try with_reducible rfl))
      try simp only [Act.put, s1, s2, s3]
      refine wpAnyH_take (i := 2) (oi := _) (v := ?_) rfl (by kernel_rfl) (by kernel_rfl) (by kernel_rfl) (fun _ _ _ h => h) (Or.inl ⟨by first | kernel_rfl | rfl, ?_⟩) (by assumption) ?_
      rotate_left
      · (intro wS hSw; (try dsimp only at hSw); have z0 := cell_ext hSw y0; have z1 := cell_ext hSw y1; have z2 := cell_ext hSw y2; have z3 := cell_ext hSw y3; have z4 := cell_ext hSw y4; have z5 := cell_ext hSw y5; have z6 := cell_ext hSw y6; have z7 := cell_ext hSw y7; have z8 := cell_ext hSw y8; have z9 := cell_ext hSw y9; have z10 := cell_ext hSw y10; have z11 := cell_ext hSw y11; have z12 := cell_ext hSw d1; have z13 := cell_ext hSw d2; (try go_simp); (try with_reducible rfl))
      try simp only [Act.put, s1, s2, s3]
      refine wpAnyH_take (i := 3) (oi := _) (v := ?_) rfl (by kernel_rfl) (by kernel_rfl) (by kernel_rfl) (fun _ _ _ h => h) (Or.inl ⟨by first | kernel_rfl | rfl, ?_⟩) (by assumption) ?_
      rotate_left
      · (intro wS hSw; (try dsimp only at hSw); have z0 := cell_ext hSw y0; have z1 := cell_ext hSw y1; have z2 := cell_ext hSw y2; have z3 := cell_ext hSw y3; have z4 := cell_ext hSw y4; have z5 := cell_ext hSw y5; have z6 := cell_ext hSw y6; have z7 := cell_ext hSw y7; have z8 := cell_ext hSw y8; have z9 := cell_ext hSw y9; have z10 := cell_ext hSw y10; have z11 := cell_ext hSw y11; have z12 := cell_ext hSw d1; have z13 := cell_ext hSw d2; (try go_simp); (try with_reducible rfl))
      try simp only [Act.put, s1, s2, s3]
      refine wpAnyH_take (i := 4) (oi := _) (v := ?_) rfl (by kernel_rfl) (by kernel_rfl) (by kernel_rfl) (fun _ _ _ h => h) (Or.inl ⟨by first | kernel_rfl | rfl, ?_⟩) (by assumption) ?_
      rotate_left
      · (intro wS hSw; (try dsimp only at hSw); have z0 := cell_ext hSw y0; have z1 := cell_ext hSw y1; have z2 := cell_ext hSw y2; have z3 := cell_ext hSw y3; have z4 := cell_ext hSw y4; have z5 := cell_ext hSw y5; have z6 := cell_ext hSw y6; have z7 := cell_ext hSw y7; have z8 := cell_ext hSw y8; have z9 := cell_ext hSw y9; have z10 := cell_ext hSw y10; have z11 := cell_ext hSw y11; have z12 := cell_ext hSw d1; have z13 := cell_ext hSw d2; (try go_simp); (try with_reducible rfl))
      try simp only [Act.put, s1, s2, s3]
      refine wpAnyH_take (i := 5) (oi := _) (v := ?_) rfl (by kernel_rfl) (by kernel_rfl) (by kernel_rfl) (fun _ _ _ h => h) (Or.inl ⟨by first | kernel_rfl | rfl, ?_⟩) (by assumption) ?_
      rotate_left
      · (intro wS hSw; (try dsimp only at hSw); have z0 := cell_ext hSw y0; have z1 := cell_ext hSw y1; have z2 := cell_ext hSw y2; have z3 := cell_ext hSw y3; have z4 := cell_ext hSw y4; have z5 := cell_ext hSw y5; have z6 := cell_ext hSw y6; have z7 := cell_ext hSw y7; have z8 := cell_ext hSw y8; have z9 := cell_ext hSw y9; have z10 := cell_ext hSw y10; have z11 := cell_ext hSw y11; have z12 := cell_ext hSw d1; have z13 := cell_ext hSw d2; (try go_simp); (try with_reducible rfl))
      try simp only [Act.put, s1, s2, s3]
      refine wpAnyH_take (i := 6) (oi := _) (v := ?_) rfl (by kernel_rfl) (by kernel_rfl) (by kernel_rfl) (fun _ _ _ h => h) (Or.inl ⟨by first | kernel_rfl | rfl, ?_⟩) (by assumption) ?_
      rotate_left
      · (intro wS hSw; (try dsimp only at hSw); have z0 := cell_ext hSw y0; have z1 := cell_ext hSw y1; have z2 := cell_ext hSw y2; have z3 := cell_ext hSw y3; have z4 := cell_ext hSw y4; have z5 := cell_ext hSw y5; have z6 := cell_ext hSw y6; have z7 := cell_ext hSw y7; have z8 := cell_ext hSw y8; have z9 := cell_ext hSw y9; have z10 := cell_ext hSw y10; have z11 := cell_ext hSw y11; have z12 := cell_ext hSw d1; have z13 := cell_ext hSw d2; (try go_simp); (try with_reducible rfl))
      try simp only [Act.put, s1, s2, s3]
      refine wpAnyH_take (i := 7) (oi := _) (v := ?_) rfl (by kernel_rfl) (by kernel_rfl) (by kernel_rfl) (fun _ _ _ h => h) (Or.inl ⟨by first | kernel_rfl | rfl, ?_⟩) (by assumption) ?_
      rotate_left
      · (intro wS hSw; (try dsimp only at hSw); have z0 := cell_ext hSw y0; have z1 := cell_ext hSw y1; have z2 := cell_ext hSw y2; have z3 := cell_ext hSw y3; have z4 := cell_ext hSw y4; have z5 := cell_ext hSw y5; have z6 := cell_ext hSw y6; have z7 := cell_ext hSw y7; have z8 := cell_ext hSw y8; have z9 := cell_ext hSw y9; have z10 := cell_ext hSw y10; have z11 := cell_ext hSw y11; have z12 := cell_ext hSw d1; have z13 := cell_ext hSw d2; (try go_simp); (try with_reducible rfl))
      try simp only [Act.put, s1, s2, s3]
      refine wpAnyH_take (i := 8) (oi := _) (v := ?_) rfl (by kernel_rfl) (by kernel_rfl) (by kernel_rfl) (fun _ _ _ h => h) (Or.inl ⟨by first | kernel_rfl | rfl, ?_⟩) (by assumption) ?_
      rotate_left
      · (intro wS hSw; (try dsimp only at hSw); have z0 := cell_ext hSw y0; have z1 := cell_ext hSw y1; have z2 := cell_ext hSw y2; have z3 := cell_ext hSw y3; have z4 := cell_ext hSw y4; have z5 := cell_ext hSw y5; have z6 := cell_ext hSw y6; have z7 := cell_ext hSw y7; have z8 := cell_ext hSw y8; have z9 := cell_ext hSw y9; have z10 := cell_ext hSw y10; have z11 := cell_ext hSw y11; have z12 := cell_ext hSw d1; have z13 := cell_ext hSw d2; (try go_simp); (try with_reducible rfl))
      try simp only [Act.put, s1, s2, s3]
      refine wpAnyH_take (i := 9) (oi := _) (v := ?_) rfl (by kernel_rfl) (by kernel_rfl) (by kernel_rfl) (fun _ _ _ h => h) (Or.inl ⟨by first | kernel_rfl | rfl, ?_⟩) (by assumption) ?_
      rotate_left
      · (intro wS hSw; (try dsimp only at hSw); have z0 := cell_ext hSw y0; have z1 := cell_ext hSw y1; have z2 := cell_ext hSw y2; have z3 := cell_ext hSw y3; have z4 := cell_ext hSw y4; have z5 := cell_ext hSw y5; have z6 := cell_ext hSw y6; have z7 := cell_ext hSw y7; have z8 := cell_ext hSw y8; have z9 := cell_ext hSw y9; have z10 := cell_ext hSw y10; have z11 := cell_ext hSw y11; have z12 := cell_ext hSw d1; have z13 := cell_ext hSw d2; (try go_simp); (try with_reducible rfl))
      try simp only [Act.put, s1, s2, s3]
      refine wpAnyH_take (i := 10) (oi := _) (v := ?_) rfl (by kernel_rfl) (by kernel_rfl) (by kernel_rfl) (fun _ _ _ h => h) (Or.inl ⟨by first | kernel_rfl | rfl, ?_⟩) (by assumption) ?_
      rotate_left
      · (intro wS hSw; (try dsimp only at hSw); have z0 := cell_ext hSw y0; have z1 := cell_ext hSw y1; have z2 := cell_ext hSw y2; have z3 := cell_ext hSw y3; have z4 := cell_ext hSw y4; have z5 := cell_ext hSw y5; have z6 := cell_ext hSw y6; have z7 := cell_ext hSw y7; have z8 := cell_ext hSw y8; have z9 := cell_ext hSw y9; have z10 := cell_ext hSw y10; have z11 := cell_ext hSw y11; have z12 := cell_ext hSw d1; have z13 := cell_ext hSw d2; (try go_simp); (try with_reducible rfl))
      try simp only [Act.put, s1, s2, s3]
      refine wpAnyH_take (i := 11) (oi := _) (v := ?_) rfl (by kernel_rfl) (by kernel_rfl) (by kernel_rfl) (fun _ _ _ h => h) (Or.inl ⟨by first | kernel_rfl | rfl, ?_⟩) (by assumption) ?_
      rotate_left
      · (intro wS hSw; (try dsimp only at hSw); have z0 := cell_ext hSw y0; have z1 := cell_ext hSw y1; have z2 := cell_ext hSw y2; have z3 := cell_ext hSw y3; have z4 := cell_ext hSw y4; have z5 := cell_ext hSw y5; have z6 := cell_ext hSw y6; have z7 := cell_ext hSw y7; have z8 := cell_ext hSw y8; have z9 := cell_ext hSw y9; have z10 := cell_ext hSw y10; have z11 := cell_ext hSw y11; have z12 := cell_ext hSw d1; have z13 := cell_ext hSw d2; (try go_simp); (try with_reducible rfl))
      try simp only [Act.put, s1, s2, s3]
      refine wpAnyH_ready (rs := [12]) (by kernel_rfl) (by simp) ?_
      refine AllReadyH.cons rfl (fun KQ hKQ => ?_) AllReadyH.nil
      go_simp
      (refine (ipower_any ⟨8, (ia : Int), b, sh, lo, hv, sz, da, bi⟩ As Ad Ab Ah At cs cd cb ch ct s t S _ (Lib.hid (HPC.out.ext (by repeat (first | with_reducible assumption | refine Ext.drew ?_ | refine Ext.drewN ?_ _ | refine Ext.alloc ?_ _)))) c0 c1 c2 z hd.out (Lib.hid ⟨hC, hzi⟩)).mono ?_; rintro e5 w5 ⟨rfl, k5⟩; have kc : Ext wr w5 := Ext.trans (by repeat (first | exact Ext.refl _ | refine Ext.drew ?_ | refine Ext.drewN ?_ _)) k5; replace k5 : Ext W w5 := Ext.trans (by repeat (first | with_reducible assumption | refine Ext.drew ?_ | refine Ext.drewN ?_ _)) k5; have f0 := (hF.out.ext kc).cell (show kk < vals.length from hlt); have f1 := (hF.out.ext kc).frozen kk)
      refine hKQ.out _ _ ?_ (fun hHeld => ?_)
      · (try dsimp only); first | ((repeat (first | with_reducible assumption | refine Ext.drew ?_ | refine Ext.drewN ?_ _ | refine Ext.alloc ?_ _)); done) | (refine Ext.set (p := ⟨W.heap.size, kk, none⟩) ?_ (Nat.le_refl _) _; (repeat (first | with_reducible assumption | refine Ext.drew ?_ | refine Ext.drewN ?_ _ | refine Ext.alloc ?_ _)); done)
      clear hKQ KQ
      try simp only [Act.put, s1, s2, s3]
      refine wpAnyH_take (i := 13) (oi := _) (v := ?_) rfl (by kernel_rfl) (by kernel_rfl) (by kernel_rfl) (fun _ _ _ h => h) (Or.inl ⟨by first | kernel_rfl | rfl, ?_⟩) (by assumption) ?_
      rotate_left
      · (intro wS hSw; (try dsimp only at hSw); have z0 := cell_ext hSw y0; have z1 := cell_ext hSw y1; have z2 := cell_ext hSw y2; have z3 := cell_ext hSw y3; have z4 := cell_ext hSw y4; have z5 := cell_ext hSw y5; have z6 := cell_ext hSw y6; have z7 := cell_ext hSw y7; have z8 := cell_ext hSw y8; have z9 := cell_ext hSw y9; have z10 := cell_ext hSw y10; have z11 := cell_ext hSw y11; have z12 := cell_ext hSw d1; have z13 := cell_ext hSw d2; (try go_simp); (try with_reducible rfl))
      try simp only [Act.put, s1, s2, s3]
      refine wpAnyH_ready (rs := [14]) (by kernel_rfl) (by simp) ?_
      refine AllReadyH.cons rfl (fun KQ hKQ => ?_) AllReadyH.nil
      go_simp
      refine hKQ.out _ _ ?_ (fun hHeld => ?_)
      · (try dsimp only); first | ((repeat (first | with_reducible assumption | refine Ext.drew ?_ | refine Ext.drewN ?_ _ | refine Ext.alloc ?_ _)); done) | (refine Ext.set (p := ⟨W.heap.size, kk, none⟩) ?_ (Nat.le_refl _) _; (repeat (first | with_reducible assumption | refine Ext.drew ?_ | refine Ext.drewN ?_ _ | refine Ext.alloc ?_ _)); done)
      clear hKQ KQ
      try simp only [Act.put, s1, s2, s3]
      refine wpAnyH_done (by kernel_rfl) ?_ _
      go_wp2
      refine ⟨⟨kk + 1, _, by omega, by go_num, Lib.hid ((hF.out.ext kc).set hlt _), Lib.hid ?_, Lib.hid (Ext.set (p := ⟨W.heap.size, kk, none⟩) k5 (Nat.le_refl _) _)⟩, by simp [intOf]; omega⟩
      intro j hj
      by_cases e : j = kk
      · subst e
        rw [if_pos rfl, ← HEZ.out]
      · rw [if_neg e]
        exact hP.out j (by omega)
    · have hkn : kk = vals.length := by omega
      have HZ9 := Lib.hid (show ZX wr (some ⟨W.heap.size, 0, none⟩) vals.length vals.length (vals.map (pwF da)) from ⟨by simp, Nat.le_refl _, fun hn => ⟨_, rfl, fun j z hz => by
        rw [List.getElem?_map] at hz
        obtain ⟨u, hu, rfl⟩ := Option.map_eq_some_iff.1 hz
        have hj := (List.getElem?_eq_some_iff.1 hu).1
        rw [Addr.add_lit, Nat.zero_add, hF.out.cell hj, hP.out j (by omega), List.getD_eq_getElem?_getD, hu]
        rfl⟩⟩)
      have HT9 := Lib.hid (show TyI wr (some ⟨W.heap.size, 0, none⟩) from fun ad e => by injection e with e; subst e; exact ⟨_, _, hF.out⟩)
      go_wp2
      go_ret
      exact ⟨_, _, _, rfl, HZ9.out, HT9.out, fun ad e => by injection e with e; subst e; show w.heap.size ≤ W.heap.size; rw [HSW.out]; omega, kW.trans hE.out⟩
end Go.Proofs.Ytjeipbahddhfgaa
