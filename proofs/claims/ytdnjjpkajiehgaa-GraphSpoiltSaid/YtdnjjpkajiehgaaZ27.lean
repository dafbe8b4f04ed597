/-
  The calls whose answers the document fixes for package graph; the law GraphEntries walked.
-/
import Derived.Test.YtdnjjpkajiehgaaZ26
import Derived.KernelRfl
import Derived.Test.YtdnjjpkajiehgaaZ22
namespace Go.Proofs.Ytdnjjpkajiehgaa
open Go.RowKit
set_option linter.unusedVariables false
set_option maxRecDepth 100000

def nd1 : Nd := ⟨1, 0, 0, [2], 0, 1, 0, [], []⟩
theorem gx_nil (w : World) : GX w none 0 [] := ⟨Nat.le_refl _, fun h => absurd h (by simp)⟩
theorem gx_one (w : World) (g : Nat) (hg : w.heap[g]? = some (.cells #[.int .i64 2] 3)) : GX (w.alloc (.cells #[.int .i64 1, .int .i64 0, .int .i64 0, .slice (some ⟨g, 0, none⟩) 1 1, .int .i64 0, .int .i64 1, .int .i64 0, .slice none 0 0, .slice none 0 0] 40)) (some ⟨w.heap.size, 0, none⟩) 1 [nd1] := by
  refine ⟨Nat.le_refl _, fun _ => ⟨_, rfl, fun j x hx => ?_⟩⟩
  rcases j with _ | j
  · simp at hx
    subst hx
    refine ⟨some ⟨g, 0, none⟩, none, none, 1, 0, 0, ⟨⟨rfl, Nat.le_refl _, fun _ => ⟨_, rfl, fun j z hz => ?_⟩⟩, ZX.none_ _ _ _, ZX.none_ _ _ _, by decide, by decide, by decide⟩, fun f v hv => ?_⟩
    · rcases j with _ | j
      · simp [nd1] at hz
        subst hz
        refine cell_ext ((Ext.refl w).alloc _) ?_
        simp [World.cell?, hg, Addr.add]
      · simp [nd1] at hz
    · obtain ⟨m0, m1, m2, m3, m4, m5, m6, m7, m8⟩ := nine_at w (.int .i64 1) (.int .i64 0) (.int .i64 0) (.slice (some ⟨g, 0, none⟩) 1 1) (.int .i64 0) (.int .i64 1) (.int .i64 0) (.slice none 0 0) (.slice none 0 0) 40
      rw [Nat.zero_mul, add0J]
      rcases f with _ | _ | _ | _ | _ | _ | _ | _ | _ | f <;> (simp [nd1] at hv) <;> (subst hv) <;> (rw [Addr.add_lit]) <;> (first | exact m0 | exact m1 | exact m2 | exact m3 | exact m4 | exact m5 | exact m6 | exact m7 | exact m8)
  · simp at hx
theorem chk_one : checkR [nd1] 0 = .ok [[2]] := by kernel_rfl
theorem chk_nil : checkR [] 0 = .error 3 := by kernel_rfl
theorem ent_23 : entN [2, 3] = 6 := by simp [entN, entF]
theorem ent_0 : entN [0] = 0 := by simp [entN, entF]
theorem zx_new2 (w : World) (a b : Int) : ZX (w.alloc (.cells #[.int .i64 a, .int .i64 b] 3)) (some ⟨w.heap.size, 0, none⟩) 2 2 [a, b] :=
  ⟨rfl, Nat.le_refl _, fun _ => ⟨_, rfl, fun j x hx => by
    rcases j with _ | _ | j
    · simp at hx
      subst hx
      rw [Addr.add_lit]
      simp
    · simp at hx
      subst hx
      rw [Addr.add_lit]
      simp
    · simp at hx⟩⟩
set_option maxHeartbeats 4000000 in
theorem fixed16_any (w : World) : Calls Try.prog 15 #[] w fun e w' => e = .returned (.bool true) ∧ Ext w w' := by
  have k0 : Ext w ((w.alloc (.cells #[.int .i64 2] 3)).alloc (.cells #[.int .i64 1, .int .i64 0, .int .i64 0, .slice (some ⟨w.heap.size, 0, none⟩) 1 1, .int .i64 0, .int .i64 1, .int .i64 0, .slice none 0 0, .slice none 0 0] 40)) := ((Ext.refl w).alloc _).alloc _
  have hG := gx_one (w.alloc (.cells #[.int .i64 2] 3)) w.heap.size (heap_alloc_new w _)
  rw [show (w.alloc (.cells #[.int .i64 2] 3)).heap.size = w.heap.size + 1 by simp] at hG
  have HG := Lib.hid hG
  have KK := Lib.hid k0
  clear hG k0
  go_enter Try.func15, Try.ntmps15
  go_wp2_with fail
  refine (graphCheck [nd1] (some ⟨w.heap.size + 1, 0, none⟩) 1 0 _ HG (by decide)).mono ?_
  rintro e1 w1 (⟨shs, A1, c1, h1, rfl, h3, h4, h5, k1⟩ | ⟨n, h1, _⟩)
  rotate_left
  · rw [chk_one] at h1
    cases h1
  rw [chk_one] at h1
  injection h1 with h1
  subst h1
  replace KK := Lib.hid (KK.out.trans k1)
  clear k1 h4 h5
  go_wp2_with fail
  refine (graphCheck [] none 0 0 w1 (Lib.hid (gx_nil w1)) (by decide)).mono ?_
  rintro e2 w2 (⟨shs2, A2, c2, h1, _⟩ | ⟨n, h1, _, rfl, k2⟩)
  · rw [chk_nil] at h1
    cases h1
  rw [chk_nil] at h1
  injection h1 with h1
  subst h1
  obtain ⟨ad, rfl, hc⟩ := (h3.ext k2).cells (by decide)
  obtain ⟨B, d, hc0, hz⟩ := hc 0 [2] rfl
  rw [add0J] at hc0
  have HZ := Lib.hid hz
  replace KK := Lib.hid (KK.out.trans k2)
  clear k2 h3 hc hz
  have hc1 := cell_ext ((Ext.refl w2).alloc (.cells #[.int .i64 2] 3)) hc0
  go_wp2_with fail
  refine (same_any B (some ⟨w2.heap.size, 0, none⟩) 1 1 d 1 [2] [2] _ (Lib.hid (HZ.out.ext ((Ext.refl w2).alloc _))) (Lib.hid (zx_new1 w2 2)) (by decide) (by decide)).mono ?_
  rintro e3 w3 ⟨rfl, k3⟩
  rw [show decide ([(2 : Int)] = [2]) = true from rfl]
  replace KK := Lib.hid (KK.out.trans (((Ext.refl w2).alloc _).trans k3))
  clear hc0 hc1 k3
  go_wp2_with fail
  refine (ent_any (some ⟨w3.heap.size, 0, none⟩) 2 2 [2, 3] _ (Lib.hid (zx_new2 w3 2 3))).mono ?_
  rintro e4 w4 ⟨rfl, rfl⟩
  rw [ent_23]
  go_wp2_with fail
  have hz0 := zx_new1 (w3.alloc (.cells #[.int .i64 2, .int .i64 3] 3)) 0
  rw [show (w3.alloc (.cells #[.int .i64 2, .int .i64 3] 3)).heap.size = w3.heap.size + 1 by simp] at hz0
  refine (ent_any (some ⟨w3.heap.size + 1, 0, none⟩) 1 1 [0] _ (Lib.hid hz0)).mono ?_
  rintro e5 w5 ⟨rfl, rfl⟩
  rw [ent_0]
  go_wp2
  go_ret
  exact ⟨rfl, KK.out.trans (((Ext.refl _).alloc _).alloc _)⟩
end Go.Proofs.Ytdnjjpkajiehgaa

/-
  The law GraphChecks walked.
-/
namespace Go.Proofs.Ytdnjjpkajiehgaa
open Go.RowKit
set_option linter.unusedVariables false
set_option maxRecDepth 100000

/-- A graph's nodes, as they are handed in: lists of whatever length. -/
structure GW (w : World) (A : Option Addr) (c : Nat) (nodes : List Nd) : Prop where
  room : nodes.length ≤ c
  cells : 0 < nodes.length → ∃ ad, A = some ad ∧ ∀ (j : Nat) (x : Nd), nodes[j]? = some x → ∃ As Ad Ab cs cd cb, (ZX w As x.sh.length cs x.sh ∧ ZX w Ad x.da.length cd x.da ∧ ZX w Ab x.bi.length cb x.bi) ∧
    (∀ (f : Nat) (v : Value), [Value.int .i64 x.k, .int .i64 x.a, .int .i64 x.b, .slice As x.sh.length cs, .int .i64 x.lo, .int .i64 x.hi, .int .i64 x.sz, .slice Ad x.da.length cd, .slice Ab x.bi.length cb][f]? = some v → w.cell? ((ad.add (j * 9)).add f) = some v)
theorem GW.ext {w w' : World} {A : Option Addr} {c : Nat} {nodes : List Nd} (h : GW w A c nodes) (k : Ext w w') : GW w' A c nodes :=
  ⟨h.room, fun hn => by
    obtain ⟨ad, e, hc⟩ := h.cells hn
    exact ⟨ad, e, fun j x hx => by
      obtain ⟨As, Ad, Ab, cs, cd, cb, ⟨h1, h2, h3⟩, h4⟩ := hc j x hx
      exact ⟨As, Ad, Ab, cs, cd, cb, ⟨h1.ext k, h2.ext k, h3.ext k⟩, fun f v hv => cell_ext k (h4 f v hv)⟩⟩⟩
/-- Few nodes of short lists. -/
def FewN (nodes : List Nd) : Prop := nodes.length ≤ 40 ∧ ∀ x ∈ nodes, x.sh.length ≤ 20 ∧ x.da.length ≤ 5000 ∧ x.bi.length ≤ 200
theorem GW.gx {w : World} {A : Option Addr} {c : Nat} {nodes : List Nd} (h : GW w A c nodes) (hf : FewN nodes) : GX w A c nodes :=
  ⟨h.room, fun hn => by
    obtain ⟨ad, e, hc⟩ := h.cells hn
    exact ⟨ad, e, fun j x hx => by
      obtain ⟨As, Ad, Ab, cs, cd, cb, ⟨h1, h2, h3⟩, h4⟩ := hc j x hx
      obtain ⟨l1, l2, l3⟩ := hf.2 x (List.mem_of_getElem? hx)
      exact ⟨As, Ad, Ab, cs, cd, cb, ⟨h1, h2, h3, by omega, by omega, by omega⟩, h4⟩⟩⟩
/-- What Few answers. -/
def FewPost (nodes : List Nd) (w : World) (e : Ending) (w' : World) : Prop := ∃ b : Bool, e = .returned (.bool b) ∧ (b = true → FewN nodes) ∧ Ext w w'
set_option maxHeartbeats 4000000 in
theorem few_any (nodes : List Nd) (A : Option Addr) (c : Nat) (out : Int) (w : World) (hG : Hid (GW w A c nodes)) :
    Calls Try.prog 21 #[.agg #[.slice A nodes.length c, .int .i64 out]] w fun e w' => FewPost nodes w e w' := by
  have q0 : (w.alloc (.cells #[.slice A nodes.length c, .int .i64 out] 26)).cell? ⟨w.heap.size, 0, none⟩ = some (.slice A nodes.length c) := by simp
  by_cases b0 : (40 : Int) < (nodes.length : Int)
  · go_enter Try.func21, Try.ntmps21
    go_wp2
    go_ret
    exact ⟨false, rfl, (fun h => by cases h), (Ext.refl w).alloc _⟩
  have HK := Lib.hid (show Ext w (w.alloc (.cells #[.slice A nodes.length c, .int .i64 out] 26)) from (Ext.refl w).alloc _)
  go_enter Try.func21, Try.ntmps21
  go_wp2_with fail
  go_loopw [12] (fun i wr => ∃ k : Nat, k ≤ nodes.length ∧ i = .int .i64 (k : Int) ∧ Hid (Ext w wr) ∧ Hid (∀ j x, j < k → nodes[j]? = some x → x.sh.length ≤ 20 ∧ x.da.length ≤ 5000 ∧ x.bi.length ≤ 200)) (fun i _ => nodes.length - (intOf i).toNat)
  case atStart => exact ⟨0, by omega, rfl, HK, Lib.hid (fun j x h => absurd h (by omega))⟩
  case round =>
    obtain ⟨k, hk, rfl, hE, hP⟩ := hrel
    by_cases hlt : k < nodes.length
    · obtain ⟨x, hx⟩ : ∃ x, nodes[k]? = some x := ⟨_, List.getElem?_eq_getElem hlt⟩
      obtain ⟨ad, rfl, hc⟩ := (hG.out.ext hE.out).cells (by omega)
      obtain ⟨As, Ad, Ab, cs, cd, cb, hnd, hcell⟩ := hc k x hx
      have HX := Lib.hid hx
      clear hc hnd hx
      have j0 : (0 : Int) ≤ (k : Int) := by omega
      have j1 : (k : Int) < (nodes.length : Int) := by omega
      have c0 : wr.cell? (ad.add (k * 9)) = some (.int .i64 x.k) := by have := hcell 0 (.int .i64 x.k) rfl; rw [add0J] at this; exact this
      have c1 : wr.cell? ⟨(ad.add (k * 9)).block, (ad.add (k * 9)).off + 1, none⟩ = some (.int .i64 x.a) := hcell 1 (.int .i64 x.a) rfl
      have c2 : wr.cell? ⟨(ad.add (k * 9)).block, (ad.add (k * 9)).off + 2, none⟩ = some (.int .i64 x.b) := hcell 2 (.int .i64 x.b) rfl
      have c3 : wr.cell? ⟨(ad.add (k * 9)).block, (ad.add (k * 9)).off + 3, none⟩ = some (.slice As x.sh.length cs) := hcell 3 (.slice As x.sh.length cs) rfl
      have c4 : wr.cell? ⟨(ad.add (k * 9)).block, (ad.add (k * 9)).off + 4, none⟩ = some (.int .i64 x.lo) := hcell 4 (.int .i64 x.lo) rfl
      have c5 : wr.cell? ⟨(ad.add (k * 9)).block, (ad.add (k * 9)).off + 5, none⟩ = some (.int .i64 x.hi) := hcell 5 (.int .i64 x.hi) rfl
      have c6 : wr.cell? ⟨(ad.add (k * 9)).block, (ad.add (k * 9)).off + 6, none⟩ = some (.int .i64 x.sz) := hcell 6 (.int .i64 x.sz) rfl
      have c7 : wr.cell? ⟨(ad.add (k * 9)).block, (ad.add (k * 9)).off + 7, none⟩ = some (.slice Ad x.da.length cd) := hcell 7 (.slice Ad x.da.length cd) rfl
      have c8 : wr.cell? ⟨(ad.add (k * 9)).block, (ad.add (k * 9)).off + 8, none⟩ = some (.slice Ab x.bi.length cb) := hcell 8 (.slice Ab x.bi.length cb) rfl
      clear hcell
      obtain ⟨m0, m1, m2, m3, m4, m5, m6, m7, m8⟩ := nine_at wr (.int .i64 x.k) (.int .i64 x.a) (.int .i64 x.b) (.slice As x.sh.length cs) (.int .i64 x.lo) (.int .i64 x.hi) (.int .i64 x.sz) (.slice Ad x.da.length cd) (.slice Ab x.bi.length cb) 40
      by_cases d1 : (5000 : Int) < (x.da.length : Int)
      · go_wp2
        go_ret
        exact ⟨false, rfl, (fun h => by cases h), hE.out.alloc _⟩
      by_cases d2 : (200 : Int) < (x.bi.length : Int)
      · go_wp2
        go_ret
        exact ⟨false, rfl, (fun h => by cases h), hE.out.alloc _⟩
      by_cases d3 : (20 : Int) < (x.sh.length : Int)
      · go_wp2
        go_ret
        exact ⟨false, rfl, (fun h => by cases h), hE.out.alloc _⟩
      have HP2 := Lib.hid (show ∀ j y, j < k + 1 → nodes[j]? = some y → y.sh.length ≤ 20 ∧ y.da.length ≤ 5000 ∧ y.bi.length ≤ 200 from fun j y hj hy => by
        rcases Nat.lt_or_ge j k with g | g
        · exact hP.out j y g hy
        · obtain rfl : j = k := by omega
          rw [HX.out] at hy
          injection hy with hy
          subst hy
          omega)
      go_wp2
      go_roundw
      case rel => exact ⟨k + 1, by omega, by go_num, Lib.hid (hE.out.alloc _), HP2⟩
      case measure => simp [intOf]; omega
    · have hkn : k = nodes.length := by omega
      have HF := Lib.hid (show FewN nodes from ⟨by omega, fun x hx => by
        obtain ⟨j, hj, e⟩ := List.getElem_of_mem hx
        exact hP.out j x (by omega) (by rw [List.getElem?_eq_getElem hj, e])⟩)
      go_wp2
      go_ret
      exact ⟨true, rfl, fun _ => HF.out, hE.out⟩
set_option maxHeartbeats 4000000 in
theorem sameShapes_any (A A' : Option Addr) (c c' : Nat) (shs : List (List Int)) (w : World) (h : Hid (SX w A c shs)) (h' : Hid (SX w A' c' shs)) (hr : Hid (Rights shs)) (hl : shs.length ≤ 1000) :
    Calls Try.prog 18 #[.slice A shs.length c, .slice A' shs.length c'] w fun e w' => e = .returned (.bool true) ∧ Ext w w' := by
  go_enter Try.func18, Try.ntmps18
  go_wp2_with fail
  go_loopw [13] (fun i wr => ∃ k : Nat, k ≤ shs.length ∧ i = .int .i64 (k : Int) ∧ Hid (Ext w wr)) (fun i _ => shs.length - (intOf i).toNat)
  case atStart => exact ⟨0, by omega, rfl, Lib.hid (Ext.refl _)⟩
  case round =>
    obtain ⟨k, hk, rfl, hE⟩ := hrel
    by_cases hlt : k < shs.length
    · obtain ⟨s, hs⟩ : ∃ s, shs[k]? = some s := ⟨_, List.getElem?_eq_getElem hlt⟩
      obtain ⟨ad, rfl, hc⟩ := (h.out.ext hE.out).cells (by omega)
      obtain ⟨ad', rfl, hc'⟩ := (h'.out.ext hE.out).cells (by omega)
      obtain ⟨B, d, c0, hz⟩ := hc k s hs
      obtain ⟨B2, d2, c1, hz2⟩ := hc' k s hs
      have HZ := Lib.hid hz
      have HZ2 := Lib.hid hz2
      have ls := (entN_len (hr.out s (List.mem_of_getElem? hs))).2
      clear hc hc' hz hz2 hs
      have j0 : (0 : Int) ≤ (k : Int) := by omega
      have j1 : (k : Int) < (shs.length : Int) := by omega
      go_wp2_with fail
      refine wp_region_held_drew (S := (fun w' => Ext wr w')) (by kernel_rfl) ?_ (fun hHeld => ?_)
      · (try dsimp only); repeat (first | exact Ext.refl _ | assumption | refine Ext.drew ?_ | refine Ext.drewN ?_ _ | refine Ext.alloc ?_ _)
      refine wpAnyH_take (i := 0) (oi := _) (v := ?_) rfl (by kernel_rfl) (by kernel_rfl) (by kernel_rfl) (fun _ _ _ h => h) (Or.inl ⟨by first | kernel_rfl | rfl, ?_⟩) (by assumption) ?_
      rotate_left
      · (intro wS hSw; (try dsimp only at hSw); have z0 := cell_ext hSw c0; have z1 := cell_ext hSw c1; (try go_simp); (try with_reducible rfl))
      try simp only [Act.put, s1, s2, s3]
      refine wpAnyH_take (i := 1) (oi := _) (v := ?_) rfl (by kernel_rfl) (by kernel_rfl) (by kernel_rfl) (fun _ _ _ h => h) (Or.inl ⟨by first | kernel_rfl | rfl, ?_⟩) (by assumption) ?_
      rotate_left
      · (intro wS hSw; (try dsimp only at hSw); have z0 := cell_ext hSw c0; have z1 := cell_ext hSw c1; (try go_simp); (try with_reducible rfl))
      try simp only [Act.put, s1, s2, s3]
      refine wpAnyH_take (i := 2) (oi := _) (v := ?_) rfl (by kernel_rfl) (by kernel_rfl) (by kernel_rfl) (fun _ _ _ h => h) (Or.inl ⟨by first | kernel_rfl | rfl, ?_⟩) (by assumption) ?_
      rotate_left
      · (intro wS hSw; (try dsimp only at hSw); have z0 := cell_ext hSw c0; have z1 := cell_ext hSw c1; (try go_simp); (try with_reducible rfl))
      try simp only [Act.put, s1, s2, s3]
      refine wpAnyH_take (i := 3) (oi := _) (v := ?_) rfl (by kernel_rfl) (by kernel_rfl) (by kernel_rfl) (fun _ _ _ h => h) (Or.inl ⟨by first | kernel_rfl | rfl, ?_⟩) (by assumption) ?_
      rotate_left
      · (intro wS hSw; (try dsimp only at hSw); have z0 := cell_ext hSw c0; have z1 := cell_ext hSw c1; (try go_simp); (try with_reducible rfl))
      try simp only [Act.put, s1, s2, s3]
      refine wpAnyH_take (i := 4) (oi := _) (v := ?_) rfl (by kernel_rfl) (by kernel_rfl) (by kernel_rfl) (fun _ _ _ h => h) (Or.inl ⟨by first | kernel_rfl | rfl, ?_⟩) (by assumption) ?_
      rotate_left
      · (intro wS hSw; (try dsimp only at hSw); have z0 := cell_ext hSw c0; have z1 := cell_ext hSw c1; (try go_simp); (try with_reducible rfl))
      try simp only [Act.put, s1, s2, s3]
      refine wpAnyH_take (i := 5) (oi := _) (v := ?_) rfl (by kernel_rfl) (by kernel_rfl) (by kernel_rfl) (fun _ _ _ h => h) (Or.inl ⟨by first | kernel_rfl | rfl, ?_⟩) (by assumption) ?_
      rotate_left
      · (intro wS hSw; (try dsimp only at hSw); have z0 := cell_ext hSw c0; have z1 := cell_ext hSw c1; (try go_simp); (try with_reducible rfl))
      try simp only [Act.put, s1, s2, s3]
      refine wpAnyH_take (i := 6) (oi := _) (v := ?_) rfl (by kernel_rfl) (by kernel_rfl) (by kernel_rfl) (fun _ _ _ h => h) (Or.inl ⟨by first | kernel_rfl | rfl, ?_⟩) (by assumption) ?_
      rotate_left
      · (intro wS hSw; (try dsimp only at hSw); have z0 := cell_ext hSw c0; have z1 := cell_ext hSw c1; (try go_simp); (try with_reducible rfl))
      try simp only [Act.put, s1, s2, s3]
      refine wpAnyH_take (i := 7) (oi := _) (v := ?_) rfl (by kernel_rfl) (by kernel_rfl) (by kernel_rfl) (fun _ _ _ h => h) (Or.inl ⟨by first | kernel_rfl | rfl, ?_⟩) (by assumption) ?_
      rotate_left
      · (intro wS hSw; (try dsimp only at hSw); have z0 := cell_ext hSw c0; have z1 := cell_ext hSw c1; (try go_simp); (try with_reducible rfl))
      try simp only [Act.put, s1, s2, s3]
      refine wpAnyH_ready (rs := [8]) (by kernel_rfl) (by simp) ?_
      refine AllReadyH.cons rfl (fun KQ hKQ => ?_) AllReadyH.nil
      go_simp
      (refine (same_any B B2 s.length s.length d d2 s s _ (Lib.hid (HZ.out.ext (by repeat (first | exact Ext.refl _ | assumption | refine Ext.drew ?_ | refine Ext.drewN ?_ _ | refine Ext.alloc ?_ _)))) (Lib.hid (HZ2.out.ext (by repeat (first | exact Ext.refl _ | assumption | refine Ext.drew ?_ | refine Ext.drewN ?_ _ | refine Ext.alloc ?_ _)))) (by omega) (by omega)).mono ?_; rintro e8 w8 ⟨rfl, k8⟩; rw [show decide (s = s) = true from decide_eq_true rfl]; have kc : Ext wr w8 := Ext.trans (by repeat (first | exact Ext.refl _ | assumption | refine Ext.drew ?_ | refine Ext.drewN ?_ _ | refine Ext.alloc ?_ _)) k8)
      refine hKQ.out _ _ ?_ (fun hHeld => ?_)
      · (try dsimp only); repeat (first | exact Ext.refl _ | assumption | refine Ext.drew ?_ | refine Ext.drewN ?_ _ | refine Ext.alloc ?_ _)
      clear hKQ KQ
      try simp only [Act.put, s1, s2, s3]
      refine wpAnyH_ready (rs := [9]) (by kernel_rfl) (by simp) ?_
      refine AllReadyH.cons rfl (fun KQ hKQ => ?_) AllReadyH.nil
      go_simp
      refine hKQ.out _ _ ?_ (fun hHeld => ?_)
      · (try dsimp only); repeat (first | exact Ext.refl _ | assumption | refine Ext.drew ?_ | refine Ext.drewN ?_ _ | refine Ext.alloc ?_ _)
      clear hKQ KQ
      try simp only [Act.put, s1, s2, s3]
      refine wpAnyH_done (by kernel_rfl) ?_ _
      go_wp2
      go_roundw
      case rel => exact ⟨k + 1, by omega, by go_num, Lib.hid (hE.out.trans kc)⟩
      case measure => simp [intOf]; omega
    · have hkn : k = shs.length := by omega
      go_wp2
      go_ret
      exact ⟨rfl, hE.out⟩
theorem sameNone_any (w : World) : Calls Try.prog 18 #[.slice none 0 0, .slice none 0 0] w fun e w' => e = .returned (.bool true) ∧ Ext w w' :=
  sameShapes_any none none 0 0 [] w (Lib.hid ⟨Nat.le_refl _, fun h => absurd h (by simp)⟩) (Lib.hid ⟨Nat.le_refl _, fun h => absurd h (by simp)⟩) (Lib.hid fun s h => by cases h) (by decide)
end Go.Proofs.Ytdnjjpkajiehgaa
