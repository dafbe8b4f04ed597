/-
  Check of package graph, over what the check of each node answers.
-/
import Derived.Test.YtdnjjpkajiehgaaZ14
namespace Go.Proofs.Ytdnjjpkajiehgaa
open Go.RowKit
set_option linter.unusedVariables false
set_option maxRecDepth 100000

/-- What Check answers, in memory. -/
def ChkPost (w : World) (n : Nat) (r : Except Nat (List (List Int))) (e : Ending) (w' : World) : Prop :=
  (∃ shs A c, r = .ok shs ∧ e = .returned (.tuple #[.slice A shs.length c, .int .i64 0]) ∧ SX w' A c shs ∧ Rights shs ∧ shs.length = n ∧ Ext w w') ∨ (∃ k : Nat, r = .error k ∧ (k = 3 ∨ k = 4 ∨ k = 5) ∧ e = .returned (.tuple #[.slice none 0 0, .int .i64 (k : Int)]) ∧ Ext w w')
/-- The check of a node, wherever it stands. -/
def Checks (x : Nd) : Prop := ∀ (As Ad Ab Ah : Option Addr) (cs cd cb ch : Nat) (shs : List (List Int)) (w : World), Hid (Plc w x As Ad Ab Ah cs cd cb ch shs) → Calls Try.prog 45 #[.agg #[.int .i64 x.k, .int .i64 x.a, .int .i64 x.b, .slice As x.sh.length cs, .int .i64 x.lo, .int .i64 x.hi, .int .i64 x.sz, .slice Ad x.da.length cd, .slice Ab x.bi.length cb, .slice Ah shs.length ch]] w fun e w' => NodePost w (nodeR x shs) e w'
theorem ZX.far {w : World} {g i n c : Nat} {A : Option Addr} {zs : List Int} (h : ZX w A n c zs) (hA : ∀ ad, A = some ad → g < ad.block) (v : Value) : ZX (w.setCell ⟨g, i, none⟩ v) A n c zs :=
  ⟨h.len, h.room, fun hn => by
    obtain ⟨ad, e, hc⟩ := h.cells hn
    refine ⟨ad, e, fun j z hz => ?_⟩
    have hb : (ad.add j).block = ad.block := by unfold Addr.add; split <;> rfl
    have hl : (ad.add j).block < w.heap.size := World.block_lt_of_cell? w _ (hc j z hz)
    rw [World.cell?_of_block (w := w) ((On.set (On.refl g w) i v).block _ hl (fun e2 => by injection e2 with e2; have := hA ad e; rw [hb] at e2; omega))]
    exact hc j z hz⟩
theorem cellOn {p : Nat} {a b : World} (h : On p a b) {ad : Addr} {v : Value} (hne : ad.block ≠ p) (hc : a.cell? ad = some v) : b.cell? ad = some v := by
  rw [World.cell?_of_block (w := a) (h.block _ (World.block_lt_of_cell? a _ hc) (fun e => hne (by injection e)))]
  exact hc
theorem node_uni {w w' : World} {r : Except Nat (List Int)} {e : Ending} (h : NodePost w r e w') : ∃ (A : Option Addr) (m c er : Nat), e = .returned (.tuple #[.slice A m c, .int .i64 (er : Int)]) ∧ Ext w w' ∧ Hid ((∃ s, r = .ok s ∧ er = 0 ∧ m = s.length ∧ ZX w' A s.length c s ∧ Frsh w.heap.size A) ∨ (r = .error er ∧ (er = 3 ∨ er = 4 ∨ er = 5))) := by
  rcases h with ⟨s, A, c, h1, h2, h3, h4, h5⟩ | ⟨n, h1, h2, h3, h4⟩
  · exact ⟨A, s.length, c, 0, h2, h5, Lib.hid (.inl ⟨s, h1, rfl, rfl, h3, h4⟩)⟩
  · exact ⟨none, 0, 0, n, h3, h4, Lib.hid (.inr ⟨h1, h2⟩)⟩
theorem chk_ok {nodes : List Nd} {k : Nat} {x : Nd} {shs : List (List Int)} {s : List Int} (hx : nodes[k]? = some x) (hr : nodeR x shs = .ok s) : chkR (nodes.drop k) shs = chkR (nodes.drop (k + 1)) (shs ++ [s]) := by
  obtain ⟨hl, e⟩ := List.getElem?_eq_some_iff.1 hx
  rw [List.drop_eq_getElem_cons hl, e, chkR, hr]
theorem chk_err {nodes : List Nd} {k n : Nat} {x : Nd} {shs : List (List Int)} (hx : nodes[k]? = some x) (hr : nodeR x shs = .error n) : chkR (nodes.drop k) shs = .error n := by
  obtain ⟨hl, e⟩ := List.getElem?_eq_some_iff.1 hx
  rw [List.drop_eq_getElem_cons hl, e, chkR, hr]
theorem node_right {x : Nd} {shs : List (List Int)} {s : List Int} (hr : Rights shs) (h : nodeR x shs = .ok s) : 0 < entN s := by
  unfold nodeR at h
  by_cases hf : formB x shs.length = true
  · rw [if_pos hf] at h
    cases hs : shapeO x shs with
    | none => rw [hs] at h; cases h
    | some u =>
      rw [hs] at h
      by_cases hn : nearOK x = true
      · simp only [hn, if_true] at h
        injection h with h
        subst h
        exact shape_right hr hf hs
      · simp only [hn] at h
        cases h
  · rw [if_neg hf] at h
    cases h
set_option maxHeartbeats 8000000 in
theorem check_loop (nodes : List Nd) (A : Option Addr) (c : Nat) (out : Int) (w : World) (hG : Hid (GX w A c nodes)) (hn : nodes.length ≤ 1000) (hC : Hid (∀ x ∈ nodes, Checks x)) :
    Calls Try.prog 17 #[.agg #[.slice A nodes.length c, .int .i64 out]] w fun e w' => ChkPost w nodes.length (checkR nodes out) e w' := by
  have q0 : (w.alloc (.cells #[.slice A nodes.length c, .int .i64 out] 26)).cell? ⟨w.heap.size, 0, none⟩ = some (.slice A nodes.length c) := by simp
  have q1 : (w.alloc (.cells #[.slice A nodes.length c, .int .i64 out] 26)).cell? ⟨w.heap.size, 1, none⟩ = some (.int .i64 out) := by simp
  by_cases b0 : (24 : Int) < (nodes.length : Int)
  · have HR := Lib.hid (show checkR nodes out = .error 3 by unfold checkR; rw [if_pos (by omega)])
    go_enter Try.func17, Try.ntmps17
    go_wp2
    go_ret2
    exact .inr ⟨3, HR.out, by omega, rfl, (Ext.refl w).alloc _⟩
  by_cases b1 : out < 0
  · have HR := Lib.hid (show checkR nodes out = .error 3 by unfold checkR; rw [if_pos (by omega)])
    go_enter Try.func17, Try.ntmps17
    go_wp2
    go_ret2
    exact .inr ⟨3, HR.out, by omega, rfl, (Ext.refl w).alloc _⟩
  by_cases b2 : (nodes.length : Int) ≤ out
  · have HR := Lib.hid (show checkR nodes out = .error 3 by unfold checkR; rw [if_pos (by omega)])
    go_enter Try.func17, Try.ntmps17
    go_wp2
    go_ret2
    exact .inr ⟨3, HR.out, by omega, rfl, (Ext.refl w).alloc _⟩
  have HR := Lib.hid (show checkR nodes out = chkR nodes [] by unfold checkR; rw [if_neg (by omega)])
  have hm := make_ssJ nodes.length hn (w.alloc (.cells #[.slice A nodes.length c, .int .i64 out] 26))
  rw [show (w.alloc (.cells #[.slice A nodes.length c, .int .i64 out] 26)).heap.size = w.heap.size + 1 by simp] at hm
  have hrow := RJ.new (w.alloc (.cells #[.slice A nodes.length c, .int .i64 out] 26)) 38 nodes.length (fun _ => .slice none 0 0)
  rw [show (w.alloc (.cells #[.slice A nodes.length c, .int .i64 out] 26)).heap.size = w.heap.size + 1 by simp] at hrow
  have kk : Ext w ((w.alloc (.cells #[.slice A nodes.length c, .int .i64 out] 26)).alloc (.cells ((List.range nodes.length).map fun _ => Value.slice none 0 0).toArray 38)) := ((Ext.refl w).alloc _).alloc _
  replace q0 := cell_ext ((Ext.refl _).alloc (.cells ((List.range nodes.length).map fun _ => Value.slice none 0 0).toArray 38)) q0
  have p0 : (w.alloc (.cells #[.slice A nodes.length c, .int .i64 out] 26)).cell? ⟨w.heap.size, 0, none⟩ = some (.slice A nodes.length c) := by simp
  have HROW := Lib.hid hrow
  have HK := Lib.hid kk
  clear hrow kk
  have i0 : ¬ (nodes.length : Int) = 0 := by omega
  go_enter Try.func17, Try.ntmps17
  go_wp2_with fail
  go_loopw [30] (fun i wr => ∃ (k : Nat) (shs : List (List Int)) (F : Nat → Value), k ≤ nodes.length ∧ i = .int .i64 (k : Int) ∧ shs.length = k ∧ Hid (RJ wr (w.heap.size + 1) 38 nodes.length F) ∧ Hid (∀ (j : Nat) (s : List Int), shs[j]? = some s → ∃ B d, F j = .slice B s.length d ∧ ZX wr B s.length d s ∧ (∀ ad, B = some ad → w.heap.size + 1 < ad.block)) ∧ Hid (Rights shs) ∧ Hid (Ext w wr) ∧ Hid (chkR nodes [] = chkR (nodes.drop k) shs)) (fun i _ => nodes.length - (intOf i).toNat)
  case atStart =>
    exact ⟨0, [], _, by omega, rfl, rfl, HROW, Lib.hid (fun j s h => by simp at h), Lib.hid (fun s h => by cases h), HK, Lib.hid rfl⟩
  case round =>
    obtain ⟨k', shs, F, hk, rfl, rfl, hF, hS, hR, hE, hP⟩ := hrel
    by_cases hlt : shs.length < nodes.length
    · obtain ⟨x, hx⟩ : ∃ x, nodes[shs.length]? = some x := ⟨_, List.getElem?_eq_getElem hlt⟩
      obtain ⟨ad, rfl, hc⟩ := (hG.out.ext hE.out).cells (by omega)
      obtain ⟨As, Ad, Ab, cs, cd, cb, hnd, hcell⟩ := hc shs.length x hx
      have HND := Lib.hid hnd
      have HX := Lib.hid hx
      clear hc hnd hx
      have j0 : (0 : Int) ≤ (shs.length : Int) := by omega
      have j1 : (shs.length : Int) < (nodes.length : Int) := by omega
      have c0 : wr.cell? (ad.add (shs.length * 9)) = some (.int .i64 x.k) := by have := hcell 0 (.int .i64 x.k) rfl; rw [add0J] at this; exact this
      have c1 : wr.cell? ⟨(ad.add (shs.length * 9)).block, (ad.add (shs.length * 9)).off + 1, none⟩ = some (.int .i64 x.a) := hcell 1 (.int .i64 x.a) rfl
      have c2 : wr.cell? ⟨(ad.add (shs.length * 9)).block, (ad.add (shs.length * 9)).off + 2, none⟩ = some (.int .i64 x.b) := hcell 2 (.int .i64 x.b) rfl
      have c3 : wr.cell? ⟨(ad.add (shs.length * 9)).block, (ad.add (shs.length * 9)).off + 3, none⟩ = some (.slice As x.sh.length cs) := hcell 3 (.slice As x.sh.length cs) rfl
      have c4 : wr.cell? ⟨(ad.add (shs.length * 9)).block, (ad.add (shs.length * 9)).off + 4, none⟩ = some (.int .i64 x.lo) := hcell 4 (.int .i64 x.lo) rfl
      have c5 : wr.cell? ⟨(ad.add (shs.length * 9)).block, (ad.add (shs.length * 9)).off + 5, none⟩ = some (.int .i64 x.hi) := hcell 5 (.int .i64 x.hi) rfl
      have c6 : wr.cell? ⟨(ad.add (shs.length * 9)).block, (ad.add (shs.length * 9)).off + 6, none⟩ = some (.int .i64 x.sz) := hcell 6 (.int .i64 x.sz) rfl
      have c7 : wr.cell? ⟨(ad.add (shs.length * 9)).block, (ad.add (shs.length * 9)).off + 7, none⟩ = some (.slice Ad x.da.length cd) := hcell 7 (.slice Ad x.da.length cd) rfl
      have c8 : wr.cell? ⟨(ad.add (shs.length * 9)).block, (ad.add (shs.length * 9)).off + 8, none⟩ = some (.slice Ab x.bi.length cb) := hcell 8 (.slice Ab x.bi.length cb) rfl
      clear hcell
      obtain ⟨m0, m1, m2, m3, m4, m5, m6, m7, m8⟩ := nine_at wr (.int .i64 x.k) (.int .i64 x.a) (.int .i64 x.b) (.slice As x.sh.length cs) (.int .i64 x.lo) (.int .i64 x.hi) (.int .i64 x.sz) (.slice Ad x.da.length cd) (.slice Ab x.bi.length cb) 40
      have ka : Ext wr (wr.alloc (.cells #[.int .i64 x.k, .int .i64 x.a, .int .i64 x.b, .slice As x.sh.length cs, .int .i64 x.lo, .int .i64 x.hi, .int .i64 x.sz, .slice Ad x.da.length cd, .slice Ab x.bi.length cb] 40)) := (Ext.refl wr).alloc _
      have hgs : w.heap.size + 1 < wr.heap.size := hF.out.lt
      go_wp2_with fail
      generalize hWW : wr.alloc (.cells #[.int .i64 x.k, .int .i64 x.a, .int .i64 x.b, .slice As x.sh.length cs, .int .i64 x.lo, .int .i64 x.hi, .int .i64 x.sz, .slice Ad x.da.length cd, .slice Ab x.bi.length cb] 40) = W at *
      have hW1 : wr.heap.size ≤ W.heap.size := ka.size
      clear hWW c0 c1 c2 c3 c4 c5 c6 c7 c8
      have hp : Hid (Plc W x As Ad Ab (some ⟨w.heap.size + 1, 0, none⟩) cs cd cb shs.length shs) := Lib.hid ⟨HND.out.ext ka, ⟨by omega, fun h0 => ⟨_, rfl, fun j s hs => by
        have hjl := (List.getElem?_eq_some_iff.1 hs).1
        obtain ⟨B, d, e1, e2, _⟩ := hS.out j s hs
        refine ⟨B, d, ?_, e2.ext ka⟩
        rw [Addr.add_lit, Nat.zero_add, (hF.out.ext ka).cell (by omega), e1]⟩⟩, by omega, hR.out⟩
      have hFW := Lib.hid (hF.out.ext ka)
      have KA := Lib.hid ka
      have mb : wr.heap.size ≠ w.heap.size + 1 := by omega
      clear ka
      refine wp_region_held_drew (S := (fun w' => On (w.heap.size + 1) W w')) (by kernel_rfl) ?_ (fun hHeld => ?_)
      · (try dsimp only); first | (refine On.of ?_; (repeat (first | exact Ext.refl _ | assumption | refine Ext.drew ?_ | refine Ext.drewN ?_ _)); done) | (refine On.set (On.of ?_) _ _; (repeat (first | exact Ext.refl _ | assumption | refine Ext.drew ?_ | refine Ext.drewN ?_ _)); done) | (refine On.trans (On.set (On.of ?_) _ _) (On.of ((Ext.refl _).drew)); (repeat (first | exact Ext.refl _ | assumption | refine Ext.drew ?_ | refine Ext.drewN ?_ _)); done)
      refine wpAnyH_take (i := 0) (oi := _) (v := ?_) rfl (by kernel_rfl) (by kernel_rfl) (by kernel_rfl) (fun _ _ _ h => h) (Or.inl ⟨by first | kernel_rfl | rfl, ?_⟩) (by assumption) ?_
      rotate_left
      · (intro wS hSw; (try dsimp only at hSw); have z0 := cellOn hSw (by exact mb) m0; have z1 := cellOn hSw (by exact mb) m1; have z2 := cellOn hSw (by exact mb) m2; have z3 := cellOn hSw (by exact mb) m3; have z4 := cellOn hSw (by exact mb) m4; have z5 := cellOn hSw (by exact mb) m5; have z6 := cellOn hSw (by exact mb) m6; have z7 := cellOn hSw (by exact mb) m7; have z8 := cellOn hSw (by exact mb) m8; (try go_simp); (try with_reducible rfl))
      try simp only [Act.put, s1, s2, s3]
      refine wpAnyH_take (i := 1) (oi := _) (v := ?_) rfl (by kernel_rfl) (by kernel_rfl) (by kernel_rfl) (fun _ _ _ h => h) (Or.inl ⟨by first | kernel_rfl | rfl, ?_⟩) (by assumption) ?_
      rotate_left
      · (intro wS hSw; (try dsimp only at hSw); have z0 := cellOn hSw (by exact mb) m0; have z1 := cellOn hSw (by exact mb) m1; have z2 := cellOn hSw (by exact mb) m2; have z3 := cellOn hSw (by exact mb) m3; have z4 := cellOn hSw (by exact mb) m4; have z5 := cellOn hSw (by exact mb) m5; have z6 := cellOn hSw (by exact mb) m6; have z7 := cellOn hSw (by exact mb) m7; have z8 := cellOn hSw (by exact mb) m8; (try go_simp); (try with_reducible rfl))
      try simp only [Act.put, s1, s2, s3]
      refine wpAnyH_take (i := 2) (oi := _) (v := ?_) rfl (by kernel_rfl) (by kernel_rfl) (by kernel_rfl) (fun _ _ _ h => h) (Or.inl ⟨by first | kernel_rfl | rfl, ?_⟩) (by assumption) ?_
      rotate_left
      · (intro wS hSw; (try dsimp only at hSw); have z0 := cellOn hSw (by exact mb) m0; have z1 := cellOn hSw (by exact mb) m1; have z2 := cellOn hSw (by exact mb) m2; have z3 := cellOn hSw (by exact mb) m3; have z4 := cellOn hSw (by exact mb) m4; have z5 := cellOn hSw (by exact mb) m5; have z6 := cellOn hSw (by exact mb) m6; have z7 := cellOn hSw (by exact mb) m7; have z8 := cellOn hSw (by exact mb) m8; (try go_simp); (try with_reducible rfl))
      try simp only [Act.put, s1, s2, s3]
      refine wpAnyH_take (i := 3) (oi := _) (v := ?_) rfl (by kernel_rfl) (by kernel_rfl) (by kernel_rfl) (fun _ _ _ h => h) (Or.inl ⟨by first | kernel_rfl | rfl, ?_⟩) (by assumption) ?_
      rotate_left
      · (intro wS hSw; (try dsimp only at hSw); have z0 := cellOn hSw (by exact mb) m0; have z1 := cellOn hSw (by exact mb) m1; have z2 := cellOn hSw (by exact mb) m2; have z3 := cellOn hSw (by exact mb) m3; have z4 := cellOn hSw (by exact mb) m4; have z5 := cellOn hSw (by exact mb) m5; have z6 := cellOn hSw (by exact mb) m6; have z7 := cellOn hSw (by exact mb) m7; have z8 := cellOn hSw (by exact mb) m8; (try go_simp); (try with_reducible rfl))
      try simp only [Act.put, s1, s2, s3]
      refine wpAnyH_take (i := 4) (oi := _) (v := ?_) rfl (by kernel_rfl) (by kernel_rfl) (by kernel_rfl) (fun _ _ _ h => h) (Or.inl ⟨by first | kernel_rfl | rfl, ?_⟩) (by assumption) ?_
      rotate_left
      · (intro wS hSw; (try dsimp only at hSw); have z0 := cellOn hSw (by exact mb) m0; have z1 := cellOn hSw (by exact mb) m1; have z2 := cellOn hSw (by exact mb) m2; have z3 := cellOn hSw (by exact mb) m3; have z4 := cellOn hSw (by exact mb) m4; have z5 := cellOn hSw (by exact mb) m5; have z6 := cellOn hSw (by exact mb) m6; have z7 := cellOn hSw (by exact mb) m7; have z8 := cellOn hSw (by exact mb) m8; (try go_simp); (try with_reducible rfl))
      try simp only [Act.put, s1, s2, s3]
      refine wpAnyH_take (i := 5) (oi := _) (v := ?_) rfl (by kernel_rfl) (by kernel_rfl) (by kernel_rfl) (fun _ _ _ h => h) (Or.inl ⟨by first | kernel_rfl | rfl, ?_⟩) (by assumption) ?_
      rotate_left
      · (intro wS hSw; (try dsimp only at hSw); have z0 := cellOn hSw (by exact mb) m0; have z1 := cellOn hSw (by exact mb) m1; have z2 := cellOn hSw (by exact mb) m2; have z3 := cellOn hSw (by exact mb) m3; have z4 := cellOn hSw (by exact mb) m4; have z5 := cellOn hSw (by exact mb) m5; have z6 := cellOn hSw (by exact mb) m6; have z7 := cellOn hSw (by exact mb) m7; have z8 := cellOn hSw (by exact mb) m8; (try go_simp); (try with_reducible rfl))
      try simp only [Act.put, s1, s2, s3]
      refine wpAnyH_take (i := 6) (oi := _) (v := ?_) rfl (by kernel_rfl) (by kernel_rfl) (by kernel_rfl) (fun _ _ _ h => h) (Or.inl ⟨by first | kernel_rfl | rfl, ?_⟩) (by assumption) ?_
      rotate_left
      · (intro wS hSw; (try dsimp only at hSw); have z0 := cellOn hSw (by exact mb) m0; have z1 := cellOn hSw (by exact mb) m1; have z2 := cellOn hSw (by exact mb) m2; have z3 := cellOn hSw (by exact mb) m3; have z4 := cellOn hSw (by exact mb) m4; have z5 := cellOn hSw (by exact mb) m5; have z6 := cellOn hSw (by exact mb) m6; have z7 := cellOn hSw (by exact mb) m7; have z8 := cellOn hSw (by exact mb) m8; (try go_simp); (try with_reducible rfl))
      try simp only [Act.put, s1, s2, s3]
      refine wpAnyH_take (i := 7) (oi := _) (v := ?_) rfl (by kernel_rfl) (by kernel_rfl) (by kernel_rfl) (fun _ _ _ h => h) (Or.inl ⟨by first | kernel_rfl | rfl, ?_⟩) (by assumption) ?_
      rotate_left
      · (intro wS hSw; (try dsimp only at hSw); have z0 := cellOn hSw (by exact mb) m0; have z1 := cellOn hSw (by exact mb) m1; have z2 := cellOn hSw (by exact mb) m2; have z3 := cellOn hSw (by exact mb) m3; have z4 := cellOn hSw (by exact mb) m4; have z5 := cellOn hSw (by exact mb) m5; have z6 := cellOn hSw (by exact mb) m6; have z7 := cellOn hSw (by exact mb) m7; have z8 := cellOn hSw (by exact mb) m8; (try go_simp); (try with_reducible rfl))
      try simp only [Act.put, s1, s2, s3]
      refine wpAnyH_ready (rs := [8]) (by kernel_rfl) (by simp) ?_
      refine AllReadyH.cons rfl (fun KQ hKQ => ?_) AllReadyH.nil
      go_simp
      (refine (hC.out x (List.mem_of_getElem? HX.out) As Ad Ab (some ⟨w.heap.size + 1, 0, none⟩) cs cd cb shs.length shs _ (Lib.hid (hp.out.ext (by repeat (first | exact Ext.refl _ | assumption | refine Ext.drew ?_ | refine Ext.drewN ?_ _))))).mono ?_; intro e5 w5 hq; obtain ⟨A5, n5, c5, er, rfl, k5, hu⟩ := node_uni hq; clear hq; have kc : Ext W w5 := Ext.trans (by repeat (first | exact Ext.refl _ | assumption | refine Ext.drew ?_ | refine Ext.drewN ?_ _)) k5; have f0 := (hFW.out.ext kc).cell (show shs.length < nodes.length from hlt); have f1 := (hFW.out.ext kc).frozen shs.length)
      refine hKQ.out _ _ ?_ (fun hHeld => ?_)
      · (try dsimp only); first | (refine On.of ?_; (repeat (first | exact Ext.refl _ | assumption | refine Ext.drew ?_ | refine Ext.drewN ?_ _)); done) | (refine On.set (On.of ?_) _ _; (repeat (first | exact Ext.refl _ | assumption | refine Ext.drew ?_ | refine Ext.drewN ?_ _)); done) | (refine On.trans (On.set (On.of ?_) _ _) (On.of ((Ext.refl _).drew)); (repeat (first | exact Ext.refl _ | assumption | refine Ext.drew ?_ | refine Ext.drewN ?_ _)); done)
      clear hKQ KQ
      try simp only [Act.put, s1, s2, s3]
      refine wpAnyH_take (i := 9) (oi := _) (v := ?_) rfl (by kernel_rfl) (by kernel_rfl) (by kernel_rfl) (fun _ _ _ h => h) (Or.inl ⟨by first | kernel_rfl | rfl, ?_⟩) (by assumption) ?_
      rotate_left
      · (intro wS hSw; (try dsimp only at hSw); have z0 := cellOn hSw (by exact mb) m0; have z1 := cellOn hSw (by exact mb) m1; have z2 := cellOn hSw (by exact mb) m2; have z3 := cellOn hSw (by exact mb) m3; have z4 := cellOn hSw (by exact mb) m4; have z5 := cellOn hSw (by exact mb) m5; have z6 := cellOn hSw (by exact mb) m6; have z7 := cellOn hSw (by exact mb) m7; have z8 := cellOn hSw (by exact mb) m8; (try go_simp); (try with_reducible rfl))
      try simp only [Act.put, s1, s2, s3]
      refine wpAnyH_take (i := 10) (oi := _) (v := ?_) rfl (by kernel_rfl) (by kernel_rfl) (by kernel_rfl) (fun _ _ _ h => h) (Or.inl ⟨by first | kernel_rfl | rfl, ?_⟩) (by assumption) ?_
      rotate_left
      · (intro wS hSw; (try dsimp only at hSw); have z0 := cellOn hSw (by exact mb) m0; have z1 := cellOn hSw (by exact mb) m1; have z2 := cellOn hSw (by exact mb) m2; have z3 := cellOn hSw (by exact mb) m3; have z4 := cellOn hSw (by exact mb) m4; have z5 := cellOn hSw (by exact mb) m5; have z6 := cellOn hSw (by exact mb) m6; have z7 := cellOn hSw (by exact mb) m7; have z8 := cellOn hSw (by exact mb) m8; (try go_simp); (try with_reducible rfl))
      try simp only [Act.put, s1, s2, s3]
      refine wpAnyH_take (i := 11) (oi := _) (v := ?_) rfl (by kernel_rfl) (by kernel_rfl) (by kernel_rfl) (fun _ _ _ h => h) (Or.inl ⟨by first | kernel_rfl | rfl, ?_⟩) (by assumption) ?_
      rotate_left
      · (intro wS hSw; (try dsimp only at hSw); have z0 := cellOn hSw (by exact mb) m0; have z1 := cellOn hSw (by exact mb) m1; have z2 := cellOn hSw (by exact mb) m2; have z3 := cellOn hSw (by exact mb) m3; have z4 := cellOn hSw (by exact mb) m4; have z5 := cellOn hSw (by exact mb) m5; have z6 := cellOn hSw (by exact mb) m6; have z7 := cellOn hSw (by exact mb) m7; have z8 := cellOn hSw (by exact mb) m8; (try go_simp); (try with_reducible rfl))
      try simp only [Act.put, s1, s2, s3]
      refine wpAnyH_take (i := 12) (oi := _) (v := ?_) rfl (by kernel_rfl) (by kernel_rfl) (by kernel_rfl) (fun _ _ _ h => h) (Or.inl ⟨by first | kernel_rfl | rfl, ?_⟩) (by assumption) ?_
      rotate_left
      · (intro wS hSw; (try dsimp only at hSw); have z0 := cellOn hSw (by exact mb) m0; have z1 := cellOn hSw (by exact mb) m1; have z2 := cellOn hSw (by exact mb) m2; have z3 := cellOn hSw (by exact mb) m3; have z4 := cellOn hSw (by exact mb) m4; have z5 := cellOn hSw (by exact mb) m5; have z6 := cellOn hSw (by exact mb) m6; have z7 := cellOn hSw (by exact mb) m7; have z8 := cellOn hSw (by exact mb) m8; (try go_simp); (try with_reducible rfl))
      try simp only [Act.put, s1, s2, s3]
      refine wpAnyH_ready (rs := [13]) (by kernel_rfl) (by simp) ?_
      refine AllReadyH.cons rfl (fun KQ hKQ => ?_) AllReadyH.nil
      go_simp
      refine hKQ.out _ _ ?_ (fun hHeld => ?_)
      · (try dsimp only); first | (refine On.of ?_; (repeat (first | exact Ext.refl _ | assumption | refine Ext.drew ?_ | refine Ext.drewN ?_ _)); done) | (refine On.set (On.of ?_) _ _; (repeat (first | exact Ext.refl _ | assumption | refine Ext.drew ?_ | refine Ext.drewN ?_ _)); done) | (refine On.trans (On.set (On.of ?_) _ _) (On.of ((Ext.refl _).drew)); (repeat (first | exact Ext.refl _ | assumption | refine Ext.drew ?_ | refine Ext.drewN ?_ _)); done)
      clear hKQ KQ
      try simp only [Act.put, s1, s2, s3]
      refine wpAnyH_ready (rs := [14]) (by kernel_rfl) (by simp) ?_
      refine AllReadyH.cons rfl (fun KQ hKQ => ?_) AllReadyH.nil
      go_simp
      refine hKQ.out _ _ ?_ (fun hHeld => ?_)
      · (try dsimp only); first | (refine On.of ?_; (repeat (first | exact Ext.refl _ | assumption | refine Ext.drew ?_ | refine Ext.drewN ?_ _)); done) | (refine On.set (On.of ?_) _ _; (repeat (first | exact Ext.refl _ | assumption | refine Ext.drew ?_ | refine Ext.drewN ?_ _)); done) | (refine On.trans (On.set (On.of ?_) _ _) (On.of ((Ext.refl _).drew)); (repeat (first | exact Ext.refl _ | assumption | refine Ext.drew ?_ | refine Ext.drewN ?_ _)); done)
      clear hKQ KQ
      try simp only [Act.put, s1, s2, s3]
      refine wpAnyH_done (by kernel_rfl) ?_ _
      rcases hu.out with ⟨s, h1, rfl, rfl, h3, h4⟩ | ⟨h1, h2⟩
      · have H3 := Lib.hid (And.intro h3 h4)
        have H1 := Lib.hid h1
        clear h1 h3 h4 hu
        have hW5 := kc.size
        go_wp2
        go_roundw
        case rel =>
          refine ⟨shs.length + 1, shs ++ [s], _, by omega, by go_num, by simp, Lib.hid ((hFW.out.ext kc).set hlt _), Lib.hid ?_, Lib.hid ?_, Lib.hid ?_, Lib.hid (hP.out.trans (chk_ok HX.out H1.out))⟩
          · intro j u hj
            rcases Nat.lt_or_ge j shs.length with g | g
            · rw [List.getElem?_append_left g] at hj
              obtain ⟨B, d, e1, e2, e3⟩ := hS.out j u hj
              exact ⟨B, d, by rw [if_neg (by omega)]; exact e1, ((e2.ext KA.out).ext kc).far e3 _, e3⟩
            · obtain rfl : j = shs.length := by
                have := (List.getElem?_eq_some_iff.1 hj).1
                simp at this
                omega
              rw [List.getElem?_append_right g] at hj
              simp at hj
              subst hj
              refine ⟨A5, c5, by rw [if_pos rfl], ?_, fun ad e => by have := H3.out.2 ad e; simp at this; omega⟩
              exact H3.out.1.far (fun ad e => by have := H3.out.2 ad e; simp at this; omega) _
          · intro u hu2
            rcases List.mem_append.1 hu2 with g | g
            · exact hR.out u g
            · simp at g
              subst g
              exact node_right hR.out H1.out
          · exact Ext.set (p := ⟨w.heap.size + 1, shs.length, none⟩) (hE.out.trans (KA.out.trans kc)) (by simp) _
        case measure => simp [intOf]; omega
      · have H1 := Lib.hid h1
        have he : ¬ (er : Int) = 0 := by omega
        clear hu
        go_wp2
        go_ret2
        exact .inr ⟨er, by rw [HR.out, hP.out]; exact chk_err HX.out H1.out, h2, rfl, Ext.set (p := ⟨w.heap.size + 1, shs.length, none⟩) (hE.out.trans (KA.out.trans kc)) (by simp) _⟩
    · have hkn : shs.length = nodes.length := by omega
      have hP2 := Lib.hid (show checkR nodes out = .ok shs by rw [HR.out, hP.out, List.drop_eq_nil_of_le (by omega)]; rfl)
      go_wp2
      go_ret2
      refine .inl ⟨shs, some ⟨w.heap.size + 1, 0, none⟩, nodes.length, hP2.out, (by rw [hkn]; rfl), ⟨by omega, fun h0 => ⟨_, rfl, fun j s hs => ?_⟩⟩, hR.out, hkn, hE.out⟩
      have hjl := (List.getElem?_eq_some_iff.1 hs).1
      obtain ⟨B, d, e1, e2, _⟩ := hS.out j s hs
      refine ⟨B, d, ?_, e2⟩
      rw [Addr.add_lit, Nat.zero_add, hF.out.cell (by omega), e1]
end Go.Proofs.Ytdnjjpkajiehgaa

/-
  The tape of arrasmake: a number, a small number, a row of them.
-/
namespace Go.Proofs.Ytdnjjpkajiehgaa
open Go.RowKit
set_option linter.unusedVariables false
set_option maxRecDepth 100000

/-- A tape of bytes, some of them used up; what lies there does not matter. -/
structure TM (w : World) (g : Nat) : Prop where
  ex : ∃ (A : Option Addr) (n c at_ : Nat), w.heap[g]? = some (.cells #[.slice A n c, .int .i64 (at_ : Int)] 30 (0, 0)) ∧ at_ ≤ n ∧ n ≤ 1000 ∧ (0 < n → ∃ ad, A = some ad ∧ ad.block < g ∧ ∀ j, j < n → ∃ b : Nat, b < 256 ∧ w.cell? (ad.add j) = some (.int .u8 (b : Int)))
theorem add_blockJ (ad : Addr) (j : Nat) : (ad.add j).block = ad.block := by unfold Addr.add; split <;> rfl
theorem TM.keep {w w' : World} {g : Nat} (h : TM w g) (k : Ext w w') : TM w' g := by
  obtain ⟨A, n, c, at_, h1, h2, h3, h4⟩ := h.ex
  refine ⟨A, n, c, at_, (k.block g (Array.getElem?_eq_some_iff.1 h1).1).trans h1, h2, h3, fun hn => ?_⟩
  obtain ⟨ad, e, hb, hc⟩ := h4 hn
  exact ⟨ad, e, hb, fun j hj => by obtain ⟨b, b1, b2⟩ := hc j hj; exact ⟨b, b1, cell_ext k b2⟩⟩
theorem setCell_heap_two {w : World} {g : Nat} {x y : Value} {t : TypeId} {fz : Nat × Nat} (h : w.heap[g]? = some (.cells #[x, y] t fz)) (v : Value) : (w.setCell ⟨g, 1, none⟩ v).heap[g]? = some (.cells #[x, v] t fz) := by
  simp [World.setCell, Array.getElem?_modify, h]
/-- What Next answers. -/
def NxPost (w : World) (g : Nat) (n : Int) (e : Ending) (w' : World) : Prop := ∃ v : Int, e = .returned (.int .i64 v) ∧ 0 ≤ v ∧ (v = 0 ∨ v < n) ∧ TM w' g ∧ On g w w'
set_option maxHeartbeats 1000000 in
theorem mkNext_any (g : Nat) (n : Int) (w : World) (hT : Hid (TM w g)) (h0 : -1000 ≤ n) (hn : n ≤ 1000) :
    Calls Try.prog 43 #[.pointer (some ⟨g, 0, none⟩), .int .i64 n] w fun e w' => NxPost w g n e w' := by
  obtain ⟨A, m, c, a, h1, h2, h3, h4⟩ := hT.out.ex
  have c0 : w.cell? ⟨g, 0, none⟩ = some (.slice A m c) := by simp [World.cell?, h1]
  have c1 : w.cell? ⟨g, 1, none⟩ = some (.int .i64 (a : Int)) := by simp [World.cell?, h1]
  have f1 : w.frozen? ⟨g, 1, none⟩ = false := by simp [World.frozen?, h1]
  by_cases hlt : n < 2
  · have hd : decide (n < 2) = true := decide_eq_true hlt
    clear h4
    go_enter Try.func43, Try.ntmps43
    go_wp2
    go_quiet (fail)
    go_wp2
    go_ret
    exact ⟨0, rfl, by omega, .inl rfl, hT.out.keep ((Ext.refl w).drewN _), On.of ((Ext.refl w).drewN _)⟩
  · have hd : decide (n < 2) = false := decide_eq_false hlt
    by_cases hfull : m ≤ a
    · have he : decide ((m : Int) ≤ (a : Int)) = true := decide_eq_true (by omega)
      clear h4
      go_enter Try.func43, Try.ntmps43
      go_wp2
      go_quiet (fail)
      go_wp2
      go_ret
      exact ⟨0, rfl, by omega, .inl rfl, hT.out.keep ((Ext.refl w).drewN _), On.of ((Ext.refl w).drewN _)⟩
    · have he : decide ((m : Int) ≤ (a : Int)) = false := decide_eq_false (by omega)
      obtain ⟨ad, rfl, hb, hc⟩ := h4 (by omega)
      obtain ⟨b, hb1, hb2⟩ := hc a (by omega)
      go_enter Try.func43, Try.ntmps43
      go_wp2
      go_quiet (fail)
      go_wp2
      have kd : Ext w (w.drewN nq) := (Ext.refl w).drewN nq
      have hh : (w.drewN nq).heap[g]? = some (.cells #[.slice (some ad) m c, .int .i64 (a : Int)] 30 (0, 0)) := (kd.block g (Array.getElem?_eq_some_iff.1 h1).1).trans h1
      have hh2 : ((w.drewN nq).setCell ⟨g, 1, none⟩ (.int .i64 ((a : Int) + 1))).heap[g]? = some (.cells #[.slice (some ad) m c, .int .i64 ((a : Int) + 1)] 30 (0, 0)) := by
        have := setCell_heap_two hh (.int .i64 ((a : Int) + 1))
        exact this
      have z0 : ((w.drewN nq).setCell ⟨g, 1, none⟩ (.int .i64 ((a : Int) + 1))).cell? ⟨g, 0, none⟩ = some (.slice (some ad) m c) := by simp [World.cell?, hh2]
      have z1 : ((w.drewN nq).setCell ⟨g, 1, none⟩ (.int .i64 ((a : Int) + 1))).cell? ⟨g, 1, none⟩ = some (.int .i64 ((a : Int) + 1)) := by simp [World.cell?, hh2]
      have zo : On g w ((w.drewN nq).setCell ⟨g, 1, none⟩ (.int .i64 ((a : Int) + 1))) := On.set (On.of kd) 1 _
      have z2 : ((w.drewN nq).setCell ⟨g, 1, none⟩ (.int .i64 ((a : Int) + 1))).cell? (ad.add a) = some (.int .u8 (b : Int)) := cellOn zo (by rw [add_blockJ]; omega) hb2
      have HT2 := Lib.hid (show TM ((w.drewN nq).setCell ⟨g, 1, none⟩ (.int .i64 ((a : Int) + 1))) g from ⟨some ad, m, c, a + 1, by rw [hh2]; rfl, by omega, h3, fun hn => ⟨ad, rfl, hb, fun j hj => by
        obtain ⟨b', b1, b2⟩ := hc j hj
        exact ⟨b', b1, cellOn zo (by rw [add_blockJ]; omega) b2⟩⟩⟩)
      have ZO := Lib.hid zo
      have i0 : (0 : Int) ≤ (a : Int) := by omega
      have i1 : (a : Int) < (m : Int) := by omega
      have hn0 : ¬ n = 0 := by omega
      clear hh hh2 zo kd hc h1 h4 c0 c1 f1 hb2
      generalize (w.drewN nq).setCell ⟨g, 1, none⟩ (.int .i64 ((a : Int) + 1)) = W2 at *
      go_quiet (fail)
      go_wp2
      go_ret
      exact ⟨(b : Int) % n, rfl, Int.emod_nonneg _ hn0, .inr (Int.emod_lt_of_pos _ (by omega)), HT2.out.keep ((Ext.refl _).drewN _), ZO.out.drewN _⟩
/-- What small answers. -/
def SmPost (w : World) (g : Nat) (e : Ending) (w' : World) : Prop := ∃ v : Int, e = .returned (.int .i64 v) ∧ -4 ≤ v ∧ v ≤ 4 ∧ TM w' g ∧ On g w w'
set_option maxHeartbeats 1000000 in
theorem mkSmall_any (g : Nat) (w : World) (hT : Hid (TM w g)) :
    Calls Try.prog 65 #[.pointer (some ⟨g, 0, none⟩)] w fun e w' => SmPost w g e w' := by
  go_enter Try.func65, Try.ntmps65
  go_wp2_with fail
  refine (mkNext_any g 9 w hT (by omega) (by omega)).mono ?_
  rintro e1 w1 ⟨v, rfl, h0, h1, h2, h3⟩
  have h4 : v ≤ 8 := by omega
  clear h1
  go_wp2
  go_ret
  exact ⟨v - 4, rfl, by omega, by omega, h2, h3⟩
theorem TM.lt {w : World} {g : Nat} (h : TM w g) : g < w.heap.size := by
  obtain ⟨A, n, c, a, h1, _⟩ := h.ex
  exact (Array.getElem?_eq_some_iff.1 h1).1
theorem own_onJ {w w' : World} {B g : Nat} {t : TypeId} {s : Nat} {v : Value} {n : Nat} {xs : List Value} (h : w.ownsRow B t s v n xs) (k : On g w w') (hg : g < B) : w'.ownsRow B t s v n xs := by
  refine ⟨h.1, ?_⟩
  rcases h.2 with h0 | ⟨b, cap, cur, e, hb, hh, h1⟩
  · exact .inl h0
  · exact .inr ⟨b, cap, cur, e, hb, (k.block b (Array.getElem?_eq_some_iff.1 hh).1 (fun e2 => by injection e2 with e2; omega)).trans hh, h1⟩
theorem tm_grown {w w' : World} {B g : Nat} {t : TypeId} {s : Nat} {v : Value} {n : Nat} {xs : List Value} (h : TM w g) (ho : w.ownsRow B t s v n xs) (hg : w.grownBy w' v.ownBlock) (hb : g < B) : TM w' g := by
  obtain ⟨A, m, c, a, h1, h2, h3, h4⟩ := h.ex
  have hgb : ∀ b, b < B → w'.heap[b]? = w.heap[b]? ∨ ¬ b < w.heap.size := fun b hb2 => by
    by_cases hl : b < w.heap.size
    · refine .inl (hg.block b hl (fun e => ?_))
      have := (ho.lt b e.symm).1
      omega
    · exact .inr hl
  refine ⟨A, m, c, a, ?_, h2, h3, fun hn => ?_⟩
  · rcases hgb g hb with e | e
    · exact e.trans h1
    · exact absurd (Array.getElem?_eq_some_iff.1 h1).1 e
  · obtain ⟨ad, e, hb2, hc⟩ := h4 hn
    refine ⟨ad, e, hb2, fun j hj => ?_⟩
    obtain ⟨b, b1, b2⟩ := hc j hj
    refine ⟨b, b1, ?_⟩
    have hl := World.block_lt_of_cell? w _ b2
    rcases hgb ad.block (by omega) with e2 | e2
    · rw [World.cell?_of_block (w := w) (by rw [add_blockJ]; exact e2)]
      exact b2
    · rw [add_blockJ] at hl
      exact absurd hl e2
theorem on_grown {g B : Nat} {w w1 w3 : World} {t : TypeId} {s : Nat} {v : Value} {n : Nat} {xs : List Value} (h : On g w w1) (ho : w1.ownsRow B t s v n xs) (hb : w.heap.size ≤ B) (hg : w1.grownBy w3 v.ownBlock) : On g w w3 :=
  ⟨hg.os.trans h.os, hg.tape.trans h.tape, hg.output.trans h.output, Nat.le_trans h.size hg.size, fun i hi hne => (hg.block i (Nat.lt_of_lt_of_le hi h.size) (fun e => by have := (ho.lt i e.symm).1; omega)).trans (h.block i hi hne)⟩
/-- Small numbers. -/
def In4 (l : List Int) : Prop := ∀ z ∈ l, -4 ≤ z ∧ z ≤ 4
/-- A list of numbers that lies aside of block g. -/
structure ZG (g : Nat) (w : World) (A : Option Addr) (n c : Nat) (l : List Int) : Prop where
  zx : ZX w A n c l
  off : ∀ ad, A = some ad → ad.block ≠ g
theorem ZG.on {g : Nat} {w w' : World} {A : Option Addr} {n c : Nat} {l : List Int} (h : ZG g w A n c l) (k : On g w w') : ZG g w' A n c l :=
  ⟨⟨h.zx.len, h.zx.room, fun hn => by
    obtain ⟨ad, e, hc⟩ := h.zx.cells hn
    exact ⟨ad, e, fun j z hz => cellOn k (by rw [add_blockJ]; exact h.off ad e) (hc j z hz)⟩⟩, h.off⟩
/-- What lies at A lies in a block of numbers. -/
def TyM (w : World) (A : Option Addr) : Prop := ∀ ad, A = some ad → ∃ cur fz, w.heap[ad.block]? = some (.cells cur 3 fz)
theorem TyM.none_ (w : World) : TyM w none := fun ad e => by cases e
theorem TyM.ext {w w' : World} {A : Option Addr} (h : TyM w A) (k : Ext w w') : TyM w' A := fun ad e => by
  obtain ⟨cur, fz, hc⟩ := h ad e
  exact ⟨cur, fz, (k.block _ (Array.getElem?_eq_some_iff.1 hc).1).trans hc⟩
theorem TyM.ne {w : World} {A : Option Addr} {p : Nat} {cs : Array Value} {t : TypeId} {fz : Nat × Nat} (h : TyM w A) (hp : w.heap[p]? = some (.cells cs t fz)) (ht : t ≠ 3) : ∀ ad, A = some ad → ad.block ≠ p := fun ad e e2 => by
  obtain ⟨cur, f, hc⟩ := h ad e
  rw [e2, hp] at hc
  injection hc with hc
  injection hc with _ hc _
  exact ht hc
theorem TyM.onp {w w' : World} {A : Option Addr} {p : Nat} {cs : Array Value} {t : TypeId} {fz : Nat × Nat} (h : TyM w A) (hp : w.heap[p]? = some (.cells cs t fz)) (ht : t ≠ 3) (k : On p w w') : TyM w' A := fun ad e => by
  have hne := h.ne hp ht ad e
  obtain ⟨cur, f, hc⟩ := h ad e
  exact ⟨cur, f, (k.block _ (Array.getElem?_eq_some_iff.1 hc).1 (fun e2 => by injection e2 with e2; exact hne e2)).trans hc⟩
theorem TyM.onT {w w' : World} {A : Option Addr} {g : Nat} (h : TyM w A) (hT : TM w g) (k : On g w w') : TyM w' A := by
  obtain ⟨B, n, c, a, h1, _⟩ := hT.ex
  exact h.onp h1 (by decide) k
theorem TyM.new (w : World) (cs : Array Value) : TyM (w.alloc (.cells cs 3)) (some ⟨w.heap.size, 0, none⟩) := fun ad e => by
  injection e with e
  subst e
  exact ⟨_, _, heap_alloc_new w _⟩
theorem rdZ_tyM {w : World} {B : Nat} {v : Value} {n : Nat} {zs : List Int} (h : w.ownsRow B 3 1 v n (i64s zs)) : ∃ A c, v = .slice A n c ∧ ZX w A n c zs ∧ Frsh B A ∧ TyM w A := by
  have h' := h
  obtain ⟨A, c, rfl, h1, h2⟩ := rdZ_of_own h
  refine ⟨A, c, rfl, h1, h2, fun ad e => ?_⟩
  rcases h'.2 with ⟨e1, _⟩ | ⟨g, cap, cur, e1, hg, hh, _⟩
  · injection e1 with e1
    rw [e1] at e
    cases e
  · injection e1 with e1
    rw [e1] at e
    injection e with e
    subst e
    exact ⟨cur, _, hh⟩
/-- What row answers. -/
def RwPost (w : World) (g n : Nat) (e : Ending) (w' : World) : Prop := ∃ (A : Option Addr) (c : Nat) (l : List Int), e = .returned (.slice A n c) ∧ l.length = n ∧ In4 l ∧ ZX w' A n c l ∧ Frsh w.heap.size A ∧ TM w' g ∧ On g w w' ∧ TyM w' A
set_option maxHeartbeats 1000000 in
theorem mkRow_any (g n : Nat) (w : World) (hT : Hid (TM w g)) (hn : n ≤ 1000) :
    Calls Try.prog 66 #[.pointer (some ⟨g, 0, none⟩), .int .i64 (n : Int)] w fun e w' => RwPost w g n e w' := by
  obtain ⟨i0', hii, hz0, hz1, hz2⟩ := info_partsJ info_intJ
  have hgl := hT.out.lt
  go_enter Try.func66, Try.ntmps66
  go_wp2_with fail
  go_loopw [5, 6] (fun ov i wr => ∃ (k : Nat) (l : List Int), l.length = k ∧ k ≤ n ∧ i = .int .i64 (k : Int) ∧ Hid (wr.ownsRow w.heap.size 3 1 ov k (i64s l)) ∧ Hid (In4 l) ∧ Hid (TM wr g) ∧ Hid (On g w wr)) (fun _ i _ => n - (intOf i).toNat)
  case atStart => exact ⟨0, [], rfl, by omega, rfl, Lib.hid (World.ownsRow_nil _ _ _ _), Lib.hid (fun z h => by cases h), hT, Lib.hid (On.refl _ _)⟩
  case round =>
    obtain ⟨k, l, hlk, hk, rfl, hO, hI, hTm, hE⟩ := hrel
    by_cases hlt : k < n
    · go_wp2_with fail
      refine (mkSmall_any g wr hTm).mono ?_
      rintro e1 w1 ⟨v, rfl, v0, v1, ht1, ho1⟩
      have hO1 := Lib.hid (own_onJ hO.out ho1 hgl)
      have hs1 := (hE.out.trans ho1).size
      have HT1 := Lib.hid ht1
      have HO1 := Lib.hid (hE.out.trans ho1)
      clear ht1 ho1
      go_wp2_with (at_builtin; go_loud (refine wpList_append_own _ rfl _ _ 38 rfl w.heap.size 3 i0' (.int .i64 0) 1 8 Try.underlying38 hii hz0 hz1 hz2 rfl (by decide) _ _ _ rfl (hO1.out.alloc _) ⟨_, 0, none⟩ 1 1 [.int .i64 v] rfl rfl one_cellJ one_intZ (by unfold maxLen; omega) (by omega) (by simp; omega) ?_; intro v3 w3 hown3 hgrow3 _))
      go_roundw
      case rel =>
        refine ⟨k + 1, l ++ [v], by simp; omega, by omega, by go_num, Lib.hid (by rw [i64s_snoc]; exact hown3), Lib.hid ?_, Lib.hid (tm_grown (HT1.out.keep ((Ext.refl _).alloc _)) (hO1.out.alloc _) hgrow3 hgl), Lib.hid ?_⟩
        · intro z hz
          rcases List.mem_append.1 hz with h | h
          · exact hI.out z h
          · simp at h
            subst h
            exact ⟨v0, v1⟩
        · exact on_grown (HO1.out.trans (On.of ((Ext.refl w1).alloc _))) (hO1.out.alloc _) (Nat.le_refl _) hgrow3
      case measure => simp [intOf]; omega
    · obtain rfl : k = n := by omega
      obtain ⟨A, c, rfl, hz, hf, hy⟩ := rdZ_tyM hO.out
      have HY := Lib.hid hy
      have HZ := Lib.hid hz
      have HF := Lib.hid hf
      clear hz hf hy
      go_wp2
      go_ret
      exact ⟨A, c, l, rfl, hlk, hI.out, HZ.out, HF.out, hTm.out, hE.out, HY.out⟩
end Go.Proofs.Ytdnjjpkajiehgaa
