import Derived.Test.YtkbcobjhlpjieaaGreatDoorZURs
namespace Go.Proofs.YtkbcobjhlpjieaaGreatDoor
open Go.RowKit
set_option linter.unusedVariables false
set_option maxRecDepth 100000
theorem bet_state (s : Except Nat (List Nat)) (a b v : Nat) (bb : Bool) (hb : (∃ l, s = .ok l) → (bb = true ↔ (v < a ∨ b < v))) (h0 : ∀ x r, stp s (numP 1) = .ok (x, r) → v = x) :
    failS (restS (stp s (numP 1))) bb 3 = restS (stp s (betP 1 a b)) ∧ ∀ x r, stp s (betP 1 a b) = .ok (x, r) → v = x ∧ a ≤ v ∧ v ≤ b := by
 rcases s with e | l
 ·exact ⟨rfl, fun x r h => by cases h⟩
 ·have hb' := hb ⟨l, rfl⟩
  rcases h : numP 1 l with e | ⟨x, r⟩
  ·have h1 : stp (.ok l) (betP 1 a b) = .error e := bindP_err h
   have h2 : stp (.ok l) (numP 1) = .error e := h
   rw [h1, h2]
   exact ⟨rfl, fun x r h => by cases h⟩
  ·obtain rfl := h0 x r h
   have h2 : stp (.ok l) (numP 1) = .ok (v, r) := h
   by_cases g : v < a ∨ b < v
   ·have h1 : stp (.ok l) (betP 1 a b) = .error 3 := by show betP 1 a b l = _; rw [betP_num h, if_pos g]
    rw [h1, h2, hb'.2 g]
    exact ⟨rfl, fun x r h => by cases h⟩
   ·have h1 : stp (.ok l) (betP 1 a b) = .ok (v, r) := by show betP 1 a b l = _; rw [betP_num h, if_neg g]
    have hf : bb = false := by
     cases hbb : bb
     ·rfl
     ·exact absurd (hb'.1 hbb) g
    rw [h1, h2, hf]
    refine ⟨rfl, fun x r h => ?_⟩
    injection h with h
    injection h with h _
    exact ⟨h, by omega, by omega⟩
theorem cip_pure {s1 : Except Nat (List Nat)} {pv : PV} {k v : Nat} (hk : ∀ x r, stp s1 (betP 1 2 3) = .ok (x, r) → k = x) (hv : ∀ x r, stp (restS (stp s1 (betP 1 2 3))) (betP 1 0 (pv.q.length - 1)) = .ok (x, r) → v = x) :
    stp s1 (cipherP pv) = stp (restS (stp (restS (stp s1 (betP 1 2 3))) (betP 1 0 (pv.q.length - 1)))) (manyP (elemP pv.n (pv.q.take (v + 1))) k) := by
 rcases s1 with e | l
 ·rfl
 ·simp only [stp] at hk hv ⊢
  unfold cipherP
  rcases h1 : betP 1 2 3 l with e | ⟨x, r⟩
  ·rw [bindP_err h1]; rfl
  ·obtain rfl := hk x r h1
   rw [bindP_ok h1]
   rw [h1] at hv
   simp only [restS] at hv ⊢
   rcases h2 : betP 1 0 (pv.q.length - 1) r with e | ⟨y, r2⟩
   ·rw [bindP_err h2]
   ·obtain rfl := hv y r2 h2
    rw [bindP_ok h2]
structure RcQ (w : World) (x n t : Nat) (AQ : Option Addr) (M cQ wd : Nat) (s : Except Nat (List Nat)) (qs : List Nat) (V : World) : Prop where
 ans : RW V w.heap.size 25 4 (parF (.int .i64 0) (.int .u64 0) (.slice none 0 0) (.int .i64 0))
 cip : RW V (w.heap.size + 1) 28 1 (fun _ => .slice none 0 0)
 par : RW V x 25 4 (parF (.int .i64 (n : Int)) (.int .u64 (t : Int)) (.slice AQ M cQ) (.int .i64 (wd : Int)))
 rr : RR V (w.heap.size + 2) s
 ext : Ext w V
 ly : LY 22 WordR V AQ cQ qs
 lt : w.heap.size + 2 < x
section
variable {w : World} {x n t : Nat} {AQ : Option Addr} {M cQ wd : Nat} {s s' : Except Nat (List Nat)} {qs : List Nat} {V V' : World}
theorem RcQ.call (h : RcQ w x n t AQ M cQ wd s qs V) (hr : RR V' (w.heap.size + 2) s') (k : On (w.heap.size + 2) V V') : RcQ w x n t AQ M cQ wd s' qs V' :=
 ⟨h.ans.on k (by omega), h.cip.on k (by omega), h.par.on k (by have := h.lt; omega), hr, h.ext.on k (by omega), h.ly.keeps (wordR_stays [22]) (by decide) (h.rr.keeps k (by decide)), h.lt⟩
theorem RcQ.more (h : RcQ w x n t AQ M cQ wd s qs V) (k : Ext V V') : RcQ w x n t AQ M cQ wd s qs V' := h.call (h.rr.ext k) (On.of k)
theorem RcQ.grown {vv : Value} {k y : Nat} {us : List Value} (h : RcQ w x n t AQ M cQ wd s qs V) (ho : V.ownsRow (y + 1) 31 1 vv k us) (hy : x < y) (hg : V.grownBy V' vv.ownBlock) : RcQ w x n t AQ M cQ wd s qs V' :=
 ⟨h.ans.keep (hg.block _ h.ans.lt (fun e => by have := (ho.lt _ e.symm).1; have := h.lt; omega)), h.cip.keep (hg.block _ h.cip.lt (fun e => by have := (ho.lt _ e.symm).1; have := h.lt; omega)), h.par.keep (hg.block _ h.par.lt (fun e => by have := (ho.lt _ e.symm).1; omega)), h.rr.grown hg (fun k e => by have := (ho.lt _ e).1; have := h.lt; omega), Below.grown h.ext hg h.ext.size (fun k e => by have := (ho.lt k e).1; have := h.lt; omega), h.ly.keeps (wordR_stays [22]) (by decide) (Keeps.grown hg ho (by decide)), h.lt⟩
theorem RcQ.set {y : Nat} {G : Nat → Value} (h : RcQ w x n t AQ M cQ wd s qs V) (hy : x < y) (ho : RW V y 28 1 G) (u : Value) : RcQ w x n t AQ M cQ wd s qs (V.setCell ⟨y, 0, none⟩ u) :=
 ⟨h.ans.far (by have := h.lt; omega) u, h.cip.far (by have := h.lt; omega) u, h.par.far (by omega) u, h.rr.setFar (by have := h.lt; omega) u, ext_set h.ext (by have := h.lt; omega) u, h.ly.keeps (wordR_stays [22]) (by decide) (Keeps.set ho (by decide) u), h.lt⟩
end
set_option maxHeartbeats 32000000 in
theorem rrC_any (nn c : Nat) (A : Option Addr) (l : List Nat) (w : World) (hX : Hid (BX w A nn c l)) (hA : Hid (0 < nn → ∀ ad, A = some ad → ad.block < w.heap.size)) (hn : nn ≤ 100000) :
    Calls Tryz.prog 28 #[.slice A nn c] w (RPost (.agg #[.slice none 0 0]) w (endP (headP 2 cipherP l)) (AgR ElsR)) := by
 obtain ⟨i0, hi, hz0, hz1, hz2⟩ := info_parts info_poly
 have HN := Lib.hid hX.out.len
 obtain ⟨T, hT0⟩ : ∃ T : Except Nat ((PV × List (List (List Nat))) × List Nat), T = headP 2 cipherP l := ⟨_, rfl⟩
 rw [← hT0]
 have HT0 := Lib.hid hT0
 have kA : Ext w (((w.alloc (.cells #[.int .i64 0, .int .u64 0, .slice none 0 0, .int .i64 0] 25)).alloc (.cells #[.slice none 0 0] 28)).alloc (.cells #[.slice A nn c, .int .i64 0] 128)) := (((Ext.refl w).alloc _).alloc _).alloc _
 have HR0 := Lib.hid (show RR (((w.alloc (.cells #[.int .i64 0, .int .u64 0, .slice none 0 0, .int .i64 0] 25)).alloc (.cells #[.slice none 0 0] 28)).alloc (.cells #[.slice A nn c, .int .i64 0] 128)) (w.heap.size + 2) (.ok l) by
  have h := rr_new ((w.alloc (.cells #[.int .i64 0, .int .u64 0, .slice none 0 0, .int .i64 0] 25)).alloc (.cells #[.slice none 0 0] 28)) A nn c l (hX.out.ext (((Ext.refl w).alloc _).alloc _)) HN.out.symm hn (fun h0 ad e => by have := hA.out h0 ad e; simp; omega)
  rw [World.size_alloc, World.size_alloc] at h
  exact h)
 have r6 : RW (((w.alloc (.cells #[.int .i64 0, .int .u64 0, .slice none 0 0, .int .i64 0] 25)).alloc (.cells #[.slice none 0 0] 28)).alloc (.cells #[.slice A nn c, .int .i64 0] 128)) w.heap.size 25 4 (parF (.int .i64 0) (.int .u64 0) (.slice none 0 0) (.int .i64 0)) := RW.ext (show RW (w.alloc (.cells #[.int .i64 0, .int .u64 0, .slice none 0 0, .int .i64 0] 25)) w.heap.size 25 4 (parF (.int .i64 0) (.int .u64 0) (.slice none 0 0) (.int .i64 0)) from heap_alloc_new w _) (((Ext.refl _).alloc _).alloc _)
 have r7 : RW (((w.alloc (.cells #[.int .i64 0, .int .u64 0, .slice none 0 0, .int .i64 0] 25)).alloc (.cells #[.slice none 0 0] 28)).alloc (.cells #[.slice A nn c, .int .i64 0] 128)) (w.heap.size + 1) 28 1 (fun _ => .slice none 0 0) := by
  have h : RW ((w.alloc (.cells #[.int .i64 0, .int .u64 0, .slice none 0 0, .int .i64 0] 25)).alloc (.cells #[.slice none 0 0] 28)) (w.alloc (.cells #[.int .i64 0, .int .u64 0, .slice none 0 0, .int .i64 0] 25)).heap.size 28 1 (fun _ => .slice none 0 0) := heap_alloc_new (w.alloc (.cells #[.int .i64 0, .int .u64 0, .slice none 0 0, .int .i64 0] 25)) (.cells #[.slice none 0 0] 28)
  rw [World.size_alloc] at h
  exact h.ext ((Ext.refl _).alloc _)
 have hs0 : (((w.alloc (.cells #[.int .i64 0, .int .u64 0, .slice none 0 0, .int .i64 0] 25)).alloc (.cells #[.slice none 0 0] 28)).alloc (.cells #[.slice A nn c, .int .i64 0] 128)).heap.size = w.heap.size + 3 := by simp
 clear hT0
 go_enter Tryz.func28, Tryz.ntmps28
 go_wp2_with fail
 generalize (((w.alloc (.cells #[.int .i64 0, .int .u64 0, .slice none 0 0, .int .i64 0] 25)).alloc (.cells #[.slice none 0 0] 28)).alloc (.cells #[.slice A nn c, .int .i64 0] 128)) = X0 at *
 refine (rStart_any 2 (w.heap.size + 2) l X0 HR0 (by omega)).mono ?_
 rintro e1 w1 ⟨n, t, wd, qs, AQ, cQ, rfl, hly, hn1, ht1, hw1, hq1, hpv, hrr, hon⟩
 obtain ⟨M, hM⟩ : ∃ M, M = qs.length := ⟨_, rfl⟩
 have HM := Lib.hid hM
 rw [← hM]
 obtain ⟨p1, p2⟩ := whole_pure (kind := 2) (f := cipherP) hpv
 obtain ⟨s1, hs1⟩ : ∃ s, s = restS (bindP (betP 1 2 2) (fun _ => paramP) l) := ⟨_, rfl⟩
 have hp0 : ∀ l1, s1 = .ok l1 → 0 < qs.length ∧ ∀ q ∈ qs, 0 < q := fun l1 h => by
  rw [hs1] at h
  rcases hh : bindP (betP 1 2 2) (fun _ => paramP) l with e | ⟨pv, r'⟩
  ·rw [hh] at h; cases h
  ·obtain rfl := hpv pv r' hh
   exact ⟨(start_ok hh).2.1, (start_ok hh).1⟩
 rw [← hs1] at hrr p1 p2
 have HP1 := Lib.hid p1
 have HP2 := Lib.hid p2
 have HP0 := Lib.hid hp0
 have hsz := hon.size
 have HQ := Lib.hid (show RcQ w w1.heap.size n t AQ M cQ wd s1 qs (w1.alloc (.cells #[.int .i64 (n : Int), .int .u64 (t : Int), .slice AQ M cQ, .int .i64 (wd : Int)] 25)) from by
  have kY : Ext w1 (w1.alloc (.cells #[.int .i64 (n : Int), .int .u64 (t : Int), .slice AQ M cQ, .int .i64 (wd : Int)] 25)) := (Ext.refl w1).alloc _
  exact ⟨(r6.on hon (by omega)).ext kY, (r7.on hon (by omega)).ext kY, heap_alloc_new w1 _, hrr.ext kY, (kA.on hon (by omega)).trans kY, hly.keeps (wordR_stays [22]) (by decide) (Keeps.ext kY), by omega⟩)
 have hs8 : (w1.alloc (.cells #[.int .i64 (n : Int), .int .u64 (t : Int), .slice AQ M cQ, .int .i64 (wd : Int)] 25)).heap.size = w1.heap.size + 1 := by simp
 have hMq : M ≤ 255 := by rw [hM]; exact hq1
 clear hM hly hpv hrr hon hs1 hp0 p1 p2 r6 r7
 obtain ⟨x, hx⟩ : ∃ x, x = w1.heap.size := ⟨_, rfl⟩
 go_wp2_with fail
 generalize (w1.alloc (.cells #[.int .i64 (n : Int), .int .u64 (t : Int), .slice AQ M cQ, .int .i64 (wd : Int)] 25)) = W4 at *
 rw [← hx] at HQ hs8 ⊢
 clear hx
 refine (rNum_any 1 (w.heap.size + 2) s1 W4 (Lib.hid HQ.out.rr) (by omega) (by omega)).mono ?_
 rintro e2 w2 ⟨k, hk1, hk2, rfl, hkl, hr2, ho2⟩
 obtain ⟨s2, hs2⟩ : ∃ s, s = restS (stp s1 (numP 1)) := ⟨_, rfl⟩
 rw [← hs2] at hr2
 have HS2 := Lib.hid hs2
 have HQ2 := Lib.hid (HQ.out.call hr2 ho2)
 have HK1 := Lib.hid hk1
 have hszk := ho2.size
 obtain ⟨d2, hd2⟩ : ∃ d : Bool, d = decide (k ≠ 2) := ⟨_, rfl⟩
 obtain ⟨d3, hd3⟩ : ∃ d : Bool, d = decide (k ≠ 3) := ⟨_, rfl⟩
 have e2 : ((k : Int) != 2) = d2 := by
  rw [hd2]
  by_cases g : k = 2
  ·subst g; rfl
  ·have : ¬ (k : Int) = 2 := by omega
   simp [g, this]
 have e3 : ((k : Int) != 3) = d3 := by
  rw [hd3]
  by_cases g : k = 3
  ·subst g; rfl
  ·have : ¬ (k : Int) = 3 := by omega
   simp [g, this]
 have HD2 := Lib.hid hd2
 have HD3 := Lib.hid hd3
 have hwk : IntKind.i64.wrap (k : Int) = (k : Int) := by rw [IntKind.wrap_i64]; omega
 clear hs2 hr2 ho2 hk1 hk2 hd2 hd3
 have KEY := Lib.hid (show ∀ bb : Bool, ((d2 = true ∧ bb = d3) ∨ (¬ d2 = true ∧ bb = false)) → failS s2 bb 3 = restS (stp s1 (betP 1 2 3)) ∧ ∀ x r, stp s1 (betP 1 2 3) = .ok (x, r) → k = x ∧ 2 ≤ k ∧ k ≤ 3 from fun bb h => by
  rw [HS2.out]
  refine bet_state s1 2 3 k bb (fun _ => ?_) HK1.out
  rw [HD2.out, HD3.out] at h
  rcases h with ⟨h1, h2⟩ | ⟨h1, h2⟩
  ·rw [h2]; simp at h1; simp; omega
  ·rw [h2]; simp at h1; simp; omega)
 go_wp2_with fail
 all_goals
  refine (rFail_any (w.heap.size + 2) 3 _ s2 w2 (Lib.hid HQ2.out.rr) (by omega) (by omega)).mono ?_
  rintro e3' w3 ⟨rfl, hr3, ho3⟩
  obtain ⟨hk3, hkv⟩ : (∃ bb : Bool, failS s2 bb 3 = restS (stp s1 (betP 1 2 3)) ∧ RR w3 (w.heap.size + 2) (failS s2 bb 3)) ∧ ∀ x r, stp s1 (betP 1 2 3) = .ok (x, r) → k = x ∧ 2 ≤ k ∧ k ≤ 3 := by
   first
    | exact ⟨⟨d3, (KEY.out d3 (.inl ⟨by assumption, rfl⟩)).1, hr3⟩, (KEY.out d3 (.inl ⟨by assumption, rfl⟩)).2⟩
    | exact ⟨⟨false, (KEY.out false (.inr ⟨by assumption, rfl⟩)).1, hr3⟩, (KEY.out false (.inr ⟨by assumption, rfl⟩)).2⟩
  obtain ⟨bb, hbb, hr3⟩ := hk3
  obtain ⟨s3, hs3⟩ : ∃ s, s = restS (stp s1 (betP 1 2 3)) := ⟨_, rfl⟩
  rw [hbb, ← hs3] at hr3
  have HS3 := Lib.hid hs3
  have HKV := Lib.hid hkv
  have HQ3 := Lib.hid (HQ2.out.call hr3 ho3)
  have hs13 : ∀ l3, s3 = .ok l3 → 0 < M ∧ ∀ q ∈ qs, 0 < q := fun l3 h => by
   rw [hs3] at h
   rcases hh : s1 with e | l1
   ·rw [hh] at h; cases h
   ·have := HP0.out l1 hh
    rw [HM.out]
    exact this
  have HS13 := Lib.hid hs13
  have hsz3 := ho3.size
  clear hs3 hr3 ho3 hbb hkv hs13 e2 e3
  go_wp2_with fail
  refine (rNum_any 1 (w.heap.size + 2) s3 w3 (Lib.hid HQ3.out.rr) (by omega) (by omega)).mono ?_
  rintro e4 w4 ⟨lev, hv1, hv2, rfl, hvl, hr4, ho4⟩
  obtain ⟨s4, hs4⟩ : ∃ s, s = restS (stp s3 (numP 1)) := ⟨_, rfl⟩
  rw [← hs4] at hr4
  have HQ4 := Lib.hid (HQ3.out.call hr4 ho4)
  have hsz4 := ho4.size
  obtain ⟨bl, hbl⟩ : ∃ d : Bool, d = decide (M ≤ lev) := ⟨_, rfl⟩
  have hdec : decide ((M : Int) ≤ (lev : Int)) = bl := by rw [hbl]; simp
  have hdec2 : decide (M ≤ lev) = bl := hbl.symm
  have hwl : IntKind.i64.wrap (lev : Int) = (lev : Int) := by rw [IntKind.wrap_i64]; omega
  obtain ⟨hst, hsv⟩ := bet_state s3 0 (M - 1) lev bl (fun ⟨l3, h3⟩ => by have := (HS13.out l3 h3).1; rw [hbl]; simp; omega) hv1
  rw [← hs4] at hst
  have HST := Lib.hid hst
  have HSV := Lib.hid hsv
  obtain ⟨c0, c1, c2, c3⟩ := HQ4.out.par.pc
  clear hbl hs4 hv1 hv2 hr4 ho4 hst hsv
  go_wp2_with fail
  refine (rFail_any (w.heap.size + 2) 3 bl s4 w4 (Lib.hid HQ4.out.rr) (by omega) (by omega)).mono ?_
  rintro e5 w5 ⟨rfl, hr5, ho5⟩
  rw [HST.out] at hr5
  obtain ⟨s5, hs5⟩ : ∃ s, s = restS (stp s3 (betP 1 0 (M - 1))) := ⟨_, rfl⟩
  rw [← hs5] at hr5
  have HCP := Lib.hid (show stp s1 (cipherP ⟨n, t, wd, qs⟩) = stp s5 (manyP (elemP n (qs.take (lev + 1))) k) from by
   rw [hs5, HS3.out, HM.out]
   exact cip_pure (pv := ⟨n, t, wd, qs⟩) (fun x r h => (HKV.out x r h).1) (fun x r h => (HSV.out x r (by rw [HS3.out, HM.out]; exact h)).1))
  have HLV := Lib.hid (show ∀ l5, s5 = .ok l5 → lev + 1 ≤ M ∧ k ≤ 3 ∧ ∀ q ∈ qs, 0 < q from fun l5 h => by
   rw [hs5] at h
   rcases hh : stp s3 (betP 1 0 (M - 1)) with e | ⟨x, r⟩
   ·rw [hh] at h; cases h
   ·have h1 := (HSV.out x r hh).2.2
    rcases hh3 : s3 with e | l3
    ·rw [hh3] at hh; cases hh
    ·obtain ⟨h2, h3⟩ := HS13.out l3 hh3
     rw [HS3.out] at hh3
     rcases hh4 : stp s1 (betP 1 2 3) with e | ⟨x4, r4⟩
     ·rw [hh4] at hh3; cases hh3
     ·have := (HKV.out x4 r4 hh4).2.2
      exact ⟨by omega, this, h3⟩)
  have HQ5 := Lib.hid (HQ4.out.call hr5 ho5)
  have hsz5 := ho5.size
  have kC : Ext w5 (w5.alloc (.cells #[.slice none 0 0] 28)) := (Ext.refl w5).alloc _
  have HQ6 := Lib.hid (HQ5.out.more kC)
  have HY6 := Lib.hid (show RW (w5.alloc (.cells #[.slice none 0 0] 28)) w5.heap.size 28 1 (fun _ => .slice none 0 0) from heap_alloc_new w5 _)
  have hs6 : (w5.alloc (.cells #[.slice none 0 0] 28)).heap.size = w5.heap.size + 1 := by simp
  clear hs5 hr5 ho5 hdec hdec2 c0 c1 c2 c3
  obtain ⟨y, hy⟩ : ∃ y, y = w5.heap.size := ⟨_, rfl⟩
  have hxy : x < y := by omega
  go_wp2_with fail
  generalize w5.alloc (.cells #[.slice none 0 0] 28) = W6 at *
  rw [← hy] at HY6 hs6 ⊢
  clear hy
  go_loopw [10] (fun iv wr => ∃ (i : Nat) (xs : List (List (List Nat))) (v : Value) (s : Except Nat (List Nat)), i ≤ k ∧ iv = .int .i64 (i : Int) ∧ Hid (xs.length = i) ∧ Hid (RcQ w x n t AQ M cQ wd s qs wr) ∧ Hid (RW wr y 28 1 (fun _ => v)) ∧ Hid (GR (y + 1) 31 ElR wr v xs) ∧
      Hid ((∃ c, s5 = .error c ∧ s = .error c) ∨ ∃ l0, s5 = .ok l0 ∧ ((∃ l', s = .ok l' ∧ manyP (elemP n (qs.take (lev + 1))) k l0 = aft xs (manyP (elemP n (qs.take (lev + 1))) (k - i) l')) ∨ ∃ c, s = .error c ∧ manyP (elemP n (qs.take (lev + 1))) k l0 = .error c))) (fun iv _ => k - (intOf iv).toNat)
  case atStart =>
   refine ⟨0, [], _, s5, by omega, rfl, Lib.hid rfl, HQ6, HY6, Lib.hid (GR.nil _ _ _ _), Lib.hid ?_⟩
   rcases s5 with c | l0
   ·exact .inl ⟨c, rfl, rfl⟩
   ·exact .inr ⟨l0, rfl, .inl ⟨l0, rfl, by rw [aft_nil]; rfl⟩⟩
  case round =>
   obtain ⟨i, xs, v, s, hik, rfl, hxl, hq, hyy, hgr, hrel2⟩ := hrel
   have x1 := hq.out.rr.err
   by_cases hlt : i < k
   ·have i5 : decide ((i : Int) < (k : Int)) = true := by simp; omega
    rcases s with e | l1
    ·obtain ⟨E0, E1, E2, hE, hE0, hE1⟩ := hq.out.rr
     rw [show rErrS (.error e) = e from rfl] at x1
     have i6 : ((e : Int) == 0) = false := by simp; omega
     clear hE
     obtain ⟨A9, c9, rfl, hlv9⟩ := hgr.out.lv
     have HV9 := Lib.hid (show ElsR wr (.slice A9 xs.length c9) xs from ⟨A9, c9, rfl, hlv9⟩)
     obtain ⟨g1, g2⟩ := ms_fin hrel2.out (.inr ⟨e, rfl⟩)
     have G2 := Lib.hid g2
     obtain ⟨K, hK⟩ : ∃ K, K = xs.length := ⟨_, rfl⟩
     rw [← hK] at HV9
     have HRT := Lib.hid (show RR wr (w.heap.size + 2) (restS T) by rw [HT0.out, HP1.out, HCP.out, g1]; exact hq.out.rr)
     have HKK := Lib.hid hK
     have HY5 := Lib.hid (show RW wr y 28 1 (fun _ => .slice A9 K c9) by rw [hK]; exact hyy.out)
     clear hlv9 g1 g2 hK
     go_wp2_with fail
     refine (rEnd_any (w.heap.size + 2) (restS T) wr HRT).mono ?_
     rintro e9 w4' ⟨rfl, ho4⟩
     have q6 := hq.out.ans.on ho4 (by omega)
     have q7 := hq.out.cip.on ho4 (by omega)
     obtain ⟨f0, f1, f2, f3⟩ := (hq.out.par.on ho4 (by have := hq.out.lt; omega)).pc
     have f4 := (HY5.out.on ho4 (by have := hq.out.lt; omega)).cell (i := 0) (by omega)
     have kY : Ext w w4' := hq.out.ext.on ho4 (by omega)
     have hkk : Keeps [22, 23, 31] wr w4' := HRT.out.keeps ho4 (by decide)
     have HL2 := Lib.hid (hq.out.ly.keeps (wordR_stays [22, 23, 31]) (by decide) hkk)
     have HV8 := Lib.hid (elsR_stays (ts := [22, 23, 31]) (by decide) (by decide) (by decide) _ _ _ _ hkk HV9.out)
     have hxlt := hq.out.lt
     have hne1 : ¬ (w.heap.size = x) := by omega
     have hne2 : ¬ (x = w.heap.size) := by omega
     have hne3 : ¬ (w.heap.size = y) := by omega
     have hne4 : ¬ (y = w.heap.size) := by omega
     have hne5 : ¬ (w.heap.size + 1 = x) := by omega
     have hne6 : ¬ (x = w.heap.size + 1) := by omega
     have hne7 : ¬ (w.heap.size + 1 = y) := by omega
     have hne8 : ¬ (y = w.heap.size + 1) := by omega
     clear ho4 hkk
     rcases end_cases HRT.out with ⟨⟨pv, ys⟩, r, hT1, hT2, hT3⟩ | ⟨cc, hT2, hc0, hc1, hT3⟩
     ·obtain ⟨x0, he1, he3⟩ := HP2.out _ r (by rw [← HT0.out]; exact hT1)
      have he2 := G2.out x0 r (by rw [← HCP.out]; exact he1)
      rw [hT3]
      have H2 := Lib.hid hT2
      have HX1 := Lib.hid (show (pv, ys) = (⟨n, t, wd, qs⟩, xs) by rw [he3, he2])
      have HX2 := Lib.hid (show 0 < qs.length from by
       rcases hh1 : s1 with e | l1
       ·rw [hh1] at he1; cases he1
       ·exact (HP0.out l1 hh1).1)
      clear hT1 hT2 hT3 he1 he2 he3
      have a0 : w4'.cell? ⟨w.heap.size, 0, none⟩ = some (.int .i64 0) := q6.cell (i := 0) (by omega)
      have b0 := q6.frozen 0
      have a1 : w4'.cell? ⟨w.heap.size, 1, none⟩ = some (.int .u64 0) := q6.cell (i := 1) (by omega)
      have b1 := q6.frozen 1
      have a2 : w4'.cell? ⟨w.heap.size, 2, none⟩ = some (.slice none 0 0) := q6.cell (i := 2) (by omega)
      have b2 := q6.frozen 2
      have a3 : w4'.cell? ⟨w.heap.size, 3, none⟩ = some (.int .i64 0) := q6.cell (i := 3) (by omega)
      have b3 := q6.frozen 3
      have tc0 := q7.cell (i := 0) (by omega)
      have td0 := q7.frozen 0
      have P6 : RW (((((w4'.setCell ⟨w.heap.size, 0, none⟩ (.int .i64 (n : Int))).setCell ⟨w.heap.size, 1, none⟩ (.int .u64 (t : Int))).setCell ⟨w.heap.size, 2, none⟩ (.slice AQ M cQ)).setCell ⟨w.heap.size, 3, none⟩ (.int .i64 (wd : Int))).setCell ⟨(w.heap.size + 1), 0, none⟩ (.slice A9 K c9)) w.heap.size 25 4 (parF (.int .i64 (n : Int)) (.int .u64 (t : Int)) (.slice AQ M cQ) (.int .i64 (wd : Int))) := (RW.far (q6.set4 (.int .i64 (n : Int)) (.int .u64 (t : Int)) (.slice AQ M cQ) (.int .i64 (wd : Int))) (x := w.heap.size + 1) (by omega) (.slice A9 K c9))
      have e0 : (((((w4'.setCell ⟨w.heap.size, 0, none⟩ (.int .i64 (n : Int))).setCell ⟨w.heap.size, 1, none⟩ (.int .u64 (t : Int))).setCell ⟨w.heap.size, 2, none⟩ (.slice AQ M cQ)).setCell ⟨w.heap.size, 3, none⟩ (.int .i64 (wd : Int))).setCell ⟨(w.heap.size + 1), 0, none⟩ (.slice A9 K c9)).cell? ⟨w.heap.size, 0, none⟩ = some (.int .i64 (n : Int)) := P6.cell (i := 0) (by omega)
      have e1 : (((((w4'.setCell ⟨w.heap.size, 0, none⟩ (.int .i64 (n : Int))).setCell ⟨w.heap.size, 1, none⟩ (.int .u64 (t : Int))).setCell ⟨w.heap.size, 2, none⟩ (.slice AQ M cQ)).setCell ⟨w.heap.size, 3, none⟩ (.int .i64 (wd : Int))).setCell ⟨(w.heap.size + 1), 0, none⟩ (.slice A9 K c9)).cell? ⟨w.heap.size, 1, none⟩ = some (.int .u64 (t : Int)) := P6.cell (i := 1) (by omega)
      have e2 : (((((w4'.setCell ⟨w.heap.size, 0, none⟩ (.int .i64 (n : Int))).setCell ⟨w.heap.size, 1, none⟩ (.int .u64 (t : Int))).setCell ⟨w.heap.size, 2, none⟩ (.slice AQ M cQ)).setCell ⟨w.heap.size, 3, none⟩ (.int .i64 (wd : Int))).setCell ⟨(w.heap.size + 1), 0, none⟩ (.slice A9 K c9)).cell? ⟨w.heap.size, 2, none⟩ = some (.slice AQ M cQ) := P6.cell (i := 2) (by omega)
      have e3 : (((((w4'.setCell ⟨w.heap.size, 0, none⟩ (.int .i64 (n : Int))).setCell ⟨w.heap.size, 1, none⟩ (.int .u64 (t : Int))).setCell ⟨w.heap.size, 2, none⟩ (.slice AQ M cQ)).setCell ⟨w.heap.size, 3, none⟩ (.int .i64 (wd : Int))).setCell ⟨(w.heap.size + 1), 0, none⟩ (.slice A9 K c9)).cell? ⟨w.heap.size, 3, none⟩ = some (.int .i64 (wd : Int)) := P6.cell (i := 3) (by omega)
      have P7 : RW ((((w4'.setCell ⟨w.heap.size, 0, none⟩ (.int .i64 (n : Int))).setCell ⟨w.heap.size, 1, none⟩ (.int .u64 (t : Int))).setCell ⟨w.heap.size, 2, none⟩ (.slice AQ M cQ)).setCell ⟨w.heap.size, 3, none⟩ (.int .i64 (wd : Int))) (w.heap.size + 1) 28 1 (fun _ => .slice none 0 0) := (RW.far (RW.far (RW.far (RW.far q7 (x := w.heap.size) (by omega) (.int .i64 (n : Int))) (x := w.heap.size) (by omega) (.int .u64 (t : Int))) (x := w.heap.size) (by omega) (.slice AQ M cQ)) (x := w.heap.size) (by omega) (.int .i64 (wd : Int)))
      have e4 := ret_cell P7 (.slice A9 K c9)
      have hkz : Keeps [22, 23, 31] w4' (((((w4'.setCell ⟨w.heap.size, 0, none⟩ (.int .i64 (n : Int))).setCell ⟨w.heap.size, 1, none⟩ (.int .u64 (t : Int))).setCell ⟨w.heap.size, 2, none⟩ (.slice AQ M cQ)).setCell ⟨w.heap.size, 3, none⟩ (.int .i64 (wd : Int))).setCell ⟨(w.heap.size + 1), 0, none⟩ (.slice A9 K c9)) := ((((((Keeps.refl _ w4').trans (Keeps.set q6 (by decide) _)).trans (Keeps.set (q6.set (show 0 < 4 by omega) (.int .i64 (n : Int))) (by decide) _)).trans (Keeps.set ((q6.set (show 0 < 4 by omega) (.int .i64 (n : Int))).set (show 1 < 4 by omega) (.int .u64 (t : Int))) (by decide) _)).trans (Keeps.set (((q6.set (show 0 < 4 by omega) (.int .i64 (n : Int))).set (show 1 < 4 by omega) (.int .u64 (t : Int))).set (show 2 < 4 by omega) (.slice AQ M cQ)) (by decide) _)).trans (Keeps.set P7 (by decide) _))
      have HF := Lib.hid (show RPost (.agg #[.slice none 0 0]) w (endP T) (AgR ElsR) (.returned (.tuple #[.agg #[.int .i64 (n : Int), .int .u64 (t : Int), .slice AQ M cQ, .int .i64 (wd : Int)], .agg #[.slice A9 K c9], .int .i64 0])) (((((w4'.setCell ⟨w.heap.size, 0, none⟩ (.int .i64 (n : Int))).setCell ⟨w.heap.size, 1, none⟩ (.int .u64 (t : Int))).setCell ⟨w.heap.size, 2, none⟩ (.slice AQ M cQ)).setCell ⟨w.heap.size, 3, none⟩ (.int .i64 (wd : Int))).setCell ⟨(w.heap.size + 1), 0, none⟩ (.slice A9 K c9)) from
       .inl ⟨⟨n, t, wd, qs⟩, xs, _, AQ, cQ, by rw [H2.out, HX1.out], by rw [HM.out], ⟨_, rfl, elsR_stays (by decide) (by decide) (by decide) _ _ _ _ hkz HV8.out⟩, (PVok.mk HL2.out (by simp only; omega) (by simp only; omega) (by simp only; omega) (by simp only; rw [← HM.out]; omega) HX2.out).keeps hkz (by decide), (ext_set (ext_set (ext_set (ext_set (ext_set kY (Nat.le_refl _) (.int .i64 (n : Int))) (Nat.le_refl _) (.int .u64 (t : Int))) (Nat.le_refl _) (.slice AQ M cQ)) (Nat.le_refl _) (.int .i64 (wd : Int))) (Nat.le_succ _) (.slice A9 K c9))⟩)
      have HE6 := Lib.hid q6
      clear P6 hkz q6 q7 P7
      go_wp2_with fail
      go_region
      all_goals
       generalize ((((w4'.setCell ⟨w.heap.size, 0, none⟩ (.int .i64 (n : Int))).setCell ⟨w.heap.size, 1, none⟩ (.int .u64 (t : Int))).setCell ⟨w.heap.size, 2, none⟩ (.slice AQ M cQ)).setCell ⟨w.heap.size, 3, none⟩ (.int .i64 (wd : Int))).setCell ⟨(w.heap.size + 1), 0, none⟩ (.slice A9 K c9) = Z9 at *
       go_wp2
       exact bodyPost_ret (v := .tuple #[.agg #[.int .i64 (n : Int), .int .u64 (t : Int), .slice AQ M cQ, .int .i64 (wd : Int)], .agg #[.slice A9 K c9], .int .i64 0]) (by simp [results, Tryz.results28, go_sem, e0, e1, e2, e3, e4]) rfl (HF.out.later (agR_stays (elsR_stays (ts := [22, 23, 31]) (by decide) (by decide) (by decide))) (Ext.refl _).drew)
     ·rw [hT3]
      have i9 : ¬ (cc : Int) = 0 := by omega
      have H2 := Lib.hid hT2
      clear hT2 hT3
      have a0 : w4'.cell? ⟨w.heap.size, 0, none⟩ = some (.int .i64 0) := q6.cell (i := 0) (by omega)
      have b0 := q6.frozen 0
      have a1 : w4'.cell? ⟨w.heap.size, 1, none⟩ = some (.int .u64 0) := q6.cell (i := 1) (by omega)
      have b1 := q6.frozen 1
      have a2 : w4'.cell? ⟨w.heap.size, 2, none⟩ = some (.slice none 0 0) := q6.cell (i := 2) (by omega)
      have b2 := q6.frozen 2
      have a3 : w4'.cell? ⟨w.heap.size, 3, none⟩ = some (.int .i64 0) := q6.cell (i := 3) (by omega)
      have b3 := q6.frozen 3
      have tc0 := q7.cell (i := 0) (by omega)
      have td0 := q7.frozen 0
      have Q6 := Lib.hid q6
      clear q6
      have Q7 := Lib.hid q7
      clear q7
      go_wp2_with fail
      have q6 := Q6.out
      have q7 := Q7.out
      have P6 : RW (((((w4'.setCell ⟨w.heap.size, 0, none⟩ (.int .i64 0)).setCell ⟨w.heap.size, 1, none⟩ (.int .u64 0)).setCell ⟨w.heap.size, 2, none⟩ (.slice none 0 0)).setCell ⟨w.heap.size, 3, none⟩ (.int .i64 0)).setCell ⟨(w.heap.size + 1), 0, none⟩ (.slice none 0 0)) w.heap.size 25 4 (parF (.int .i64 0) (.int .u64 0) (.slice none 0 0) (.int .i64 0)) := (RW.far (q6.set4 (.int .i64 0) (.int .u64 0) (.slice none 0 0) (.int .i64 0)) (x := w.heap.size + 1) (by omega) (.slice none 0 0))
      have e0 : (((((w4'.setCell ⟨w.heap.size, 0, none⟩ (.int .i64 0)).setCell ⟨w.heap.size, 1, none⟩ (.int .u64 0)).setCell ⟨w.heap.size, 2, none⟩ (.slice none 0 0)).setCell ⟨w.heap.size, 3, none⟩ (.int .i64 0)).setCell ⟨(w.heap.size + 1), 0, none⟩ (.slice none 0 0)).cell? ⟨w.heap.size, 0, none⟩ = some (.int .i64 0) := P6.cell (i := 0) (by omega)
      have e1 : (((((w4'.setCell ⟨w.heap.size, 0, none⟩ (.int .i64 0)).setCell ⟨w.heap.size, 1, none⟩ (.int .u64 0)).setCell ⟨w.heap.size, 2, none⟩ (.slice none 0 0)).setCell ⟨w.heap.size, 3, none⟩ (.int .i64 0)).setCell ⟨(w.heap.size + 1), 0, none⟩ (.slice none 0 0)).cell? ⟨w.heap.size, 1, none⟩ = some (.int .u64 0) := P6.cell (i := 1) (by omega)
      have e2 : (((((w4'.setCell ⟨w.heap.size, 0, none⟩ (.int .i64 0)).setCell ⟨w.heap.size, 1, none⟩ (.int .u64 0)).setCell ⟨w.heap.size, 2, none⟩ (.slice none 0 0)).setCell ⟨w.heap.size, 3, none⟩ (.int .i64 0)).setCell ⟨(w.heap.size + 1), 0, none⟩ (.slice none 0 0)).cell? ⟨w.heap.size, 2, none⟩ = some (.slice none 0 0) := P6.cell (i := 2) (by omega)
      have e3 : (((((w4'.setCell ⟨w.heap.size, 0, none⟩ (.int .i64 0)).setCell ⟨w.heap.size, 1, none⟩ (.int .u64 0)).setCell ⟨w.heap.size, 2, none⟩ (.slice none 0 0)).setCell ⟨w.heap.size, 3, none⟩ (.int .i64 0)).setCell ⟨(w.heap.size + 1), 0, none⟩ (.slice none 0 0)).cell? ⟨w.heap.size, 3, none⟩ = some (.int .i64 0) := P6.cell (i := 3) (by omega)
      have P7 : RW ((((w4'.setCell ⟨w.heap.size, 0, none⟩ (.int .i64 0)).setCell ⟨w.heap.size, 1, none⟩ (.int .u64 0)).setCell ⟨w.heap.size, 2, none⟩ (.slice none 0 0)).setCell ⟨w.heap.size, 3, none⟩ (.int .i64 0)) (w.heap.size + 1) 28 1 (fun _ => .slice none 0 0) := (RW.far (RW.far (RW.far (RW.far q7 (x := w.heap.size) (by omega) (.int .i64 0)) (x := w.heap.size) (by omega) (.int .u64 0)) (x := w.heap.size) (by omega) (.slice none 0 0)) (x := w.heap.size) (by omega) (.int .i64 0))
      have e4 := ret_cell P7 (.slice none 0 0)
      have hkz : Keeps [22, 23, 31] w4' (((((w4'.setCell ⟨w.heap.size, 0, none⟩ (.int .i64 0)).setCell ⟨w.heap.size, 1, none⟩ (.int .u64 0)).setCell ⟨w.heap.size, 2, none⟩ (.slice none 0 0)).setCell ⟨w.heap.size, 3, none⟩ (.int .i64 0)).setCell ⟨(w.heap.size + 1), 0, none⟩ (.slice none 0 0)) := ((((((Keeps.refl _ w4').trans (Keeps.set q6 (by decide) _)).trans (Keeps.set (q6.set (show 0 < 4 by omega) (.int .i64 0)) (by decide) _)).trans (Keeps.set ((q6.set (show 0 < 4 by omega) (.int .i64 0)).set (show 1 < 4 by omega) (.int .u64 0)) (by decide) _)).trans (Keeps.set (((q6.set (show 0 < 4 by omega) (.int .i64 0)).set (show 1 < 4 by omega) (.int .u64 0)).set (show 2 < 4 by omega) (.slice none 0 0)) (by decide) _)).trans (Keeps.set P7 (by decide) _))
      have HF := Lib.hid (show RPost (.agg #[.slice none 0 0]) w (endP T) (AgR ElsR) (.returned (.tuple #[.agg #[.int .i64 0, .int .u64 0, .slice none 0 0, .int .i64 0], .agg #[.slice none 0 0], .int .i64 (cc : Int)])) (((((w4'.setCell ⟨w.heap.size, 0, none⟩ (.int .i64 0)).setCell ⟨w.heap.size, 1, none⟩ (.int .u64 0)).setCell ⟨w.heap.size, 2, none⟩ (.slice none 0 0)).setCell ⟨w.heap.size, 3, none⟩ (.int .i64 0)).setCell ⟨(w.heap.size + 1), 0, none⟩ (.slice none 0 0)) from
       .inr ⟨cc, H2.out, hc0, hc1, rfl, (ext_set (ext_set (ext_set (ext_set (ext_set kY (Nat.le_refl _) (.int .i64 0)) (Nat.le_refl _) (.int .u64 0)) (Nat.le_refl _) (.slice none 0 0)) (Nat.le_refl _) (.int .i64 0)) (Nat.le_succ _) (.slice none 0 0))⟩)
      have HE6 := Lib.hid q6
      clear P6 hkz q6 q7 P7
      generalize ((((w4'.setCell ⟨w.heap.size, 0, none⟩ (.int .i64 0)).setCell ⟨w.heap.size, 1, none⟩ (.int .u64 0)).setCell ⟨w.heap.size, 2, none⟩ (.slice none 0 0)).setCell ⟨w.heap.size, 3, none⟩ (.int .i64 0)).setCell ⟨(w.heap.size + 1), 0, none⟩ (.slice none 0 0) = Z9 at *
      exact bodyPost_ret (v := .tuple #[.agg #[.int .i64 0, .int .u64 0, .slice none 0 0, .int .i64 0], .agg #[.slice none 0 0], .int .i64 (cc : Int)]) (by simp [results, Tryz.results28, go_sem, e0, e1, e2, e3, e4]) rfl HF.out
    ·rw [show rErrS (.ok l1) = 0 from rfl] at x1
     obtain ⟨hl1, hl2, hl3⟩ : lev + 1 ≤ M ∧ k ≤ 3 ∧ ∀ q ∈ qs, 0 < q := by
      rcases hrel2.out with ⟨c, _, h⟩ | ⟨l0, h0, _⟩
      ·cases h
      ·exact HLV.out l0 h0
     have HL3 := Lib.hid hl3
     obtain ⟨us, hou, huu⟩ := hgr.out
     rw [hxl.out] at hou
     have HOU := Lib.hid hou
     have HUU := Lib.hid huu
     obtain ⟨c0, c1, c2, c3⟩ := hq.out.par.pc
     have y0 := hyy.out.cell (i := 0) (by omega)
     have hwl1 : IntKind.i64.wrap ((lev : Int) + 1) = ((lev + 1 : Nat) : Int) := by rw [IntKind.wrap_i64]; omega
     have hyl := hyy.out.lt
     clear hl3 hou huu
     go_wp2_with fail
     refine wp_region_held_drew (S := (fun w' => True)) (by kernel_rfl) ?_ (fun hHeld => ?_)
     ·(try dsimp only); (try trivial)
     refine wpAnyH_take (i := 0) (oi := _) (v := ?_) rfl (by kernel_rfl) (by kernel_rfl) (by kernel_rfl) (fun _ _ _ h => h) (Or.inl ⟨by rfl, ?_⟩) (by assumption) ?_
     rotate_left
     ·(intro wS hSw; (try dsimp only at hSw); (try go_simp); (try with_reducible rfl))
     try simp only [Act.put, s1, s2, s3]
     refine wpAnyH_take (i := 2) (oi := _) (v := ?_) rfl (by kernel_rfl) (by kernel_rfl) (by kernel_rfl) (fun _ _ _ h => h) (Or.inl ⟨by rfl, ?_⟩) (by assumption) ?_
     rotate_left
     ·(intro wS hSw; (try dsimp only at hSw); (try go_simp); (try with_reducible rfl))
     try simp only [Act.put, s1, s2, s3]
     refine wpAnyH_take (i := 4) (oi := _) (v := ?_) rfl (by kernel_rfl) (by kernel_rfl) (by kernel_rfl) (fun _ _ _ h => h) (Or.inl ⟨by rfl, ?_⟩) (by assumption) ?_
     rotate_left
     ·(intro wS hSw; (try dsimp only at hSw); (try go_simp); (try with_reducible rfl))
     try simp only [Act.put, s1, s2, s3]
     refine wpAnyH_take (i := 5) (oi := _) (v := ?_) rfl (by kernel_rfl) (by kernel_rfl) (by kernel_rfl) (fun _ _ _ h => h) (Or.inl ⟨by rfl, ?_⟩) (by assumption) ?_
     rotate_left
     ·(intro wS hSw; (try dsimp only at hSw); (try go_simp); (try with_reducible rfl))
     try simp only [Act.put, s1, s2, s3]
     refine wpAnyH_ready (rs := [1, 3]) (by kernel_rfl) (by simp) ?_
     refine AllReadyH.cons rfl (fun KQ hKQ => ?_) ?_
     ·go_simp
      refine hKQ.out _ _ ?_ (fun hHeld => ?_)
      ·(try dsimp only); (try trivial)
      clear hKQ KQ
      try simp only [Act.put, s1, s2, s3]
      refine wpAnyH_ready (rs := [3]) (by kernel_rfl) (by simp) ?_
      refine AllReadyH.cons rfl (fun KQ hKQ => ?_) AllReadyH.nil
      go_simp
      refine hKQ.out _ _ ?_ (fun hHeld => ?_)
      ·(try dsimp only); (try trivial)
      clear hKQ KQ
      try simp only [Act.put, s1, s2, s3]
      refine wpAnyH_ready (rs := [6]) (by kernel_rfl) (by simp) ?_
      refine AllReadyH.cons rfl (fun KQ hKQ => ?_) AllReadyH.nil
      go_simp
      (try rw [hwl1]); refine (rPoly_any (w.heap.size + 2) n t wd M cQ (lev + 1) AQ qs (.ok l1) _ (Lib.hid (hq.out.rr.ext (by first | exact Ext.refl _ | exact (Ext.refl _).drew))) hn1 (Lib.hid HM.out.symm) hMq (by omega) (Lib.hid (hq.out.ly.keeps (wordR_stays [22]) (by decide) (Keeps.ext (by first | exact Ext.refl _ | exact (Ext.refl _).drew)))) (Lib.hid fun _ _ => ⟨hl1, HL3.out⟩)).mono ?_; rintro e8 w8 ⟨A8, m8, c8, rfl, ⟨x8, hE8, hX8⟩, hr8, ho8⟩; have hoo : On (w.heap.size + 2) wr w8 := (show On (w.heap.size + 2) wr wr.drew from On.of (Ext.refl wr).drew).trans ho8; have HQ8 := Lib.hid (hq.out.call hr8 hoo); have HY8 := Lib.hid (hyy.out.on hoo (by have := hq.out.lt; omega)); have hkk := hq.out.rr.keeps (ts := [31, 22, 23]) hoo (by decide); have HOU8 := Lib.hid (own_keeps hkk HOU.out (by decide)); have HUU8 := Lib.hid (show ∀ (j : Nat) (z : List (List Nat)), xs[j]? = some z → ∃ u, us[j]? = some u ∧ ElR w8 u z from fun j z h => by obtain ⟨u, a, b⟩ := HUU.out j z h; exact ⟨u, a, elR_stays (by decide) (by decide) _ _ _ _ hkk b⟩); have HE8 := Lib.hid hE8; have HX8 := Lib.hid hX8; have d8 := HY8.out.cell (i := 0) (by omega); have hyl8 := HY8.out.lt; have d8a := cell_ext ((Ext.refl w8).alloc (.cells #[.slice A8 m8 c8] 31)) d8; clear hE8 hX8 hr8 ho8 hoo hkk; (try dsimp only)
      refine hKQ.out _ _ ?_ (fun hHeld => ?_)
      ·(try dsimp only); (try trivial)
      clear hKQ KQ
      try simp only [Act.put, s1, s2, s3]
      refine wpAnyH_ready (rs := [7]) (by kernel_rfl) (by simp) ?_
      refine AllReadyH.cons rfl (fun KQ hKQ => ?_) AllReadyH.nil
      go_simp
      refine hKQ.out _ _ ?_ (fun hHeld => ?_)
      ·(try dsimp only); (try trivial)
      clear hKQ KQ
      try simp only [Act.put, s1, s2, s3]
      refine wpAnyH_ready (rs := [8]) (by kernel_rfl) (by simp) ?_
      refine AllReadyH.cons rfl (fun KQ hKQ => ?_) AllReadyH.nil
      refine step_append_own rfl _ _ 26 rfl (y + 1) 31 i0 (.agg #[.slice none 0 0]) 1 24 Tryz.underlying26 hi hz0 hz1 hz2 rfl (by decide) _ _ _ rfl (HOU8.out.alloc _) ⟨_, 0, none⟩ 1 1 [.slice A8 m8 c8] rfl rfl one_cell one_slice (by unfold maxLen; omega) (by omega) (by simp; omega) ?_; intro v9 w9 hown9 hgrow9; replace hgrow9 : (w8.alloc (.cells #[.slice A8 m8 c8] 31)).grownBy w9 v.ownBlock := hgrow9; obtain ⟨A9, c9, rfl⟩ := own_slice hown9; have HQ9 := Lib.hid ((HQ8.out.more ((Ext.refl w8).alloc (.cells #[.slice A8 m8 c8] 31))).grown (HOU8.out.alloc _) hxy hgrow9); have HY9 := Lib.hid ((HY8.out.ext ((Ext.refl w8).alloc (.cells #[.slice A8 m8 c8] 31))).keep (hgrow9.block _ (HY8.out.ext ((Ext.refl w8).alloc (.cells #[.slice A8 m8 c8] 31))).lt (fun e => by have := (HOU8.out.lt _ e.symm).1; omega))); have HG9 := Lib.hid (GR.push (w := w8) (t := 31) (B := y + 1) (v := v) (ts := [22, 23]) (elR_stays (by decide) (by decide)) (by decide) HUU8.out (by rw [hxl.out]; exact HOU8.out) HE8.out (by rw [hxl.out]; exact hown9) hgrow9); have d9 := HY9.out.cell (i := 0) (by omega); have z9 := HY9.out.frozen 0; have hyl9 := HY9.out.lt; (try dsimp only)
      refine hKQ.out _ _ ?_ (fun hHeld => ?_)
      ·(try dsimp only); (try trivial)
      clear hKQ KQ
      try simp only [Act.put, s1, s2, s3]
      refine wpAnyH_take (i := 9) (oi := _) (v := ?_) rfl (by kernel_rfl) (by kernel_rfl) (by kernel_rfl) (fun _ _ _ h => h) (Or.inl ⟨by rfl, ?_⟩) (by assumption) ?_
      rotate_left
      ·(intro wS hSw; (try dsimp only at hSw); (try go_simp); (try with_reducible rfl))
      try simp only [Act.put, s1, s2, s3]
      refine wpAnyH_ready (rs := [10]) (by kernel_rfl) (by simp) ?_
      refine AllReadyH.cons rfl (fun KQ hKQ => ?_) AllReadyH.nil
      go_simp
      refine hKQ.out _ _ ?_ (fun hHeld => ?_)
      ·(try dsimp only); (try trivial)
      clear hKQ KQ
      try simp only [Act.put, s1, s2, s3]
      refine wpAnyH_done (by kernel_rfl) ?_ _
      have HQ10 := Lib.hid (HQ9.out.set hxy HY9.out (.slice A9 (i + 1) c9))
      have HY10 := Lib.hid (show RW (w9.setCell ⟨y, 0, none⟩ (.slice A9 (i + 1) c9)) y 28 1 (fun _ => .slice A9 (i + 1) c9) from (HY9.out.set (show 0 < 1 by omega) _).congr fun j hj => by rw [if_pos (by omega)])
      have HG10 := Lib.hid (HG9.out.keeps (ts := [22, 23]) (elR_stays (by decide) (by decide)) (Keeps.set (o := 0) HY9.out (by decide) (.slice A9 (i + 1) c9)))
      have HR10 := Lib.hid (ms_step (y := x8) hrel2.out hlt rfl (fun a r h => (HX8.out a r h).symm))
      clear d9 z9 hown9 hgrow9
      generalize w9.setCell ⟨y, 0, none⟩ (.slice A9 (i + 1) c9) = w10 at *
      go_wp2
      exact ⟨⟨i + 1, xs ++ [x8], .slice A9 (i + 1) c9, _, by omega, by go_num, Lib.hid (by rw [List.length_append, hxl.out]; rfl), HQ10, HY10, HG10, HR10⟩, by simp [intOf]; omega⟩
     refine AllReadyH.cons rfl (fun KQ hKQ => ?_) AllReadyH.nil
     go_simp
     refine hKQ.out _ _ ?_ (fun hHeld => ?_)
     ·(try dsimp only); (try trivial)
     clear hKQ KQ
     try simp only [Act.put, s1, s2, s3]
     refine wpAnyH_ready (rs := [1, 6]) (by kernel_rfl) (by simp) ?_
     refine AllReadyH.cons rfl (fun KQ hKQ => ?_) ?_
     ·go_simp
      refine hKQ.out _ _ ?_ (fun hHeld => ?_)
      ·(try dsimp only); (try trivial)
      clear hKQ KQ
      try simp only [Act.put, s1, s2, s3]
      refine wpAnyH_ready (rs := [6]) (by kernel_rfl) (by simp) ?_
      refine AllReadyH.cons rfl (fun KQ hKQ => ?_) AllReadyH.nil
      go_simp
      (try rw [hwl1]); refine (rPoly_any (w.heap.size + 2) n t wd M cQ (lev + 1) AQ qs (.ok l1) _ (Lib.hid (hq.out.rr.ext (by first | exact Ext.refl _ | exact (Ext.refl _).drew))) hn1 (Lib.hid HM.out.symm) hMq (by omega) (Lib.hid (hq.out.ly.keeps (wordR_stays [22]) (by decide) (Keeps.ext (by first | exact Ext.refl _ | exact (Ext.refl _).drew)))) (Lib.hid fun _ _ => ⟨hl1, HL3.out⟩)).mono ?_; rintro e8 w8 ⟨A8, m8, c8, rfl, ⟨x8, hE8, hX8⟩, hr8, ho8⟩; have hoo : On (w.heap.size + 2) wr w8 := (show On (w.heap.size + 2) wr wr.drew from On.of (Ext.refl wr).drew).trans ho8; have HQ8 := Lib.hid (hq.out.call hr8 hoo); have HY8 := Lib.hid (hyy.out.on hoo (by have := hq.out.lt; omega)); have hkk := hq.out.rr.keeps (ts := [31, 22, 23]) hoo (by decide); have HOU8 := Lib.hid (own_keeps hkk HOU.out (by decide)); have HUU8 := Lib.hid (show ∀ (j : Nat) (z : List (List Nat)), xs[j]? = some z → ∃ u, us[j]? = some u ∧ ElR w8 u z from fun j z h => by obtain ⟨u, a, b⟩ := HUU.out j z h; exact ⟨u, a, elR_stays (by decide) (by decide) _ _ _ _ hkk b⟩); have HE8 := Lib.hid hE8; have HX8 := Lib.hid hX8; have d8 := HY8.out.cell (i := 0) (by omega); have hyl8 := HY8.out.lt; have d8a := cell_ext ((Ext.refl w8).alloc (.cells #[.slice A8 m8 c8] 31)) d8; clear hE8 hX8 hr8 ho8 hoo hkk; (try dsimp only)
      refine hKQ.out _ _ ?_ (fun hHeld => ?_)
      ·(try dsimp only); (try trivial)
      clear hKQ KQ
      try simp only [Act.put, s1, s2, s3]
      refine wpAnyH_ready (rs := [7]) (by kernel_rfl) (by simp) ?_
      refine AllReadyH.cons rfl (fun KQ hKQ => ?_) AllReadyH.nil
      go_simp
      refine hKQ.out _ _ ?_ (fun hHeld => ?_)
      ·(try dsimp only); (try trivial)
      clear hKQ KQ
      try simp only [Act.put, s1, s2, s3]
      refine wpAnyH_ready (rs := [8]) (by kernel_rfl) (by simp) ?_
      refine AllReadyH.cons rfl (fun KQ hKQ => ?_) AllReadyH.nil
      refine step_append_own rfl _ _ 26 rfl (y + 1) 31 i0 (.agg #[.slice none 0 0]) 1 24 Tryz.underlying26 hi hz0 hz1 hz2 rfl (by decide) _ _ _ rfl (HOU8.out.alloc _) ⟨_, 0, none⟩ 1 1 [.slice A8 m8 c8] rfl rfl one_cell one_slice (by unfold maxLen; omega) (by omega) (by simp; omega) ?_; intro v9 w9 hown9 hgrow9; replace hgrow9 : (w8.alloc (.cells #[.slice A8 m8 c8] 31)).grownBy w9 v.ownBlock := hgrow9; obtain ⟨A9, c9, rfl⟩ := own_slice hown9; have HQ9 := Lib.hid ((HQ8.out.more ((Ext.refl w8).alloc (.cells #[.slice A8 m8 c8] 31))).grown (HOU8.out.alloc _) hxy hgrow9); have HY9 := Lib.hid ((HY8.out.ext ((Ext.refl w8).alloc (.cells #[.slice A8 m8 c8] 31))).keep (hgrow9.block _ (HY8.out.ext ((Ext.refl w8).alloc (.cells #[.slice A8 m8 c8] 31))).lt (fun e => by have := (HOU8.out.lt _ e.symm).1; omega))); have HG9 := Lib.hid (GR.push (w := w8) (t := 31) (B := y + 1) (v := v) (ts := [22, 23]) (elR_stays (by decide) (by decide)) (by decide) HUU8.out (by rw [hxl.out]; exact HOU8.out) HE8.out (by rw [hxl.out]; exact hown9) hgrow9); have d9 := HY9.out.cell (i := 0) (by omega); have z9 := HY9.out.frozen 0; have hyl9 := HY9.out.lt; (try dsimp only)
      refine hKQ.out _ _ ?_ (fun hHeld => ?_)
      ·(try dsimp only); (try trivial)
      clear hKQ KQ
      try simp only [Act.put, s1, s2, s3]
      refine wpAnyH_take (i := 9) (oi := _) (v := ?_) rfl (by kernel_rfl) (by kernel_rfl) (by kernel_rfl) (fun _ _ _ h => h) (Or.inl ⟨by rfl, ?_⟩) (by assumption) ?_
      rotate_left
      ·(intro wS hSw; (try dsimp only at hSw); (try go_simp); (try with_reducible rfl))
      try simp only [Act.put, s1, s2, s3]
      refine wpAnyH_ready (rs := [10]) (by kernel_rfl) (by simp) ?_
      refine AllReadyH.cons rfl (fun KQ hKQ => ?_) AllReadyH.nil
      go_simp
      refine hKQ.out _ _ ?_ (fun hHeld => ?_)
      ·(try dsimp only); (try trivial)
      clear hKQ KQ
      try simp only [Act.put, s1, s2, s3]
      refine wpAnyH_done (by kernel_rfl) ?_ _
      have HQ10 := Lib.hid (HQ9.out.set hxy HY9.out (.slice A9 (i + 1) c9))
      have HY10 := Lib.hid (show RW (w9.setCell ⟨y, 0, none⟩ (.slice A9 (i + 1) c9)) y 28 1 (fun _ => .slice A9 (i + 1) c9) from (HY9.out.set (show 0 < 1 by omega) _).congr fun j hj => by rw [if_pos (by omega)])
      have HG10 := Lib.hid (HG9.out.keeps (ts := [22, 23]) (elR_stays (by decide) (by decide)) (Keeps.set (o := 0) HY9.out (by decide) (.slice A9 (i + 1) c9)))
      have HR10 := Lib.hid (ms_step (y := x8) hrel2.out hlt rfl (fun a r h => (HX8.out a r h).symm))
      clear d9 z9 hown9 hgrow9
      generalize w9.setCell ⟨y, 0, none⟩ (.slice A9 (i + 1) c9) = w10 at *
      go_wp2
      exact ⟨⟨i + 1, xs ++ [x8], .slice A9 (i + 1) c9, _, by omega, by go_num, Lib.hid (by rw [List.length_append, hxl.out]; rfl), HQ10, HY10, HG10, HR10⟩, by simp [intOf]; omega⟩
     refine AllReadyH.cons rfl (fun KQ hKQ => ?_) AllReadyH.nil
     go_simp
     (try rw [hwl1]); refine (rPoly_any (w.heap.size + 2) n t wd M cQ (lev + 1) AQ qs (.ok l1) _ (Lib.hid (hq.out.rr.ext (by first | exact Ext.refl _ | exact (Ext.refl _).drew))) hn1 (Lib.hid HM.out.symm) hMq (by omega) (Lib.hid (hq.out.ly.keeps (wordR_stays [22]) (by decide) (Keeps.ext (by first | exact Ext.refl _ | exact (Ext.refl _).drew)))) (Lib.hid fun _ _ => ⟨hl1, HL3.out⟩)).mono ?_; rintro e8 w8 ⟨A8, m8, c8, rfl, ⟨x8, hE8, hX8⟩, hr8, ho8⟩; have hoo : On (w.heap.size + 2) wr w8 := (show On (w.heap.size + 2) wr wr.drew from On.of (Ext.refl wr).drew).trans ho8; have HQ8 := Lib.hid (hq.out.call hr8 hoo); have HY8 := Lib.hid (hyy.out.on hoo (by have := hq.out.lt; omega)); have hkk := hq.out.rr.keeps (ts := [31, 22, 23]) hoo (by decide); have HOU8 := Lib.hid (own_keeps hkk HOU.out (by decide)); have HUU8 := Lib.hid (show ∀ (j : Nat) (z : List (List Nat)), xs[j]? = some z → ∃ u, us[j]? = some u ∧ ElR w8 u z from fun j z h => by obtain ⟨u, a, b⟩ := HUU.out j z h; exact ⟨u, a, elR_stays (by decide) (by decide) _ _ _ _ hkk b⟩); have HE8 := Lib.hid hE8; have HX8 := Lib.hid hX8; have d8 := HY8.out.cell (i := 0) (by omega); have hyl8 := HY8.out.lt; have d8a := cell_ext ((Ext.refl w8).alloc (.cells #[.slice A8 m8 c8] 31)) d8; clear hE8 hX8 hr8 ho8 hoo hkk; (try dsimp only)
     refine hKQ.out _ _ ?_ (fun hHeld => ?_)
     ·(try dsimp only); (try trivial)
     clear hKQ KQ
     try simp only [Act.put, s1, s2, s3]
     refine wpAnyH_ready (rs := [1, 7]) (by kernel_rfl) (by simp) ?_
     refine AllReadyH.cons rfl (fun KQ hKQ => ?_) ?_
     ·go_simp
      refine hKQ.out _ _ ?_ (fun hHeld => ?_)
      ·(try dsimp only); (try trivial)
      clear hKQ KQ
      try simp only [Act.put, s1, s2, s3]
      refine wpAnyH_ready (rs := [7]) (by kernel_rfl) (by simp) ?_
      refine AllReadyH.cons rfl (fun KQ hKQ => ?_) AllReadyH.nil
      go_simp
      refine hKQ.out _ _ ?_ (fun hHeld => ?_)
      ·(try dsimp only); (try trivial)
      clear hKQ KQ
      try simp only [Act.put, s1, s2, s3]
      refine wpAnyH_ready (rs := [8]) (by kernel_rfl) (by simp) ?_
      refine AllReadyH.cons rfl (fun KQ hKQ => ?_) AllReadyH.nil
      refine step_append_own rfl _ _ 26 rfl (y + 1) 31 i0 (.agg #[.slice none 0 0]) 1 24 Tryz.underlying26 hi hz0 hz1 hz2 rfl (by decide) _ _ _ rfl (HOU8.out.alloc _) ⟨_, 0, none⟩ 1 1 [.slice A8 m8 c8] rfl rfl one_cell one_slice (by unfold maxLen; omega) (by omega) (by simp; omega) ?_; intro v9 w9 hown9 hgrow9; replace hgrow9 : (w8.alloc (.cells #[.slice A8 m8 c8] 31)).grownBy w9 v.ownBlock := hgrow9; obtain ⟨A9, c9, rfl⟩ := own_slice hown9; have HQ9 := Lib.hid ((HQ8.out.more ((Ext.refl w8).alloc (.cells #[.slice A8 m8 c8] 31))).grown (HOU8.out.alloc _) hxy hgrow9); have HY9 := Lib.hid ((HY8.out.ext ((Ext.refl w8).alloc (.cells #[.slice A8 m8 c8] 31))).keep (hgrow9.block _ (HY8.out.ext ((Ext.refl w8).alloc (.cells #[.slice A8 m8 c8] 31))).lt (fun e => by have := (HOU8.out.lt _ e.symm).1; omega))); have HG9 := Lib.hid (GR.push (w := w8) (t := 31) (B := y + 1) (v := v) (ts := [22, 23]) (elR_stays (by decide) (by decide)) (by decide) HUU8.out (by rw [hxl.out]; exact HOU8.out) HE8.out (by rw [hxl.out]; exact hown9) hgrow9); have d9 := HY9.out.cell (i := 0) (by omega); have z9 := HY9.out.frozen 0; have hyl9 := HY9.out.lt; (try dsimp only)
      refine hKQ.out _ _ ?_ (fun hHeld => ?_)
      ·(try dsimp only); (try trivial)
      clear hKQ KQ
      try simp only [Act.put, s1, s2, s3]
      refine wpAnyH_take (i := 9) (oi := _) (v := ?_) rfl (by kernel_rfl) (by kernel_rfl) (by kernel_rfl) (fun _ _ _ h => h) (Or.inl ⟨by rfl, ?_⟩) (by assumption) ?_
      rotate_left
      ·(intro wS hSw; (try dsimp only at hSw); (try go_simp); (try with_reducible rfl))
      try simp only [Act.put, s1, s2, s3]
      refine wpAnyH_ready (rs := [10]) (by kernel_rfl) (by simp) ?_
      refine AllReadyH.cons rfl (fun KQ hKQ => ?_) AllReadyH.nil
      go_simp
      refine hKQ.out _ _ ?_ (fun hHeld => ?_)
      ·(try dsimp only); (try trivial)
      clear hKQ KQ
      try simp only [Act.put, s1, s2, s3]
      refine wpAnyH_done (by kernel_rfl) ?_ _
      have HQ10 := Lib.hid (HQ9.out.set hxy HY9.out (.slice A9 (i + 1) c9))
      have HY10 := Lib.hid (show RW (w9.setCell ⟨y, 0, none⟩ (.slice A9 (i + 1) c9)) y 28 1 (fun _ => .slice A9 (i + 1) c9) from (HY9.out.set (show 0 < 1 by omega) _).congr fun j hj => by rw [if_pos (by omega)])
      have HG10 := Lib.hid (HG9.out.keeps (ts := [22, 23]) (elR_stays (by decide) (by decide)) (Keeps.set (o := 0) HY9.out (by decide) (.slice A9 (i + 1) c9)))
      have HR10 := Lib.hid (ms_step (y := x8) hrel2.out hlt rfl (fun a r h => (HX8.out a r h).symm))
      clear d9 z9 hown9 hgrow9
      generalize w9.setCell ⟨y, 0, none⟩ (.slice A9 (i + 1) c9) = w10 at *
      go_wp2
      exact ⟨⟨i + 1, xs ++ [x8], .slice A9 (i + 1) c9, _, by omega, by go_num, Lib.hid (by rw [List.length_append, hxl.out]; rfl), HQ10, HY10, HG10, HR10⟩, by simp [intOf]; omega⟩
     refine AllReadyH.cons rfl (fun KQ hKQ => ?_) AllReadyH.nil
     go_simp
     refine hKQ.out _ _ ?_ (fun hHeld => ?_)
     ·(try dsimp only); (try trivial)
     clear hKQ KQ
     try simp only [Act.put, s1, s2, s3]
     refine wpAnyH_ready (rs := [1]) (by kernel_rfl) (by simp) ?_
     refine AllReadyH.cons rfl (fun KQ hKQ => ?_) AllReadyH.nil
     go_simp
     refine hKQ.out _ _ ?_ (fun hHeld => ?_)
     ·(try dsimp only); (try trivial)
     clear hKQ KQ
     try simp only [Act.put, s1, s2, s3]
     refine wpAnyH_ready (rs := [8]) (by kernel_rfl) (by simp) ?_
     refine AllReadyH.cons rfl (fun KQ hKQ => ?_) AllReadyH.nil
     refine step_append_own rfl _ _ 26 rfl (y + 1) 31 i0 (.agg #[.slice none 0 0]) 1 24 Tryz.underlying26 hi hz0 hz1 hz2 rfl (by decide) _ _ _ rfl (HOU8.out.alloc _) ⟨_, 0, none⟩ 1 1 [.slice A8 m8 c8] rfl rfl one_cell one_slice (by unfold maxLen; omega) (by omega) (by simp; omega) ?_; intro v9 w9 hown9 hgrow9; replace hgrow9 : (w8.alloc (.cells #[.slice A8 m8 c8] 31)).grownBy w9 v.ownBlock := hgrow9; obtain ⟨A9, c9, rfl⟩ := own_slice hown9; have HQ9 := Lib.hid ((HQ8.out.more ((Ext.refl w8).alloc (.cells #[.slice A8 m8 c8] 31))).grown (HOU8.out.alloc _) hxy hgrow9); have HY9 := Lib.hid ((HY8.out.ext ((Ext.refl w8).alloc (.cells #[.slice A8 m8 c8] 31))).keep (hgrow9.block _ (HY8.out.ext ((Ext.refl w8).alloc (.cells #[.slice A8 m8 c8] 31))).lt (fun e => by have := (HOU8.out.lt _ e.symm).1; omega))); have HG9 := Lib.hid (GR.push (w := w8) (t := 31) (B := y + 1) (v := v) (ts := [22, 23]) (elR_stays (by decide) (by decide)) (by decide) HUU8.out (by rw [hxl.out]; exact HOU8.out) HE8.out (by rw [hxl.out]; exact hown9) hgrow9); have d9 := HY9.out.cell (i := 0) (by omega); have z9 := HY9.out.frozen 0; have hyl9 := HY9.out.lt; (try dsimp only)
     refine hKQ.out _ _ ?_ (fun hHeld => ?_)
     ·(try dsimp only); (try trivial)
     clear hKQ KQ
     try simp only [Act.put, s1, s2, s3]
     refine wpAnyH_take (i := 9) (oi := _) (v := ?_) rfl (by kernel_rfl) (by kernel_rfl) (by kernel_rfl) (fun _ _ _ h => h) (Or.inl ⟨by rfl, ?_⟩) (by assumption) ?_
     rotate_left
     ·(intro wS hSw; (try dsimp only at hSw); (try go_simp); (try with_reducible rfl))
     try simp only [Act.put, s1, s2, s3]
     refine wpAnyH_ready (rs := [10]) (by kernel_rfl) (by simp) ?_
     refine AllReadyH.cons rfl (fun KQ hKQ => ?_) AllReadyH.nil
     go_simp
     refine hKQ.out _ _ ?_ (fun hHeld => ?_)
     ·(try dsimp only); (try trivial)
     clear hKQ KQ
     try simp only [Act.put, s1, s2, s3]
     refine wpAnyH_done (by kernel_rfl) ?_ _
     have HQ10 := Lib.hid (HQ9.out.set hxy HY9.out (.slice A9 (i + 1) c9))
     have HY10 := Lib.hid (show RW (w9.setCell ⟨y, 0, none⟩ (.slice A9 (i + 1) c9)) y 28 1 (fun _ => .slice A9 (i + 1) c9) from (HY9.out.set (show 0 < 1 by omega) _).congr fun j hj => by rw [if_pos (by omega)])
     have HG10 := Lib.hid (HG9.out.keeps (ts := [22, 23]) (elR_stays (by decide) (by decide)) (Keeps.set (o := 0) HY9.out (by decide) (.slice A9 (i + 1) c9)))
     have HR10 := Lib.hid (ms_step (y := x8) hrel2.out hlt rfl (fun a r h => (HX8.out a r h).symm))
     clear d9 z9 hown9 hgrow9
     generalize w9.setCell ⟨y, 0, none⟩ (.slice A9 (i + 1) c9) = w10 at *
     go_wp2
     exact ⟨⟨i + 1, xs ++ [x8], .slice A9 (i + 1) c9, _, by omega, by go_num, Lib.hid (by rw [List.length_append, hxl.out]; rfl), HQ10, HY10, HG10, HR10⟩, by simp [intOf]; omega⟩
   ·have i5 : decide ((i : Int) < (k : Int)) = false := by simp; omega
    obtain ⟨A9, c9, rfl, hlv9⟩ := hgr.out.lv
    have HV9 := Lib.hid (show ElsR wr (.slice A9 xs.length c9) xs from ⟨A9, c9, rfl, hlv9⟩)
    obtain ⟨g1, g2⟩ := ms_fin hrel2.out (.inl (by omega))
    have G2 := Lib.hid g2
    obtain ⟨K, hK⟩ : ∃ K, K = xs.length := ⟨_, rfl⟩
    rw [← hK] at HV9
    have HRT := Lib.hid (show RR wr (w.heap.size + 2) (restS T) by rw [HT0.out, HP1.out, HCP.out, g1]; exact hq.out.rr)
    have HKK := Lib.hid hK
    have HY5 := Lib.hid (show RW wr y 28 1 (fun _ => .slice A9 K c9) by rw [hK]; exact hyy.out)
    clear hlv9 g1 g2 hK
    go_wp2_with fail
    refine (rEnd_any (w.heap.size + 2) (restS T) wr HRT).mono ?_
    rintro e9 w4' ⟨rfl, ho4⟩
    have q6 := hq.out.ans.on ho4 (by omega)
    have q7 := hq.out.cip.on ho4 (by omega)
    obtain ⟨f0, f1, f2, f3⟩ := (hq.out.par.on ho4 (by have := hq.out.lt; omega)).pc
    have f4 := (HY5.out.on ho4 (by have := hq.out.lt; omega)).cell (i := 0) (by omega)
    have kY : Ext w w4' := hq.out.ext.on ho4 (by omega)
    have hkk : Keeps [22, 23, 31] wr w4' := HRT.out.keeps ho4 (by decide)
    have HL2 := Lib.hid (hq.out.ly.keeps (wordR_stays [22, 23, 31]) (by decide) hkk)
    have HV8 := Lib.hid (elsR_stays (ts := [22, 23, 31]) (by decide) (by decide) (by decide) _ _ _ _ hkk HV9.out)
    have hxlt := hq.out.lt
    have hne1 : ¬ (w.heap.size = x) := by omega
    have hne2 : ¬ (x = w.heap.size) := by omega
    have hne3 : ¬ (w.heap.size = y) := by omega
    have hne4 : ¬ (y = w.heap.size) := by omega
    have hne5 : ¬ (w.heap.size + 1 = x) := by omega
    have hne6 : ¬ (x = w.heap.size + 1) := by omega
    have hne7 : ¬ (w.heap.size + 1 = y) := by omega
    have hne8 : ¬ (y = w.heap.size + 1) := by omega
    clear ho4 hkk
    rcases end_cases HRT.out with ⟨⟨pv, ys⟩, r, hT1, hT2, hT3⟩ | ⟨cc, hT2, hc0, hc1, hT3⟩
    ·obtain ⟨x0, he1, he3⟩ := HP2.out _ r (by rw [← HT0.out]; exact hT1)
     have he2 := G2.out x0 r (by rw [← HCP.out]; exact he1)
     rw [hT3]
     have H2 := Lib.hid hT2
     have HX1 := Lib.hid (show (pv, ys) = (⟨n, t, wd, qs⟩, xs) by rw [he3, he2])
     have HX2 := Lib.hid (show 0 < qs.length from by
      rcases hh1 : s1 with e | l1
      ·rw [hh1] at he1; cases he1
      ·exact (HP0.out l1 hh1).1)
     clear hT1 hT2 hT3 he1 he2 he3
     have a0 : w4'.cell? ⟨w.heap.size, 0, none⟩ = some (.int .i64 0) := q6.cell (i := 0) (by omega)
     have b0 := q6.frozen 0
     have a1 : w4'.cell? ⟨w.heap.size, 1, none⟩ = some (.int .u64 0) := q6.cell (i := 1) (by omega)
     have b1 := q6.frozen 1
     have a2 : w4'.cell? ⟨w.heap.size, 2, none⟩ = some (.slice none 0 0) := q6.cell (i := 2) (by omega)
     have b2 := q6.frozen 2
     have a3 : w4'.cell? ⟨w.heap.size, 3, none⟩ = some (.int .i64 0) := q6.cell (i := 3) (by omega)
     have b3 := q6.frozen 3
     have tc0 := q7.cell (i := 0) (by omega)
     have td0 := q7.frozen 0
     have P6 : RW (((((w4'.setCell ⟨w.heap.size, 0, none⟩ (.int .i64 (n : Int))).setCell ⟨w.heap.size, 1, none⟩ (.int .u64 (t : Int))).setCell ⟨w.heap.size, 2, none⟩ (.slice AQ M cQ)).setCell ⟨w.heap.size, 3, none⟩ (.int .i64 (wd : Int))).setCell ⟨(w.heap.size + 1), 0, none⟩ (.slice A9 K c9)) w.heap.size 25 4 (parF (.int .i64 (n : Int)) (.int .u64 (t : Int)) (.slice AQ M cQ) (.int .i64 (wd : Int))) := (RW.far (q6.set4 (.int .i64 (n : Int)) (.int .u64 (t : Int)) (.slice AQ M cQ) (.int .i64 (wd : Int))) (x := w.heap.size + 1) (by omega) (.slice A9 K c9))
     have e0 : (((((w4'.setCell ⟨w.heap.size, 0, none⟩ (.int .i64 (n : Int))).setCell ⟨w.heap.size, 1, none⟩ (.int .u64 (t : Int))).setCell ⟨w.heap.size, 2, none⟩ (.slice AQ M cQ)).setCell ⟨w.heap.size, 3, none⟩ (.int .i64 (wd : Int))).setCell ⟨(w.heap.size + 1), 0, none⟩ (.slice A9 K c9)).cell? ⟨w.heap.size, 0, none⟩ = some (.int .i64 (n : Int)) := P6.cell (i := 0) (by omega)
     have e1 : (((((w4'.setCell ⟨w.heap.size, 0, none⟩ (.int .i64 (n : Int))).setCell ⟨w.heap.size, 1, none⟩ (.int .u64 (t : Int))).setCell ⟨w.heap.size, 2, none⟩ (.slice AQ M cQ)).setCell ⟨w.heap.size, 3, none⟩ (.int .i64 (wd : Int))).setCell ⟨(w.heap.size + 1), 0, none⟩ (.slice A9 K c9)).cell? ⟨w.heap.size, 1, none⟩ = some (.int .u64 (t : Int)) := P6.cell (i := 1) (by omega)
     have e2 : (((((w4'.setCell ⟨w.heap.size, 0, none⟩ (.int .i64 (n : Int))).setCell ⟨w.heap.size, 1, none⟩ (.int .u64 (t : Int))).setCell ⟨w.heap.size, 2, none⟩ (.slice AQ M cQ)).setCell ⟨w.heap.size, 3, none⟩ (.int .i64 (wd : Int))).setCell ⟨(w.heap.size + 1), 0, none⟩ (.slice A9 K c9)).cell? ⟨w.heap.size, 2, none⟩ = some (.slice AQ M cQ) := P6.cell (i := 2) (by omega)
     have e3 : (((((w4'.setCell ⟨w.heap.size, 0, none⟩ (.int .i64 (n : Int))).setCell ⟨w.heap.size, 1, none⟩ (.int .u64 (t : Int))).setCell ⟨w.heap.size, 2, none⟩ (.slice AQ M cQ)).setCell ⟨w.heap.size, 3, none⟩ (.int .i64 (wd : Int))).setCell ⟨(w.heap.size + 1), 0, none⟩ (.slice A9 K c9)).cell? ⟨w.heap.size, 3, none⟩ = some (.int .i64 (wd : Int)) := P6.cell (i := 3) (by omega)
     have P7 : RW ((((w4'.setCell ⟨w.heap.size, 0, none⟩ (.int .i64 (n : Int))).setCell ⟨w.heap.size, 1, none⟩ (.int .u64 (t : Int))).setCell ⟨w.heap.size, 2, none⟩ (.slice AQ M cQ)).setCell ⟨w.heap.size, 3, none⟩ (.int .i64 (wd : Int))) (w.heap.size + 1) 28 1 (fun _ => .slice none 0 0) := (RW.far (RW.far (RW.far (RW.far q7 (x := w.heap.size) (by omega) (.int .i64 (n : Int))) (x := w.heap.size) (by omega) (.int .u64 (t : Int))) (x := w.heap.size) (by omega) (.slice AQ M cQ)) (x := w.heap.size) (by omega) (.int .i64 (wd : Int)))
     have e4 := ret_cell P7 (.slice A9 K c9)
     have hkz : Keeps [22, 23, 31] w4' (((((w4'.setCell ⟨w.heap.size, 0, none⟩ (.int .i64 (n : Int))).setCell ⟨w.heap.size, 1, none⟩ (.int .u64 (t : Int))).setCell ⟨w.heap.size, 2, none⟩ (.slice AQ M cQ)).setCell ⟨w.heap.size, 3, none⟩ (.int .i64 (wd : Int))).setCell ⟨(w.heap.size + 1), 0, none⟩ (.slice A9 K c9)) := ((((((Keeps.refl _ w4').trans (Keeps.set q6 (by decide) _)).trans (Keeps.set (q6.set (show 0 < 4 by omega) (.int .i64 (n : Int))) (by decide) _)).trans (Keeps.set ((q6.set (show 0 < 4 by omega) (.int .i64 (n : Int))).set (show 1 < 4 by omega) (.int .u64 (t : Int))) (by decide) _)).trans (Keeps.set (((q6.set (show 0 < 4 by omega) (.int .i64 (n : Int))).set (show 1 < 4 by omega) (.int .u64 (t : Int))).set (show 2 < 4 by omega) (.slice AQ M cQ)) (by decide) _)).trans (Keeps.set P7 (by decide) _))
     have HF := Lib.hid (show RPost (.agg #[.slice none 0 0]) w (endP T) (AgR ElsR) (.returned (.tuple #[.agg #[.int .i64 (n : Int), .int .u64 (t : Int), .slice AQ M cQ, .int .i64 (wd : Int)], .agg #[.slice A9 K c9], .int .i64 0])) (((((w4'.setCell ⟨w.heap.size, 0, none⟩ (.int .i64 (n : Int))).setCell ⟨w.heap.size, 1, none⟩ (.int .u64 (t : Int))).setCell ⟨w.heap.size, 2, none⟩ (.slice AQ M cQ)).setCell ⟨w.heap.size, 3, none⟩ (.int .i64 (wd : Int))).setCell ⟨(w.heap.size + 1), 0, none⟩ (.slice A9 K c9)) from
      .inl ⟨⟨n, t, wd, qs⟩, xs, _, AQ, cQ, by rw [H2.out, HX1.out], by rw [HM.out], ⟨_, rfl, elsR_stays (by decide) (by decide) (by decide) _ _ _ _ hkz HV8.out⟩, (PVok.mk HL2.out (by simp only; omega) (by simp only; omega) (by simp only; omega) (by simp only; rw [← HM.out]; omega) HX2.out).keeps hkz (by decide), (ext_set (ext_set (ext_set (ext_set (ext_set kY (Nat.le_refl _) (.int .i64 (n : Int))) (Nat.le_refl _) (.int .u64 (t : Int))) (Nat.le_refl _) (.slice AQ M cQ)) (Nat.le_refl _) (.int .i64 (wd : Int))) (Nat.le_succ _) (.slice A9 K c9))⟩)
     have HE6 := Lib.hid q6
     clear P6 hkz q6 q7 P7
     go_wp2_with fail
     go_region
     all_goals
      generalize ((((w4'.setCell ⟨w.heap.size, 0, none⟩ (.int .i64 (n : Int))).setCell ⟨w.heap.size, 1, none⟩ (.int .u64 (t : Int))).setCell ⟨w.heap.size, 2, none⟩ (.slice AQ M cQ)).setCell ⟨w.heap.size, 3, none⟩ (.int .i64 (wd : Int))).setCell ⟨(w.heap.size + 1), 0, none⟩ (.slice A9 K c9) = Z9 at *
      go_wp2
      exact bodyPost_ret (v := .tuple #[.agg #[.int .i64 (n : Int), .int .u64 (t : Int), .slice AQ M cQ, .int .i64 (wd : Int)], .agg #[.slice A9 K c9], .int .i64 0]) (by simp [results, Tryz.results28, go_sem, e0, e1, e2, e3, e4]) rfl (HF.out.later (agR_stays (elsR_stays (ts := [22, 23, 31]) (by decide) (by decide) (by decide))) (Ext.refl _).drew)
    ·rw [hT3]
     have i9 : ¬ (cc : Int) = 0 := by omega
     have H2 := Lib.hid hT2
     clear hT2 hT3
     have a0 : w4'.cell? ⟨w.heap.size, 0, none⟩ = some (.int .i64 0) := q6.cell (i := 0) (by omega)
     have b0 := q6.frozen 0
     have a1 : w4'.cell? ⟨w.heap.size, 1, none⟩ = some (.int .u64 0) := q6.cell (i := 1) (by omega)
     have b1 := q6.frozen 1
     have a2 : w4'.cell? ⟨w.heap.size, 2, none⟩ = some (.slice none 0 0) := q6.cell (i := 2) (by omega)
     have b2 := q6.frozen 2
     have a3 : w4'.cell? ⟨w.heap.size, 3, none⟩ = some (.int .i64 0) := q6.cell (i := 3) (by omega)
     have b3 := q6.frozen 3
     have tc0 := q7.cell (i := 0) (by omega)
     have td0 := q7.frozen 0
     have Q6 := Lib.hid q6
     clear q6
     have Q7 := Lib.hid q7
     clear q7
     go_wp2_with fail
     have q6 := Q6.out
     have q7 := Q7.out
     have P6 : RW (((((w4'.setCell ⟨w.heap.size, 0, none⟩ (.int .i64 0)).setCell ⟨w.heap.size, 1, none⟩ (.int .u64 0)).setCell ⟨w.heap.size, 2, none⟩ (.slice none 0 0)).setCell ⟨w.heap.size, 3, none⟩ (.int .i64 0)).setCell ⟨(w.heap.size + 1), 0, none⟩ (.slice none 0 0)) w.heap.size 25 4 (parF (.int .i64 0) (.int .u64 0) (.slice none 0 0) (.int .i64 0)) := (RW.far (q6.set4 (.int .i64 0) (.int .u64 0) (.slice none 0 0) (.int .i64 0)) (x := w.heap.size + 1) (by omega) (.slice none 0 0))
     have e0 : (((((w4'.setCell ⟨w.heap.size, 0, none⟩ (.int .i64 0)).setCell ⟨w.heap.size, 1, none⟩ (.int .u64 0)).setCell ⟨w.heap.size, 2, none⟩ (.slice none 0 0)).setCell ⟨w.heap.size, 3, none⟩ (.int .i64 0)).setCell ⟨(w.heap.size + 1), 0, none⟩ (.slice none 0 0)).cell? ⟨w.heap.size, 0, none⟩ = some (.int .i64 0) := P6.cell (i := 0) (by omega)
     have e1 : (((((w4'.setCell ⟨w.heap.size, 0, none⟩ (.int .i64 0)).setCell ⟨w.heap.size, 1, none⟩ (.int .u64 0)).setCell ⟨w.heap.size, 2, none⟩ (.slice none 0 0)).setCell ⟨w.heap.size, 3, none⟩ (.int .i64 0)).setCell ⟨(w.heap.size + 1), 0, none⟩ (.slice none 0 0)).cell? ⟨w.heap.size, 1, none⟩ = some (.int .u64 0) := P6.cell (i := 1) (by omega)
     have e2 : (((((w4'.setCell ⟨w.heap.size, 0, none⟩ (.int .i64 0)).setCell ⟨w.heap.size, 1, none⟩ (.int .u64 0)).setCell ⟨w.heap.size, 2, none⟩ (.slice none 0 0)).setCell ⟨w.heap.size, 3, none⟩ (.int .i64 0)).setCell ⟨(w.heap.size + 1), 0, none⟩ (.slice none 0 0)).cell? ⟨w.heap.size, 2, none⟩ = some (.slice none 0 0) := P6.cell (i := 2) (by omega)
     have e3 : (((((w4'.setCell ⟨w.heap.size, 0, none⟩ (.int .i64 0)).setCell ⟨w.heap.size, 1, none⟩ (.int .u64 0)).setCell ⟨w.heap.size, 2, none⟩ (.slice none 0 0)).setCell ⟨w.heap.size, 3, none⟩ (.int .i64 0)).setCell ⟨(w.heap.size + 1), 0, none⟩ (.slice none 0 0)).cell? ⟨w.heap.size, 3, none⟩ = some (.int .i64 0) := P6.cell (i := 3) (by omega)
     have P7 : RW ((((w4'.setCell ⟨w.heap.size, 0, none⟩ (.int .i64 0)).setCell ⟨w.heap.size, 1, none⟩ (.int .u64 0)).setCell ⟨w.heap.size, 2, none⟩ (.slice none 0 0)).setCell ⟨w.heap.size, 3, none⟩ (.int .i64 0)) (w.heap.size + 1) 28 1 (fun _ => .slice none 0 0) := (RW.far (RW.far (RW.far (RW.far q7 (x := w.heap.size) (by omega) (.int .i64 0)) (x := w.heap.size) (by omega) (.int .u64 0)) (x := w.heap.size) (by omega) (.slice none 0 0)) (x := w.heap.size) (by omega) (.int .i64 0))
     have e4 := ret_cell P7 (.slice none 0 0)
     have hkz : Keeps [22, 23, 31] w4' (((((w4'.setCell ⟨w.heap.size, 0, none⟩ (.int .i64 0)).setCell ⟨w.heap.size, 1, none⟩ (.int .u64 0)).setCell ⟨w.heap.size, 2, none⟩ (.slice none 0 0)).setCell ⟨w.heap.size, 3, none⟩ (.int .i64 0)).setCell ⟨(w.heap.size + 1), 0, none⟩ (.slice none 0 0)) := ((((((Keeps.refl _ w4').trans (Keeps.set q6 (by decide) _)).trans (Keeps.set (q6.set (show 0 < 4 by omega) (.int .i64 0)) (by decide) _)).trans (Keeps.set ((q6.set (show 0 < 4 by omega) (.int .i64 0)).set (show 1 < 4 by omega) (.int .u64 0)) (by decide) _)).trans (Keeps.set (((q6.set (show 0 < 4 by omega) (.int .i64 0)).set (show 1 < 4 by omega) (.int .u64 0)).set (show 2 < 4 by omega) (.slice none 0 0)) (by decide) _)).trans (Keeps.set P7 (by decide) _))
     have HF := Lib.hid (show RPost (.agg #[.slice none 0 0]) w (endP T) (AgR ElsR) (.returned (.tuple #[.agg #[.int .i64 0, .int .u64 0, .slice none 0 0, .int .i64 0], .agg #[.slice none 0 0], .int .i64 (cc : Int)])) (((((w4'.setCell ⟨w.heap.size, 0, none⟩ (.int .i64 0)).setCell ⟨w.heap.size, 1, none⟩ (.int .u64 0)).setCell ⟨w.heap.size, 2, none⟩ (.slice none 0 0)).setCell ⟨w.heap.size, 3, none⟩ (.int .i64 0)).setCell ⟨(w.heap.size + 1), 0, none⟩ (.slice none 0 0)) from
      .inr ⟨cc, H2.out, hc0, hc1, rfl, (ext_set (ext_set (ext_set (ext_set (ext_set kY (Nat.le_refl _) (.int .i64 0)) (Nat.le_refl _) (.int .u64 0)) (Nat.le_refl _) (.slice none 0 0)) (Nat.le_refl _) (.int .i64 0)) (Nat.le_succ _) (.slice none 0 0))⟩)
     have HE6 := Lib.hid q6
     clear P6 hkz q6 q7 P7
     generalize ((((w4'.setCell ⟨w.heap.size, 0, none⟩ (.int .i64 0)).setCell ⟨w.heap.size, 1, none⟩ (.int .u64 0)).setCell ⟨w.heap.size, 2, none⟩ (.slice none 0 0)).setCell ⟨w.heap.size, 3, none⟩ (.int .i64 0)).setCell ⟨(w.heap.size + 1), 0, none⟩ (.slice none 0 0) = Z9 at *
     exact bodyPost_ret (v := .tuple #[.agg #[.int .i64 0, .int .u64 0, .slice none 0 0, .int .i64 0], .agg #[.slice none 0 0], .int .i64 (cc : Int)]) (by simp [results, Tryz.results28, go_sem, e0, e1, e2, e3, e4]) rfl HF.out
end Go.Proofs.YtkbcobjhlpjieaaGreatDoor
