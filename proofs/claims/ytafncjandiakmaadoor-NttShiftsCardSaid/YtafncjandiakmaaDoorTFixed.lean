/-
  The calls of layer 4 whose answers the document fixes; the law NttNil walked.
-/
import Derived.Test.YtafncjandiakmaaDoorTFits
namespace Go.Proofs.YtafncjandiakmaaDoor
open Go.RowKit
set_option linter.unusedVariables false

theorem unit_n {q n u : Nat} (hu : M (q : Int) ((n : Int) * (u : Int)) 1) {x y : Int} (h : M (q : Int) ((n : Int) * x) ((n : Int) * y)) : M (q : Int) x y := by
  have one : ∀ z : Int, M (q : Int) ((n : Int) * z * (u : Int)) z := fun z => by
    rw [mul_four]
    have := hu.mul (M.rfl (a := z))
    rwa [Int.one_mul] at this
  exact (one x).symm.trans ((h.mul M.rfl).trans (one y))
theorem Table.unit {w : World} {p n q k r v : Nat} (h : Table w p n q k r v) : ∃ u : Nat, M (q : Int) ((n : Int) * (u : Int)) 1 := by
  obtain ⟨_, e, _, _, _, _, u, hu, _⟩ := h.ex
  exact ⟨u, hu⟩
structure Root (n q k r v : Nat) : Prop where
  nk : n = 2 ^ k
  q0 : 2 ≤ q
  q1 : q ≤ 2305843009213693952
  n0 : 2 ≤ n
  n1 : n ≤ 512
  hr : M (q : Int) ((r : Int) ^ (2 ^ k)) (-1)
  hv : M (q : Int) ((v : Int) ^ (2 ^ k)) (-1)
  rv : M (q : Int) ((r : Int) * (v : Int)) 1
theorem Table.root {w : World} {p n q k r v : Nat} (h : Table w p n q k r v) : Root n q k r v := by
  obtain ⟨a, e, _, _, _, g, _⟩ := h.ex
  have h2 := two_le g.k0 g.k9
  rw [← g.nk] at h2
  exact ⟨g.nk, g.q0, g.q1, h2.1, h2.2, by rw [← g.nk]; exact g.hr, by rw [← g.nk]; exact g.hv, g.rv⟩
theorem Root.backVals {n q k r v : Nat} (h : Root n q k r v) (a : Nat → Int) {i : Nat} (hi : i < n) : M (q : Int) (back (v : Int) n (vals (r : Int) n a) i) ((n : Int) * a i) := by
  have e := h.nk
  subst e
  exact back_vals h.hr h.hv h.rv a hi
theorem Root.valsBack {n q k r v : Nat} (h : Root n q k r v) (a : Nat → Int) {i : Nat} (hi : i < n) : M (q : Int) (vals (r : Int) n (back (v : Int) n a) i) ((n : Int) * a i) := by
  have e := h.nk
  subst e
  exact vals_back h.hr h.hv h.rv a hi
theorem Root.valsNega {n q k r v : Nat} (h : Root n q k r v) (a b : Nat → Int) (j : Nat) : M (q : Int) (vals (r : Int) n (nega n a b) j) (vals (r : Int) n a j * vals (r : Int) n b j) :=
  vals_nega (by rw [h.nk]; exact h.hr) a b j
theorem vals_M {q r : Int} {n : Nat} {a b : Nat → Int} (h : ∀ i, i < n → M q (a i) (b i)) (j : Nat) : M q (vals r n a j) (vals r n b j) := S_M fun i hi => (h i hi).mul M.rfl
theorem back_M {q r : Int} {n : Nat} {a b : Nat → Int} (h : ∀ i, i < n → M q (a i) (b i)) (j : Nat) : M q (back r n a j) (back r n b j) := S_M fun i hi => (h i hi).mul M.rfl
theorem vals_scale (r c : Int) (n : Nat) (a : Nat → Int) (j : Nat) : vals r n (fun i => c * a i) j = c * vals r n a j := by
  unfold vals
  rw [S_mul]
  exact S_congr fun i _ => by rw [Int.mul_assoc]
/-- What Mul answers, as a product modulo X^n + 1. -/
theorem mulP_any (p n q k r v : Nat) (A A' : Option Addr) (c c' : Nat) (f f' : Nat → Nat) (w : World) (hT : Table w p n q k r v) (hX : FX w A n c f) (hf : Hid (∀ i, i < n → f i < q)) (hX' : FX w A' n c' f') (hf' : Hid (∀ i, i < n → f' i < q)) :
    Calls Tryd.prog 18 #[.pointer (some ⟨p, 0, none⟩), .slice A n c, .slice A' n c'] w fun ee w' => ∃ (g : Nat) (F : Nat → Nat), ee = .returned (.tuple #[.slice (some ⟨g, 0, none⟩) n n, .int .i64 0]) ∧ UW w' g n F ∧ Hid (∀ i, i < n → F i < q ∧ M (q : Int) (F i : Int) (nega n (fun j => (f j : Int)) (fun j => (f' j : Int)) i)) ∧ Ext w w' := by
  refine (mulT_any p n q k r v A A' c c' f f' w hT hX hf hX' hf').mono ?_
  rintro ee w' ⟨g, F, he, hu, hF, hk⟩
  obtain ⟨u, hun⟩ := hT.unit
  refine ⟨g, F, he, hu, Lib.hid fun i hi => ⟨(hF.out i hi).1, unit_n hun ?_⟩, hk⟩
  refine (hF.out i hi).2.trans ?_
  refine (back_M (fun j _ => (hT.root.valsNega _ _ j).symm) i).trans ?_
  exact hT.root.backVals _ hi
theorem first5 {x : Nat} (h : First 5 x) : x = 2 := by
  rcases h with ⟨h1, h2, h3⟩ | ⟨_, h3⟩
  · have n0 : noSq 5 0 = false := by decide +kernel
    have n1 : noSq 5 1 = false := by decide +kernel
    have y2 : noSq 5 2 = true := by decide +kernel
    rcases (show x = 0 ∨ x = 1 ∨ x = 2 ∨ 2 < x by omega) with rfl | rfl | rfl | h
    · rw [n0] at h2; cases h2
    · rw [n1] at h2; cases h2
    · rfl
    · rw [h3 2 h] at y2; cases y2
  · have y2 : noSq 5 2 = true := by decide +kernel
    rw [h3 2 (by omega)] at y2; cases y2
theorem root5 : rootS 5 (2 * 2) 2 = 2 := by decide +kernel
theorem new5 (w : World) (hT : Tabs w) : Calls Tryd.prog 11 #[.int .i64 2, .int .u64 5] w fun ee w' => ∃ p v : Nat, ee = .returned (.tuple #[.pointer (some ⟨p, 0, none⟩), .int .i64 0]) ∧ Table w' p 2 5 1 2 v ∧ Ext w w' := by
  have h := new_any 2 5 1 w (Lib.hid fit5) hT
  refine Calls.mono h ?_
  rintro ee w' ⟨p, r, v, x, hx, hr, he, ht, hk⟩
  rw [first5 hx, root5] at hr
  rw [hr.out] at ht
  exact ⟨p, v, he, ht, hk⟩
theorem fx_two (w : World) (a b : Nat) (za zb : Int) (ha : za = a) (hb : zb = b) : FX (w.alloc (.cells #[.int .u64 za, .int .u64 zb] 22)) (some ⟨w.heap.size, 0, none⟩) 2 2 (fun i => if i = 0 then a else b) := by
  subst ha hb
  refine ⟨Nat.le_refl _, fun _ => ⟨_, rfl, fun j hj => ?_⟩⟩
  rw [Addr.add_lit, Nat.zero_add]
  rcases (show j = 0 ∨ j = 1 by omega) with rfl | rfl <;> simp
theorem all_two {P : Nat → Prop} (h0 : P 0) (h1 : P 1) : ∀ i, i < 2 → P i := fun i hi => by
  rcases (show i = 0 ∨ i = 1 by omega) with rfl | rfl
  · exact h0
  · exact h1
set_option maxHeartbeats 2000000 in
theorem fixed4_any (w : World) (hT : Tabs w) : Calls Tryd.prog 9 #[] w fun e w' => e = .returned (.bool true) ∧ Ext w w' := by
  have HT := Lib.hid hT
  clear hT
  go_enter Tryd.func9, Tryd.ntmps9
  go_wp2_with fail
  refine (new5 w HT.out).mono ?_
  rintro e w1 ⟨p, v, rfl, ht, k1⟩
  have HTB := Lib.hid ht
  clear ht
  go_wp2_with fail
  have ka : Ext w1 (w1.alloc (.cells #[.int .u64 1, .int .u64 1] 22)) := (Ext.refl w1).alloc _
  refine (values_any p 2 5 1 2 v (some ⟨w1.heap.size, 0, none⟩) 2 _ _ (HTB.out.ext ka) (fx_two w1 1 1 1 1 rfl rfl) (Lib.hid (all_two (by decide) (by decide)))).mono ?_
  rintro e w2 ⟨g2, F, rfl, hu2, hF, k2⟩
  have kw2 := ka.trans k2
  have HF0 : F 0 = 3 := M.lt (q := 5) ((hF.out 0 (by omega)).2.trans (by unfold M; decide)) (hF.out 0 (by omega)).1 (by omega)
  have HF1 : F 1 = 4 := M.lt (q := 5) ((hF.out 1 (by omega)).2.trans (by unfold M; decide)) (hF.out 1 (by omega)).1 (by omega)
  have HF := Lib.hid (And.intro HF0 HF1)
  clear HF0 HF1 hF ka k2
  go_wp2_with fail
  have kb : Ext w2 ((w2.alloc (.cells #[.int .u64 0, .int .u64 1] 22)).alloc (.cells #[.int .u64 0, .int .u64 1] 22)) := ((Ext.refl w2).alloc _).alloc _
  have x1 : FX ((w2.alloc (.cells #[.int .u64 0, .int .u64 1] 22)).alloc (.cells #[.int .u64 0, .int .u64 1] 22)) (some ⟨w2.heap.size, 0, none⟩) 2 2 (fun i => if i = 0 then 0 else 1) := (fx_two w2 0 1 0 1 rfl rfl).ext ((Ext.refl _).alloc _)
  have x2 : FX ((w2.alloc (.cells #[.int .u64 0, .int .u64 1] 22)).alloc (.cells #[.int .u64 0, .int .u64 1] 22)) (some ⟨w2.heap.size + 1, 0, none⟩) 2 2 (fun i => if i = 0 then 0 else 1) := by
    have := fx_two (w2.alloc (.cells #[.int .u64 0, .int .u64 1] 22)) 0 1 0 1 rfl rfl
    rw [show (w2.alloc (.cells #[.int .u64 0, .int .u64 1] 22)).heap.size = w2.heap.size + 1 by simp] at this
    exact this
  refine (mulP_any p 2 5 1 2 v _ _ 2 2 _ _ _ (HTB.out.ext (kw2.trans kb)) x1 (Lib.hid (all_two (by decide) (by decide))) x2 (Lib.hid (all_two (by decide) (by decide)))).mono ?_
  rintro e w3 ⟨g3, R, rfl, hu3, hR, k3⟩
  have HR0 : R 0 = 4 := M.lt (q := 5) ((hR.out 0 (by omega)).2.trans (by unfold M; decide)) (hR.out 0 (by omega)).1 (by omega)
  have HR1 : R 1 = 0 := M.lt (q := 5) ((hR.out 1 (by omega)).2.trans (by unfold M; decide)) (hR.out 1 (by omega)).1 (by omega)
  have HR := Lib.hid (And.intro HR0 HR1)
  have kw3 := kb.trans k3
  have hu23 := RW.ext hu2 kw3
  clear HR0 HR1 hR kb k3 x1 x2 hu2
  go_wp2_with fail
  have kc : Ext w3 (w3.alloc (.cells #[.int .u64 3, .int .u64 4] 22)) := (Ext.refl w3).alloc _
  refine (same_any _ _ 2 2 2 _ _ _ ((UW.fx hu23).ext kc) (fx_two w3 3 4 3 4 rfl rfl) (by omega) (Lib.hid (all_two HF.out.1 HF.out.2))).mono ?_
  rintro e w4 ⟨rfl, k4⟩
  have kw4 := kc.trans k4
  have hu34 := RW.ext hu3 kw4
  go_wp2_with fail
  have kd : Ext w4 (w4.alloc (.cells #[.int .u64 4, .int .u64 0] 22)) := (Ext.refl w4).alloc _
  refine (same_any _ _ 2 2 2 _ _ _ ((UW.fx hu34).ext kd) (fx_two w4 4 0 4 0 rfl rfl) (by omega) (Lib.hid (all_two HR.out.1 HR.out.2))).mono ?_
  rintro e w5 ⟨rfl, k5⟩
  go_wp2
  go_ret
  exact ⟨rfl, k1.trans (kw2.trans (kw3.trans (kw4.trans (kd.trans k5))))⟩
set_option maxHeartbeats 1000000 in
/-- The law NttNil walked. -/
theorem nttNil_walk (A : Option Addr) (n c : Nat) (w : World) (hT : Tabs w) : Calls Tryd.prog 7 #[.slice A n c] w fun e w' => e = .returned (.bool true) ∧ Ext w w' := by
  have HT := Lib.hid hT
  clear hT
  go_enter Tryd.func7, Tryd.ntmps7
  go_wp2_with fail
  refine (fixed4_any w HT.out).mono ?_
  rintro e w1 ⟨rfl, k1⟩
  go_wp2_with fail
  refine (valuesNil_any A n c w1).mono ?_
  rintro e w2 ⟨rfl, k2⟩
  go_wp2_with fail
  refine (backNil_any A n c w2).mono ?_
  rintro e w3 ⟨rfl, k3⟩
  go_wp2_with fail
  refine (mulNil_any A A n c n c w3).mono ?_
  rintro e w4 ⟨rfl, k4⟩
  go_wp2
  go_ret
  exact ⟨rfl, k1.trans (k2.trans (k3.trans k4))⟩
theorem nttNilX {f : Nat → Nat} {A : Option Addr} {n c : Nat} (w : World) (hX : FX w A n c f) (hn : n ≤ maxLen) (hf : Hid (∀ i, i < n → f i < 18446744073709551616)) (hT : Tabs w) : Calls Tryd.prog 7 #[.slice A n c] w fun e w' => e = .returned (.bool true) ∧ Ext w w' := nttNil_walk A n c w hT
end Go.Proofs.YtafncjandiakmaaDoor
