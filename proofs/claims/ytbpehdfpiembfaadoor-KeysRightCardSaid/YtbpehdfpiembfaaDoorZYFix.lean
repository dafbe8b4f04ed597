/-
  The secret of a told tape; what the document fixes of keys; which parameters the laws speak of.
-/
import Derived.Test.YtbpehdfpiembfaaDoorZ33
import Derived.Test.YtbpehdfpiembfaaDoorZ37
import Derived.Test.YtbpehdfpiembfaaDoorZ24
namespace Go.Proofs.YtbpehdfpiembfaaDoor
open Go.RowKit
set_option linter.unusedVariables false
set_option maxRecDepth 100000

def fixY (i : Nat) : Nat := 97
theorem par_fixY : ParP 8 17 1 fixY 1 := fun k hk => by
  rcases (show k = 0 ∨ k = 1 ∨ k = 2 ∨ k = 3 ∨ k = 4 ∨ k = 5 by omega) with rfl | rfl | rfl | rfl | rfl | rfl
  · exact ⟨by decide, by decide, by decide +kernel⟩
  · exact ⟨by decide, by decide⟩
  · exact ⟨by decide, by decide +kernel, by decide +kernel⟩
  · exact ⟨by decide, by decide⟩
  · intro j hj
    obtain rfl : j = 0 := by omega
    exact ⟨by decide, by decide, fun i hi => by omega, by decide +kernel, by decide +kernel⟩
  · show Go.bitLen (prodF fixY 1) ≤ rowS 8
    rw [show prodF fixY 1 = 97 by decide, show rowS 8 = 420 by decide]
    decide +kernel
set_option maxHeartbeats 2000000 in
theorem secretTape_any {n T L c : Nat} {Wd : Int} {A : Option Addr} {q : Nat → Nat} (p : Nat) (l : List Nat) (w : World) (hP : Hid (PA w (n : Int) T A L c Wd q)) (hL : L ≤ 100) (hn0 : 1 ≤ n) (hn : n ≤ 4096) (hT : Tabs w) (hok : Hid (ParP (n : Int) T L q Wd)) (hp : Hid (Tp w p l)) (hl : l.length ≤ 100000) :
    Calls Tryd.prog 8 #[.agg #[.int .i64 (n : Int), .int .u64 (T : Int), .slice A L c, .int .i64 Wd], .pointer (some ⟨p, 0, none⟩)] w fun ee w' => ∃ V, Ext w V ∧ DPost V p n l ee w' := by
  have HT := Lib.hid hT
  clear hT
  have ht1 := hP.out.t1
  have k0 : Ext w (w.alloc (.cells #[.int .i64 (n : Int), .int .u64 (T : Int), .slice A L c, .int .i64 Wd] 25)) := (Ext.refl w).alloc _
  obtain ⟨x0, x1, x2, x3⟩ := four_at w (.int .i64 (n : Int)) (.int .u64 (T : Int)) (.slice A L c) (.int .i64 Wd) 25
  go_enter Tryd.func8, Tryd.ntmps8
  go_wp2_with fail
  generalize w.alloc (.cells #[.int .i64 (n : Int), .int .u64 (T : Int), .slice A L c, .int .i64 Wd] 25) = V0 at *
  refine (checkZ (z := 0) (hP.out.ext k0) (by omega) (HT.out.ext k0) (Lib.hid (.inl ⟨hok.out, rfl⟩))).mono ?_
  rintro ee V ⟨rfl, k1⟩
  replace x0 := cell_ext k1 x0
  replace k0 := k0.trans k1
  clear k1 x1 x2 x3
  go_wp2_with fail
  refine (ternaries_any p n l V (Lib.hid (hp.out.ext k0)) hl hn0 hn).mono ?_
  rintro ee V2 h
  have K0 := Lib.hid k0
  clear k0
  rcases h with ⟨acc, r, A2, h1, rfl, h2, h3, h4⟩ | ⟨h1, rfl, h2, h3⟩
  · have H := Lib.hid (show DPost V p n l (.returned (.tuple #[.slice A2 n n, .int .i64 0])) V2 from .inl ⟨acc, r, A2, h1, rfl, h2, h3, h4⟩)
    clear h1 h2 h3 h4
    go_wp2
    go_ret2
    exact ⟨V, K0.out, H.out⟩
  · have H := Lib.hid (show DPost V p n l (.returned (.tuple #[.slice none 0 0, .int .i64 11])) V2 from .inr ⟨h1, rfl, h2, h3⟩)
    clear h1 h2 h3
    go_wp2
    go_ret2
    exact ⟨V, K0.out, H.out⟩
/-- Of which parameters the laws speak. -/
def SmallP (N : Int) (L : Nat) : Prop := N ≤ 32 ∧ L ≤ 8
theorem small11_any (N : Int) (T : Nat) (Wd : Int) (A : Option Addr) (L c : Nat) (w : World) (n0 : -9223372036854775808 ≤ N) (n1 : N < 9223372036854775808) (hL : L ≤ 9223372036854775807) :
    Calls Tryd.prog 5 #[.agg #[.int .i64 N, .int .u64 (T : Int), .slice A L c, .int .i64 Wd]] w (Tells w (SmallP N L)) := by
  have k0 : Ext w (w.alloc (.cells #[.int .i64 N, .int .u64 (T : Int), .slice A L c, .int .i64 Wd] 25)) := (Ext.refl w).alloc _
  by_cases h1 : N ≤ 32
  · by_cases h2 : L ≤ 8
    · have b2 : (L : Int) ≤ 8 := by omega
      go_enter Tryd.func5, Tryd.ntmps5
      go_wp2
      go_ret
      exact .inl ⟨⟨h1, h2⟩, rfl, k0⟩
    · have b2 : ¬ (L : Int) ≤ 8 := by omega
      go_enter Tryd.func5, Tryd.ntmps5
      go_wp2
      go_ret
      exact .inr ⟨fun h => by have := h.2; omega, rfl, k0⟩
  · go_enter Tryd.func5, Tryd.ntmps5
    go_wp2
    go_ret
    exact .inr ⟨fun h => by have := h.1; omega, rfl, k0⟩
theorem told_secret {V w' : World} {p : Nat} {ee : Ending} (h : DPost V p 8 [0, 1, 2, 3, 0, 0, 0, 0, 0] ee w') : ∃ A, ee = .returned (.tuple #[.slice A 8 8, .int .i64 0]) ∧ LX w' A 8 8 [0, 1, -1, 0, 0, 0, 0, 0] ∧ On p V w' := by
  have e : ternS [0, 1, 2, 3, 0, 0, 0, 0, 0] 8 = some ([0, 1, -1, 0, 0, 0, 0, 0], []) := by decide
  rcases h with ⟨acc, r, A, h1, he, h2, _, h3⟩ | ⟨h1, _⟩
  · rw [e] at h1
    injection h1 with h1
    injection h1 with h1 _
    subst h1
    exact ⟨A, he, h2, h3⟩
  · rw [e] at h1; cases h1
theorem laid_lx (w : World) (zs : List Int) (n : Nat) (hn : zs.length = n) : LX (w.alloc (.cells (zs.map (Value.int .i64)).toArray 2)) (some ⟨w.heap.size, 0, none⟩) n n zs := IW.lx (heap_alloc_new w _) hn
theorem fixed11_any (w : World) (hT : Tabs w) : Calls Tryd.prog 4 #[] w fun e w' => e = .returned (.bool true) ∧ Ext w w' := by
  have HT := Lib.hid hT
  clear hT
  have hQ : FX ((w.alloc (.cells #[.int .u64 97] 22)).alloc (.cells #[.int .i64 8, .int .u64 17, .slice (some ⟨w.heap.size, 0, none⟩) 1 1, .int .i64 1] 25)) (some ⟨w.heap.size, 0, none⟩) 1 1 fixY := by
    have h1 : NX (w.alloc (.cells #[.int .u64 97] 22)) (some ⟨w.heap.size, 0, none⟩) 1 1 [97] := laid_nx w [97] 1 rfl (by rw [W64_eq]; simp)
    have h2 := ((fx_of_rd h1).congr (f' := fixY) fun i hi => by obtain rfl : i = 0 := by omega
                                                                rfl)
    exact h2.ext ((Ext.refl _).alloc _)
  have kV : Ext w ((w.alloc (.cells #[.int .u64 97] 22)).alloc (.cells #[.int .i64 8, .int .u64 17, .slice (some ⟨w.heap.size, 0, none⟩) 1 1, .int .i64 1] 25)) := ((Ext.refl w).alloc _).alloc _
  obtain ⟨x0, x1, x2, x3⟩ := four_at (w.alloc (.cells #[.int .u64 97] 22)) (.int .i64 8) (.int .u64 17) (.slice (some ⟨w.heap.size, 0, none⟩) 1 1) (.int .i64 1) 25
  rw [show (w.alloc (.cells #[.int .u64 97] 22)).heap.size = w.heap.size + 1 by simp] at x0 x1 x2 x3
  have HQ := Lib.hid hQ
  clear hQ
  go_enter Tryd.func4, Tryd.ntmps4
  go_wp2_with fail
  generalize ((w.alloc (.cells #[.int .u64 97] 22)).alloc (.cells #[.int .i64 8, .int .u64 17, .slice (some ⟨w.heap.size, 0, none⟩) 1 1, .int .i64 1] 25)) = V at *
  have kk : Ext V V := Ext.refl V
  have HP := Lib.hid par_fixY
  have hPA : PA V 8 17 (some ⟨w.heap.size, 0, none⟩) 1 1 1 fixY := ⟨by omega, by omega, by omega, by omega, by omega, HQ.out, by omega, fun j _ => by unfold fixY; omega⟩
  have HPA := Lib.hid hPA
  have HSE := Lib.hid (fun (w' : World) (p : Nat) (h : Ext V w') (hp : Hid (Tp w' p [0, 1, 2, 3, 0, 0, 0, 0, 0])) => secretTape_any (n := 8) (T := 17) p [0, 1, 2, 3, 0, 0, 0, 0, 0] w' (Lib.hid (hPA.ext h)) (by omega) (by omega) (by omega) (HT.out.ext (kV.trans h)) (Lib.hid par_fixY) hp (by simp))
  have HNT := Lib.hid (show ∀ x ∈ [0, 1, 2, 3, 0, 0, 0, 0, 0], x < W64 by rw [W64_eq]; simp)
  clear hPA
  go_region_held3 (fun w' => w'.cell? ⟨w.heap.size + 1, 0, none⟩ = some (.int .i64 8) ∧ w'.cell? ⟨w.heap.size + 1, 1, none⟩ = some (.int .u64 17) ∧ w'.cell? ⟨w.heap.size + 1, 2, none⟩ = some (.slice (some ⟨w.heap.size, 0, none⟩) 1 1) ∧ w'.cell? ⟨w.heap.size + 1, 3, none⟩ = some (.int .i64 1)) (go_keep)
    (first
      | (go_at_call 9; refine (new_tape _ 9 9 [0, 1, 2, 3, 0, 0, 0, 0, 0] _ (Lib.hid (by first | with_reducible exact laid_nx _ [0, 1, 2, 3, 0, 0, 0, 0, 0] 9 rfl HNT.out | exact (laid_nx V [0, 1, 2, 3, 0, 0, 0, 0, 0] 9 rfl HNT.out).ext ((Ext.refl _).drew))) (by omega)).mono ?_; rintro e5 w5 ⟨p, rfl, hp, hTp, k5⟩; have hp2 : V.heap.size ≤ p := (by have := hp; simp at this; omega); replace kk : Ext V w5 := (by first | with_reducible exact Ext.trans (Ext.alloc kk _) k5.out | with_reducible exact Ext.trans (Ext.drew (Ext.alloc kk _)) k5.out | with_reducible exact Ext.trans (Ext.alloc (Ext.drew kk) _) k5.out); have d0 := cell_ext kk x0; have d1 := cell_ext kk x1; have d2 := cell_ext kk x2; have d3 := cell_ext kk x3)
      | (go_at_call 8; refine (HSE.out w5 p kk hTp).mono ?_; rintro e6 w6 ⟨V6, k6, h6⟩; obtain ⟨A6, rfl, hlx, ho⟩ := told_secret h6; have kx : Ext V w6 := Ext.on (kk.trans k6) ho hp2; have HLX := Lib.hid hlx; clear hlx h6; have d0 := cell_ext kx x0; have d1 := cell_ext kx x1; have d2 := cell_ext kx x2; have d3 := cell_ext kx x3)
      | fail)
  all_goals
    have KX := Lib.hid (kV.trans kx)
    clear kx kk ho k6 k5 hp hp2
    have ka : Ext w6 (w6.alloc (.cells #[.int .i64 0, .int .i64 1, .int .i64 (-1), .int .i64 0, .int .i64 0, .int .i64 0, .int .i64 0, .int .i64 0] 2)) := (Ext.refl w6).alloc _
    have hl : LX (w6.alloc (.cells #[.int .i64 0, .int .i64 1, .int .i64 (-1), .int .i64 0, .int .i64 0, .int .i64 0, .int .i64 0, .int .i64 0] 2)) (some ⟨w6.heap.size, 0, none⟩) 8 8 [0, 1, -1, 0, 0, 0, 0, 0] := laid_lx w6 [0, 1, -1, 0, 0, 0, 0, 0] 8 rfl
    have HL := Lib.hid hl
    have KA := Lib.hid ka
    clear hl ka
    go_wp2_with fail
    refine (sameInts_any A6 (some ⟨w6.heap.size, 0, none⟩) 8 8 8 [0, 1, -1, 0, 0, 0, 0, 0] _ (Lib.hid (HLX.out.ext KA.out)) HL (by omega)).mono ?_
    rintro e7 w7 ⟨rfl, k7⟩
    have K7 := Lib.hid ((KX.out.trans KA.out).trans k7)
    clear k7
    go_wp2
    go_ret
    exact ⟨rfl, K7.out⟩
end Go.Proofs.YtbpehdfpiembfaaDoor
