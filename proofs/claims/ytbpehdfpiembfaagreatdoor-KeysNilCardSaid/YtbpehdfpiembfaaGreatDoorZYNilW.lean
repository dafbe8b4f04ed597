/-
  The walk of KeysNil.
-/
import Derived.Test.YtbpehdfpiembfaaGreatDoorZ46
import Derived.Test.YtbpehdfpiembfaaGreatDoorZYFix
namespace Go.Proofs.YtbpehdfpiembfaaGreatDoor
open Go.RowKit
set_option linter.unusedVariables false
set_option maxRecDepth 100000

theorem steps_none (N : Int) (s : Nat → Int) : StepsP N 0 s := fun i hi => absurd hi (by omega)
theorem vx_none (w : World) (v : Nat → Int) : VX w none 0 0 v := ⟨Nat.le_refl _, fun h => absurd h (by omega)⟩
set_option maxHeartbeats 8000000 in
theorem keysNil_walk {N : Int} {T L c : Nat} {Wd : Int} {A : Option Addr} {q : Nat → Nat} {B C : Option Addr} {n d m e : Nat} {v s : Nat → Int} (w : World) (hP : Hid (PA w N T A L c Wd q)) (hX : VX w B n d v) (hn : n ≤ maxLen) (hv : Hid (∀ i, i < n → -9223372036854775808 ≤ v i ∧ v i < 9223372036854775808)) (hS : VX w C m e s) (hm : m ≤ maxLen) (hs : Hid (∀ i, i < m → -9223372036854775808 ≤ s i ∧ s i < 9223372036854775808)) (hT : Tabs w) :
    Calls Tryz.prog 11 #[.agg #[.int .i64 N, .int .u64 (T : Int), .slice A L c, .int .i64 Wd], .slice B n d, .slice C m e] w fun ee w' => ee = .returned (.bool true) ∧ Ext w w' := by
  have HT := Lib.hid hT
  have HX := Lib.hid hX
  have HSX := Lib.hid hS
  unfold maxLen at hn hm
  clear hT hX hS
  have hn0 := hP.out.n0
  have hn1 := hP.out.n1
  have ht1 := hP.out.t1
  have hLl := hP.out.len
  have k0 : Ext w (w.alloc (.cells #[.int .i64 N, .int .u64 (T : Int), .slice A L c, .int .i64 Wd] 25)) := (Ext.refl w).alloc _
  obtain ⟨x0, x1, x2, x3⟩ := four_at w (.int .i64 N) (.int .u64 (T : Int)) (.slice A L c) (.int .i64 Wd) 25
  go_enter Tryz.func11, Tryz.ntmps11
  go_wp2_with fail
  generalize w.alloc (.cells #[.int .i64 N, .int .u64 (T : Int), .slice A L c, .int .i64 Wd] 25) = V at *
  refine (fixed11_any V (HT.out.ext k0)).mono ?_
  rintro ee V1 ⟨rfl, k1⟩
  replace x0 := cell_ext k1 x0
  replace x1 := cell_ext k1 x1
  replace x2 := cell_ext k1 x2
  replace x3 := cell_ext k1 x3
  replace k0 := k0.trans k1
  clear k1
  go_wp2_with fail
  refine (small11_any N T Wd A L c V1 hn0 hn1 hLl).mono ?_
  rintro ee V2 (⟨hsm, rfl, k1⟩ | ⟨hsm, rfl, k1⟩)
  case inr =>
    have K0 := Lib.hid (k0.trans k1)
    clear hsm k0 k1
    go_wp2
    go_ret
    exact ⟨rfl, K0.out⟩
  obtain ⟨hN32, hL8⟩ := hsm
  replace x0 := cell_ext k1 x0
  replace x1 := cell_ext k1 x1
  replace x2 := cell_ext k1 x2
  replace x3 := cell_ext k1 x3
  replace k0 := k0.trans k1
  clear k1
  by_cases hn100 : n ≤ 100
  case neg =>
    have b0 : (n : Int) > 100 := by omega
    have K0 := Lib.hid k0
    clear k0
    go_wp2
    go_ret
    exact ⟨rfl, K0.out⟩
  have b0 : ¬ (n : Int) > 100 := by omega
  by_cases hm100 : m ≤ 100
  case neg =>
    have b1 : (m : Int) > 100 := by omega
    have K0 := Lib.hid k0
    clear k0
    go_wp2
    go_ret
    exact ⟨rfl, K0.out⟩
  have b1 : ¬ (m : Int) > 100 := by omega
  obtain ⟨z, hz⟩ := errZ (ParP N T L q Wd)
  have HZ := Lib.hid hz
  obtain ⟨x, hx⟩ : ∃ x, (¬ ParP N T L q Wd ∧ x = 8) ∨ (ParP N T L q Wd ∧ x = 1) := by
    rcases hz with ⟨h, _⟩ | ⟨h, _⟩
    · exact ⟨1, .inr ⟨h, rfl⟩⟩
    · exact ⟨8, .inl ⟨h, rfl⟩⟩
  have HXX := Lib.hid hx
  obtain ⟨y, hy⟩ := ask_is (ParP N T L q Wd) (SecP N n v) (StepsP N 0 s) true
  have HY := Lib.hid hy
  obtain ⟨u, hu⟩ := ask_is (ParP N T L q Wd) (SecP N n v) (StepsP N m s) true
  have HU := Lib.hid hu
  clear hy hu
  go_wp2_with fail
  refine (secretNil_any x V2 (Lib.hid (hP.out.ext k0)) (by omega) (HT.out.ext k0) HXX).mono ?_
  rintro ee V3 ⟨rfl, k1⟩
  replace x0 := cell_ext k1 x0
  replace x1 := cell_ext k1 x1
  replace x2 := cell_ext k1 x2
  replace x3 := cell_ext k1 x3
  replace k0 := k0.trans k1
  clear k1
  go_wp2_with fail
  refine (publicNil_any n d B v y V3 (Lib.hid (hP.out.ext k0)) hN32 (by omega) (HX.out.ext k0) (by omega) hv (HT.out.ext k0) s HY).mono ?_
  rintro ee V4 ⟨rfl, k1⟩
  replace k1 := k1.alloc (.cells #[.slice none 0 0, .slice none 0 0] 69)
  replace x0 := cell_ext k1 x0
  replace x1 := cell_ext k1 x1
  replace x2 := cell_ext k1 x2
  replace x3 := cell_ext k1 x3
  replace k0 := k0.trans k1
  clear k1
  go_wp2_with fail
  generalize V4.alloc (.cells #[.slice none 0 0, .slice none 0 0] 69) = V5 at *
  refine (allNil_any n d m e B C v s u V5 (Lib.hid (hP.out.ext k0)) hN32 (by omega) (HX.out.ext k0) (by omega) hv (HSX.out.ext k0) (by omega) hs (HT.out.ext k0) HU).mono ?_
  rintro ee V6 ⟨rfl, k1⟩
  replace k1 := k1.alloc (.cells #[.slice none 0 0, .slice none 0 0, .slice none 0 0] 99)
  replace x0 := cell_ext k1 x0
  replace x1 := cell_ext k1 x1
  replace x2 := cell_ext k1 x2
  replace x3 := cell_ext k1 x3
  replace k0 := k0.trans k1
  clear k1
  go_wp2_with fail
  generalize V6.alloc (.cells #[.slice none 0 0, .slice none 0 0, .slice none 0 0] 99) = V7 at *
  refine (rcheckZ (z := z) (hP.out.ext k0) (by omega) HZ).mono ?_
  rintro ee V8 ⟨rfl, k1⟩
  replace x0 := cell_ext k1 x0
  replace x1 := cell_ext k1 x1
  replace x2 := cell_ext k1 x2
  replace x3 := cell_ext k1 x3
  replace k0 := k0.trans k1
  clear k1
  have hR : ∀ w', Ext V8 w' → Calls Tryz.prog 44 #[.agg #[.int .i64 N, .int .u64 (T : Int), .slice A L c, .int .i64 Wd], .slice B n d, .slice none 0 0, .bool true] w' fun ee w' => ee = .returned (.int .i64 (y : Int)) ∧ Ext V8 w' := fun w' h =>
    (refAsk_any n d 0 0 B none v s true y w' (Lib.hid (hP.out.ext (k0.trans h))) (by omega) (by omega) (HX.out.ext (k0.trans h)) (by omega) hv (vx_none _ s) (by omega) (Lib.hid fun i hi => absurd hi (by omega)) HY).mono fun _ _ h2 => ⟨h2.1, h.trans h2.2⟩
  have hR2 : ∀ w', Ext V8 w' → Calls Tryz.prog 44 #[.agg #[.int .i64 N, .int .u64 (T : Int), .slice A L c, .int .i64 Wd], .slice B n d, .slice C m e, .bool true] w' fun ee w' => ee = .returned (.int .i64 (u : Int)) ∧ Ext V8 w' := fun w' h =>
    (refAsk_any n d m e B C v s true u w' (Lib.hid (hP.out.ext (k0.trans h))) (by omega) (by omega) (HX.out.ext (k0.trans h)) (by omega) hv (HSX.out.ext (k0.trans h)) (by omega) hs HU).mono fun _ _ h2 => ⟨h2.1, h.trans h2.2⟩
  have HR := Lib.hid hR
  have HR2 := Lib.hid hR2
  have K0 := Lib.hid k0
  clear hR hR2 k0 b0 b1
  have by1 : ((y : Int) == (y : Int)) = true := by simp
  have bu1 : ((u : Int) == (u : Int)) = true := by simp
  rcases hz with ⟨hp, rfl⟩ | ⟨hp, rfl⟩
  all_goals
    have ex : x = 1 ∨ x = 8 := by rcases HXX.out with ⟨_, h⟩ | ⟨_, h⟩ <;> omega
  · have ex1 : x = 1 := by
      rcases HXX.out with ⟨h, _⟩ | ⟨_, h⟩
      · exact absurd hp h
      · exact h
    subst ex1
    have HPP := Lib.hid hp
    clear hp hx ex
    go_wp2_with fail
    refine (HR.out V8 (Ext.refl V8)).mono ?_
    rintro ee V9 ⟨rfl, k9⟩
    have y0 := cell_ext k9 x0
    have y1 := cell_ext k9 x1
    have y2 := cell_ext k9 x2
    have y3 := cell_ext k9 x3
    have K9 := Lib.hid k9
    clear k9
    go_wp2_with fail
    refine (HR2.out V9 K9.out).mono ?_
    rintro ee V10 ⟨rfl, k10⟩
    have K10 := Lib.hid (K0.out.trans k10)
    clear k10
    go_wp2
    go_ret
    exact ⟨rfl, K10.out⟩
  · have ex1 : x = 8 := by
      rcases HXX.out with ⟨_, h⟩ | ⟨h, _⟩
      · exact h
      · exact absurd h hp
    subst ex1
    have HPP := Lib.hid hp
    clear hp hx ex
    go_wp2_with fail
    refine (HR.out V8 (Ext.refl V8)).mono ?_
    rintro ee V9 ⟨rfl, k9⟩
    have y0 := cell_ext k9 x0
    have y1 := cell_ext k9 x1
    have y2 := cell_ext k9 x2
    have y3 := cell_ext k9 x3
    have K9 := Lib.hid k9
    clear k9
    go_wp2_with fail
    refine (HR2.out V9 K9.out).mono ?_
    rintro ee V10 ⟨rfl, k10⟩
    have K10 := Lib.hid (K0.out.trans k10)
    clear k10
    go_wp2
    go_ret
    exact ⟨rfl, K10.out⟩
end Go.Proofs.YtbpehdfpiembfaaGreatDoor
