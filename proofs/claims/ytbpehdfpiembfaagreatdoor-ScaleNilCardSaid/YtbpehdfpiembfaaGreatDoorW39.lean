/-
  What Check of package param answers.
-/
import Derived.Test.YtbpehdfpiembfaaGreatDoorW38
namespace Go.Proofs.YtbpehdfpiembfaaGreatDoor
open Go.RowKit
set_option linter.unusedVariables false
set_option maxRecDepth 100000

/-- May the primes be, beside T? -/
def PrsP (n T L : Nat) (f : Nat → Nat) : Prop := ∀ j, j < L → f j < 1125899906842624 ∧ f j ≠ T ∧ (∀ i, i < j → f i ≠ f j) ∧ FrP n (f j)
theorem four_at (w : World) (x0 x1 x2 x3 : Value) (t : TypeId) : (w.alloc (.cells #[x0, x1, x2, x3] t)).cell? ⟨w.heap.size, 0, none⟩ = some x0 ∧ (w.alloc (.cells #[x0, x1, x2, x3] t)).cell? ⟨w.heap.size, 1, none⟩ = some x1 ∧ (w.alloc (.cells #[x0, x1, x2, x3] t)).cell? ⟨w.heap.size, 2, none⟩ = some x2 ∧ (w.alloc (.cells #[x0, x1, x2, x3] t)).cell? ⟨w.heap.size, 3, none⟩ = some x3 := by simp
set_option maxHeartbeats 4000000 in
theorem mayPrimes_any (n T : Nat) (W : Int) (A : Option Addr) (L c : Nat) (f : Nat → Nat) (w : World) (hn0 : 8 ≤ n) (hn1 : n ≤ 4096) (hL : L ≤ 1000) (hTl : T < 18446744073709551616) (hX : FX w A L c f) (hf : Hid (∀ j, j < L → f j < 18446744073709551616)) (hT : Tabs w) :
    Calls Tryz.prog 159 #[.agg #[.int .i64 (n : Int), .int .u64 (T : Int), .slice A L c, .int .i64 W]] w (Tells w (PrsP n T L f)) := by
  have HT := Lib.hid hT
  have HX := Lib.hid hX
  have hroom := hX.room
  clear hT hX
  have kV : Ext w (w.alloc (.cells #[.int .i64 (n : Int), .int .u64 (T : Int), .slice A L c, .int .i64 W] 186)) := (Ext.refl w).alloc _
  obtain ⟨x0, x1, x2, x3⟩ := four_at w (.int .i64 (n : Int)) (.int .u64 (T : Int)) (.slice A L c) (.int .i64 W) 186
  go_enter Tryz.func159, Tryz.ntmps159
  go_wp2_with fail
  generalize w.alloc (.cells #[.int .i64 (n : Int), .int .u64 (T : Int), .slice A L c, .int .i64 W] 186) = V at *
  go_loopw [9] (fun i wr => ∃ k : Nat, k ≤ L ∧ i = .int .i64 (k : Int) ∧ Hid (∀ j, j < k → f j < 1125899906842624 ∧ f j ≠ T ∧ (∀ i, i < j → f i ≠ f j) ∧ FrP n (f j)) ∧ Ext V wr) (fun i _ => L - (intOf i).toNat)
  case atStart => exact ⟨0, by omega, rfl, Lib.hid fun j hj => by omega, Ext.refl _⟩
  case round =>
    obtain ⟨k, hk, rfl, hall, kr⟩ := hrel
    have y0 := cell_ext kr x0
    have y1 := cell_ext kr x1
    have y2 := cell_ext kr x2
    have y3 := cell_ext kr x3
    by_cases hlt : k < L
    · have hx := HX.out.ext (kV.trans kr)
      obtain ⟨ad, rfl, hc⟩ := hx.cells (by omega)
      have hcell := hc k hlt
      have hql := hf.out k hlt
      clear hc
      have HXk := Lib.hid (hx.cut (m := k) (by omega))
      clear hx
      have i0 : (0 : Int) ≤ (k : Int) := by omega
      have i1 : (k : Int) ≤ (L : Int) := by omega
      have i2 : (k : Int) ≤ (c : Int) := by omega
      have i3 : (k : Int) < (L : Int) := by omega
      by_cases h4 : 1125899906842624 ≤ f k
      · have HN := Lib.hid (show ¬ PrsP n T L f from fun h => by have := (h k hlt).1; omega)
        have h5 : (1125899906842624 ≤ (f k : Int)) = True := by simp; omega
        have h7 : decide (1125899906842624 ≤ (f k : Int)) = true := by simp; omega
        clear h4
        go_wp2
        go_ret
        exact Tells.no HN.out (kV.trans kr)
      have h5 : (1125899906842624 ≤ (f k : Int)) = False := by simp; omega
      have h7 : decide (1125899906842624 ≤ (f k : Int)) = false := by simp; omega
      have H4 := Lib.hid h4
      clear h4
      by_cases h8 : f k = T
      · have HN := Lib.hid (show ¬ PrsP n T L f from fun h => (h k hlt).2.1 h8)
        have h9 : ((f k : Int) == (T : Int)) = true := by rw [h8]; simp
        clear h8
        go_wp2
        go_ret
        exact Tells.no HN.out (kV.trans kr)
      have h9 : ((f k : Int) == (T : Int)) = false := by simp; omega
      have H8 := Lib.hid h8
      clear h8
      go_wp2_with fail
      refine (contains_any _ k c (f k) f wr HXk.out (by omega)).mono ?_
      rintro ee w1 ⟨b, hb, rfl, rfl⟩
      cases b
      case true =>
        have HN := Lib.hid (show ¬ PrsP n T L f from fun h => by
          obtain ⟨i, hi, he⟩ := hb.out.1 rfl
          exact (h k hlt).2.2.1 i hi he)
        go_wp2
        go_ret
        exact Tells.no HN.out (kV.trans kr)
      have HB := Lib.hid (show ∀ i, i < k → f i ≠ f k from fun i hi he => by
        have := hb.out.2 ⟨i, hi, he⟩; cases this)
      clear hb
      go_wp2_with fail
      refine (isFriendly_any n (f k) (T : Int) W (some ad) L c wr hn0 hn1 hql (HT.out.ext (kV.trans kr))).mono ?_
      rintro ee w2 (⟨hy, rfl, k2⟩ | ⟨hy, rfl, k2⟩)
      · have HALL := Lib.hid (show ∀ j, j < k + 1 → f j < 1125899906842624 ∧ f j ≠ T ∧ (∀ i, i < j → f i ≠ f j) ∧ FrP n (f j) from fun j hj => by
          by_cases hjk : j = k
          · subst hjk; exact ⟨by have := H4.out; omega, H8.out, HB.out, hy⟩
          · exact hall.out j (by omega))
        clear hy
        go_wp2
        exact ⟨⟨k + 1, by omega, by go_num, HALL, kr.trans k2⟩, by simp [intOf]; omega⟩
      · have HN := Lib.hid (show ¬ PrsP n T L f from fun h => hy (h k hlt).2.2.2)
        clear hy
        go_wp2
        go_ret
        exact Tells.no HN.out (kV.trans (kr.trans k2))
    · have HP := Lib.hid (show PrsP n T L f from fun j hj => hall.out j (by omega))
      go_wp2
      go_ret
      exact Tells.yes HP.out (kV.trans kr)
theorem rowX (N : Int) (R : Nat) (w : World) (hR : Hid (R = rowS N)) : Calls Tryz.prog 217 #[.int .i64 N] w fun e w' => e = .returned (.int .i64 (R : Int)) ∧ Ext w w' :=
  (row_any N w).mono fun e w' ⟨he, hw⟩ => ⟨by rw [hR.out]; exact he, by rw [hw]; exact Ext.refl _⟩
theorem bitsX {A : Option Addr} {n c X B : Nat} {w : World} (h : NX w A n c (nw X)) (hn : n ≤ 1000) (hB : Hid (B = Go.bitLen X)) :
    Calls Tryz.prog 167 #[.slice A n c] w fun e w' => e = .returned (.int .i64 (B : Int)) ∧ Ext w w' :=
  (natBits_any A n c w.heap.size (nw X) w h (by omega)).mono fun e w' ⟨he, hw⟩ => ⟨by rw [hB.out, he, nv_nw], by rw [hw]; exact Ext.refl _⟩
/-- Does the row allow it? -/
def BitsP (N : Int) (X : Nat) : Prop := Go.bitLen X ≤ rowS N
set_option maxHeartbeats 4000000 in
theorem mayProduct_any (N T : Int) (W : Int) (A : Option Addr) (L c : Nat) (f : Nat → Nat) (w : World) (hL : L ≤ 100) (hX : FX w A L c f) (hf : Hid (∀ j, j < L → f j < 18446744073709551616)) :
    Calls Tryz.prog 160 #[.agg #[.int .i64 N, .int .u64 T, .slice A L c, .int .i64 W]] w (Tells w (BitsP N (prodF f L))) := by
  have HX := Lib.hid hX
  clear hX
  have kV : Ext w (w.alloc (.cells #[.int .i64 N, .int .u64 T, .slice A L c, .int .i64 W] 186)) := (Ext.refl w).alloc _
  obtain ⟨x0, x1, x2, x3⟩ := four_at w (.int .i64 N) (.int .u64 T) (.slice A L c) (.int .i64 W) 186
  obtain ⟨R, hR0⟩ : ∃ R, R = rowS N := ⟨_, rfl⟩
  obtain ⟨B, hB0⟩ : ∃ B, B = Go.bitLen (prodF f L) := ⟨_, rfl⟩
  have HP := Lib.hid (show BitsP N (prodF f L) ↔ B ≤ R by rw [hR0, hB0]; exact Iff.rfl)
  have HR := Lib.hid hR0
  have HB := Lib.hid hB0
  clear hR0 hB0
  go_enter Tryz.func160, Tryz.ntmps160
  go_wp2_with fail
  generalize w.alloc (.cells #[.int .i64 N, .int .u64 T, .slice A L c, .int .i64 W] 186) = V at *
  have kk : Ext V V := Ext.refl V
  go_region_held3 (fun w' => w'.cell? ⟨w.heap.size, 0, none⟩ = some (.int .i64 N) ∧ w'.cell? ⟨w.heap.size, 2, none⟩ = some (.slice A L c)) (go_keep)
    (first
      | (go_at_call 167; refine (bitsX (NX.ext HN.out (by first | exact kx | exact Ext.drew kx)) (by omega) HB).mono ?_; rintro e5 w5 ⟨rfl, k5⟩; (try replace kx := Ext.trans (by first | exact kx | exact Ext.drew kx) k5); replace kk : Ext V w5 := (by first | exact Ext.trans kk k5 | exact Ext.trans (Ext.drew kk) k5); have d0 := cell_ext kk x0; have d2 := cell_ext kk x2)
      | (go_at_call 164; refine (Product_any A L c f _ (by omega) (HX.out.ext (kV.trans (by first | exact kk | exact Ext.drew kk))) hf).mono ?_; rintro e4 w4 ⟨A2, n2, c2, rfl, hn2, hx2, k4⟩; have HN := Lib.hid hx2; clear hx2; have kx : Ext w4 w4 := Ext.refl w4; replace kk : Ext V w4 := (by first | exact Ext.trans kk k4 | exact Ext.trans (Ext.drew kk) k4); have d0 := cell_ext kk x0; have d2 := cell_ext kk x2)
      | (go_at_call 217; refine (rowX N R _ HR).mono ?_; rintro e6 w6 ⟨rfl, k6⟩; (try replace kx := Ext.trans (by first | exact kx | exact Ext.drew kx) k6); replace kk : Ext V w6 := (by first | exact Ext.trans kk k6 | exact Ext.trans (Ext.drew kk) k6); have d0 := cell_ext kk x0; have d2 := cell_ext kk x2)
      | fail)
  all_goals
    have kz := kV.trans kk
    by_cases h : B ≤ R
    · have H := Lib.hid (HP.out.2 h)
      have e1 : decide (B ≤ R) = true := decide_eq_true h
      clear h
      go_wp2
      go_ret
      exact (show Tells w (BitsP N (prodF f L)) (.returned (.bool (decide (B ≤ R)))) _ by rw [e1]; exact Tells.yes H.out kz)
    · have H := Lib.hid (fun h' => h (HP.out.1 h'))
      have e1 : decide (B ≤ R) = false := decide_eq_false h
      clear h
      go_wp2
      go_ret
      exact (show Tells w (BitsP N (prodF f L)) (.returned (.bool (decide (B ≤ R)))) _ by rw [e1]; exact Tells.no H.out kz)
end Go.Proofs.YtbpehdfpiembfaaGreatDoor

/-
  What conditions, Check, Modulus and Step of package param answer.
-/
namespace Go.Proofs.YtbpehdfpiembfaaGreatDoor
open Go.RowKit
set_option linter.unusedVariables false
set_option maxRecDepth 100000

/-- The conditions, one behind the other. -/
def cnd (N : Int) (T L : Nat) (f : Nat → Nat) (W : Int) : Nat → Prop
  | 0 => SizeP N
  | 1 => 1 ≤ W ∧ W ≤ 16
  | 2 => PlainP N.toNat T
  | 3 => CountP L
  | 4 => PrsP N.toNat T L f
  | _ => BitsP N (prodF f L)
/-- Parameters that may be. -/
def ParP (N : Int) (T L : Nat) (f : Nat → Nat) (W : Int) : Prop := ∀ k, k < 6 → cnd N T L f W k
/-- It is no error, or ErrParam. -/
def Chk8 (w : World) (P : Prop) (ee : Ending) (w' : World) : Prop := (P ∧ ee = .returned (.int .i64 0) ∧ Ext w w') ∨ (¬ P ∧ ee = .returned (.int .i64 8) ∧ Ext w w')
theorem Chk8.yes {w w' : World} {P : Prop} (h : P) (k : Ext w w') : Chk8 w P (.returned (.int .i64 0)) w' := .inl ⟨h, rfl, k⟩
theorem Chk8.no {w w' : World} {P : Prop} (h : ¬ P) (k : Ext w w') : Chk8 w P (.returned (.int .i64 8)) w' := .inr ⟨h, rfl, k⟩
def cndF : Nat → Nat
  | 0 => 155
  | 1 => 156
  | 2 => 157
  | 3 => 158
  | 4 => 159
  | _ => 160
theorem conditions_any (N T W : Int) (A : Option Addr) (L c : Nat) (w : World) :
    Calls Tryz.prog 108 #[.agg #[.int .i64 N, .int .u64 T, .slice A L c, .int .i64 W]] w fun ee w' => ∃ g, ee = .returned (.slice (some ⟨g, 0, none⟩) 6 6) ∧ Hid (∀ k, k < 6 → w'.cell? ⟨g, k, none⟩ = some (.func (.func (cndF k)) #[.agg #[.int .i64 N, .int .u64 T, .slice A L c, .int .i64 W]] #[])) ∧ Ext w w' := by
  go_enter Tryz.func108, Tryz.ntmps108
  go_wp2
  go_ret
  refine ⟨_, rfl, Lib.hid fun k hk => ?_, ((Ext.refl w).alloc _).alloc _⟩
  rcases (show k = 0 ∨ k = 1 ∨ k = 2 ∨ k = 3 ∨ k = 4 ∨ k = 5 by omega) with rfl | rfl | rfl | rfl | rfl | rfl <;> simp [cndF]
theorem size_nat {N : Int} (h : SizeP N) : ∃ n : Nat, N = (n : Int) ∧ 8 ≤ n ∧ n ≤ 4096 := by
  obtain ⟨n, rfl⟩ := Int.eq_ofNat_of_zero_le (show 0 ≤ N by have := h.1; omega)
  exact ⟨n, rfl, by have := h.1; omega, by have := h.2.1; omega⟩
theorem cnd_step {N : Int} {T L : Nat} {f : Nat → Nat} {W : Int} {k : Nat} (h : ∀ j, j < k → cnd N T L f W j) (hy : cnd N T L f W k) : ∀ j, j < k + 1 → cnd N T L f W j := fun j hj => by
  rcases Nat.lt_or_eq_of_le (Nat.le_of_lt_succ hj) with g | g
  · exact h j g
  · rw [g]; exact hy
set_option maxHeartbeats 4000000 in
theorem check_any (N : Int) (T : Nat) (W : Int) (A : Option Addr) (L c : Nat) (f : Nat → Nat) (w : World) (n0 : -9223372036854775808 ≤ N) (n1 : N < 9223372036854775808) (hTl : T < 18446744073709551616) (hL : L ≤ 1000000000000000) (hX : FX w A L c f) (hf : Hid (∀ j, j < L → f j < 18446744073709551616)) (hT : Tabs w) :
    Calls Tryz.prog 57 #[.agg #[.int .i64 N, .int .u64 (T : Int), .slice A L c, .int .i64 W]] w (Chk8 w (ParP N T L f W)) := by
  have HT := Lib.hid hT
  have HX := Lib.hid hX
  clear hT hX
  have kV : Ext w (w.alloc (.cells #[.int .i64 N, .int .u64 (T : Int), .slice A L c, .int .i64 W] 25)) := (Ext.refl w).alloc _
  obtain ⟨x0, x1, x2, x3⟩ := four_at w (.int .i64 N) (.int .u64 (T : Int)) (.slice A L c) (.int .i64 W) 25
  go_enter Tryz.func57, Tryz.ntmps57
  go_wp2_with fail
  generalize w.alloc (.cells #[.int .i64 N, .int .u64 (T : Int), .slice A L c, .int .i64 W] 25) = V at *
  refine (conditions_any N (T : Int) W A L c V).mono ?_
  rintro ee w1 ⟨g, rfl, hc, k1⟩
  clear x0 x1 x2 x3
  go_wp2
  go_loopw [9] (fun i wr => ∃ k : Nat, k ≤ 6 ∧ i = .int .i64 (k : Int) ∧ Hid (∀ j, j < k → cnd N T L f W j) ∧ Ext w1 wr) (fun i _ => 6 - (intOf i).toNat)
  case atStart => exact ⟨0, by omega, rfl, Lib.hid fun j hj => by omega, Ext.refl _⟩
  case round =>
    obtain ⟨k, hk, rfl, hall, kr⟩ := hrel
    have kw : Ext w wr := kV.trans (k1.trans kr)
    by_cases hlt : k < 6
    · have hcell := cell_ext kr (hc.out k hlt)
      have HY := Lib.hid (cnd_step (k := k) hall.out)
      have HN := Lib.hid (show ¬ cnd N T L f W k → ¬ ParP N T L f W from fun h h' => h (h' k hlt))
      have key : ∀ fn : Nat, fn = cndF k → True := fun _ _ => trivial
      clear key
      have e1 : (0 : Int) ≤ (k : Int) := by omega
      have e2 : (k : Int) < 6 := by omega
      rcases (show k = 0 ∨ k = 1 ∨ k = 2 ∨ k = 3 ∨ k = 4 ∨ k = 5 by omega) with rfl | rfl | rfl | rfl | rfl | rfl
      all_goals
        have HC := Lib.hid hcell
        clear hcell
        have hcell := HC.out
        simp only [cndF] at hcell
        clear HC
      · go_wp2_with fail
        refine (maySize_any N (T : Int) W A L c _ n0 n1).mono ?_
        rintro ee w2 (⟨hy, rfl, k2⟩ | ⟨hy, rfl, k2⟩)
        · have H2 := Lib.hid (HY.out hy)
          clear hy
          go_wp2
          exact ⟨⟨1, by omega, by go_num, H2, kr.trans k2⟩, by simp [intOf]⟩
        · have H2 := Lib.hid (HN.out hy)
          clear hy
          go_wp2
          go_ret
          exact Chk8.no H2.out (kw.trans k2)
      · go_wp2_with fail
        refine (mayWidth_any N (T : Int) W A L c _).mono ?_
        rintro ee w2 (⟨hy, rfl, k2⟩ | ⟨hy, rfl, k2⟩)
        · have H2 := Lib.hid (HY.out hy)
          clear hy
          go_wp2
          exact ⟨⟨2, by omega, by go_num, H2, kr.trans k2⟩, by simp [intOf]⟩
        · have H2 := Lib.hid (HN.out hy)
          clear hy
          go_wp2
          go_ret
          exact Chk8.no H2.out (kw.trans k2)
      · obtain ⟨n, rfl, hn0, hn1⟩ := size_nat (hall.out 0 (by omega))
        go_wp2_with fail
        refine (mayPlain_any n T W A L c _ hn0 hn1 hTl (HT.out.ext kw)).mono ?_
        rintro ee w2 (⟨hy, rfl, k2⟩ | ⟨hy, rfl, k2⟩)
        · have H2 := Lib.hid (HY.out hy)
          clear hy
          go_wp2
          exact ⟨⟨3, by omega, by go_num, H2, kr.trans k2⟩, by simp [intOf]⟩
        · have H2 := Lib.hid (HN.out hy)
          clear hy
          go_wp2
          go_ret
          exact Chk8.no H2.out (kw.trans k2)
      · obtain ⟨n, rfl, hn0, hn1⟩ := size_nat (hall.out 0 (by omega))
        go_wp2_with fail
        refine (mayCount_any (n : Int) (T : Int) W A L c _ hL).mono ?_
        rintro ee w2 (⟨hy, rfl, k2⟩ | ⟨hy, rfl, k2⟩)
        · have H2 := Lib.hid (HY.out hy)
          clear hy
          go_wp2
          exact ⟨⟨4, by omega, by go_num, H2, kr.trans k2⟩, by simp [intOf]⟩
        · have H2 := Lib.hid (HN.out hy)
          clear hy
          go_wp2
          go_ret
          exact Chk8.no H2.out (kw.trans k2)
      · obtain ⟨n, rfl, hn0, hn1⟩ := size_nat (hall.out 0 (by omega))
        have hL8 : L ≤ 100 := by have := (hall.out 3 (by omega)).2; omega
        go_wp2_with fail
        refine (mayPrimes_any n T W A L c f _ hn0 hn1 (by omega) hTl (HX.out.ext kw) hf (HT.out.ext kw)).mono ?_
        rintro ee w2 (⟨hy, rfl, k2⟩ | ⟨hy, rfl, k2⟩)
        · have H2 := Lib.hid (HY.out hy)
          clear hy
          go_wp2
          exact ⟨⟨5, by omega, by go_num, H2, kr.trans k2⟩, by simp [intOf]⟩
        · have H2 := Lib.hid (HN.out hy)
          clear hy
          go_wp2
          go_ret
          exact Chk8.no H2.out (kw.trans k2)
      · obtain ⟨n, rfl, hn0, hn1⟩ := size_nat (hall.out 0 (by omega))
        have hL8 : L ≤ 100 := by have := (hall.out 3 (by omega)).2; omega
        go_wp2_with fail
        refine (mayProduct_any (n : Int) (T : Int) W A L c f _ hL8 (HX.out.ext kw) hf).mono ?_
        rintro ee w2 (⟨hy, rfl, k2⟩ | ⟨hy, rfl, k2⟩)
        · have H2 := Lib.hid (HY.out hy)
          clear hy
          go_wp2
          exact ⟨⟨6, by omega, by go_num, H2, kr.trans k2⟩, by simp [intOf]⟩
        · have H2 := Lib.hid (HN.out hy)
          clear hy
          go_wp2
          go_ret
          exact Chk8.no H2.out (kw.trans k2)
    · obtain rfl : k = 6 := by omega
      have HP := Lib.hid (show ParP N T L f W from hall.out)
      clear hlt hk
      go_wp2
      go_ret
      exact Chk8.yes HP.out kw
end Go.Proofs.YtbpehdfpiembfaaGreatDoor
