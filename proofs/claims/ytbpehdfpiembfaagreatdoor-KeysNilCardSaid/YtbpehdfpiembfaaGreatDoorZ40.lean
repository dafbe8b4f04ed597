/-
  What New of package batch answers.
-/
import Derived.Test.YtbpehdfpiembfaaGreatDoorZ35
import Derived.Test.YtbpehdfpiembfaaGreatDoorZ38
import Derived.Test.YtbpehdfpiembfaaGreatDoorZ39
import Derived.Test.YtbpehdfpiembfaaGreatDoorZ26
import Derived.Test.YtbpehdfpiembfaaGreatDoorZ25
import Derived.Deep.Upon
import Derived.Test.YtbpehdfpiembfaaGreatDoorZSCrt
import Derived.Test.YtbpehdfpiembfaaGreatDoorZ34
namespace Go.Proofs.YtbpehdfpiembfaaGreatDoor
open Go.RowKit
set_option linter.unusedVariables false
set_option maxRecDepth 100000

theorem sml_all : ∀ n, n < 65 → 8 ≤ n → stepS n = true → (n = 8 ∨ n = 16 ∨ n = 32 ∨ n = 64) := by decide +kernel
theorem sml_step {n : Nat} (h : Sml n) : stepS (2 * n) = true := by rcases h with rfl | rfl | rfl | rfl <;> decide +kernel
theorem sml_log {n : Nat} (h : Sml n) : ∃ k, n = 2 ^ k ∧ 3 ≤ k ∧ k ≤ 6 := by
  rcases h with rfl | rfl | rfl | rfl
  · exact ⟨3, by decide, by omega, by omega⟩
  · exact ⟨4, by decide, by omega, by omega⟩
  · exact ⟨5, by decide, by omega, by omega⟩
  · exact ⟨6, by decide, by omega, by omega⟩
theorem sml_le {n : Nat} (h : Sml n) : 8 ≤ n ∧ n ≤ 64 ∧ n % 2 = 0 := by rcases h with rfl | rfl | rfl | rfl <;> omega
/-- A number that is no square, below T and below 1000. -/
theorem sq_both {n T : Nat} (hn : Sml n) (hT : PlainP n T) : ∃ x, x < T ∧ x < 1000 ∧ noSq T x = true := by
  have h16 : T % 16 = 1 := by
    have h1 := hT.2.1
    have h2 := Nat.mod_mul_right_mod T 16 (n / 8)
    have h3 : 16 * (n / 8) = 2 * n := by rcases hn with rfl | rfl | rfl | rfl <;> omega
    rw [h3, h1] at h2
    rw [← h2]
  obtain ⟨x, hx, he⟩ := sq_below h16 hT.1 hT.2.2
  have hT2 := isS_ge hT.2.2
  refine ⟨x % T, Nat.mod_lt _ (by omega), Nat.lt_of_le_of_lt (Nat.mod_le _ _) hx, ?_⟩
  unfold noSq
  rw [← Nat.pow_mod]
  exact decide_eq_true he
theorem fit_plain {n T : Nat} (hn : Sml n) (hT : PlainP n T) : ∃ k, 3 ≤ k ∧ k ≤ 6 ∧ Fit n T k := by
  obtain ⟨k, hk, h1, h2⟩ := sml_log hn
  obtain ⟨x, hx, _, hs⟩ := sq_both hn hT
  exact ⟨k, h1, h2, hk, by omega, by omega, by have := hT.1; omega, sml_step hn, hT.2.1, hT.2.2, x, hx, hs⟩
/-- What New answers. -/
def BNew (w : World) (P : Prop) (n T : Nat) (ee : Ending) (w' : World) : Prop :=
  (¬ P ∧ ee = .returned (.tuple #[.pointer none, .int .i64 8]) ∧ Ext w w') ∨
  (P ∧ ∃ p k r v x : Nat, First T x ∧ Hid (r = rootS T (2 * n) x) ∧ ee = .returned (.tuple #[.pointer (some ⟨p, 0, none⟩), .int .i64 0]) ∧ Bt w' p n T k r v ∧ Ext w w')
set_option maxHeartbeats 4000000 in
theorem bnew_any {N : Int} {T : Nat} {Wd : Int} {A : Option Addr} {L c : Nat} {f : Nat → Nat} {w : World} (hP : PA w N T A L c Wd f) (hL : L ≤ 100) (hN : N ≤ 64) (hT : Tabs w) :
    Calls Tryz.prog 137 #[.agg #[.int .i64 N, .int .u64 (T : Int), .slice A L c, .int .i64 Wd]] w (BNew w (ParP N T L f Wd) N.toNat T) := by
  have HP := Lib.hid hP
  have HT := Lib.hid hT
  clear hP hT
  have kV : Ext w (w.alloc (.cells #[.int .i64 N, .int .u64 (T : Int), .slice A L c, .int .i64 Wd] 25)) := (Ext.refl w).alloc _
  obtain ⟨x0, x1, x2, x3⟩ := four_at w (.int .i64 N) (.int .u64 (T : Int)) (.slice A L c) (.int .i64 Wd) 25
  go_enter Tryz.func137, Tryz.ntmps137
  go_wp2_with fail
  generalize w.alloc (.cells #[.int .i64 N, .int .u64 (T : Int), .slice A L c, .int .i64 Wd] 25) = V at *
  refine (check_any N T Wd A L c f V HP.out.n0 HP.out.n1 HP.out.t1 (by omega) (HP.out.ext kV).fx (Lib.hid HP.out.words) (HT.out.ext kV)).mono ?_
  rintro ee w1 (⟨hy, rfl, k1⟩ | ⟨hy, rfl, k1⟩)
  case inr =>
    have H := Lib.hid hy
    clear hy
    go_wp2
    go_ret2
    exact .inl ⟨H.out, rfl, kV.trans k1⟩
  obtain ⟨n, rfl, hn0, hn1⟩ := size_nat (hy 0 (by omega))
  have hs : Sml n := sml_all n (by omega) hn0 (hy 0 (by omega)).2.2
  obtain ⟨k, hk3, hk6, hF⟩ := fit_plain hs (show PlainP n T from hy 2 (by omega))
  have HY := Lib.hid hy
  have HF := Lib.hid hF
  have HS := Lib.hid hs
  have hev := (sml_le hs).2.2
  clear hy hs hF
  replace x0 := cell_ext k1 x0
  replace x1 := cell_ext k1 x1
  replace x2 := cell_ext k1 x2
  replace x3 := cell_ext k1 x3
  replace kV := kV.trans k1
  clear k1
  go_wp2_with fail
  refine (new_any n T k w1 HF (HT.out.ext kV)).mono ?_
  rintro ee w2 ⟨t, r, v, x, hx, hr, rfl, ht, k2⟩
  have HX := Lib.hid hx
  have HTB := Lib.hid ht
  clear hx ht
  replace x0 := cell_ext k2 x0
  replace x1 := cell_ext k2 x1
  replace x2 := cell_ext k2 x2
  replace x3 := cell_ext k2 x3
  replace kV := kV.trans k2
  clear k2
  have kk : Ext w2 w2 := Ext.refl w2
  go_wp2_with fail
  go_region_held3 (fun w' => w'.cell? ⟨w.heap.size, 0, none⟩ = some (.int .i64 (n : Int)) ∧ w'.cell? ⟨w.heap.size, 1, none⟩ = some (.int .u64 (T : Int))) (go_keep)
    (first
      | (go_at_call 194; refine (placesOf_any n _ (by omega) (by omega) hev).mono ?_; rintro e4 w4 ⟨g, rfl, hg, hrw, k4⟩; have HRW := Lib.hid hrw; clear hrw; replace kk : Ext w2 w4 := (by first | exact Ext.trans kk k4 | exact Ext.trans (Ext.drew kk) k4); have d0 := cell_ext kk x0; have d1 := cell_ext kk x1)
      | fail)
  all_goals
    have ka : Ext w4 (w4.alloc (.cells #[.int .u64 (T : Int), .slice (some ⟨g, 0, none⟩) (n / 2) (n / 2), .func (.func 195) #[.pointer (some ⟨t, 0, none⟩)] #[], .func (.func 196) #[.pointer (some ⟨t, 0, none⟩)] #[]] 257)) := (Ext.refl _).alloc _
    obtain ⟨q0, q1, q2, q3⟩ := four_at w4 (.int .u64 (T : Int)) (.slice (some ⟨g, 0, none⟩) (n / 2) (n / 2)) (.func (.func 195) #[.pointer (some ⟨t, 0, none⟩)] #[]) (.func (.func 196) #[.pointer (some ⟨t, 0, none⟩)] #[]) 257
    have HB := Lib.hid (show Bt (w4.alloc (.cells #[.int .u64 (T : Int), .slice (some ⟨g, 0, none⟩) (n / 2) (n / 2), .func (.func 195) #[.pointer (some ⟨t, 0, none⟩)] #[], .func (.func 196) #[.pointer (some ⟨t, 0, none⟩)] #[]] 257)) w4.heap.size n T k r v from ⟨g, t, q0, q1, q2, q3, HRW.out.ext ka, (HTB.out.ext kk).ext ka⟩)
    have kz := (kV.trans kk).trans ka
    clear q0 q1 q2 q3
    go_wp2
    go_ret2
    exact .inr ⟨HY.out, w4.heap.size, k, r, v, x, HX.out, hr, rfl, HB.out, kz⟩
end Go.Proofs.YtbpehdfpiembfaaGreatDoor

/-
  What is asked ahead of all draws, by the document; and what knows parameters, secret and tape.
-/
namespace Go.Proofs.YtbpehdfpiembfaaGreatDoor
open Go.RowKit
set_option linter.unusedVariables false
set_option maxRecDepth 100000

/-- What is told ahead of all draws. -/
def AskIs (P S R : Prop) (b : Bool) (x : Nat) : Prop := (¬ P ∧ x = 8) ∨ (P ∧ ¬ S ∧ x = 3) ∨ (P ∧ S ∧ ¬ R ∧ x = 5) ∨ (P ∧ S ∧ R ∧ x = if b then 1 else 0)
theorem ask_is (P S R : Prop) (b : Bool) : ∃ x, AskIs P S R b x := by
  by_cases p : P
  · by_cases s : S
    · by_cases r : R
      · exact ⟨_, .inr (.inr (.inr ⟨p, s, r, rfl⟩))⟩
      · exact ⟨_, .inr (.inr (.inl ⟨p, s, r, rfl⟩))⟩
    · exact ⟨_, .inr (.inl ⟨p, s, rfl⟩)⟩
  · exact ⟨_, .inl ⟨p, rfl⟩⟩
theorem par_8 {N : Int} {T L : Nat} {q : Nat → Nat} {Wd : Int} (h : ParP N T L q Wd) : 8 ≤ N := (show SizeP N from h 0 (by omega)).1
set_option maxHeartbeats 4000000 in
theorem refAsk_any {N : Int} {T L c : Nat} {Wd : Int} {A : Option Addr} {q : Nat → Nat} (n d m e : Nat) (B C : Option Addr) (v s : Nat → Int) (b : Bool) (x : Nat) (w : World) (hP : Hid (PA w N T A L c Wd q)) (hL : L ≤ 100) (hN : N ≤ 100000) (hX : VX w B n d v) (hn : n ≤ 100000) (hv : Hid (∀ i, i < n → -9223372036854775808 ≤ v i ∧ v i < 9223372036854775808)) (hS : VX w C m e s) (hm : m ≤ 100000) (hs : Hid (∀ i, i < m → -9223372036854775808 ≤ s i ∧ s i < 9223372036854775808))
    (hx : Hid (AskIs (ParP N T L q Wd) (SecP N n v) (StepsP N m s) b x)) :
    Calls Tryz.prog 44 #[.agg #[.int .i64 N, .int .u64 (T : Int), .slice A L c, .int .i64 Wd], .slice B n d, .slice C m e, .bool b] w fun ee w' => ee = .returned (.int .i64 (x : Int)) ∧ Ext w w' := by
  have HX := Lib.hid hX
  have HS := Lib.hid hS
  clear hX hS
  have hn0 := hP.out.n0
  have hn1 := hP.out.n1
  have ht1 := hP.out.t1
  have k0 : Ext w (w.alloc (.cells #[.int .i64 N, .int .u64 (T : Int), .slice A L c, .int .i64 Wd] 25)) := (Ext.refl w).alloc _
  obtain ⟨x0, x1, x2, x3⟩ := four_at w (.int .i64 N) (.int .u64 (T : Int)) (.slice A L c) (.int .i64 Wd) 25
  obtain ⟨z, hz⟩ := errZ (ParP N T L q Wd)
  have HZ := Lib.hid hz
  go_enter Tryz.func44, Tryz.ntmps44
  go_wp2_with fail
  generalize w.alloc (.cells #[.int .i64 N, .int .u64 (T : Int), .slice A L c, .int .i64 Wd] 25) = V0 at *
  refine (rcheckZ (z := z) (hP.out.ext k0) (by omega) HZ).mono ?_
  rintro ee V ⟨rfl, k1⟩
  replace x0 := cell_ext k1 x0
  replace x1 := cell_ext k1 x1
  replace x2 := cell_ext k1 x2
  replace x3 := cell_ext k1 x3
  replace k0 := k0.trans k1
  clear k1
  rcases hz with ⟨hp, rfl⟩ | ⟨hp, rfl⟩
  case inr =>
    have HP := Lib.hid hp
    clear hp
    have ex : x = 8 := by
      rcases hx.out with ⟨_, h⟩ | ⟨h, _⟩ | ⟨h, _⟩ | ⟨h, _⟩
      · exact h
      all_goals exact absurd h HP.out
    subst ex
    go_wp2
    go_ret
    exact ⟨rfl, k0⟩
  have h8 := par_8 hp
  have HP := Lib.hid hp
  clear hp
  go_wp2_with fail
  refine (refSecret_any N T Wd A L c n d B v V hn0 hn1 (HX.out.ext k0) hn hv).mono ?_
  rintro ee V1 (⟨hsec, rfl, k1⟩ | ⟨hsec, rfl, k1⟩)
  case inr =>
    have HSEC := Lib.hid hsec
    clear hsec
    have ex : x = 3 := by
      rcases hx.out with ⟨h, _⟩ | ⟨_, _, h⟩ | ⟨_, h, _⟩ | ⟨_, h, _⟩
      · exact absurd HP.out h
      · exact h
      all_goals exact absurd h HSEC.out
    subst ex
    go_wp2
    go_ret
    exact ⟨rfl, k0.trans k1⟩
  have HSEC := Lib.hid hsec
  replace x0 := cell_ext k1 x0
  replace k0 := k0.trans k1
  clear hsec k1 x1 x2 x3
  have hq0 : 0 ≤ N / 2 := by omega
  have hq1 : N / 2 ≤ 100000 := by omega
  go_wp2
  go_loop [10, 24] (fun l iv => ∃ k : Nat, k ≤ m ∧ iv = .int .i64 (k : Int) ∧ l = .int .i64 (prevF s k) ∧ StepsP N k s) (fun _ iv => m - (intOf iv).toNat)
  case atStart => exact ⟨0, by omega, rfl, rfl, fun i hi => absurd hi (by omega)⟩
  case round =>
    obtain ⟨k, hk, rfl, rfl, ht⟩ := hrel
    have HTN := Lib.hid ht
    clear ht
    by_cases hlt : k < m
    · obtain ⟨ad, rfl, hc⟩ := (HS.out.ext k0).cells (by omega)
      have hcell := hc k hlt
      obtain ⟨v0, v1⟩ := hs.out k hlt
      have HV := Lib.hid (show ∀ y l, y = s k → l = prevF s k → l < y → y < N / 2 → StepsP N (k + 1) s from fun y l hy hl h1 h2 => by subst hy hl; exact HTN.out.up h1 h2)
      have HW := Lib.hid (show ∀ y l, y = s k → l = prevF s k → ¬ (l < y ∧ y < N / 2) → x = 5 from fun y l hy hl h => by
        have hno : ¬ StepsP N m s := fun h2 => h (by subst hy hl; exact h2 k hlt)
        rcases hx.out with ⟨h, _⟩ | ⟨_, h, _⟩ | ⟨_, _, _, h⟩ | ⟨_, _, h, _⟩
        · exact absurd HP.out h
        · exact absurd HSEC.out h
        · exact h
        · exact absurd h hno)
      have HR := Lib.hid (show ∀ y, y = s k → Value.int .i64 y = .int .i64 (prevF s (k + 1)) from fun y hy => by subst hy; rfl)
      clear hc
      obtain ⟨y, hy⟩ : ∃ y, y = s k := ⟨_, rfl⟩
      rw [← hy] at hcell v0 v1
      have HY := Lib.hid hy
      clear hy
      obtain ⟨l, hl⟩ : ∃ l, l = prevF s k := ⟨_, rfl⟩
      rw [← hl]
      have HL := Lib.hid hl
      clear hl
      by_cases a : y ≤ l
      · have ex := HW.out y l HY.out HL.out (by omega)
        subst ex
        go_wp2
        go_ret
        exact ⟨rfl, k0⟩
      · by_cases b : y ≥ N / 2
        · have ex := HW.out y l HY.out HL.out (by omega)
          subst ex
          go_wp2
          go_ret
          exact ⟨rfl, k0⟩
        · go_wp2
          go_round
          case rel => exact ⟨k + 1, by omega, by go_num, HR.out y HY.out, HV.out y l HY.out HL.out (by omega) (by omega)⟩
          case measure => simp [intOf]; omega
    · obtain rfl : k = m := by omega
      have ex : x = if b then 1 else 0 := by
        rcases hx.out with ⟨h, _⟩ | ⟨_, h, _⟩ | ⟨_, _, h, _⟩ | ⟨_, _, _, h⟩
        · exact absurd HP.out h
        · exact absurd HSEC.out h
        · exact absurd HTN.out h
        · exact h
      subst ex
      cases b
      · go_wp2
        go_ret
        exact ⟨rfl, k0⟩
      · go_wp2
        go_ret
        exact ⟨rfl, k0⟩
end Go.Proofs.YtbpehdfpiembfaaGreatDoor

/-
  What Pack of package batch answers: slots laid one by one.
-/
namespace Go.Proofs.YtbpehdfpiembfaaGreatDoor
open Go.RowKit
set_option linter.unusedVariables false
set_option maxRecDepth 100000

/-- From a to b, of what was there, only block p has changed. -/
def OnB (p : Nat) (a b : World) : Prop := a.grownBy b (some p)
theorem OnB.refl (p : Nat) (a : World) : OnB p a a := ⟨rfl, rfl, rfl, Nat.le_refl _, fun _ _ _ => rfl⟩
theorem OnB.trans {p : Nat} {a b c : World} (h : OnB p a b) (k : OnB p b c) : OnB p a c := only_trans h k
theorem OnB.of {p : Nat} {a b : World} (k : Ext a b) : OnB p a b := ⟨k.os, k.tape, k.output, k.size, fun i hi _ => k.block i hi⟩
theorem OnB.set {p : Nat} {a b : World} (h : OnB p a b) (i : Nat) (v : Value) : OnB p a (b.setCell ⟨p, i, none⟩ v) := only_trans h (only_set v)
theorem Ext.onB {p : Nat} {w a b : World} (h : Ext w a) (k : OnB p a b) (hp : w.heap.size ≤ p) : Ext w b := below_only h k h.size hp
theorem OnB.ext {p : Nat} {a b c : World} (h : OnB p a b) (k : Ext b c) : OnB p a c := h.trans (OnB.of k)
theorem OnB.rw_ {p x m : Nat} {t : TypeId} {F : Nat → Value} {a b : World} (h : OnB p a b) (hr : RW a x t m F) (hne : x ≠ p) : RW b x t m F := RW.keep hr (h.block x hr.lt (fun e => hne (by injection e)))
theorem liftY (v : Int) (q y : Nat) (w : World) (hy : Hid (y = lif v q)) (hq0 : 0 < q) (v0 : -9223372036854775808 ≤ v) (v1 : v < 9223372036854775808) (hq : q < 18446744073709551616) :
    Calls Tryz.prog 154 #[.int .i64 v, .int .u64 (q : Int)] w fun e w' => e = .returned (.int .u64 (y : Int)) ∧ Ext w w' :=
  (liftM v q w hq0 v0 v1 hq).mono fun e w' ⟨m, hm, _, he, hk⟩ => ⟨by rw [hy.out, ← hm.out]; exact he, hk⟩
theorem far_block {w : World} {g i : Nat} {p : Addr} {u v : Value} (hp : p.block ≠ g) (hc : w.cell? p = some v) : (w.setCell ⟨g, i, none⟩ u).cell? p = some v :=
  (set_far (fun e => hp (by rw [← e]))).trans hc
/-- What lies where after k of the two stores. -/
def layF (y a0 a1 : Nat) (F : Nat → Nat) : Nat → Nat → Nat
  | 0, j => F j
  | 1, j => if j = a0 then y else F j
  | _, j => if j = a1 then y else if j = a0 then y else F j
def sheetF (T : Nat) (x y : Value) (j : Nat) : Value := if j = 0 then .int .u64 (T : Int) else if j = 1 then x else y
/-- What values are laid: the first k slots'. -/
def laidF (n T : Nat) (z : Nat → Int) (k j : Nat) : Nat := if slB n j < k then lif (z (slB n j)) T else 0
theorem laid_step {n T k : Nat} {z : Nat → Int} (hn : Sml n) (hk : k < n / 2) : ∀ j, j < n → layF (lif (z k) T) (atB n k) (n - 1 - atB n k) (laidF n T z k) 2 j = laidF n T z (k + 1) j := fun j hj => by
  have hs := sl_iff hn hk hj
  show (if j = n - 1 - atB n k then lif (z k) T else if j = atB n k then lif (z k) T else laidF n T z k j) = laidF n T z (k + 1) j
  unfold laidF
  by_cases h : slB n j = k
  · rw [if_pos (show slB n j < k + 1 by omega), h]
    rcases hs.1 h with h1 | h1
    · by_cases h2 : j = n - 1 - atB n k
      · rw [if_pos h2]
      · rw [if_neg h2, if_pos h1]
    · rw [if_pos h1]
  · have h1 : ¬ j = n - 1 - atB n k := fun e => h (hs.2 (.inr e))
    have h2 : ¬ j = atB n k := fun e => h (hs.2 (.inl e))
    rw [if_neg h1, if_neg h2]
    by_cases h3 : slB n j < k
    · rw [if_pos h3, if_pos (by omega)]
    · rw [if_neg h3, if_neg (by omega)]
end Go.Proofs.YtbpehdfpiembfaaGreatDoor

/-
  What lies elsewhere stays when a drawer's fields are laid.
-/
namespace Go.Proofs.YtbpehdfpiembfaaGreatDoor
open Go.RowKit
set_option linter.unusedVariables false
set_option maxRecDepth 100000

/-- The fields of no drawer. -/
def dr0 (i : Nat) : Value := if i = 0 then .int .i64 0 else if i = 1 then .int .u64 0 else if i = 2 then .slice none 0 0 else if i = 3 then .int .i64 0 else if i = 4 then .pointer none else if i = 5 then .pointer none else if i = 6 then .slice none 0 0 else .pointer none
theorem dr0_is (i : Nat) : dr0 i = .int .i64 0 ∨ (i = 1 ∧ dr0 i = .int .u64 0) ∨ dr0 i = .slice none 0 0 ∨ dr0 i = .pointer none := by
  unfold dr0
  repeat' split
  all_goals simp_all
section
variable {V W : World} {g : Nat}
theorem dr_at (hr : RW V g 151 8 dr0) {o : Nat} {v : Value} (hc : V.cell? ⟨g, o, none⟩ = some v) : v = dr0 o := by
  have h1 := hc
  rw [cell_of_row V g o _ 151 (0, 0) hr] at h1
  by_cases h : o < 8
  · simp [h] at h1
    exact h1.symm
  · simp [h] at h1
/-- A block with a cell that no drawer's is another one. -/
theorem dr_far (hr : RW V g 151 8 dr0) {b o : Nat} {v : Value} (hc : V.cell? ⟨b, o, none⟩ = some v) (h1 : v ≠ .int .i64 0) (h2 : v ≠ .int .u64 0) (h3 : v ≠ .slice none 0 0) (h4 : v ≠ .pointer none) : b ≠ g := fun e => by
  subst e
  have := dr_at hr hc
  rcases dr0_is o with h | ⟨_, h⟩ | h | h <;> rw [h] at this
  · exact h1 this
  · exact h2 this
  · exact h3 this
  · exact h4 this
theorem dr_type (hr : RW V g 151 8 dr0) {x m : Nat} {t : TypeId} {F : Nat → Value} (hx : RW V x t m F) (ht : t ≠ 151) : x ≠ g := RW.ne hx hr ht
theorem on_cell (ho : OnB g V W) {p : Addr} {v : Value} (hc : V.cell? p = some v) (hp : p.block ≠ g) : W.cell? p = some v := by
  rw [World.cell?_of_block (ho.block p.block (World.block_lt_of_cell? _ _ hc) (fun e => hp (by injection e)))]
  exact hc
theorem FX.on (hr : RW V g 151 8 dr0) (ho : OnB g V W) {A : Option Addr} {n c : Nat} {f : Nat → Nat} (h : FX V A n c f) (hn : 3 ≤ n) : FX W A n c f := by
  refine ⟨h.room, fun h0 => ?_⟩
  obtain ⟨ad, e, hc⟩ := h.cells h0
  refine ⟨ad, e, fun j hj => on_cell ho (hc j hj) (fun e2 => ?_)⟩
  rw [add_block] at e2
  have h1 := hc 1 (by omega)
  have h2 := hc 2 (by omega)
  have e3 : ∀ k, 0 < k → ad.add k = ⟨g, ad.off + k, none⟩ := fun k hk => by
    unfold Addr.add
    rw [if_neg (by omega)]
    obtain ⟨b, o, s⟩ := ad
    simp at e2
    subst e2
    rfl
  rw [e3 1 (by omega)] at h1
  rw [e3 2 (by omega)] at h2
  have g1 := dr_at hr h1
  have g2 := dr_at hr h2
  rcases dr0_is (ad.off + 1) with h | ⟨i1, h⟩ | h | h <;> rw [h] at g1
  · injection g1 with g1; cases g1
  · rcases dr0_is (ad.off + 2) with h | ⟨i2, h⟩ | h | h <;> rw [h] at g2
    · injection g2 with g2; cases g2
    · omega
    · cases g2
    · cases g2
  · cases g1
  · cases g1
theorem Tb.on (hr : RW V g 151 8 dr0) (ho : OnB g V W) {p n q : Nat} {a e : Nat → Nat} {gp ge : Nat} (h : Tb V V.heap.size p n q a e gp ge) (hn : 1 ≤ n) : Tb W W.heap.size p n q a e gp ge := by
  have np : p ≠ g := dr_far hr h.size (by simp; omega) (by simp) (by simp) (by simp)
  have k : ∀ {x m : Nat} {F : Nat → Value}, RW V x 231 m F → RW W x 231 m F := fun hx => ho.rw_ hx (dr_type hr hx (by decide))
  have hs := ho.size
  exact ⟨Nat.lt_of_lt_of_le h.hp hs, Nat.lt_of_lt_of_le h.hgp hs, Nat.lt_of_lt_of_le h.hge hs, on_cell ho h.size np, on_cell ho h.prime np, on_cell ho h.powers np, on_cell ho h.ends np, k h.pw, k h.en⟩
theorem Table.on (hr : RW V g 151 8 dr0) (ho : OnB g V W) {p n q k r v : Nat} (h : Table V p n q k r v) : Table W p n q k r v := by
  obtain ⟨a, e, gp, ge, h1, h2, h3⟩ := h.ex
  exact ⟨a, e, gp, ge, h1.on hr ho (by rw [h2.nk]; exact Nat.two_pow_pos _), h2, h3⟩
theorem Tab.on (hr : RW V g 151 8 dr0) (ho : OnB g V W) {p n q : Nat} {a e : Nat → Nat} (h : Tab V p n q a e) : Tab W p n q a e := by
  refine ⟨h.n0, h.n1, h.q0, h.q1, h.nk, h.al, h.el, ?_, fun hq => ?_⟩
  · obtain ⟨gp, ge, ht⟩ := h.tb
    exact ⟨gp, ge, ht.on hr ho (by have := h.n0; omega)⟩
  · obtain ⟨k, r, v', ht⟩ := h.root hq
    exact ⟨k, r, v', ht.on hr ho⟩
theorem Rg.on (hr : RW V g 151 8 dr0) (ho : OnB g V W) {r n L : Nat} {q p : Nat → Nat} {a e : Nat → Nat → Nat} (h : Rg V r n L q p a e) : Rg W r n L q p a e := by
  have np : r ≠ g := dr_far hr h.size (by have := h.n0; simp; omega) (by simp) (by simp) (by simp)
  obtain ⟨gf, h1, h2⟩ := h.ex
  exact ⟨h.l0, h.l1, h.n0, h.n1, h.ql, on_cell ho h.size np, ⟨gf, on_cell ho h1 np, ho.rw_ h2 (dr_type hr h2 (by decide))⟩, fun j hj => (h.tab j hj).on hr ho⟩
theorem Bt.on (hr : RW V g 151 8 dr0) (ho : OnB g V W) {p n T k r v : Nat} (h : Bt V p n T k r v) : Bt W p n T k r v := by
  obtain ⟨g', t, h0, h1, h2, h3, h4, h5⟩ := h.ex
  have np : p ≠ g := dr_far hr h1 (by simp) (by simp) (by simp) (by simp)
  exact ⟨g', t, on_cell ho h0 np, on_cell ho h1 np, on_cell ho h2 np, on_cell ho h3 np, ho.rw_ h4 (dr_type hr h4 (by decide)), h5.on hr ho⟩
theorem PM.on (hr : RW V g 151 8 dr0) (ho : OnB g V W) {G L n : Nat} {As : Nat → Option Addr} {cs : Nat → Nat} {F : Nat → Nat → Nat} (h : PM V G L n As cs F) (hn : 3 ≤ n) : PM W G L n As cs F :=
  ⟨ho.rw_ h.row (dr_type hr h.row (by decide)), fun j hj => (h.lists j hj).on hr ho hn⟩
end
end Go.Proofs.YtbpehdfpiembfaaGreatDoor

/-
  What Element of package crt answers of a row of whole numbers.
-/
namespace Go.Proofs.YtbpehdfpiembfaaGreatDoor
open Go.RowKit
set_option linter.unusedVariables false
set_option maxRecDepth 100000

/-- A row of whole numbers, wherever it was made. -/
theorem WK.onB {a b : World} {p g n k N : Nat} {s : Nat → Bool} {X : Nat → Nat} {w : World} (h : WK w g n k N s X) (e : Ext w a) (o : OnB p a b) (hp : w.heap.size ≤ p) : WK b g n k N s X := h.ext (e.onB o hp)
set_option maxHeartbeats 8000000 in
theorem Element_any (g n N L d : Nat) (s : Nat → Bool) (X : Nat → Nat) (B : Option Addr) (q : Nat → Nat) (w : World) (hW : WK w g n n N s X) (hN : N ≤ 1000) (hn0 : 0 < n) (hn : n ≤ 1000) (hB : FX w B L d q) (hq : Hid (∀ j, j < L → q j < 18446744073709551616)) (hT : Tabs w) (hR : RowC L q) :
    Calls Tryz.prog 117 #[.slice (some ⟨g, 0, none⟩) n n, .slice B L d] w fun ee w' => ∃ (G : Nat) (As : Nat → Option Addr) (F : Nat → Nat → Nat), ee = .returned (.tuple #[.agg #[.slice (some ⟨G, 0, none⟩) L L], .int .i64 0]) ∧ PM w' G L n As (fun _ => n) F ∧ Hid (∀ j, j < L → ∀ i, i < n → F j i = resF (s i) (nv (nw (X i))) (q j)) ∧ Ext w w' := by
  have HW := Lib.hid hW
  have HB := Lib.hid hB
  have HT := Lib.hid hT
  have HR := Lib.hid hR
  have hL0 := hR.1
  have hL := hR.2.1
  have HQ := Lib.hid (show ∀ j, j < L → 0 < q j ∧ q j < 18446744073709551616 from okq_lt hR)
  have hmk := make_ss L (by omega)
  have hmu := make_u64 n (by omega)
  have e0 : ((n : Int) == 0) = false := by simp; omega
  have k0 : Ext w (w.alloc (.cells #[.slice none 0 0] 28)) := (Ext.refl w).alloc _
  have hr0 : RW (w.alloc (.cells #[.slice none 0 0] 28)) w.heap.size 28 1 (fun _ => .slice none 0 0) := heap_alloc_new _ _
  clear hW hB hT hR
  go_enter Tryz.func117, Tryz.ntmps117
  go_wp2_with fail
  generalize w.alloc (.cells #[.slice none 0 0] 28) = V at *
  refine (isRow_any B L d q V (by omega) (HB.out.ext k0) hq (HT.out.ext k0)).mono ?_
  rintro e1 w1 h1
  obtain ⟨rfl, k1⟩ := tells_yes h1 HR.out
  clear h1
  replace hr0 := hr0.ext k1
  have kw1 := k0.trans k1
  have kb : Ext w1 (w1.alloc (.cells (newS L) 23)) := (Ext.refl w1).alloc _
  have hs0 := newS_rw w1 L
  go_wp2_with fail
  have hr1 := hr0.ext kb
  have kw2 := kw1.trans kb
  have hGw : w.heap.size ≤ w1.heap.size := kw1.size
  clear hmk k0 k1 hr0
  have hne : w.heap.size ≠ w1.heap.size := hr1.ne hs0 (by decide)
  generalize w1.alloc (.cells (newS L) 23) = V2 at *
  obtain ⟨G, hG⟩ : ∃ G, G = w1.heap.size := ⟨_, rfl⟩
  rw [← hG] at hs0 hGw hne ⊢
  clear hG kb kw1
  go_loopw [24] (fun iv wr => ∃ (k : Nat) (Ps : Nat → Nat) (F : Nat → Nat → Nat), k ≤ L ∧ iv = .int .i64 (k : Int) ∧ RW wr G 23 L (fun j => if j < k then .slice (some ⟨Ps j, 0, none⟩) n n else .slice none 0 0) ∧ (∀ j, j < k → UW wr (Ps j) n (F j)) ∧ RW wr w.heap.size 28 1 (fun _ => .slice none 0 0) ∧ Hid (∀ j, j < k → ∀ i, i < n → F j i = resF (s i) (nv (nw (X i))) (q j)) ∧ Ext w wr) (fun iv _ => L - (intOf iv).toNat)
  case atStart => exact ⟨0, fun _ => 0, fun _ _ => 0, by omega, rfl, hs0.congr fun j _ => by rw [if_neg (by omega)], fun j hj => by omega, hr1, Lib.hid fun j hj => by omega, kw2⟩
  case round =>
    obtain ⟨k, Ps, F, hk, rfl, hgr, hus, hrr, hF, kr⟩ := hrel
    clear hs0 hr1 kw2
    by_cases hlt : k < L
    · obtain ⟨adq, rfl, hcq⟩ := (HB.out.ext kr).cells (by omega)
      have cq := hcq k hlt
      have hql := HQ.out k hlt
      clear hcq
      obtain ⟨Q, hQ⟩ : ∃ Q, Q = q k := ⟨_, rfl⟩
      rw [← hQ] at cq hql
      have HQK := Lib.hid hQ
      clear hQ
      have i0 : (0 : Int) ≤ (k : Int) := by omega
      have i1 : (k : Int) < (L : Int) := by omega
      have ka : Ext wr (wr.alloc (.cells (newU n) 22)) := (Ext.refl wr).alloc _
      have hu0 := newU_uw wr n
      have hga := hgr.ext ka
      have hra := hrr.ext ka
      have kra := kr.trans ka
      have gcell := hga.cell hlt
      have gfro := hga.frozen k
      have glt := hga.lt
      have hwG : wr.heap.size ≠ G := by have := hgr.lt; omega
      have hwR : wr.heap.size ≠ w.heap.size := by have := hrr.lt; omega
      have hPs : ∀ j, j < k → Ps j ≠ wr.heap.size := fun j hj => by have := (hus j hj).lt; omega
      have husa := fun j hj => RW.ext (hus j hj) ka
      clear hgr hrr hus
      go_wp2_with fail
      obtain ⟨P, hP⟩ : ∃ P, P = wr.heap.size := ⟨_, rfl⟩
      rw [← hP] at hu0 hwG hwR hPs ⊢
      have hPw : w.heap.size ≤ P := by rw [hP]; exact kr.size
      have hPa : P < (wr.alloc (.cells (newU n) 22)).heap.size := RW.lt hu0
      clear hP
      have hg3 := (hga.set hlt (.slice (some ⟨P, 0, none⟩) n n)).congr (G := fun j => if j < k + 1 then .slice (some ⟨if j = k then P else Ps j, 0, none⟩) n n else .slice none 0 0) fun j hj => by
        by_cases e : j = k
        · subst e; rw [if_pos rfl, if_pos (by omega), if_pos rfl]
        · rw [if_neg e]
          by_cases e2 : j < k
          · rw [if_pos e2, if_pos (by omega), if_neg e]
          · rw [if_neg e2, if_neg (by omega)]
      have hu3 : UW ((wr.alloc (.cells (newU n) 22)).setCell ⟨G, k, none⟩ (.slice (some ⟨P, 0, none⟩) n n)) P n (fun _ => 0) := ((OnB.refl G _).set k _).rw_ hu0 hwG
      have hus3 : ∀ j, j < k → UW ((wr.alloc (.cells (newU n) 22)).setCell ⟨G, k, none⟩ (.slice (some ⟨P, 0, none⟩) n n)) (Ps j) n (F j) := fun j hj => ((OnB.refl G _).set k _).rw_ (husa j hj) (RW.ne (husa j hj) hga (by decide))
      have hr3 := ((OnB.refl G (wr.alloc (.cells (newU n) 22))).set k (.slice (some ⟨P, 0, none⟩) n n)).rw_ hra hne
      have k3 := kra.set (p := ⟨G, k, none⟩) hGw (.slice (some ⟨P, 0, none⟩) n n)
      have hP3 : P < ((wr.alloc (.cells (newU n) 22)).setCell ⟨G, k, none⟩ (.slice (some ⟨P, 0, none⟩) n n)).heap.size := RW.lt hu3
      clear hga hra husa gcell gfro glt hu0 ka kra hPa
      generalize (wr.alloc (.cells (newU n) 22)).setCell ⟨G, k, none⟩ (.slice (some ⟨P, 0, none⟩) n n) = V3 at *
      have g3 : V3.cell? ⟨G, k, none⟩ = some (.slice (some ⟨P, 0, none⟩) n n) := by rw [hg3.cell hlt, if_pos (by omega), if_pos rfl]
      have HG3 := Lib.hid hg3
      have HR3 := Lib.hid hr3
      have HUS := Lib.hid hus3
      clear hg3 hr3 hus3
      obtain ⟨R, hRd⟩ : ∃ R : Nat → Nat, R = fun i => resF (s i) (nv (nw (X i))) Q := ⟨_, rfl⟩
      have HRD := Lib.hid hRd
      clear hRd
      go_loopw [37] (fun iv wz => ∃ m : Nat, m ≤ n ∧ iv = .int .i64 (m : Int) ∧ UW wz P n (fun i => if i < m then R i else 0) ∧ OnB P V3 wz) (fun iv _ => n - (intOf iv).toNat)
      case atStart => exact ⟨0, by omega, rfl, UW.congr hu3 fun i _ => by rw [if_neg (by omega)], OnB.refl _ _⟩
      case round =>
        obtain ⟨m, hm, rfl, huz, hob⟩ := hrel
        clear hu3
        have kz : Ext w wr := k3.onB hob hPw
        by_cases hmn : m < n
        · obtain ⟨A4, m4, c4, b0, b1, hm4, hx4⟩ := (HW.out.ext kz).at hmn (Nat.le_refl _)
          have HX4 := Lib.hid hx4
          clear hx4
          have gz : wr.cell? ⟨G, k, none⟩ = some (.slice (some ⟨P, 0, none⟩) n n) := (hob.rw_ HG3.out (fun e => hwG e.symm)).cell hlt |>.trans (by rw [if_pos (by omega), if_pos rfl])
          have j0 : (0 : Int) ≤ (m : Int) := by omega
          have j1 : (m : Int) < (n : Int) := by omega
          have ka : Ext wr (wr.alloc (.cells #[.bool (s m), .slice A4 m4 c4] 50)) := (Ext.refl wr).alloc _
          have hy : RW (wr.alloc (.cells #[.bool (s m), .slice A4 m4 c4] 50)) wr.heap.size 50 2 (two (.bool (s m)) (.slice A4 m4 c4)) := heap_alloc_new _ _
          have hYP : wr.heap.size ≠ P := by have := RW.lt huz; omega
          have hua := RW.ext huz ka
          have ga := cell_ext ka gz
          go_wp2_with fail
          obtain ⟨Y, hY⟩ : ∃ Y, Y = wr.heap.size := ⟨_, rfl⟩
          rw [← hY] at hy hYP ⊢
          clear hY
          generalize wr.alloc (.cells #[.bool (s m), .slice A4 m4 c4] 50) = W at *
          have y0 : W.cell? ⟨Y, 0, none⟩ = some (.bool (s m)) := hy.cell (i := 0) (by omega)
          have y1 : W.cell? ⟨Y, 1, none⟩ = some (.slice A4 m4 c4) := hy.cell (i := 1) (by omega)
          have ne1 : (Y = P) = False := by simp; exact hYP
          have ne2 : (P = Y) = False := by simp; exact fun e => hYP e.symm
          have ne3 : (G = P) = False := by simp; exact fun e => hwG e.symm
          have ne4 : (P = G) = False := by simp; exact hwG
          have kk : Ext W W := Ext.refl W
          have HC5 := Lib.hid (show ∀ w5, Ext W w5 → w5.cell? ⟨P, m, none⟩ = some (.int .u64 0) ∧ w5.frozen? ⟨P, m, none⟩ = false ∧ P < w5.heap.size from fun w5 h => ⟨by have := RW.cell (RW.ext hua h) hmn; simpa using this, RW.frozen (RW.ext hua h) m, RW.lt (RW.ext hua h)⟩)
          have HUA := Lib.hid hua
          have HOB := Lib.hid hob
          clear b0 b1 gz hua hy hob huz
          go_region_held3 (fun w' => w'.cell? ⟨G, k, none⟩ = some (.slice (some ⟨P, 0, none⟩) n n) ∧ w'.cell? ⟨Y, 0, none⟩ = some (.bool (s m)) ∧ w'.cell? ⟨Y, 1, none⟩ = some (.slice A4 m4 c4)) (go_keep)
            (first
              | (go_at_call 180; refine (residue_any (s m) A4 m4 c4 Q (nw (X m)) _ (NX.ext HX4.out (ka.trans (by first | exact kk | exact Ext.drew kk))) (by omega) hql.1 hql.2).mono ?_; rintro e5 w5 ⟨y, hyv, hyl, rfl, k5⟩; replace kk : Ext W w5 := (by first | exact Ext.trans kk k5 | exact Ext.trans (Ext.drew kk) k5); have z0 := cell_ext kk ga; have z1 := cell_ext kk y0; have z2 := cell_ext kk y1; obtain ⟨c50, f50, s5⟩ := HC5.out _ kk)
              | fail)
          all_goals
            have kx := OnB.of (p := P) (ka.trans kk)
            have hun : UW (w5.setCell ⟨P, m, none⟩ (.int .u64 (y : Int))) P n (fun i => if i < m + 1 then R i else 0) := UW.congr (UW.set (RW.ext HUA.out kk) hmn y) fun i hi => by
              by_cases e : i = m
              · subst e; rw [if_pos rfl, if_pos (by omega), HRD.out, hyv.out]
              · rw [if_neg e]
                by_cases e2 : i < m
                · rw [if_pos e2, if_pos (by omega)]
                · rw [if_neg e2, if_neg (by omega)]
            have hon := (HOB.out.trans kx).set m (.int .u64 (y : Int))
            generalize w5.setCell ⟨P, m, none⟩ (.int .u64 (y : Int)) = w6 at *
            clear z0 z1 z2 c50 f50 s5
            go_wp2
            exact ⟨⟨m + 1, by omega, by go_num, hun, hon⟩, by simp [intOf]; omega⟩
        · obtain rfl : m = n := by omega
          have hgz := hob.rw_ HG3.out (fun e => hwG e.symm)
          have hrz := hob.rw_ HR3.out (fun e => hwR e.symm)
          have hfu : UW wr P m (fun i => resF (s i) (nv (nw (X i))) (q k)) := UW.congr huz fun i hi => by rw [if_pos hi, HRD.out, HQK.out]
          have husz : ∀ j, j < k → UW wr (Ps j) m (F j) := fun j hj => hob.rw_ (HUS.out j hj) (hPs j hj)
          have hall : ∀ j, j < k + 1 → UW wr (if j = k then P else Ps j) m (if j = k then (fun i => resF (s i) (nv (nw (X i))) (q k)) else F j) := fun j hj => by
            by_cases e : j = k
            · rw [if_pos e, if_pos e]; exact hfu
            · rw [if_neg e, if_neg e]; exact husz j (by omega)
          have HF2 := Lib.hid (show ∀ j, j < k + 1 → ∀ i, i < m → (if j = k then (fun i => resF (s i) (nv (nw (X i))) (q k)) else F j) i = resF (s i) (nv (nw (X i))) (q j) from fun j hj i hi => by
            by_cases e : j = k
            · rw [if_pos e, e]
            · rw [if_neg e]; exact hF.out j (by omega) i hi)
          clear huz hfu husz
          go_wp2
          exact ⟨⟨k + 1, fun j => if j = k then P else Ps j, fun j => if j = k then (fun i => resF (s i) (nv (nw (X i))) (q k)) else F j, by omega, by go_num, hgz, hall, hrz, HF2, kz⟩, by simp [intOf]; omega⟩
    · obtain rfl : k = L := by omega
      have hpm : PM wr G k n (fun j => some ⟨Ps j, 0, none⟩) (fun _ => n) F := ⟨hgr.congr fun j hj => by rw [if_pos hj], fun j hj => UW.fx (hus j hj)⟩
      have c0 := hrr.cell (i := 0) (by omega)
      have z0 := hrr.frozen 0
      have hsz := hrr.lt
      clear hgr hus
      go_wp2_with fail
      have d0 := ret_cell hrr (.slice (some ⟨G, 0, none⟩) k k)
      have d1 := kr.set (p := ⟨w.heap.size, 0, none⟩) (Nat.le_refl _) (.slice (some ⟨G, 0, none⟩) k k)
      have d2 := hpm.aside hrr rfl (.slice (some ⟨G, 0, none⟩) k k)
      generalize wr.setCell ⟨w.heap.size, 0, none⟩ (.slice (some ⟨G, 0, none⟩) k k) = w5 at *
      exact bodyPost_ret (v := .tuple #[.agg #[.slice (some ⟨G, 0, none⟩) k k], .int .i64 0]) (by simp [results, Tryz.results117, go_sem, d0]) rfl ⟨G, _, F, rfl, d2, hF, d1⟩
end Go.Proofs.YtbpehdfpiembfaaGreatDoor
