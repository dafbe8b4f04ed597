/-
  Arrays of three words compared.
-/
import Derived.Test.YtcclekboeppcfaaDoorY36
import Derived.DeepKeys
import Derived.Test.YtcclekboeppcfaaDoorY38
import Derived.Test.YtcclekboeppcfaaDoorY30
namespace Go.Proofs.YtcclekboeppcfaaDoor
open Go.RowKit
set_option linter.unusedVariables false
set_option maxRecDepth 100000

theorem cellsU : Tryd.prog.cellsOf 22 = 1 := by kernel_rfl
theorem part0 (a b c : Int) (w : World) : Sem.run Tryd.prog (Go.part 22 #[.int .u64 a, .int .u64 b, .int .u64 c] (0 * 1)) w = Result.ok (.int .u64 a) w := by kernel_rfl
theorem part1 (a b c : Int) (w : World) : Sem.run Tryd.prog (Go.part 22 #[.int .u64 a, .int .u64 b, .int .u64 c] (1 * 1)) w = Result.ok (.int .u64 b) w := by kernel_rfl
theorem part2 (a b c : Int) (w : World) : Sem.run Tryd.prog (Go.part 22 #[.int .u64 a, .int .u64 b, .int .u64 c] (2 * 1)) w = Result.ok (.int .u64 c) w := by kernel_rfl
theorem eq3 (a b c a' b' c' : Int) (w : World) : Sem.run Tryd.prog (Op.equalIn 10000 82 (.agg #[.int .u64 a, .int .u64 b, .int .u64 c]) (.agg #[.int .u64 a', .int .u64 b', .int .u64 c'])) w = .ok ((a == a') && ((b == b') && (c == c'))) w := by
  have hi : ∃ i, Tryd.prog.info? 22 = some i := ⟨_, rfl⟩
  obtain ⟨i, hi⟩ := hi
  show Sem.run Tryd.prog (Op.equalIn (9999 + 1) 82 _ _) w = _
  rw [run_equalIn_array w 9999 _ _ Tryd.underlying82 hi, cellsU]
  have r3 : List.range 3 = [0, 1, 2] := rfl
  rw [r3]
  have e0 : ∀ (x y : Int) (w : World), Sem.run Tryd.prog (Op.equalIn 9999 22 (.int .u64 x) (.int .u64 y)) w = .ok (x == y) w := fun x y w => run_equalIn_int w 9998 22 .u64 .u64 x y Tryd.underlying22
  simp only [Op.eqItems, Sem.run_bind]
  rw [part0, Result.andThen_ok, part0, Result.andThen_ok, e0, Result.andThen_ok]
  cases (a == a')
  · simp [go_sem]
  · simp only [Bool.not_true, Bool.false_eq_true, if_false, Sem.run_bind, Bool.true_and]
    rw [part1, Result.andThen_ok, part1, Result.andThen_ok, e0, Result.andThen_ok]
    cases (b == b')
    · simp [go_sem]
    · simp only [Bool.not_true, Bool.false_eq_true, if_false, Sem.run_bind, Bool.true_and]
      rw [part2, Result.andThen_ok, part2, Result.andThen_ok, e0, Result.andThen_ok]
      cases (c == c')
      · simp [go_sem]
      · simp [go_sem]
end Go.Proofs.YtcclekboeppcfaaDoor

/-
  The law ParamSame walked; which parameters are the same.
-/
namespace Go.Proofs.YtcclekboeppcfaaDoor
open Go.RowKit
set_option linter.unusedVariables false
set_option maxRecDepth 100000

/-- The same words. -/
def SameW (n n' : Nat) (f f' : Nat → Nat) : Prop := n = n' ∧ ∀ i, i < n → f i = f' i
set_option maxHeartbeats 1000000 in
theorem sameW_any (A A' : Option Addr) (n n' c c' : Nat) (f f' : Nat → Nat) (w : World) (hX : FX w A n c f) (hX' : FX w A' n' c' f') (hn : n ≤ 9223372036854775807) (hn' : n' ≤ 9223372036854775807) :
    Calls Tryd.prog 60 #[.slice A n c, .slice A' n' c'] w (Tells w (SameW n n' f f')) := by
  by_cases hne : n = n'
  case neg =>
    have HN := Lib.hid (show ¬ SameW n n' f f' from fun h => hne h.1)
    have e1 : ((n : Int) != (n' : Int)) = true := by simp; omega
    clear hne
    go_enter Tryd.func60, Tryd.ntmps60
    go_wp2
    go_ret
    exact Tells.no HN.out (Ext.refl _)
  subst hne
  go_enter Tryd.func60, Tryd.ntmps60
  go_wp2
  go_loopw [13] (fun i wr => ∃ m d : Nat, m ≤ n ∧ i = .int .i64 (m : Int) ∧ Hid (∀ i, i < m → f i = f' i) ∧ wr = w.drewN d) (fun i _ => n - (intOf i).toNat)
  case atStart => exact ⟨0, 0, by omega, rfl, Lib.hid fun i hi => by omega, rfl⟩
  case round =>
    obtain ⟨m, d, hm, rfl, hall, rfl⟩ := hrel
    by_cases hlt : m < n
    · obtain ⟨ad, rfl, hc⟩ := hX.cells (by omega)
      obtain ⟨ad', rfl, hc'⟩ := hX'.cells (by omega)
      have h1 := hc m hlt
      have h2 := hc' m hlt
      clear hc hc'
      have i0 : (0 : Int) ≤ (m : Int) := by omega
      have i1 : (m : Int) < (n : Int) := by omega
      by_cases he : f m = f' m
      · have HA := Lib.hid (show ∀ i, i < m + 1 → f i = f' i from fun i hi => by
          by_cases h : i = m
          · subst h; exact he
          · exact hall.out i (by omega))
        rw [← he] at h2
        clear he
        generalize f m = x at *
        go_wp2
        go_quiet (fail)
        go_wp2
        exact ⟨⟨m + 1, _, by omega, by go_num, HA, rfl⟩, by simp [intOf]; omega⟩
      · have HN := Lib.hid (show ¬ SameW n n f f' from fun h => he (h.2 m hlt))
        have e1 : ((f m : Int) != (f' m : Int)) = true := by simp; omega
        have e2 : ((f m : Int) == (f' m : Int)) = false := by simp; omega
        clear he
        go_wp2
        go_quiet (fail)
        go_wp2
        go_ret
        exact Tells.no HN.out (by first | exact (Ext.refl w).drewN _ | exact ((Ext.refl w).drewN _).drewN _ | exact ((Ext.refl w).drewN _).drew)
    · have HY := Lib.hid (show SameW n n f f' from ⟨rfl, fun i hi => hall.out i (by omega)⟩)
      go_wp2
      go_ret
      exact Tells.yes HY.out ((Ext.refl w).drewN d)
/-- It tells, and only draws. -/
def TellsQ (w : World) (P : Prop) (ee : Ending) (w' : World) : Prop := (P ∧ ee = .returned (.bool true) ∧ ∃ d, w' = w.drewN d) ∨ (¬ P ∧ ee = .returned (.bool false) ∧ ∃ d, w' = w.drewN d)
set_option maxHeartbeats 1000000 in
theorem equalT_any (A A' : Option Addr) (n n' c c' : Nat) (f f' : Nat → Nat) (w : World) (hX : FX w A n c f) (hX' : FX w A' n' c' f') (hn : n ≤ 9223372036854775807) (hn' : n' ≤ 9223372036854775807) :
    Calls Tryd.prog 58 #[.slice A n c, .slice A' n' c'] w (TellsQ w (SameW n n' f f')) := by
  by_cases hne : n = n'
  case neg =>
    have HN := Lib.hid (show ¬ SameW n n' f f' from fun h => hne h.1)
    have e1 : ((n : Int) != (n' : Int)) = true := by simp; omega
    clear hne
    go_enter Tryd.func58, Tryd.ntmps58
    go_wp2
    go_ret
    exact .inr ⟨HN.out, rfl, 0, rfl⟩
  subst hne
  go_enter Tryd.func58, Tryd.ntmps58
  go_wp2
  go_loopw [13] (fun i wr => ∃ m d : Nat, m ≤ n ∧ i = .int .i64 (m : Int) ∧ Hid (∀ i, i < m → f i = f' i) ∧ wr = w.drewN d) (fun i _ => n - (intOf i).toNat)
  case atStart => exact ⟨0, 0, by omega, rfl, Lib.hid fun i hi => by omega, rfl⟩
  case round =>
    obtain ⟨m, d, hm, rfl, hall, rfl⟩ := hrel
    by_cases hlt : m < n
    · obtain ⟨ad, rfl, hc⟩ := hX.cells (by omega)
      obtain ⟨ad', rfl, hc'⟩ := hX'.cells (by omega)
      have h1 := hc m hlt
      have h2 := hc' m hlt
      clear hc hc'
      have i0 : (0 : Int) ≤ (m : Int) := by omega
      have i1 : (m : Int) < (n : Int) := by omega
      by_cases he : f m = f' m
      · have HA := Lib.hid (show ∀ i, i < m + 1 → f i = f' i from fun i hi => by
          by_cases h : i = m
          · subst h; exact he
          · exact hall.out i (by omega))
        rw [← he] at h2
        clear he
        generalize f m = x at *
        go_wp2
        go_quiet (fail)
        go_wp2
        exact ⟨⟨m + 1, _, by omega, by go_num, HA, rfl⟩, by simp [intOf]; omega⟩
      · have HN := Lib.hid (show ¬ SameW n n f f' from fun h => he (h.2 m hlt))
        have e1 : ((f m : Int) != (f' m : Int)) = true := by simp; omega
        have e2 : ((f m : Int) == (f' m : Int)) = false := by simp; omega
        clear he
        go_wp2
        go_quiet (fail)
        go_wp2
        go_ret
        exact .inr ⟨HN.out, rfl, _, World.drewN_drewN _ _ _⟩
    · have HY := Lib.hid (show SameW n n f f' from ⟨rfl, fun i hi => hall.out i (by omega)⟩)
      go_wp2
      go_ret
      exact .inl ⟨HY.out, rfl, d, rfl⟩
theorem equal_yes {A A' : Option Addr} {n n' c c' : Nat} {f f' : Nat → Nat} {w : World} (hX : FX w A n c f) (hX' : FX w A' n' c' f') (hn : n ≤ 9223372036854775807) (hn' : n' ≤ 9223372036854775807) (h : SameW n n' f f') :
    Calls Tryd.prog 58 #[.slice A n c, .slice A' n' c'] w fun e w' => e = .returned (.bool true) ∧ Ext w w' :=
  (equalT_any A A' n n' c c' f f' w hX hX' hn hn').mono fun e w' h' => by
    rcases h' with ⟨_, he, d, hw⟩ | ⟨h', _⟩
    · exact ⟨he, by rw [hw]; exact (Ext.refl w).drewN d⟩
    · exact absurd h h'
theorem equal_q {A A' : Option Addr} {n n' c c' : Nat} {f f' : Nat → Nat} {w : World} {q : Nat} (hX : FX w A n c f) (hX' : FX w A' n' c' f') (hn : n ≤ 9223372036854775807) (hn' : n' ≤ 9223372036854775807) (h : ¬ SameW n n' f f') :
    Calls Tryd.prog 58 #[.slice A n c, .slice A' n' c'] (w.drewN q) fun e w' => e = .returned (.bool false) ∧ ∃ m, w' = w.drewN m :=
  (equalT_any A A' n n' c c' f f' (w.drewN q) (hX.drewN q) (hX'.drewN q) hn hn').mono fun e w' h' => by
    rcases h' with ⟨h', _⟩ | ⟨_, he, d, hw⟩
    · exact absurd h' h
    · exact ⟨he, _, by rw [hw]; exact World.drewN_drewN _ _ _⟩
/-- A number's sixty-four bits as a word. -/
def bitsU (z : Int) : Int := IntKind.u64.wrap z
theorem bitsU_inj {a b : Int} (a0 : -9223372036854775808 ≤ a) (a1 : a < 9223372036854775808) (b0 : -9223372036854775808 ≤ b) (b1 : b < 9223372036854775808) (h : bitsU a = bitsU b) : a = b := by
  unfold bitsU at h; rw [IntKind.wrap_u64, IntKind.wrap_u64] at h; omega
set_option maxHeartbeats 1000000 in
theorem beside_any (N T Wd : Int) (A : Option Addr) (L c : Nat) (w : World) :
    Calls Tryd.prog 59 #[.agg #[.int .i64 N, .int .u64 T, .slice A L c, .int .i64 Wd]] w fun e w' => e = .returned (.agg #[.int .u64 (bitsU N), .int .u64 T, .int .u64 (bitsU Wd)]) ∧ Ext w w' := by
  go_enter Tryd.func59, Tryd.ntmps59
  go_wp2
  have kz : Ext w ((w.alloc (.cells #[.int .i64 N, .int .u64 T, .slice A L c, .int .i64 Wd] 71)).alloc (.cells #[.int .u64 (bitsU N), .int .u64 T, .int .u64 (bitsU Wd)] 82)) := ((Ext.refl w).alloc _).alloc _
  exact bodyPost_ret (v := .agg #[.int .u64 (bitsU N), .int .u64 T, .int .u64 (bitsU Wd)]) (by simp [results, Tryd.results59, go_sem, bitsU]) rfl ⟨rfl, by first | exact kz | exact ((Ext.refl w).alloc _).alloc _⟩
/-- The same parameters. -/
def SamePar (N : Int) (T L : Nat) (f : Nat → Nat) (Wd N' : Int) (T' L' : Nat) (f' : Nat → Nat) (Wd' : Int) : Prop := SameW L L' f f' ∧ N = N' ∧ T = T' ∧ Wd = Wd'
set_option maxHeartbeats 4000000 in
theorem parSame_any {N : Int} {T : Nat} {Wd : Int} {A : Option Addr} {L c : Nat} {f : Nat → Nat} {N' : Int} {T' : Nat} {Wd' : Int} {A' : Option Addr} {L' c' : Nat} {f' : Nat → Nat} (w : World) (hP : PA w N T A L c Wd f) (hP' : PA w N' T' A' L' c' Wd' f') :
    Calls Tryd.prog 26 #[.agg #[.int .i64 N, .int .u64 (T : Int), .slice A L c, .int .i64 Wd], .agg #[.int .i64 N', .int .u64 (T' : Int), .slice A' L' c', .int .i64 Wd']] w (Tells w (SamePar N T L f Wd N' T' L' f' Wd')) := by
  have HP := Lib.hid hP
  have HP' := Lib.hid hP'
  clear hP hP'
  have kV : Ext w ((w.alloc (.cells #[.int .i64 N, .int .u64 (T : Int), .slice A L c, .int .i64 Wd] 25)).alloc (.cells #[.int .i64 N', .int .u64 (T' : Int), .slice A' L' c', .int .i64 Wd'] 25)) := ((Ext.refl w).alloc _).alloc _
  obtain ⟨x0, x1, x2, x3⟩ := four_at w (.int .i64 N) (.int .u64 (T : Int)) (.slice A L c) (.int .i64 Wd) 25
  obtain ⟨y0, y1, y2, y3⟩ := four_at (w.alloc (.cells #[.int .i64 N, .int .u64 (T : Int), .slice A L c, .int .i64 Wd] 25)) (.int .i64 N') (.int .u64 (T' : Int)) (.slice A' L' c') (.int .i64 Wd') 25
  have kA : Ext (w.alloc (.cells #[.int .i64 N, .int .u64 (T : Int), .slice A L c, .int .i64 Wd] 25)) ((w.alloc (.cells #[.int .i64 N, .int .u64 (T : Int), .slice A L c, .int .i64 Wd] 25)).alloc (.cells #[.int .i64 N', .int .u64 (T' : Int), .slice A' L' c', .int .i64 Wd'] 25)) := (Ext.refl _).alloc _
  replace x0 := cell_ext kA x0
  replace x1 := cell_ext kA x1
  replace x2 := cell_ext kA x2
  replace x3 := cell_ext kA x3
  rw [show (w.alloc (.cells #[.int .i64 N, .int .u64 (T : Int), .slice A L c, .int .i64 Wd] 25)).heap.size = w.heap.size + 1 by simp] at y0 y1 y2 y3
  clear kA
  go_enter Tryd.func26, Tryd.ntmps26
  go_wp2_with fail
  generalize ((w.alloc (.cells #[.int .i64 N, .int .u64 (T : Int), .slice A L c, .int .i64 Wd] 25)).alloc (.cells #[.int .i64 N', .int .u64 (T' : Int), .slice A' L' c', .int .i64 Wd'] 25)) = V at *
  have l1 := HP.out.len
  have l2 := HP'.out.len
  by_cases hs : SameW L L' f f'
  case neg =>
    have HN := Lib.hid (show ¬ SamePar N T L f Wd N' T' L' f' Wd' from fun h => hs h.1)
    have HS := Lib.hid hs
    clear hs
    go_quiet ((go_at_call 58; exact equal_q (HP.out.ext kV).fx (HP'.out.ext kV).fx l1 l2 HS.out))
    go_wp2
    go_ret
    exact Tells.no HN.out (kV.drewN _)
  have HS := Lib.hid hs
  clear hs
  have kk : Ext V V := Ext.refl V
  have hE := eq3 (bitsU N) (T : Int) (bitsU Wd) (bitsU N') (T' : Int) (bitsU Wd')
  obtain ⟨b, hb⟩ : ∃ b : Bool, b = ((bitsU N == bitsU N') && (((T : Int) == (T' : Int)) && (bitsU Wd == bitsU Wd'))) := ⟨_, rfl⟩
  rw [← hb] at hE
  have HB := Lib.hid (show b = true ↔ SamePar N T L f Wd N' T' L' f' Wd' by
    rw [hb, Bool.and_eq_true, Bool.and_eq_true, beq_iff_eq, beq_iff_eq, beq_iff_eq]
    constructor
    · rintro ⟨h1, h2, h3⟩
      exact ⟨HS.out, bitsU_inj HP.out.n0 HP.out.n1 HP'.out.n0 HP'.out.n1 h1, by omega, bitsU_inj HP.out.w0 HP.out.w1 HP'.out.w0 HP'.out.w1 h3⟩
    · rintro ⟨_, rfl, rfl, rfl⟩; exact ⟨rfl, rfl, rfl⟩)
  clear hb
  go_region_held3 (fun w' => w'.cell? ⟨w.heap.size, 0, none⟩ = some (.int .i64 N) ∧ w'.cell? ⟨w.heap.size, 1, none⟩ = some (.int .u64 (T : Int)) ∧ w'.cell? ⟨w.heap.size, 2, none⟩ = some (.slice A L c) ∧ w'.cell? ⟨w.heap.size, 3, none⟩ = some (.int .i64 Wd) ∧ w'.cell? ⟨w.heap.size + 1, 0, none⟩ = some (.int .i64 N') ∧ w'.cell? ⟨w.heap.size + 1, 1, none⟩ = some (.int .u64 (T' : Int)) ∧ w'.cell? ⟨w.heap.size + 1, 2, none⟩ = some (.slice A' L' c') ∧ w'.cell? ⟨w.heap.size + 1, 3, none⟩ = some (.int .i64 Wd')) (go_keep)
    (first
      | (go_at_call 58; refine (equal_yes (HP.out.ext (kV.trans (by first | exact kk | exact Ext.drew kk))).fx (HP'.out.ext (kV.trans (by first | exact kk | exact Ext.drew kk))).fx l1 l2 HS.out).mono ?_; rintro e5 w5 ⟨rfl, k5⟩; replace kk : Ext V w5 := (by first | exact Ext.trans kk k5 | exact Ext.trans (Ext.drew kk) k5); have d0 := cell_ext kk x0; have d1 := cell_ext kk x1; have d2 := cell_ext kk x2; have d3 := cell_ext kk x3; have g0 := cell_ext kk y0; have g1 := cell_ext kk y1; have g2 := cell_ext kk y2; have g3 := cell_ext kk y3)
      | (go_at_call_of 59 N'; refine (beside_any N' (T' : Int) Wd' A' L' c' _).mono ?_; rintro e5 w5 ⟨rfl, k5⟩; replace kk : Ext V w5 := (by first | exact Ext.trans kk k5 | exact Ext.trans (Ext.drew kk) k5); have d0 := cell_ext kk x0; have d1 := cell_ext kk x1; have d2 := cell_ext kk x2; have d3 := cell_ext kk x3; have g0 := cell_ext kk y0; have g1 := cell_ext kk y1; have g2 := cell_ext kk y2; have g3 := cell_ext kk y3)
      | (go_at_call 59; refine (beside_any N (T : Int) Wd A L c _).mono ?_; rintro e5 w5 ⟨rfl, k5⟩; replace kk : Ext V w5 := (by first | exact Ext.trans kk k5 | exact Ext.trans (Ext.drew kk) k5); have d0 := cell_ext kk x0; have d1 := cell_ext kk x1; have d2 := cell_ext kk x2; have d3 := cell_ext kk x3; have g0 := cell_ext kk y0; have g1 := cell_ext kk y1; have g2 := cell_ext kk y2; have g3 := cell_ext kk y3)
      | fail)
  all_goals
    have kz := kV.trans kk
    cases b
    · have HN := Lib.hid (show ¬ SamePar N T L f Wd N' T' L' f' Wd' from fun h => by have := HB.out.2 h; cases this)
      clear hE HB
      go_wp2
      go_ret
      exact Tells.no HN.out kz
    · have HN := Lib.hid (HB.out.1 rfl)
      clear hE HB
      go_wp2
      go_ret
      exact Tells.yes HN.out kz
set_option maxHeartbeats 4000000 in
theorem rparSame_any {N : Int} {T : Nat} {Wd : Int} {A : Option Addr} {L c : Nat} {f : Nat → Nat} {N' : Int} {T' : Nat} {Wd' : Int} {A' : Option Addr} {L' c' : Nat} {f' : Nat → Nat} (w : World) (hP : PA w N T A L c Wd f) (hP' : PA w N' T' A' L' c' Wd' f') :
    Calls Tryd.prog 27 #[.agg #[.int .i64 N, .int .u64 (T : Int), .slice A L c, .int .i64 Wd], .agg #[.int .i64 N', .int .u64 (T' : Int), .slice A' L' c', .int .i64 Wd']] w (Tells w (SamePar N T L f Wd N' T' L' f' Wd')) := by
  have HP := Lib.hid hP
  have HP' := Lib.hid hP'
  have l1 := hP.len
  have l2 := hP'.len
  clear hP hP'
  have kV : Ext w ((w.alloc (.cells #[.int .i64 N, .int .u64 (T : Int), .slice A L c, .int .i64 Wd] 25)).alloc (.cells #[.int .i64 N', .int .u64 (T' : Int), .slice A' L' c', .int .i64 Wd'] 25)) := ((Ext.refl w).alloc _).alloc _
  by_cases h1 : N = N'
  case neg =>
    have e1 : (N == N') = false := by simp; omega
    have HN := Lib.hid (show ¬ SamePar N T L f Wd N' T' L' f' Wd' from fun h => h1 h.2.1)
    clear h1
    go_enter Tryd.func27, Tryd.ntmps27
    go_wp2
    go_ret
    exact Tells.no HN.out kV
  by_cases h2 : T = T'
  case neg =>
    have e1 : (N == N') = true := by simp; omega
    have e2 : ((T : Int) == (T' : Int)) = false := by simp; omega
    have HN := Lib.hid (show ¬ SamePar N T L f Wd N' T' L' f' Wd' from fun h => h2 h.2.2.1)
    clear h1 h2
    go_enter Tryd.func27, Tryd.ntmps27
    go_wp2
    go_ret
    exact Tells.no HN.out kV
  by_cases h3 : Wd = Wd'
  case neg =>
    have e1 : (N == N') = true := by simp; omega
    have e2 : ((T : Int) == (T' : Int)) = true := by simp; omega
    have e3 : (Wd == Wd') = false := by simp; omega
    have HN := Lib.hid (show ¬ SamePar N T L f Wd N' T' L' f' Wd' from fun h => h3 h.2.2.2)
    clear h1 h2 h3
    go_enter Tryd.func27, Tryd.ntmps27
    go_wp2
    go_ret
    exact Tells.no HN.out kV
  subst h1 h2 h3
  have e1 : (N == N) = true := by simp
  have e2 : ((T : Int) == (T : Int)) = true := by simp
  have e3 : (Wd == Wd) = true := by simp
  go_enter Tryd.func27, Tryd.ntmps27
  go_wp2_with fail
  refine (sameW_any A A' L L' c c' f f' _ (HP.out.ext kV).fx (HP'.out.ext kV).fx l1 l2).mono ?_
  rintro e w2 (⟨hy, rfl, k2⟩ | ⟨hy, rfl, k2⟩)
  · have HN := Lib.hid (show SamePar N T L f Wd N T L' f' Wd from ⟨hy, rfl, rfl, rfl⟩)
    clear hy
    go_wp2
    go_ret
    exact Tells.yes HN.out (kV.trans k2)
  · have HN := Lib.hid (show ¬ SamePar N T L f Wd N T L' f' Wd from fun h => hy h.1)
    clear hy
    go_wp2
    go_ret
    exact Tells.no HN.out (kV.trans k2)
/-- What is told, as a bool. -/
theorem Tells.b {w w' : World} {P : Prop} {b : Bool} {e : Ending} (h : Tells w P e w') (hb : b = true ↔ P) : e = .returned (.bool b) ∧ Ext w w' := by
  rcases h with ⟨h, he, hw⟩ | ⟨h, he, hw⟩
  · rw [hb.2 h]; exact ⟨he, hw⟩
  · cases b
    · exact ⟨he, hw⟩
    · exact absurd (hb.1 rfl) h
theorem SamePar.symm {N : Int} {T L : Nat} {f : Nat → Nat} {Wd N' : Int} {T' L' : Nat} {f' : Nat → Nat} {Wd' : Int} (h : SamePar N T L f Wd N' T' L' f' Wd') : SamePar N' T' L' f' Wd' N T L f Wd := by
  obtain ⟨⟨rfl, h1⟩, rfl, rfl, rfl⟩ := h
  exact ⟨⟨rfl, fun i hi => (h1 i hi).symm⟩, rfl, rfl, rfl⟩
theorem sameAA {N : Int} {T : Nat} {Wd : Int} {A : Option Addr} {L c : Nat} {f : Nat → Nat} {w : World} {va vb : Value} (hP : PA w N T A L c Wd f) (hv : va = .agg #[.int .i64 N, .int .u64 (T : Int), .slice A L c, .int .i64 Wd] ∧ vb = .agg #[.int .i64 N, .int .u64 (T : Int), .slice A L c, .int .i64 Wd]) :
    Calls Tryd.prog 26 #[va, vb] w fun e w' => e = .returned (.bool true) ∧ Ext w w' := by
  obtain ⟨rfl, rfl⟩ := hv
  exact (parSame_any w hP hP).mono fun e w' h => h.b ⟨fun _ => ⟨⟨rfl, fun _ _ => rfl⟩, rfl, rfl, rfl⟩, fun _ => rfl⟩
theorem sameAB {N : Int} {T : Nat} {Wd : Int} {A : Option Addr} {L c : Nat} {f : Nat → Nat} {N' : Int} {T' : Nat} {Wd' : Int} {A' : Option Addr} {L' c' : Nat} {f' : Nat → Nat} {w : World} {b : Bool} {va vb : Value} (hP : PA w N T A L c Wd f) (hP' : PA w N' T' A' L' c' Wd' f') (hb : Hid (b = true ↔ SamePar N T L f Wd N' T' L' f' Wd'))
    (hv : (va = .agg #[.int .i64 N, .int .u64 (T : Int), .slice A L c, .int .i64 Wd] ∧ vb = .agg #[.int .i64 N', .int .u64 (T' : Int), .slice A' L' c', .int .i64 Wd']) ∨ (va = .agg #[.int .i64 N', .int .u64 (T' : Int), .slice A' L' c', .int .i64 Wd'] ∧ vb = .agg #[.int .i64 N, .int .u64 (T : Int), .slice A L c, .int .i64 Wd])) :
    Calls Tryd.prog 26 #[va, vb] w fun e w' => e = .returned (.bool b) ∧ Ext w w' := by
  rcases hv with ⟨rfl, rfl⟩ | ⟨rfl, rfl⟩
  · exact (parSame_any w hP hP').mono fun e w' h => h.b hb.out
  · exact (parSame_any w hP' hP).mono fun e w' h => h.b ⟨fun h => (hb.out.1 h).symm, fun h => hb.out.2 h.symm⟩
set_option maxHeartbeats 4000000 in
theorem paramSame_walk {N : Int} {T : Nat} {Wd : Int} {A : Option Addr} {L c : Nat} {f : Nat → Nat} {N' : Int} {T' : Nat} {Wd' : Int} {A' : Option Addr} {L' c' : Nat} {f' : Nat → Nat} (w : World) (hP : Hid (PA w N T A L c Wd f)) (hP' : Hid (PA w N' T' A' L' c' Wd' f')) (hT : Tabs w) :
    Calls Tryd.prog 6 #[.agg #[.int .i64 N, .int .u64 (T : Int), .slice A L c, .int .i64 Wd], .agg #[.int .i64 N', .int .u64 (T' : Int), .slice A' L' c', .int .i64 Wd']] w fun e w' => e = .returned (.bool true) ∧ Ext w w' := by
  have HT := Lib.hid hT
  clear hT
  have kV : Ext w ((w.alloc (.cells #[.int .i64 N, .int .u64 (T : Int), .slice A L c, .int .i64 Wd] 25)).alloc (.cells #[.int .i64 N', .int .u64 (T' : Int), .slice A' L' c', .int .i64 Wd'] 25)) := ((Ext.refl w).alloc _).alloc _
  obtain ⟨x0, x1, x2, x3⟩ := four_at w (.int .i64 N) (.int .u64 (T : Int)) (.slice A L c) (.int .i64 Wd) 25
  obtain ⟨y0, y1, y2, y3⟩ := four_at (w.alloc (.cells #[.int .i64 N, .int .u64 (T : Int), .slice A L c, .int .i64 Wd] 25)) (.int .i64 N') (.int .u64 (T' : Int)) (.slice A' L' c') (.int .i64 Wd') 25
  have kA : Ext (w.alloc (.cells #[.int .i64 N, .int .u64 (T : Int), .slice A L c, .int .i64 Wd] 25)) ((w.alloc (.cells #[.int .i64 N, .int .u64 (T : Int), .slice A L c, .int .i64 Wd] 25)).alloc (.cells #[.int .i64 N', .int .u64 (T' : Int), .slice A' L' c', .int .i64 Wd'] 25)) := (Ext.refl _).alloc _
  replace x0 := cell_ext kA x0
  replace x1 := cell_ext kA x1
  replace x2 := cell_ext kA x2
  replace x3 := cell_ext kA x3
  rw [show (w.alloc (.cells #[.int .i64 N, .int .u64 (T : Int), .slice A L c, .int .i64 Wd] 25)).heap.size = w.heap.size + 1 by simp] at y0 y1 y2 y3
  clear kA
  obtain ⟨b, hb⟩ : ∃ b : Bool, b = true ↔ SamePar N T L f Wd N' T' L' f' Wd' := by
    by_cases h : SamePar N T L f Wd N' T' L' f' Wd'
    · exact ⟨true, ⟨fun _ => h, fun _ => rfl⟩⟩
    · exact ⟨false, ⟨fun h' => Bool.noConfusion h', fun h' => absurd h' h⟩⟩
  have HB := Lib.hid hb
  clear hb
  go_enter Tryd.func6, Tryd.ntmps6
  go_wp2_with fail
  generalize ((w.alloc (.cells #[.int .i64 N, .int .u64 (T : Int), .slice A L c, .int .i64 Wd] 25)).alloc (.cells #[.int .i64 N', .int .u64 (T' : Int), .slice A' L' c', .int .i64 Wd'] 25)) = V0 at *
  refine (fixed8_any V0 (HT.out.ext kV)).mono ?_
  rintro e V ⟨rfl, k1⟩
  replace x0 := cell_ext k1 x0
  replace x1 := cell_ext k1 x1
  replace x2 := cell_ext k1 x2
  replace x3 := cell_ext k1 x3
  replace y0 := cell_ext k1 y0
  replace y1 := cell_ext k1 y1
  replace y2 := cell_ext k1 y2
  replace y3 := cell_ext k1 y3
  replace kV := kV.trans k1
  clear k1
  have ebb : (b == b) = true := by simp
  have HPV := Lib.hid (hP.out.ext kV)
  have HPV' := Lib.hid (hP'.out.ext kV)
  have kk : Ext V V := Ext.refl V
  go_wp2_with fail
  go_region_held3 (fun w' => w'.cell? ⟨w.heap.size, 0, none⟩ = some (.int .i64 N) ∧ w'.cell? ⟨w.heap.size, 1, none⟩ = some (.int .u64 (T : Int)) ∧ w'.cell? ⟨w.heap.size, 2, none⟩ = some (.slice A L c) ∧ w'.cell? ⟨w.heap.size, 3, none⟩ = some (.int .i64 Wd) ∧ w'.cell? ⟨w.heap.size + 1, 0, none⟩ = some (.int .i64 N') ∧ w'.cell? ⟨w.heap.size + 1, 1, none⟩ = some (.int .u64 (T' : Int)) ∧ w'.cell? ⟨w.heap.size + 1, 2, none⟩ = some (.slice A' L' c') ∧ w'.cell? ⟨w.heap.size + 1, 3, none⟩ = some (.int .i64 Wd')) (go_keep)
    (first
      | (go_at_call 26; refine (sameAB (HPV.out.ext (by first | exact kk | exact Ext.drew kk)) (HPV'.out.ext (by first | exact kk | exact Ext.drew kk)) HB (by first | exact .inl ⟨rfl, rfl⟩ | exact .inr ⟨rfl, rfl⟩)).mono ?_; rintro e5 w5 ⟨rfl, k5⟩; replace kk : Ext V w5 := (by first | exact Ext.trans kk k5 | exact Ext.trans (Ext.drew kk) k5); have d0 := cell_ext kk x0; have d1 := cell_ext kk x1; have d2 := cell_ext kk x2; have d3 := cell_ext kk x3; have g0 := cell_ext kk y0; have g1 := cell_ext kk y1; have g2 := cell_ext kk y2; have g3 := cell_ext kk y3)
      | (go_at_call 26; refine (sameAA (HPV.out.ext (by first | exact kk | exact Ext.drew kk)) ⟨rfl, rfl⟩).mono ?_; rintro e5 w5 ⟨rfl, k5⟩; replace kk : Ext V w5 := (by first | exact Ext.trans kk k5 | exact Ext.trans (Ext.drew kk) k5); have d0 := cell_ext kk x0; have d1 := cell_ext kk x1; have d2 := cell_ext kk x2; have d3 := cell_ext kk x3; have g0 := cell_ext kk y0; have g1 := cell_ext kk y1; have g2 := cell_ext kk y2; have g3 := cell_ext kk y3)
      | (go_at_call 27; refine ((rparSame_any _ (HPV.out.ext (by first | exact kk | exact Ext.drew kk)) (HPV'.out.ext (by first | exact kk | exact Ext.drew kk))).mono fun e w' h => h.b HB.out).mono ?_; rintro e5 w5 ⟨rfl, k5⟩; replace kk : Ext V w5 := (by first | exact Ext.trans kk k5 | exact Ext.trans (Ext.drew kk) k5); have d0 := cell_ext kk x0; have d1 := cell_ext kk x1; have d2 := cell_ext kk x2; have d3 := cell_ext kk x3; have g0 := cell_ext kk y0; have g1 := cell_ext kk y1; have g2 := cell_ext kk y2; have g3 := cell_ext kk y3)
      | fail)
  all_goals
    have kz := kV.trans kk
    go_wp2
    go_ret
    exact ⟨by first | rfl | simp, kz⟩
end Go.Proofs.YtcclekboeppcfaaDoor

/-
  The calls of layer 9 whose answers the document fixes; the laws BatchNil and BatchPowers walked.
-/
namespace Go.Proofs.YtcclekboeppcfaaDoor
open Go.RowKit
set_option linter.unusedVariables false
set_option maxRecDepth 100000

theorem Bt.root {w : World} {p n T k r v : Nat} (h : Bt w p n T k r v) : Root n T k r v := by
  obtain ⟨_, t, _, _, _, _, _, h5⟩ := h.ex
  exact h5.root
theorem Bt.unit {w : World} {p n T k r v : Nat} (h : Bt w p n T k r v) : ∃ u : Nat, M (T : Int) ((n : Int) * (u : Int)) 1 := by
  obtain ⟨_, t, _, _, _, _, _, h5⟩ := h.ex
  exact h5.unit
def one97 (_ : Nat) : Nat := 97
theorem par_fix9 : ParP 8 17 1 one97 1 := fun k hk => by
  rcases (show k = 0 ∨ k = 1 ∨ k = 2 ∨ k = 3 ∨ k = 4 ∨ k = 5 by omega) with rfl | rfl | rfl | rfl | rfl | rfl
  · exact ⟨by decide, by decide, by decide +kernel⟩
  · exact ⟨by decide, by decide⟩
  · exact ⟨by decide, by decide +kernel, by decide +kernel⟩
  · exact ⟨by decide, by decide⟩
  · intro j hj
    obtain rfl : j = 0 := by omega
    exact ⟨by decide, by decide, fun i hi => by omega, by decide +kernel, by decide +kernel⟩
  · show Go.bitLen (prodF one97 1) ≤ rowS 8
    rw [show prodF one97 1 = 97 by decide, show rowS 8 = 420 by decide]
    decide +kernel
def eOne (i : Nat) : Nat := if i = 0 then 1 else 0
theorem vals_one (r : Int) (n : Nat) (hn : 0 < n) (j : Nat) : vals r n (fun i => (eOne i : Int)) j = 1 := by
  unfold vals
  rw [S_one hn _ (fun i _ hne => by simp [eOne, hne])]
  simp [eOne]
theorem pack_ones {w : World} {p k r v : Nat} {F : Nat → Nat} (h : Bt w p 8 17 k r v) (hF : ∀ i, i < 8 → F i < 17 ∧ M (17 : Int) ((8 : Int) * (F i : Int)) (back (v : Int) 8 (fun j => (laidF 8 17 (fun _ => 1) 4 j : Int)) i)) : SameW 8 8 F eOne := by
  refine ⟨rfl, fun i hi => ?_⟩
  obtain ⟨u, hu⟩ := h.unit
  obtain ⟨h1, h2⟩ := hF i hi
  have hl : ∀ j, j < 8 → laidF 8 17 (fun _ => 1) 4 j = 1 := by decide +kernel
  have h3 : M (17 : Int) (back (v : Int) 8 (fun j => (laidF 8 17 (fun _ => 1) 4 j : Int)) i) ((8 : Int) * (eOne i : Int)) := by
    refine (back_M (b := vals (r : Int) 8 (fun i => (eOne i : Int))) (fun j hj => M.of ?_) i).trans (h.root.backVals _ hi)
    rw [vals_one _ _ (by omega), hl j hj]; rfl
  have h4 : M (17 : Int) (F i : Int) (eOne i : Int) := unit_n (n := 8) hu (h2.trans h3)
  exact M.lt (q := 17) h4 h1 (by unfold eOne; split <;> omega)
theorem bnew_yes {w w' : World} {P : Prop} {n T : Nat} {ee : Ending} (h : BNew w P n T ee w') (hP : P) : ∃ p k r v x : Nat, First T x ∧ Hid (r = rootS T (2 * n) x) ∧ ee = .returned (.tuple #[.pointer (some ⟨p, 0, none⟩), .int .i64 0]) ∧ Bt w' p n T k r v ∧ Ext w w' := by
  rcases h with ⟨h, _⟩ | ⟨_, h⟩
  · exact absurd hP h
  · exact h
theorem sml8 : Sml 8 := .inl rfl
set_option maxHeartbeats 4000000 in
theorem fixed9_any (w : World) (hT : Tabs w) : Calls Tryd.prog 29 #[] w fun e w' => e = .returned (.bool true) ∧ Ext w w' := by
  have HT := Lib.hid hT
  clear hT
  have kV : Ext w (w.alloc (.cells #[.int .u64 97] 22)) := (Ext.refl w).alloc _
  have hU : UW (w.alloc (.cells #[.int .u64 97] 22)) w.heap.size 1 one97 := heap_alloc_new _ _
  have HP := Lib.hid (show PA (w.alloc (.cells #[.int .u64 97] 22)) 8 17 (some ⟨w.heap.size, 0, none⟩) 1 1 1 one97 from ⟨by omega, by omega, by omega, by omega, by omega, UW.fx hU, by omega, fun j _ => by unfold one97; omega⟩)
  clear hU
  go_enter Tryd.func29, Tryd.ntmps29
  go_wp2_with fail
  generalize w.alloc (.cells #[.int .u64 97] 22) = V at *
  refine (bnew_any (f := one97) HP.out (by omega) (by omega) (HT.out.ext kV)).mono ?_
  rintro e w1 h1
  obtain ⟨p, k, r, v, x, _, _, rfl, hb, k1⟩ := bnew_yes h1 par_fix9
  have HB := Lib.hid (show Bt w1 p 8 17 k r v from hb)
  clear h1 hb
  replace kV := kV.trans k1
  go_wp2_with fail
  have ka : Ext w1 (w1.alloc (.cells #[.int .i64 1, .int .i64 1, .int .i64 1, .int .i64 1] 3)) := (Ext.refl _).alloc _
  have hI : IWB (w1.alloc (.cells #[.int .i64 1, .int .i64 1, .int .i64 1, .int .i64 1] 3)) w1.heap.size 4 (fun _ => 1) := heap_alloc_new _ _
  refine (pack_any p 8 17 k r v 4 4 (some ⟨w1.heap.size, 0, none⟩) (fun _ => 1) _ (HB.out.ext ka) sml8 hI.vx (Lib.hid fun _ _ => ⟨by omega, by omega⟩) (by omega) (by omega) (by omega)).mono ?_
  rintro e w2 ⟨g2, F, rfl, hu2, hF, k2⟩
  have HS := Lib.hid (pack_ones HB.out hF.out)
  replace k2 : Ext w1 w2 := ka.trans k2
  have HU := Lib.hid hu2
  clear hu2 hF hI ka
  replace kV := kV.trans k2
  go_wp2_with fail
  refine (power_any p 8 17 k r v 1 w2 (HB.out.ext k2) sml8).mono ?_
  rw [show pw3 8 (stepM 8 1) = 3 by decide +kernel]
  rintro e w3 ⟨rfl, k3⟩
  replace kV := kV.trans k3
  go_wp2_with fail
  refine (power_any p 8 17 k r v (-1) w3 (HB.out.ext (k2.trans k3)) sml8).mono ?_
  rw [show pw3 8 (stepM 8 (-1)) = 11 by decide +kernel]
  rintro e w4 ⟨rfl, k4⟩
  replace kV := kV.trans k4
  go_wp2_with fail
  have kb : Ext w4 (w4.alloc (.cells #[.int .u64 1, .int .u64 0, .int .u64 0, .int .u64 0, .int .u64 0, .int .u64 0, .int .u64 0, .int .u64 0] 22)) := (Ext.refl _).alloc _
  have hE : UW (w4.alloc (.cells #[.int .u64 1, .int .u64 0, .int .u64 0, .int .u64 0, .int .u64 0, .int .u64 0, .int .u64 0, .int .u64 0] 22)) w4.heap.size 8 eOne := heap_alloc_new _ _
  refine (sameW_any _ _ 8 8 8 8 F eOne _ ((UW.fx HU.out).ext ((k3.trans k4).trans kb)) (UW.fx hE) (by omega) (by omega)).mono ?_
  rintro e w5 h5
  obtain ⟨rfl, k5⟩ := tells_yes h5 HS.out
  clear h5 hE
  go_wp2
  go_ret
  exact ⟨rfl, kV.trans (kb.trans k5)⟩
set_option maxHeartbeats 1000000 in
theorem batchNil_walk {A : Option Addr} {n c : Nat} {f : Nat → Int} {z : Int} (w : World) (hX : VX w A n c f) (hn : n ≤ maxLen) (hf : Hid (∀ i, i < n → -9223372036854775808 ≤ f i ∧ f i < 9223372036854775808)) (z0 : -9223372036854775808 ≤ z) (z1 : z < 9223372036854775808) (hT : Tabs w) :
    Calls Tryd.prog 11 #[.slice A n c, .int .i64 z] w fun e w' => e = .returned (.bool true) ∧ Ext w w' := by
  have HT := Lib.hid hT
  clear hT hX hn hf
  go_enter Tryd.func11, Tryd.ntmps11
  go_wp2_with fail
  refine (fixed9_any w HT.out).mono ?_
  rintro e w1 ⟨rfl, k1⟩
  go_wp2_with fail
  refine (packNil_any A n c w1).mono ?_
  rintro e w2 ⟨rfl, k2⟩
  go_wp2_with fail
  refine (unpackNil_any none 0 0 w2).mono ?_
  rintro e w3 ⟨rfl, k3⟩
  go_wp2_with fail
  refine (powerNil_any z w3).mono ?_
  rintro e w4 ⟨rfl, k4⟩
  go_wp2
  go_ret
  exact ⟨rfl, k1.trans (k2.trans (k3.trans k4))⟩
/-- A small ring. -/
def SmallP (N : Int) (L : Nat) : Prop := N ≤ 64 ∧ L ≤ 20
theorem small_any (N T Wd : Int) (A : Option Addr) (L c : Nat) (w : World) (hL : L ≤ 9223372036854775807) :
    Calls Tryd.prog 30 #[.agg #[.int .i64 N, .int .u64 T, .slice A L c, .int .i64 Wd]] w (Tells w (SmallP N L)) := by
  by_cases h0 : N ≤ 64
  · have e0 : decide (N ≤ 64) = true := decide_eq_true h0
    by_cases h1 : L ≤ 20
    · have e1 : decide ((L : Int) ≤ 20) = true := decide_eq_true (by omega)
      have H := Lib.hid (show SmallP N L from ⟨h0, h1⟩)
      clear h0 h1 hL
      go_enter Tryd.func30, Tryd.ntmps30
      go_wp2
      go_ret
      exact Tells.yes H.out ((Ext.refl w).alloc _)
    · have e1 : decide ((L : Int) ≤ 20) = false := decide_eq_false (by omega)
      have H := Lib.hid (show ¬ SmallP N L from fun h => h1 h.2)
      clear h0 h1 hL
      go_enter Tryd.func30, Tryd.ntmps30
      go_wp2
      go_ret
      exact Tells.no H.out ((Ext.refl w).alloc _)
  · have e0 : decide (N ≤ 64) = false := decide_eq_false h0
    have H := Lib.hid (show ¬ SmallP N L from fun h => h0 h.1)
    clear h0 hL
    go_enter Tryd.func30, Tryd.ntmps30
    go_wp2
    go_ret
    exact Tells.no H.out ((Ext.refl w).alloc _)
theorem mod_up {h : Nat} {z : Int} (hh : 0 < h) : -(h : Int) < z.tmod (h : Int) ∧ z.tmod (h : Int) < (h : Int) ∧ (z.tmod (h : Int) + (h : Int)).tmod (h : Int) = z % (h : Int) := by
  have h1 := Int.mul_tdiv_add_tmod z (h : Int)
  have h2 : (z.tmod (h : Int)).natAbs = z.natAbs % h := Int.natAbs_tmod z (h : Int)
  have h4 := Nat.mod_lt z.natAbs hh
  generalize z.tmod (h : Int) = rr at *
  refine ⟨by omega, by omega, ?_⟩
  rw [Int.tmod_eq_emod_of_nonneg (by omega), Int.add_emod_right]
  rw [← h1, Int.add_comm, Int.add_mul_emod_self_left]
set_option maxHeartbeats 4000000 in
theorem refPower_any (n : Nat) (z : Int) (w : World) (hn : Sml n) (z0 : -9223372036854775808 ≤ z) (z1 : z < 9223372036854775808) :
    Calls Tryd.prog 33 #[.int .i64 (n : Int), .int .i64 z] w fun e w' => e = .returned (.int .i64 (pw3 n (stepM n z) : Int)) ∧ Ext w w' := by
  have hle := sml_le hn
  obtain ⟨a1, a2, a3⟩ := mod_up (h := n / 2) (z := z) (by omega)
  obtain ⟨K, hK⟩ := Int.eq_ofNat_of_zero_le (Int.emod_nonneg z (show ((n / 2 : Nat) : Int) ≠ 0 by omega))
  have hKl : K < n / 2 := by have := Int.emod_lt_of_pos z (show 0 < ((n / 2 : Nat) : Int) by omega); omega
  have hsm : stepM n z = K := by unfold stepM; rw [hK]; rfl
  rw [hsm]
  rw [hK] at a3
  rw [show ((n / 2 : Nat) : Int) = (n : Int) / 2 by omega] at a1 a2 a3
  have b1 : (z.tmod ((n : Int) / 2) + (n : Int) / 2).tmod ((n : Int) / 2) = (K : Int) := a3
  obtain ⟨rr, hrr⟩ : ∃ rr, rr = z.tmod ((n : Int) / 2) := ⟨_, rfl⟩
  rw [← hrr] at a1 a2 b1
  have hw1 : IntKind.i64.wrap (z.tmod ((n : Int) / 2)) = rr := by rw [← hrr, IntKind.wrap_i64]; omega
  have hw2 : IntKind.i64.wrap (rr + (n : Int) / 2) = rr + (n : Int) / 2 := by rw [IntKind.wrap_i64]; omega
  have hw3 : IntKind.i64.wrap ((rr + (n : Int) / 2).tmod ((n : Int) / 2)) = (K : Int) := by rw [b1, IntKind.wrap_i64]; omega
  have hz1 : ((n : Int) / 2 == 0) = false := by simp; omega
  have hz2 : ¬ (n : Int) / 2 = 0 := by omega
  have hp0 : pw3 n 0 = 1 := by unfold pw3; rw [Nat.pow_zero]; exact Nat.mod_eq_of_lt (by omega)
  clear hn a3 hK hsm
  rw [hrr.symm] at hw1
  go_enter Tryd.func33, Tryd.ntmps33
  go_wp2
  have hE : (z.tmod ((n : Int) / 2) + (n : Int) / 2) % ((n : Int) / 2) = (K : Int) := by
    rw [← hrr, ← b1, Int.tmod_eq_emod_of_nonneg (by omega)]
  rw [hE]
  clear hE hrr b1 a1 a2 hw1 hw2 hw3
  go_loopw [6, 7] (fun x i wr => ∃ j : Nat, j ≤ K ∧ i = .int .i64 (j : Int) ∧ x = .int .i64 (pw3 n j : Int) ∧ Ext w wr) (fun _ i _ => K - (intOf i).toNat)
  case atStart => exact ⟨0, by omega, rfl, by rw [hp0]; rfl, Ext.refl _⟩
  case round =>
    obtain ⟨j, hj, rfl, rfl, kr⟩ := hrel
    by_cases hlt : j < K
    · have hpl : pw3 n j < 2 * n := Nat.mod_lt _ (by omega)
      have HNX := Lib.hid (pw3_next n j)
      generalize hx : pw3 n j = x at *
      clear hx
      have hz : ((2 * (n : Int)) == 0) = false := by simp; omega
      have hz3 : ¬ (2 * (n : Int)) = 0 := by omega
      have m1 : ((x : Int) * 3).tmod (2 * (n : Int)) = ((x * 3 % (2 * n) : Nat) : Int) := by
        rw [Int.tmod_eq_emod_of_nonneg (by omega), show 2 * (n : Int) = ((2 * n : Nat) : Int) by omega, show (x : Int) * 3 = ((x * 3 : Nat) : Int) by omega, ← Int.natCast_emod]
      have m2 : ((x : Int) * 3) % (2 * (n : Int)) = ((x * 3 % (2 * n) : Nat) : Int) := by
        rw [show 2 * (n : Int) = ((2 * n : Nat) : Int) by omega, show (x : Int) * 3 = ((x * 3 : Nat) : Int) by omega, ← Int.natCast_emod]
      rw [← HNX.out] at m1 m2
      have hpn : pw3 n (j + 1) < 2 * n := Nat.mod_lt _ (by omega)
      go_wp2
      exact ⟨⟨j + 1, by omega, by go_num, by first | rfl | (congr 1; omega) | simp, kr⟩, by simp [intOf]; omega⟩
    · obtain rfl : j = K := by omega
      go_wp2
      go_ret
      exact ⟨rfl, kr⟩
set_option maxHeartbeats 4000000 in
theorem batchPowers_walk {N : Int} {T : Nat} {Wd : Int} {A : Option Addr} {L c : Nat} {f : Nat → Nat} {z : Int} (w : World) (hP : Hid (PA w N T A L c Wd f)) (z0 : -9223372036854775808 ≤ z) (z1 : z < 9223372036854775808) (hT : Tabs w) :
    Calls Tryd.prog 8 #[.agg #[.int .i64 N, .int .u64 (T : Int), .slice A L c, .int .i64 Wd], .int .i64 z] w fun e w' => e = .returned (.bool true) ∧ Ext w w' := by
  have HT := Lib.hid hT
  clear hT
  have kV : Ext w (w.alloc (.cells #[.int .i64 N, .int .u64 (T : Int), .slice A L c, .int .i64 Wd] 25)) := (Ext.refl w).alloc _
  obtain ⟨x0, x1, x2, x3⟩ := four_at w (.int .i64 N) (.int .u64 (T : Int)) (.slice A L c) (.int .i64 Wd) 25
  have hL := hP.out.len
  go_enter Tryd.func8, Tryd.ntmps8
  go_wp2_with fail
  generalize w.alloc (.cells #[.int .i64 N, .int .u64 (T : Int), .slice A L c, .int .i64 Wd] 25) = V0 at *
  refine (fixed9_any V0 (HT.out.ext kV)).mono ?_
  rintro e V ⟨rfl, k1⟩
  replace x0 := cell_ext k1 x0
  replace x1 := cell_ext k1 x1
  replace x2 := cell_ext k1 x2
  replace x3 := cell_ext k1 x3
  replace kV := kV.trans k1
  clear k1
  go_wp2_with fail
  refine (small_any N (T : Int) Wd A L c V hL).mono ?_
  rintro e w1 (⟨hy, rfl, k1⟩ | ⟨hy, rfl, k1⟩)
  case inr =>
    clear hy
    go_wp2
    go_ret
    exact ⟨rfl, kV.trans k1⟩
  have hN64 := hy.1
  have hL20 := hy.2
  clear hy hL
  replace x0 := cell_ext k1 x0
  replace x1 := cell_ext k1 x1
  replace x2 := cell_ext k1 x2
  replace x3 := cell_ext k1 x3
  replace kV := kV.trans k1
  clear k1
  go_wp2_with fail
  refine (bnew_any (hP.out.ext kV) (by omega) hN64 (HT.out.ext kV)).mono ?_
  rintro e w2 (⟨hy, rfl, k2⟩ | ⟨hy, p, k, r, v, x, _, _, rfl, hb, k2⟩)
  · have HN := Lib.hid hy
    clear hy
    replace x0 := cell_ext k2 x0
    replace x1 := cell_ext k2 x1
    replace x2 := cell_ext k2 x2
    replace x3 := cell_ext k2 x3
    replace kV := kV.trans k2
    go_wp2_with fail
    refine (rcheckZ (z := 8) (hP.out.ext kV) (by omega) (Lib.hid (.inr ⟨HN.out, rfl⟩))).mono ?_
    rintro e w3 ⟨rfl, k3⟩
    replace kV := kV.trans k3
    go_wp2_with fail
    refine (powerNil_any z w3).mono ?_
    rintro e w4 ⟨rfl, k4⟩
    go_wp2
    go_ret
    exact ⟨rfl, kV.trans k4⟩
  · obtain ⟨n, rfl, hn0, hn1⟩ := size_nat (hy 0 (by omega))
    have hs : Sml n := sml_all n (by omega) hn0 (hy 0 (by omega)).2.2
    have HB := Lib.hid (show Bt w2 p n T k r v from hb)
    have HS := Lib.hid hs
    obtain ⟨Q, hQ⟩ : ∃ Q, Q = pw3 n (stepM n z) := ⟨_, rfl⟩
    have pA := fun w' (kw : Ext w2 w') => power_any p n T k r v z w' (HB.out.ext kw) HS.out
    have pB := fun w' => refPower_any n z w' HS.out z0 z1
    rw [← hQ] at pA pB
    have HPA := Lib.hid pA
    have HPB := Lib.hid pB
    clear hy hb hs hQ pA pB
    replace x0 := cell_ext k2 x0
    replace kV := kV.trans k2
    have eQ : ((Q : Int) == (Q : Int)) = true := by simp
    have kk : Ext w2 w2 := Ext.refl w2
    go_wp2_with fail
    go_region_held3 (fun w' => w'.cell? ⟨w.heap.size, 0, none⟩ = some (.int .i64 (n : Int))) (go_keep)
      (first
        | (go_at_call 32; refine (HPA.out _ (by first | exact kk | exact Ext.drew kk)).mono ?_; rintro e5 w5 ⟨rfl, k5⟩; replace kk : Ext w2 w5 := (by first | exact Ext.trans kk k5 | exact Ext.trans (Ext.drew kk) k5); have d0 := cell_ext kk x0)
        | (go_at_call 33; refine (HPB.out _).mono ?_; rintro e5 w5 ⟨rfl, k5⟩; replace kk : Ext w2 w5 := (by first | exact Ext.trans kk k5 | exact Ext.trans (Ext.drew kk) k5); have d0 := cell_ext kk x0)
        | fail)
    all_goals
      have kz := kV.trans kk
      go_wp2
      go_ret
      exact ⟨by first | rfl | simp, kz⟩
end Go.Proofs.YtcclekboeppcfaaDoor

/-
  Rows of numbers made by append; the document's Centered; the law BatchBack walked.
-/
namespace Go.Proofs.YtcclekboeppcfaaDoor
open Go.RowKit
set_option linter.unusedVariables false
set_option maxRecDepth 100000

/-- The values of numbers. -/
def i64R (k : Nat) (Z : Nat → Int) : List Value := (List.range k).map fun i => Value.int .i64 (Z i)
theorem i64R_snoc (k : Nat) (Z : Nat → Int) : i64R k Z ++ [Value.int .i64 (Z k)] = i64R (k + 1) Z := by
  unfold i64R; rw [List.range_succ, List.map_append]; rfl
/-- A row of numbers that is being made, from block B on. -/
def IR (B : Nat) (w0 w : World) (v : Value) (k : Nat) (Z : Nat → Int) : Prop := w.ownsRow B 3 1 v k (i64R k Z) ∧ Below B w0 w
theorem IR.nil (w : World) (Z : Nat → Int) : IR w.heap.size w w (.slice none 0 0) 0 Z := ⟨World.ownsRow_nil _ _ _ _, Below.refl _ _⟩
theorem IR.push {B : Nat} {w0 w w1 : World} {v v' : Value} {k : Nat} {z : Int} {Z : Nat → Int} {o : Obj} (h : IR B w0 w v k Z) (hB : B ≤ w.heap.size) (hz : z = Z k)
    (h1 : w1.ownsRow B 3 1 v' (k + 1) (i64R k Z ++ [Value.int .i64 z])) (hg : (w.alloc o).grownBy w1 v.ownBlock) : IR B w0 w1 v' (k + 1) Z := by
  rw [hz, i64R_snoc] at h1
  exact ⟨h1, (h.2.alloc hB o).grown hg (by simp; omega) (fun k e => (h.1.lt k e).1)⟩
theorem IR.ext {B : Nat} {w0 w w' : World} {v : Value} {k : Nat} {Z : Nat → Int} (h : IR B w0 w v k Z) (hb : Ext w w') (hB : B ≤ w.heap.size) : IR B w0 w' v k Z := by
  refine ⟨⟨h.1.1, ?_⟩, Below.trans h.2 (Below.mono hb hB)⟩
  rcases h.1.2 with h0 | ⟨g, cap, cur, e, hg, hh, h1⟩
  · exact .inl h0
  · exact .inr ⟨g, cap, cur, e, hg, (hb.block g (Array.getElem?_eq_some_iff.1 hh).1).trans hh, h1⟩
theorem IR.alloc {B : Nat} {w0 w : World} {v : Value} {k : Nat} {Z : Nat → Int} (h : IR B w0 w v k Z) (o : Obj) : (w.alloc o).ownsRow B 3 1 v k (i64R k Z) := h.1.alloc o
theorem IR.vx {B : Nat} {w0 w : World} {v : Value} {k : Nat} {Z : Nat → Int} (h : IR B w0 w v k Z) : ∃ A c, v = .slice A k c ∧ VX w A k c Z := by
  rcases h.1.2 with ⟨rfl, rfl⟩ | ⟨g, cap, cur, rfl, hg, hh, hle, _⟩
  · exact ⟨none, 0, rfl, Nat.le_refl _, fun h => absurd h (by omega)⟩
  · exact ⟨_, cap, rfl, hle, fun _ => ⟨⟨g, 0, none⟩, rfl, fun j hj => h.1.cells (g := g) rfl j _ (by simp [i64R, hj])⟩⟩
theorem rcenterB (x q : Nat) (y : Int) (w : World) (hy : Hid (y = cenT x q)) (hx : x < 18446744073709551616) (hq : q < 18446744073709551616) :
    Calls Tryd.prog 42 #[.int .u64 (x : Int), .int .u64 (q : Int)] w fun e w' => e = .returned (.int .i64 y) ∧ Ext w w' :=
  (rcenter_any (x : Int) (q : Int) w (by omega) (by omega) (by omega) (by omega)).mono fun e w' ⟨he, hw⟩ => ⟨by rw [hy.out]; exact he, by rw [hw]; exact Ext.refl _⟩
theorem rliftY (v : Int) (q y : Nat) (w : World) (hy : Hid (y = lif v q)) (hq0 : 0 < q) (v0 : -9223372036854775808 ≤ v) (v1 : v < 9223372036854775808) (hq : q < 18446744073709551616) :
    Calls Tryd.prog 41 #[.int .i64 v, .int .u64 (q : Int)] w fun e w' => e = .returned (.int .u64 (y : Int)) ∧ Ext w w' :=
  (rliftM v q w hq0 v0 v1 hq).mono fun e w' ⟨m, hm, _, he, hk⟩ => ⟨by rw [hy.out, ← hm.out]; exact he, hk⟩
/-- A slot's number modulo T. -/
def slotN (T m : Nat) (z : Nat → Int) (i : Nat) : Nat := if i < m then lif (z i) T else 0
set_option maxHeartbeats 4000000 in
theorem centered_any {n T : Nat} {Wd : Int} {A : Option Addr} {L c : Nat} {Av : Option Addr} {m cv : Nat} {z : Nat → Int} {w : World} (hn0 : 8 ≤ n) (hn1 : n ≤ 64) (hT0 : 2 ≤ T) (hT : T < 1073741824) (hV : VX w Av m cv z) (hm : m ≤ 1000) (hz : Hid (∀ i, i < m → -9223372036854775808 ≤ z i ∧ z i < 9223372036854775808)) :
    Calls Tryd.prog 37 #[.agg #[.int .i64 (n : Int), .int .u64 (T : Int), .slice A L c, .int .i64 Wd], .slice Av m cv] w fun ee w' => ∃ A2 c2, ee = .returned (.slice A2 (n / 2) c2) ∧ VX w' A2 (n / 2) c2 (fun i => cenT (slotN T m z i) T) ∧ Ext w w' := by
  have HV := Lib.hid hV
  clear hV
  obtain ⟨i0, hi, hz0, hz1, hz2⟩ := info_parts info_intB
  have kV : Ext w (w.alloc (.cells #[.int .i64 (n : Int), .int .u64 (T : Int), .slice A L c, .int .i64 Wd] 25)) := (Ext.refl w).alloc _
  obtain ⟨x0, x1, x2, x3⟩ := four_at w (.int .i64 (n : Int)) (.int .u64 (T : Int)) (.slice A L c) (.int .i64 Wd) 25
  go_enter Tryd.func37, Tryd.ntmps37
  go_wp2
  generalize w.alloc (.cells #[.int .i64 (n : Int), .int .u64 (T : Int), .slice A L c, .int .i64 Wd] 25) = V at *
  go_loopw [5, 6] (fun s i wr => ∃ k : Nat, k ≤ n / 2 ∧ i = .int .i64 (k : Int) ∧ IR V.heap.size V wr s k (fun i => cenT (slotN T m z i) T)) (fun _ i _ => n / 2 - (intOf i).toNat)
  case atStart => exact ⟨0, by omega, rfl, IR.nil _ _⟩
  case round =>
    obtain ⟨k, hk, rfl, hlr⟩ := hrel
    have kz : Ext V wr := hlr.2
    have hzs := hlr.2.size
    have y0 := cell_ext kz x0
    have y1 := cell_ext kz x1
    by_cases hlt : k < n / 2
    · have e1 : decide ((k : Int) < (n : Int) / 2) = true := decide_eq_true (by omega)
      have HLR := Lib.hid hlr
      clear hlr
      by_cases hlm : k < m
      · obtain ⟨ad, rfl, hc⟩ := (HV.out.ext (kV.trans kz)).cells (by omega)
        have hcell := hc k hlm
        obtain ⟨v0, v1⟩ := hz.out k hlm
        clear hc
        obtain ⟨y, hy⟩ : ∃ y, y = lif (z k) T := ⟨_, rfl⟩
        have hyl : y < T := by rw [hy]; exact lif_lt (by omega)
        have HY := Lib.hid hy
        obtain ⟨u, hu⟩ : ∃ u, u = cenT y T := ⟨_, rfl⟩
        have HU := Lib.hid hu
        have HC := Lib.hid (show u = cenT (slotN T m z k) T by rw [hu, hy, slotN, if_pos hlm])
        clear hy hu
        generalize z k = zk at *
        have e2 : decide ((k : Int) < (m : Int)) = true := decide_eq_true (by omega)
        have i0' : (0 : Int) ≤ (k : Int) := by omega
        have i1' : (k : Int) < (m : Int) := by omega
        have kk : Ext wr wr := Ext.refl wr
        go_wp2_with fail
        go_region_held3 (fun w' => w'.cell? ⟨w.heap.size, 1, none⟩ = some (.int .u64 (T : Int)) ∧ w'.cell? (ad.add k) = some (.int .i64 zk)) (go_keep)
          (first
            | (go_at_call 41; refine (rliftY zk T y _ HY (by omega) v0 v1 (by omega)).mono ?_; rintro e5 w5 ⟨rfl, k5⟩; replace kk : Ext wr w5 := (by first | exact Ext.trans kk k5 | exact Ext.trans (Ext.drew kk) k5); have d1 := cell_ext kk y1; have d2 := cell_ext kk hcell)
            | fail)
        all_goals
          have hs5 := kk.size
          go_wp2_with fail
          refine (rcenterB y T u w5 HU (by omega) (by omega)).mono ?_
          rintro e6 w6 ⟨rfl, k6⟩
          have hs6 := k6.size
          have hlr2 := (HLR.out.ext kk (by omega)).ext k6 (by omega)
          go_wp2_with (at_builtin; go_loud (refine wpList_append_own _ rfl _ _ 50 rfl V.heap.size 3 i0 (.int .i64 0) 1 8 Tryd.underlying50 hi hz0 hz1 hz2 rfl (by decide) _ _ _ rfl (hlr2.alloc _) ⟨_, 0, none⟩ 1 1 [.int .i64 u] rfl rfl one_cell one_int (by unfold maxLen; omega) (by omega) (by simp; omega) ?_; intro v3 w3 hown3 hgrow3 _))
          exact ⟨⟨k + 1, by omega, by go_num, hlr2.push (by omega) HC.out hown3 hgrow3⟩, by simp [intOf]; omega⟩
      · have e2 : decide ((k : Int) < (m : Int)) = false := decide_eq_false (by omega)
        obtain ⟨u, hu⟩ : ∃ u, u = cenT 0 T := ⟨_, rfl⟩
        have HU := Lib.hid hu
        have HC := Lib.hid (show u = cenT (slotN T m z k) T by rw [hu, slotN, if_neg hlm])
        clear hu
        go_wp2_with fail
        refine (rcenterB 0 T u wr HU (by omega) (by omega)).mono ?_
        rintro e6 w6 ⟨rfl, k6⟩
        have hs6 := k6.size
        have hlr2 := HLR.out.ext k6 (by omega)
        go_wp2_with (at_builtin; go_loud (refine wpList_append_own _ rfl _ _ 50 rfl V.heap.size 3 i0 (.int .i64 0) 1 8 Tryd.underlying50 hi hz0 hz1 hz2 rfl (by decide) _ _ _ rfl (hlr2.alloc _) ⟨_, 0, none⟩ 1 1 [.int .i64 u] rfl rfl one_cell one_int (by unfold maxLen; omega) (by omega) (by simp; omega) ?_; intro v3 w3 hown3 hgrow3 _))
        exact ⟨⟨k + 1, by omega, by go_num, hlr2.push (by omega) HC.out hown3 hgrow3⟩, by simp [intOf]; omega⟩
    · have e1 : decide ((k : Int) < (n : Int) / 2) = false := decide_eq_false (by omega)
      have hkn : k = n / 2 := by omega
      obtain ⟨A3, c3, rfl, htx⟩ := hlr.vx
      have HTX := Lib.hid (show VX wr A3 (n / 2) c3 _ by rw [← hkn]; exact htx)
      have HKN := Lib.hid hkn
      clear htx hlr hkn
      go_wp2
      go_ret
      exact ⟨A3, c3, by rw [HKN.out]; rfl, HTX.out, kV.trans kz⟩
/-- The same numbers. -/
def SameI (n n' : Nat) (f f' : Nat → Int) : Prop := n = n' ∧ ∀ i, i < n → f i = f' i
set_option maxHeartbeats 1000000 in
theorem sameRow_any (A A' : Option Addr) (n n' c c' : Nat) (f f' : Nat → Int) (w : World) (hX : VX w A n c f) (hX' : VX w A' n' c' f') (hn : n ≤ 9223372036854775807) (hn' : n' ≤ 9223372036854775807) :
    Calls Tryd.prog 36 #[.slice A n c, .slice A' n' c'] w (Tells w (SameI n n' f f')) := by
  by_cases hne : n = n'
  case neg =>
    have HN := Lib.hid (show ¬ SameI n n' f f' from fun h => hne h.1)
    have e1 : ((n : Int) != (n' : Int)) = true := by simp; omega
    clear hne
    go_enter Tryd.func36, Tryd.ntmps36
    go_wp2
    go_ret
    exact Tells.no HN.out (Ext.refl _)
  subst hne
  go_enter Tryd.func36, Tryd.ntmps36
  go_wp2
  go_loopw [13] (fun i wr => ∃ m d : Nat, m ≤ n ∧ i = .int .i64 (m : Int) ∧ Hid (∀ i, i < m → f i = f' i) ∧ wr = w.drewN d) (fun i _ => n - (intOf i).toNat)
  case atStart => exact ⟨0, 0, by omega, rfl, Lib.hid fun i hi => by omega, rfl⟩
  case round =>
    obtain ⟨m, d, hm, rfl, hall, rfl⟩ := hrel
    by_cases hlt : m < n
    · obtain ⟨ad, rfl, hc⟩ := hX.cells (by omega)
      obtain ⟨ad', rfl, hc'⟩ := hX'.cells (by omega)
      have h1 := hc m hlt
      have h2 := hc' m hlt
      clear hc hc'
      have i0 : (0 : Int) ≤ (m : Int) := by omega
      have i1 : (m : Int) < (n : Int) := by omega
      by_cases he : f m = f' m
      · have HA := Lib.hid (show ∀ i, i < m + 1 → f i = f' i from fun i hi => by
          by_cases h : i = m
          · subst h; exact he
          · exact hall.out i (by omega))
        rw [← he] at h2
        clear he
        generalize f m = x at *
        go_wp2
        go_quiet (fail)
        go_wp2
        exact ⟨⟨m + 1, _, by omega, by go_num, HA, rfl⟩, by simp [intOf]; omega⟩
      · have HN := Lib.hid (show ¬ SameI n n f f' from fun h => he (h.2 m hlt))
        have e1 : ((f m) != (f' m)) = true := by simp; omega
        have e2 : ((f m) == (f' m)) = false := by simp; omega
        clear he
        go_wp2
        go_quiet (fail)
        go_wp2
        go_ret
        exact Tells.no HN.out (by first | exact (Ext.refl w).drewN _ | exact ((Ext.refl w).drewN _).drewN _)
    · have HY := Lib.hid (show SameI n n f f' from ⟨rfl, fun i hi => hall.out i (by omega)⟩)
      go_wp2
      go_ret
      exact Tells.yes HY.out ((Ext.refl w).drewN d)
/-- What is packed and unpacked: the values in the slots. -/
theorem back_slots {w : World} {p n T k r v m : Nat} {z : Nat → Int} {F G : Nat → Nat} (h : Bt w p n T k r v) (hn : Sml n) (hT : 2 ≤ T) (hF : ∀ i, i < n → F i < T ∧ M (T : Int) ((n : Int) * (F i : Int)) (back (v : Int) n (fun j => (laidF n T z m j : Int)) i)) (hG : ∀ i, i < n → G i < T ∧ M (T : Int) (G i : Int) (vals (r : Int) n (fun j => (F j : Int)) i)) :
    ∀ j, j < n → G j = laidF n T z m j := fun j hj => by
  obtain ⟨u, hu⟩ := h.unit
  obtain ⟨h1, h2⟩ := hG j hj
  have h3 : M (T : Int) ((n : Int) * (G j : Int)) ((n : Int) * (laidF n T z m j : Int)) := by
    have h4 : M (T : Int) ((n : Int) * (G j : Int)) (vals (r : Int) n (fun i => (n : Int) * (F i : Int)) j) := by
      rw [vals_scale]; exact M.rfl.mul h2
    refine h4.trans ((vals_M (fun i hi => (hF i hi).2) j).trans ?_)
    exact h.root.valsBack _ hj
  exact M.lt (unit_n hu h3) h1 (laid_lt (by omega))
theorem laid_at {n T m : Nat} {z : Nat → Int} {i : Nat} (hn : Sml n) (hi : i < n / 2) : laidF n T z m (atB n i) = slotN T m z i := by
  unfold laidF slotN
  rw [sl_at hn hi]
set_option maxHeartbeats 4000000 in
theorem batchBack_walk {N : Int} {T : Nat} {Wd : Int} {A : Option Addr} {L c : Nat} {f : Nat → Nat} {Av : Option Addr} {m cv : Nat} {z : Nat → Int} (w : World) (hP : Hid (PA w N T A L c Wd f)) (hV : VX w Av m cv z) (hm : m ≤ maxLen) (hz : Hid (∀ i, i < m → -9223372036854775808 ≤ z i ∧ z i < 9223372036854775808)) (hT : Tabs w) :
    Calls Tryd.prog 9 #[.agg #[.int .i64 N, .int .u64 (T : Int), .slice A L c, .int .i64 Wd], .slice Av m cv] w fun e w' => e = .returned (.bool true) ∧ Ext w w' := by
  have HT := Lib.hid hT
  have HV := Lib.hid hV
  clear hT hV
  have kV : Ext w (w.alloc (.cells #[.int .i64 N, .int .u64 (T : Int), .slice A L c, .int .i64 Wd] 25)) := (Ext.refl w).alloc _
  obtain ⟨x0, x1, x2, x3⟩ := four_at w (.int .i64 N) (.int .u64 (T : Int)) (.slice A L c) (.int .i64 Wd) 25
  have hL := hP.out.len
  have hml : m ≤ 9223372036854775807 := hm
  clear hm
  go_enter Tryd.func9, Tryd.ntmps9
  go_wp2_with fail
  generalize w.alloc (.cells #[.int .i64 N, .int .u64 (T : Int), .slice A L c, .int .i64 Wd] 25) = V0 at *
  refine (fixed9_any V0 (HT.out.ext kV)).mono ?_
  rintro e V ⟨rfl, k1⟩
  replace x0 := cell_ext k1 x0
  replace x1 := cell_ext k1 x1
  replace x2 := cell_ext k1 x2
  replace x3 := cell_ext k1 x3
  replace kV := kV.trans k1
  clear k1
  go_wp2_with fail
  refine (small_any N (T : Int) Wd A L c V hL).mono ?_
  rintro e w1 (⟨hy, rfl, k1⟩ | ⟨hy, rfl, k1⟩)
  case inr =>
    clear hy
    go_wp2
    go_ret
    exact ⟨rfl, kV.trans k1⟩
  have hN64 := hy.1
  have hL20 := hy.2
  have hN0 := hP.out.n0
  clear hy hL
  replace x0 := cell_ext k1 x0
  replace x1 := cell_ext k1 x1
  replace x2 := cell_ext k1 x2
  replace x3 := cell_ext k1 x3
  replace kV := kV.trans k1
  clear k1
  have hw : IntKind.i64.wrap (N.tdiv 2) = N.tdiv 2 := by
    rw [IntKind.wrap_i64]
    have := Int.mul_tdiv_add_tmod N 2
    have h2 : (N.tmod 2).natAbs = N.natAbs % 2 := Int.natAbs_tmod N 2
    omega
  by_cases hmn : N.tdiv 2 < (m : Int)
  · have e1 : decide (N.tdiv 2 < (m : Int)) = true := decide_eq_true hmn
    go_wp2
    go_ret
    exact ⟨rfl, kV⟩
  have e1 : decide (N.tdiv 2 < (m : Int)) = false := decide_eq_false hmn
  go_wp2_with fail
  refine (bnew_any (hP.out.ext kV) (by omega) hN64 (HT.out.ext kV)).mono ?_
  rintro e w2 (⟨hy, rfl, k2⟩ | ⟨hy, p, k, r, v, x, _, _, rfl, hb, k2⟩)
  · clear hy
    go_wp2
    go_ret
    exact ⟨rfl, kV.trans k2⟩
  obtain ⟨n, rfl, hn0, hn1⟩ := size_nat (hy 0 (by omega))
  have hs : Sml n := sml_all n (by omega) hn0 (hy 0 (by omega)).2.2
  have hmn2 : m ≤ n / 2 := by
    have : (n : Int).tdiv 2 = ((n / 2 : Nat) : Int) := by rw [Int.tdiv_eq_ediv_of_nonneg (by omega)]; omega
    omega
  have hT2 := hy.T2
  have hT30 : T < 1073741824 := (hy 2 (by omega)).1
  have HB := Lib.hid (show Bt w2 p n T k r v from hb)
  have HS := Lib.hid hs
  have HMN := Lib.hid hmn2
  clear hy hb hs hw hmn e1
  replace x0 := cell_ext k2 x0
  replace x1 := cell_ext k2 x1
  replace x2 := cell_ext k2 x2
  replace x3 := cell_ext k2 x3
  replace kV := kV.trans k2
  go_wp2_with fail
  refine (pack_any p n T k r v m cv Av z w2 HB.out HS.out (HV.out.ext kV) hz HMN.out hT2 hT30).mono ?_
  rintro e w3 ⟨g3, F, rfl, hu3, hF, k3⟩
  have HU := Lib.hid hu3
  clear hu3
  replace x0 := cell_ext k3 x0
  replace x1 := cell_ext k3 x1
  replace x2 := cell_ext k3 x2
  replace x3 := cell_ext k3 x3
  replace kV := kV.trans k3
  go_wp2_with fail
  refine (unpack_any p n T k r v n (some ⟨g3, 0, none⟩) F w3 (HB.out.ext k3) HS.out (UW.fx HU.out) (Lib.hid fun i hi => (hF.out i hi).1) hT2 hT30).mono ?_
  rintro e w4 ⟨g4, G, rfl, hi4, hG, k4⟩
  have HI := Lib.hid hi4
  have HE := Lib.hid (show SameI (n / 2) (n / 2) (fun i => cenT (G (atB n i)) T) (fun i => cenT (slotN T m z i) T) from ⟨rfl, fun i hi => by
    show cenT (G (atB n i)) T = cenT (slotN T m z i) T
    rw [back_slots HB.out HS.out hT2 hF.out hG.out _ (at_lt (by omega) i), laid_at HS.out hi]⟩)
  clear hi4 hF hG
  replace x0 := cell_ext k4 x0
  replace x1 := cell_ext k4 x1
  replace x2 := cell_ext k4 x2
  replace x3 := cell_ext k4 x3
  replace kV := kV.trans k4
  go_wp2_with fail
  refine (centered_any (n := n) (T := T) (by omega) (by omega) hT2 hT30 (HV.out.ext kV) (by omega) hz).mono ?_
  rintro e w5 ⟨A5, c5, rfl, hv5, k5⟩
  have HV5 := Lib.hid hv5
  clear hv5
  go_wp2_with fail
  refine (sameRow_any _ _ (n / 2) (n / 2) (n / 2) c5 _ _ w5 ((IWB.vx HI.out).ext k5) HV5.out (by omega) (by omega)).mono ?_
  rintro e w6 h6
  obtain ⟨rfl, k6⟩ := tells_yes h6 HE.out
  clear h6
  go_wp2
  go_ret
  exact ⟨rfl, kV.trans (k5.trans k6)⟩
end Go.Proofs.YtcclekboeppcfaaDoor
