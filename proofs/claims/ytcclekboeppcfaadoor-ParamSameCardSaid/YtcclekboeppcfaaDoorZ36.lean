/-
  Arrays of three words compared.
-/
import Derived.Test.YtcclekboeppcfaaDoorZ35
import Derived.DeepKeys
namespace Go.Proofs.YtcclekboeppcfaaDoor
open Go.RowKit
set_option linter.unusedVariables false
set_option maxRecDepth 100000

theorem cellsU : Tryd.prog.cellsOf 22 = 1 := by kernel_rfl
theorem part0 (a b c : Int) (w : World) : Sem.run Tryd.prog (Go.part 22 #[.int .u64 a, .int .u64 b, .int .u64 c] (0 * 1)) w = Result.ok (.int .u64 a) w := by kernel_rfl
theorem part1 (a b c : Int) (w : World) : Sem.run Tryd.prog (Go.part 22 #[.int .u64 a, .int .u64 b, .int .u64 c] (1 * 1)) w = Result.ok (.int .u64 b) w := by kernel_rfl
theorem part2 (a b c : Int) (w : World) : Sem.run Tryd.prog (Go.part 22 #[.int .u64 a, .int .u64 b, .int .u64 c] (2 * 1)) w = Result.ok (.int .u64 c) w := by kernel_rfl
theorem eq3 (a b c a' b' c' : Int) (w : World) : Sem.run Tryd.prog (Op.equalIn 10000 82 (.agg #[.int .u64 a, .int .u64 b, .int .u64 c]) (.agg #[.int .u64 a', .int .u64 b', .int .u64 c'])) w = .ok ((a == a') && ((b == b') && (c == c'))) w := by
  have hi : ∃ i, Tryd.prog.info? 22 = some i := ⟨_, rfl⟩
  obtain ⟨i, hi⟩ := hi
  show Sem.run Tryd.prog (Op.equalIn (9999 + 1) 82 _ _) w = _
  rw [run_equalIn_array w 9999 _ _ Tryd.underlying82 hi, cellsU]
  have r3 : List.range 3 = [0, 1, 2] := rfl
  rw [r3]
  have e0 : ∀ (x y : Int) (w : World), Sem.run Tryd.prog (Op.equalIn 9999 22 (.int .u64 x) (.int .u64 y)) w = .ok (x == y) w := fun x y w => run_equalIn_int w 9998 22 .u64 .u64 x y Tryd.underlying22
  simp only [Op.eqItems, Sem.run_bind]
  rw [part0, Result.andThen_ok, part0, Result.andThen_ok, e0, Result.andThen_ok]
  cases (a == a')
  · simp [go_sem]
  · simp only [Bool.not_true, Bool.false_eq_true, if_false, Sem.run_bind, Bool.true_and]
    rw [part1, Result.andThen_ok, part1, Result.andThen_ok, e0, Result.andThen_ok]
    cases (b == b')
    · simp [go_sem]
    · simp only [Bool.not_true, Bool.false_eq_true, if_false, Sem.run_bind, Bool.true_and]
      rw [part2, Result.andThen_ok, part2, Result.andThen_ok, e0, Result.andThen_ok]
      cases (c == c')
      · simp [go_sem]
      · simp [go_sem]
end Go.Proofs.YtcclekboeppcfaaDoor

/-
  The law ParamSame walked; which parameters are the same.
-/
namespace Go.Proofs.YtcclekboeppcfaaDoor
open Go.RowKit
set_option linter.unusedVariables false
set_option maxRecDepth 100000

/-- The same words. -/
def SameW (n n' : Nat) (f f' : Nat → Nat) : Prop := n = n' ∧ ∀ i, i < n → f i = f' i
set_option maxHeartbeats 1000000 in
theorem sameW_any (A A' : Option Addr) (n n' c c' : Nat) (f f' : Nat → Nat) (w : World) (hX : FX w A n c f) (hX' : FX w A' n' c' f') (hn : n ≤ 9223372036854775807) (hn' : n' ≤ 9223372036854775807) :
    Calls Tryd.prog 60 #[.slice A n c, .slice A' n' c'] w (Tells w (SameW n n' f f')) := by
  by_cases hne : n = n'
  case neg =>
    have HN := Lib.hid (show ¬ SameW n n' f f' from fun h => hne h.1)
    have e1 : ((n : Int) != (n' : Int)) = true := by simp; omega
    clear hne
    go_enter Tryd.func60, Tryd.ntmps60
    go_wp2
    go_ret
    exact Tells.no HN.out (Ext.refl _)
  subst hne
  go_enter Tryd.func60, Tryd.ntmps60
  go_wp2
  go_loopw [13] (fun i wr => ∃ m d : Nat, m ≤ n ∧ i = .int .i64 (m : Int) ∧ Hid (∀ i, i < m → f i = f' i) ∧ wr = w.drewN d) (fun i _ => n - (intOf i).toNat)
  case atStart => exact ⟨0, 0, by omega, rfl, Lib.hid fun i hi => by omega, rfl⟩
  case round =>
    obtain ⟨m, d, hm, rfl, hall, rfl⟩ := hrel
    by_cases hlt : m < n
    · obtain ⟨ad, rfl, hc⟩ := hX.cells (by omega)
      obtain ⟨ad', rfl, hc'⟩ := hX'.cells (by omega)
      have h1 := hc m hlt
      have h2 := hc' m hlt
      clear hc hc'
      have i0 : (0 : Int) ≤ (m : Int) := by omega
      have i1 : (m : Int) < (n : Int) := by omega
      by_cases he : f m = f' m
      · have HA := Lib.hid (show ∀ i, i < m + 1 → f i = f' i from fun i hi => by
          by_cases h : i = m
          · subst h; exact he
          · exact hall.out i (by omega))
        rw [← he] at h2
        clear he
        generalize f m = x at *
        go_wp2
        go_quiet (fail)
        go_wp2
        exact ⟨⟨m + 1, _, by omega, by go_num, HA, rfl⟩, by simp [intOf]; omega⟩
      · have HN := Lib.hid (show ¬ SameW n n f f' from fun h => he (h.2 m hlt))
        have e1 : ((f m : Int) != (f' m : Int)) = true := by simp; omega
        have e2 : ((f m : Int) == (f' m : Int)) = false := by simp; omega
        clear he
        go_wp2
        go_quiet (fail)
        go_wp2
        go_ret
        exact Tells.no HN.out (by first | exact (Ext.refl w).drewN _ | exact ((Ext.refl w).drewN _).drewN _ | exact ((Ext.refl w).drewN _).drew)
    · have HY := Lib.hid (show SameW n n f f' from ⟨rfl, fun i hi => hall.out i (by omega)⟩)
      go_wp2
      go_ret
      exact Tells.yes HY.out ((Ext.refl w).drewN d)
/-- It tells, and only draws. -/
def TellsQ (w : World) (P : Prop) (ee : Ending) (w' : World) : Prop := (P ∧ ee = .returned (.bool true) ∧ ∃ d, w' = w.drewN d) ∨ (¬ P ∧ ee = .returned (.bool false) ∧ ∃ d, w' = w.drewN d)
set_option maxHeartbeats 1000000 in
theorem equalT_any (A A' : Option Addr) (n n' c c' : Nat) (f f' : Nat → Nat) (w : World) (hX : FX w A n c f) (hX' : FX w A' n' c' f') (hn : n ≤ 9223372036854775807) (hn' : n' ≤ 9223372036854775807) :
    Calls Tryd.prog 58 #[.slice A n c, .slice A' n' c'] w (TellsQ w (SameW n n' f f')) := by
  by_cases hne : n = n'
  case neg =>
    have HN := Lib.hid (show ¬ SameW n n' f f' from fun h => hne h.1)
    have e1 : ((n : Int) != (n' : Int)) = true := by simp; omega
    clear hne
    go_enter Tryd.func58, Tryd.ntmps58
    go_wp2
    go_ret
    exact .inr ⟨HN.out, rfl, 0, rfl⟩
  subst hne
  go_enter Tryd.func58, Tryd.ntmps58
  go_wp2
  go_loopw [13] (fun i wr => ∃ m d : Nat, m ≤ n ∧ i = .int .i64 (m : Int) ∧ Hid (∀ i, i < m → f i = f' i) ∧ wr = w.drewN d) (fun i _ => n - (intOf i).toNat)
  case atStart => exact ⟨0, 0, by omega, rfl, Lib.hid fun i hi => by omega, rfl⟩
  case round =>
    obtain ⟨m, d, hm, rfl, hall, rfl⟩ := hrel
    by_cases hlt : m < n
    · obtain ⟨ad, rfl, hc⟩ := hX.cells (by omega)
      obtain ⟨ad', rfl, hc'⟩ := hX'.cells (by omega)
      have h1 := hc m hlt
      have h2 := hc' m hlt
      clear hc hc'
      have i0 : (0 : Int) ≤ (m : Int) := by omega
      have i1 : (m : Int) < (n : Int) := by omega
      by_cases he : f m = f' m
      · have HA := Lib.hid (show ∀ i, i < m + 1 → f i = f' i from fun i hi => by
          by_cases h : i = m
          · subst h; exact he
          · exact hall.out i (by omega))
        rw [← he] at h2
        clear he
        generalize f m = x at *
        go_wp2
        go_quiet (fail)
        go_wp2
        exact ⟨⟨m + 1, _, by omega, by go_num, HA, rfl⟩, by simp [intOf]; omega⟩
      · have HN := Lib.hid (show ¬ SameW n n f f' from fun h => he (h.2 m hlt))
        have e1 : ((f m : Int) != (f' m : Int)) = true := by simp; omega
        have e2 : ((f m : Int) == (f' m : Int)) = false := by simp; omega
        clear he
        go_wp2
        go_quiet (fail)
        go_wp2
        go_ret
        exact .inr ⟨HN.out, rfl, _, World.drewN_drewN _ _ _⟩
    · have HY := Lib.hid (show SameW n n f f' from ⟨rfl, fun i hi => hall.out i (by omega)⟩)
      go_wp2
      go_ret
      exact .inl ⟨HY.out, rfl, d, rfl⟩
theorem equal_yes {A A' : Option Addr} {n n' c c' : Nat} {f f' : Nat → Nat} {w : World} (hX : FX w A n c f) (hX' : FX w A' n' c' f') (hn : n ≤ 9223372036854775807) (hn' : n' ≤ 9223372036854775807) (h : SameW n n' f f') :
    Calls Tryd.prog 58 #[.slice A n c, .slice A' n' c'] w fun e w' => e = .returned (.bool true) ∧ Ext w w' :=
  (equalT_any A A' n n' c c' f f' w hX hX' hn hn').mono fun e w' h' => by
    rcases h' with ⟨_, he, d, hw⟩ | ⟨h', _⟩
    · exact ⟨he, by rw [hw]; exact (Ext.refl w).drewN d⟩
    · exact absurd h h'
theorem equal_q {A A' : Option Addr} {n n' c c' : Nat} {f f' : Nat → Nat} {w : World} {q : Nat} (hX : FX w A n c f) (hX' : FX w A' n' c' f') (hn : n ≤ 9223372036854775807) (hn' : n' ≤ 9223372036854775807) (h : ¬ SameW n n' f f') :
    Calls Tryd.prog 58 #[.slice A n c, .slice A' n' c'] (w.drewN q) fun e w' => e = .returned (.bool false) ∧ ∃ m, w' = w.drewN m :=
  (equalT_any A A' n n' c c' f f' (w.drewN q) (hX.drewN q) (hX'.drewN q) hn hn').mono fun e w' h' => by
    rcases h' with ⟨h', _⟩ | ⟨_, he, d, hw⟩
    · exact absurd h' h
    · exact ⟨he, _, by rw [hw]; exact World.drewN_drewN _ _ _⟩
/-- A number's sixty-four bits as a word. -/
def bitsU (z : Int) : Int := IntKind.u64.wrap z
theorem bitsU_inj {a b : Int} (a0 : -9223372036854775808 ≤ a) (a1 : a < 9223372036854775808) (b0 : -9223372036854775808 ≤ b) (b1 : b < 9223372036854775808) (h : bitsU a = bitsU b) : a = b := by
  unfold bitsU at h; rw [IntKind.wrap_u64, IntKind.wrap_u64] at h; omega
set_option maxHeartbeats 1000000 in
theorem beside_any (N T Wd : Int) (A : Option Addr) (L c : Nat) (w : World) :
    Calls Tryd.prog 59 #[.agg #[.int .i64 N, .int .u64 T, .slice A L c, .int .i64 Wd]] w fun e w' => e = .returned (.agg #[.int .u64 (bitsU N), .int .u64 T, .int .u64 (bitsU Wd)]) ∧ Ext w w' := by
  go_enter Tryd.func59, Tryd.ntmps59
  go_wp2
  have kz : Ext w ((w.alloc (.cells #[.int .i64 N, .int .u64 T, .slice A L c, .int .i64 Wd] 71)).alloc (.cells #[.int .u64 (bitsU N), .int .u64 T, .int .u64 (bitsU Wd)] 82)) := ((Ext.refl w).alloc _).alloc _
  exact bodyPost_ret (v := .agg #[.int .u64 (bitsU N), .int .u64 T, .int .u64 (bitsU Wd)]) (by simp [results, Tryd.results59, go_sem, bitsU]) rfl ⟨rfl, by first | exact kz | exact ((Ext.refl w).alloc _).alloc _⟩
/-- The same parameters. -/
def SamePar (N : Int) (T L : Nat) (f : Nat → Nat) (Wd N' : Int) (T' L' : Nat) (f' : Nat → Nat) (Wd' : Int) : Prop := SameW L L' f f' ∧ N = N' ∧ T = T' ∧ Wd = Wd'
set_option maxHeartbeats 4000000 in
theorem parSame_any {N : Int} {T : Nat} {Wd : Int} {A : Option Addr} {L c : Nat} {f : Nat → Nat} {N' : Int} {T' : Nat} {Wd' : Int} {A' : Option Addr} {L' c' : Nat} {f' : Nat → Nat} (w : World) (hP : PA w N T A L c Wd f) (hP' : PA w N' T' A' L' c' Wd' f') :
    Calls Tryd.prog 26 #[.agg #[.int .i64 N, .int .u64 (T : Int), .slice A L c, .int .i64 Wd], .agg #[.int .i64 N', .int .u64 (T' : Int), .slice A' L' c', .int .i64 Wd']] w (Tells w (SamePar N T L f Wd N' T' L' f' Wd')) := by
  have HP := Lib.hid hP
  have HP' := Lib.hid hP'
  clear hP hP'
  have kV : Ext w ((w.alloc (.cells #[.int .i64 N, .int .u64 (T : Int), .slice A L c, .int .i64 Wd] 25)).alloc (.cells #[.int .i64 N', .int .u64 (T' : Int), .slice A' L' c', .int .i64 Wd'] 25)) := ((Ext.refl w).alloc _).alloc _
  obtain ⟨x0, x1, x2, x3⟩ := four_at w (.int .i64 N) (.int .u64 (T : Int)) (.slice A L c) (.int .i64 Wd) 25
  obtain ⟨y0, y1, y2, y3⟩ := four_at (w.alloc (.cells #[.int .i64 N, .int .u64 (T : Int), .slice A L c, .int .i64 Wd] 25)) (.int .i64 N') (.int .u64 (T' : Int)) (.slice A' L' c') (.int .i64 Wd') 25
  have kA : Ext (w.alloc (.cells #[.int .i64 N, .int .u64 (T : Int), .slice A L c, .int .i64 Wd] 25)) ((w.alloc (.cells #[.int .i64 N, .int .u64 (T : Int), .slice A L c, .int .i64 Wd] 25)).alloc (.cells #[.int .i64 N', .int .u64 (T' : Int), .slice A' L' c', .int .i64 Wd'] 25)) := (Ext.refl _).alloc _
  replace x0 := cell_ext kA x0
  replace x1 := cell_ext kA x1
  replace x2 := cell_ext kA x2
  replace x3 := cell_ext kA x3
  rw [show (w.alloc (.cells #[.int .i64 N, .int .u64 (T : Int), .slice A L c, .int .i64 Wd] 25)).heap.size = w.heap.size + 1 by simp] at y0 y1 y2 y3
  clear kA
  go_enter Tryd.func26, Tryd.ntmps26
  go_wp2_with fail
  generalize ((w.alloc (.cells #[.int .i64 N, .int .u64 (T : Int), .slice A L c, .int .i64 Wd] 25)).alloc (.cells #[.int .i64 N', .int .u64 (T' : Int), .slice A' L' c', .int .i64 Wd'] 25)) = V at *
  have l1 := HP.out.len
  have l2 := HP'.out.len
  by_cases hs : SameW L L' f f'
  case neg =>
    have HN := Lib.hid (show ¬ SamePar N T L f Wd N' T' L' f' Wd' from fun h => hs h.1)
    have HS := Lib.hid hs
    clear hs
    go_quiet ((go_at_call 58; exact equal_q (HP.out.ext kV).fx (HP'.out.ext kV).fx l1 l2 HS.out))
    go_wp2
    go_ret
    exact Tells.no HN.out (kV.drewN _)
  have HS := Lib.hid hs
  clear hs
  have kk : Ext V V := Ext.refl V
  have hE := eq3 (bitsU N) (T : Int) (bitsU Wd) (bitsU N') (T' : Int) (bitsU Wd')
  obtain ⟨b, hb⟩ : ∃ b : Bool, b = ((bitsU N == bitsU N') && (((T : Int) == (T' : Int)) && (bitsU Wd == bitsU Wd'))) := ⟨_, rfl⟩
  rw [← hb] at hE
  have HB := Lib.hid (show b = true ↔ SamePar N T L f Wd N' T' L' f' Wd' by
    rw [hb, Bool.and_eq_true, Bool.and_eq_true, beq_iff_eq, beq_iff_eq, beq_iff_eq]
    constructor
    · rintro ⟨h1, h2, h3⟩
      exact ⟨HS.out, bitsU_inj HP.out.n0 HP.out.n1 HP'.out.n0 HP'.out.n1 h1, by omega, bitsU_inj HP.out.w0 HP.out.w1 HP'.out.w0 HP'.out.w1 h3⟩
    · rintro ⟨_, rfl, rfl, rfl⟩; exact ⟨rfl, rfl, rfl⟩)
  clear hb
  go_region_held3 (fun w' => w'.cell? ⟨w.heap.size, 0, none⟩ = some (.int .i64 N) ∧ w'.cell? ⟨w.heap.size, 1, none⟩ = some (.int .u64 (T : Int)) ∧ w'.cell? ⟨w.heap.size, 2, none⟩ = some (.slice A L c) ∧ w'.cell? ⟨w.heap.size, 3, none⟩ = some (.int .i64 Wd) ∧ w'.cell? ⟨w.heap.size + 1, 0, none⟩ = some (.int .i64 N') ∧ w'.cell? ⟨w.heap.size + 1, 1, none⟩ = some (.int .u64 (T' : Int)) ∧ w'.cell? ⟨w.heap.size + 1, 2, none⟩ = some (.slice A' L' c') ∧ w'.cell? ⟨w.heap.size + 1, 3, none⟩ = some (.int .i64 Wd')) (go_keep)
    (first
      | (go_at_call 58; refine (equal_yes (HP.out.ext (kV.trans (by first | exact kk | exact Ext.drew kk))).fx (HP'.out.ext (kV.trans (by first | exact kk | exact Ext.drew kk))).fx l1 l2 HS.out).mono ?_; rintro e5 w5 ⟨rfl, k5⟩; replace kk : Ext V w5 := (by first | exact Ext.trans kk k5 | exact Ext.trans (Ext.drew kk) k5); have d0 := cell_ext kk x0; have d1 := cell_ext kk x1; have d2 := cell_ext kk x2; have d3 := cell_ext kk x3; have g0 := cell_ext kk y0; have g1 := cell_ext kk y1; have g2 := cell_ext kk y2; have g3 := cell_ext kk y3)
      | (go_at_call_of 59 N'; refine (beside_any N' (T' : Int) Wd' A' L' c' _).mono ?_; rintro e5 w5 ⟨rfl, k5⟩; replace kk : Ext V w5 := (by first | exact Ext.trans kk k5 | exact Ext.trans (Ext.drew kk) k5); have d0 := cell_ext kk x0; have d1 := cell_ext kk x1; have d2 := cell_ext kk x2; have d3 := cell_ext kk x3; have g0 := cell_ext kk y0; have g1 := cell_ext kk y1; have g2 := cell_ext kk y2; have g3 := cell_ext kk y3)
      | (go_at_call 59; refine (beside_any N (T : Int) Wd A L c _).mono ?_; rintro e5 w5 ⟨rfl, k5⟩; replace kk : Ext V w5 := (by first | exact Ext.trans kk k5 | exact Ext.trans (Ext.drew kk) k5); have d0 := cell_ext kk x0; have d1 := cell_ext kk x1; have d2 := cell_ext kk x2; have d3 := cell_ext kk x3; have g0 := cell_ext kk y0; have g1 := cell_ext kk y1; have g2 := cell_ext kk y2; have g3 := cell_ext kk y3)
      | fail)
  all_goals
    have kz := kV.trans kk
    cases b
    · have HN := Lib.hid (show ¬ SamePar N T L f Wd N' T' L' f' Wd' from fun h => by have := HB.out.2 h; cases this)
      clear hE HB
      go_wp2
      go_ret
      exact Tells.no HN.out kz
    · have HN := Lib.hid (HB.out.1 rfl)
      clear hE HB
      go_wp2
      go_ret
      exact Tells.yes HN.out kz
set_option maxHeartbeats 4000000 in
theorem rparSame_any {N : Int} {T : Nat} {Wd : Int} {A : Option Addr} {L c : Nat} {f : Nat → Nat} {N' : Int} {T' : Nat} {Wd' : Int} {A' : Option Addr} {L' c' : Nat} {f' : Nat → Nat} (w : World) (hP : PA w N T A L c Wd f) (hP' : PA w N' T' A' L' c' Wd' f') :
    Calls Tryd.prog 27 #[.agg #[.int .i64 N, .int .u64 (T : Int), .slice A L c, .int .i64 Wd], .agg #[.int .i64 N', .int .u64 (T' : Int), .slice A' L' c', .int .i64 Wd']] w (Tells w (SamePar N T L f Wd N' T' L' f' Wd')) := by
  have HP := Lib.hid hP
  have HP' := Lib.hid hP'
  have l1 := hP.len
  have l2 := hP'.len
  clear hP hP'
  have kV : Ext w ((w.alloc (.cells #[.int .i64 N, .int .u64 (T : Int), .slice A L c, .int .i64 Wd] 25)).alloc (.cells #[.int .i64 N', .int .u64 (T' : Int), .slice A' L' c', .int .i64 Wd'] 25)) := ((Ext.refl w).alloc _).alloc _
  by_cases h1 : N = N'
  case neg =>
    have e1 : (N == N') = false := by simp; omega
    have HN := Lib.hid (show ¬ SamePar N T L f Wd N' T' L' f' Wd' from fun h => h1 h.2.1)
    clear h1
    go_enter Tryd.func27, Tryd.ntmps27
    go_wp2
    go_ret
    exact Tells.no HN.out kV
  by_cases h2 : T = T'
  case neg =>
    have e1 : (N == N') = true := by simp; omega
    have e2 : ((T : Int) == (T' : Int)) = false := by simp; omega
    have HN := Lib.hid (show ¬ SamePar N T L f Wd N' T' L' f' Wd' from fun h => h2 h.2.2.1)
    clear h1 h2
    go_enter Tryd.func27, Tryd.ntmps27
    go_wp2
    go_ret
    exact Tells.no HN.out kV
  by_cases h3 : Wd = Wd'
  case neg =>
    have e1 : (N == N') = true := by simp; omega
    have e2 : ((T : Int) == (T' : Int)) = true := by simp; omega
    have e3 : (Wd == Wd') = false := by simp; omega
    have HN := Lib.hid (show ¬ SamePar N T L f Wd N' T' L' f' Wd' from fun h => h3 h.2.2.2)
    clear h1 h2 h3
    go_enter Tryd.func27, Tryd.ntmps27
    go_wp2
    go_ret
    exact Tells.no HN.out kV
  subst h1 h2 h3
  have e1 : (N == N) = true := by simp
  have e2 : ((T : Int) == (T : Int)) = true := by simp
  have e3 : (Wd == Wd) = true := by simp
  go_enter Tryd.func27, Tryd.ntmps27
  go_wp2_with fail
  refine (sameW_any A A' L L' c c' f f' _ (HP.out.ext kV).fx (HP'.out.ext kV).fx l1 l2).mono ?_
  rintro e w2 (⟨hy, rfl, k2⟩ | ⟨hy, rfl, k2⟩)
  · have HN := Lib.hid (show SamePar N T L f Wd N T L' f' Wd from ⟨hy, rfl, rfl, rfl⟩)
    clear hy
    go_wp2
    go_ret
    exact Tells.yes HN.out (kV.trans k2)
  · have HN := Lib.hid (show ¬ SamePar N T L f Wd N T L' f' Wd from fun h => hy h.1)
    clear hy
    go_wp2
    go_ret
    exact Tells.no HN.out (kV.trans k2)
/-- What is told, as a bool. -/
theorem Tells.b {w w' : World} {P : Prop} {b : Bool} {e : Ending} (h : Tells w P e w') (hb : b = true ↔ P) : e = .returned (.bool b) ∧ Ext w w' := by
  rcases h with ⟨h, he, hw⟩ | ⟨h, he, hw⟩
  · rw [hb.2 h]; exact ⟨he, hw⟩
  · cases b
    · exact ⟨he, hw⟩
    · exact absurd (hb.1 rfl) h
theorem SamePar.symm {N : Int} {T L : Nat} {f : Nat → Nat} {Wd N' : Int} {T' L' : Nat} {f' : Nat → Nat} {Wd' : Int} (h : SamePar N T L f Wd N' T' L' f' Wd') : SamePar N' T' L' f' Wd' N T L f Wd := by
  obtain ⟨⟨rfl, h1⟩, rfl, rfl, rfl⟩ := h
  exact ⟨⟨rfl, fun i hi => (h1 i hi).symm⟩, rfl, rfl, rfl⟩
theorem sameAA {N : Int} {T : Nat} {Wd : Int} {A : Option Addr} {L c : Nat} {f : Nat → Nat} {w : World} {va vb : Value} (hP : PA w N T A L c Wd f) (hv : va = .agg #[.int .i64 N, .int .u64 (T : Int), .slice A L c, .int .i64 Wd] ∧ vb = .agg #[.int .i64 N, .int .u64 (T : Int), .slice A L c, .int .i64 Wd]) :
    Calls Tryd.prog 26 #[va, vb] w fun e w' => e = .returned (.bool true) ∧ Ext w w' := by
  obtain ⟨rfl, rfl⟩ := hv
  exact (parSame_any w hP hP).mono fun e w' h => h.b ⟨fun _ => ⟨⟨rfl, fun _ _ => rfl⟩, rfl, rfl, rfl⟩, fun _ => rfl⟩
theorem sameAB {N : Int} {T : Nat} {Wd : Int} {A : Option Addr} {L c : Nat} {f : Nat → Nat} {N' : Int} {T' : Nat} {Wd' : Int} {A' : Option Addr} {L' c' : Nat} {f' : Nat → Nat} {w : World} {b : Bool} {va vb : Value} (hP : PA w N T A L c Wd f) (hP' : PA w N' T' A' L' c' Wd' f') (hb : Hid (b = true ↔ SamePar N T L f Wd N' T' L' f' Wd'))
    (hv : (va = .agg #[.int .i64 N, .int .u64 (T : Int), .slice A L c, .int .i64 Wd] ∧ vb = .agg #[.int .i64 N', .int .u64 (T' : Int), .slice A' L' c', .int .i64 Wd']) ∨ (va = .agg #[.int .i64 N', .int .u64 (T' : Int), .slice A' L' c', .int .i64 Wd'] ∧ vb = .agg #[.int .i64 N, .int .u64 (T : Int), .slice A L c, .int .i64 Wd])) :
    Calls Tryd.prog 26 #[va, vb] w fun e w' => e = .returned (.bool b) ∧ Ext w w' := by
  rcases hv with ⟨rfl, rfl⟩ | ⟨rfl, rfl⟩
  · exact (parSame_any w hP hP').mono fun e w' h => h.b hb.out
  · exact (parSame_any w hP' hP).mono fun e w' h => h.b ⟨fun h => (hb.out.1 h).symm, fun h => hb.out.2 h.symm⟩
set_option maxHeartbeats 4000000 in
theorem paramSame_walk {N : Int} {T : Nat} {Wd : Int} {A : Option Addr} {L c : Nat} {f : Nat → Nat} {N' : Int} {T' : Nat} {Wd' : Int} {A' : Option Addr} {L' c' : Nat} {f' : Nat → Nat} (w : World) (hP : Hid (PA w N T A L c Wd f)) (hP' : Hid (PA w N' T' A' L' c' Wd' f')) (hT : Tabs w) :
    Calls Tryd.prog 6 #[.agg #[.int .i64 N, .int .u64 (T : Int), .slice A L c, .int .i64 Wd], .agg #[.int .i64 N', .int .u64 (T' : Int), .slice A' L' c', .int .i64 Wd']] w fun e w' => e = .returned (.bool true) ∧ Ext w w' := by
  have HT := Lib.hid hT
  clear hT
  have kV : Ext w ((w.alloc (.cells #[.int .i64 N, .int .u64 (T : Int), .slice A L c, .int .i64 Wd] 25)).alloc (.cells #[.int .i64 N', .int .u64 (T' : Int), .slice A' L' c', .int .i64 Wd'] 25)) := ((Ext.refl w).alloc _).alloc _
  obtain ⟨x0, x1, x2, x3⟩ := four_at w (.int .i64 N) (.int .u64 (T : Int)) (.slice A L c) (.int .i64 Wd) 25
  obtain ⟨y0, y1, y2, y3⟩ := four_at (w.alloc (.cells #[.int .i64 N, .int .u64 (T : Int), .slice A L c, .int .i64 Wd] 25)) (.int .i64 N') (.int .u64 (T' : Int)) (.slice A' L' c') (.int .i64 Wd') 25
  have kA : Ext (w.alloc (.cells #[.int .i64 N, .int .u64 (T : Int), .slice A L c, .int .i64 Wd] 25)) ((w.alloc (.cells #[.int .i64 N, .int .u64 (T : Int), .slice A L c, .int .i64 Wd] 25)).alloc (.cells #[.int .i64 N', .int .u64 (T' : Int), .slice A' L' c', .int .i64 Wd'] 25)) := (Ext.refl _).alloc _
  replace x0 := cell_ext kA x0
  replace x1 := cell_ext kA x1
  replace x2 := cell_ext kA x2
  replace x3 := cell_ext kA x3
  rw [show (w.alloc (.cells #[.int .i64 N, .int .u64 (T : Int), .slice A L c, .int .i64 Wd] 25)).heap.size = w.heap.size + 1 by simp] at y0 y1 y2 y3
  clear kA
  obtain ⟨b, hb⟩ : ∃ b : Bool, b = true ↔ SamePar N T L f Wd N' T' L' f' Wd' := by
    by_cases h : SamePar N T L f Wd N' T' L' f' Wd'
    · exact ⟨true, ⟨fun _ => h, fun _ => rfl⟩⟩
    · exact ⟨false, ⟨fun h' => Bool.noConfusion h', fun h' => absurd h' h⟩⟩
  have HB := Lib.hid hb
  clear hb
  go_enter Tryd.func6, Tryd.ntmps6
  go_wp2_with fail
  generalize ((w.alloc (.cells #[.int .i64 N, .int .u64 (T : Int), .slice A L c, .int .i64 Wd] 25)).alloc (.cells #[.int .i64 N', .int .u64 (T' : Int), .slice A' L' c', .int .i64 Wd'] 25)) = V0 at *
  refine (fixed8_any V0 (HT.out.ext kV)).mono ?_
  rintro e V ⟨rfl, k1⟩
  replace x0 := cell_ext k1 x0
  replace x1 := cell_ext k1 x1
  replace x2 := cell_ext k1 x2
  replace x3 := cell_ext k1 x3
  replace y0 := cell_ext k1 y0
  replace y1 := cell_ext k1 y1
  replace y2 := cell_ext k1 y2
  replace y3 := cell_ext k1 y3
  replace kV := kV.trans k1
  clear k1
  have ebb : (b == b) = true := by simp
  have HPV := Lib.hid (hP.out.ext kV)
  have HPV' := Lib.hid (hP'.out.ext kV)
  have kk : Ext V V := Ext.refl V
  go_wp2_with fail
  go_region_held3 (fun w' => w'.cell? ⟨w.heap.size, 0, none⟩ = some (.int .i64 N) ∧ w'.cell? ⟨w.heap.size, 1, none⟩ = some (.int .u64 (T : Int)) ∧ w'.cell? ⟨w.heap.size, 2, none⟩ = some (.slice A L c) ∧ w'.cell? ⟨w.heap.size, 3, none⟩ = some (.int .i64 Wd) ∧ w'.cell? ⟨w.heap.size + 1, 0, none⟩ = some (.int .i64 N') ∧ w'.cell? ⟨w.heap.size + 1, 1, none⟩ = some (.int .u64 (T' : Int)) ∧ w'.cell? ⟨w.heap.size + 1, 2, none⟩ = some (.slice A' L' c') ∧ w'.cell? ⟨w.heap.size + 1, 3, none⟩ = some (.int .i64 Wd')) (go_keep)
    (first
      | (go_at_call 26; refine (sameAB (HPV.out.ext (by first | exact kk | exact Ext.drew kk)) (HPV'.out.ext (by first | exact kk | exact Ext.drew kk)) HB (by first | exact .inl ⟨rfl, rfl⟩ | exact .inr ⟨rfl, rfl⟩)).mono ?_; rintro e5 w5 ⟨rfl, k5⟩; replace kk : Ext V w5 := (by first | exact Ext.trans kk k5 | exact Ext.trans (Ext.drew kk) k5); have d0 := cell_ext kk x0; have d1 := cell_ext kk x1; have d2 := cell_ext kk x2; have d3 := cell_ext kk x3; have g0 := cell_ext kk y0; have g1 := cell_ext kk y1; have g2 := cell_ext kk y2; have g3 := cell_ext kk y3)
      | (go_at_call 26; refine (sameAA (HPV.out.ext (by first | exact kk | exact Ext.drew kk)) ⟨rfl, rfl⟩).mono ?_; rintro e5 w5 ⟨rfl, k5⟩; replace kk : Ext V w5 := (by first | exact Ext.trans kk k5 | exact Ext.trans (Ext.drew kk) k5); have d0 := cell_ext kk x0; have d1 := cell_ext kk x1; have d2 := cell_ext kk x2; have d3 := cell_ext kk x3; have g0 := cell_ext kk y0; have g1 := cell_ext kk y1; have g2 := cell_ext kk y2; have g3 := cell_ext kk y3)
      | (go_at_call 27; refine ((rparSame_any _ (HPV.out.ext (by first | exact kk | exact Ext.drew kk)) (HPV'.out.ext (by first | exact kk | exact Ext.drew kk))).mono fun e w' h => h.b HB.out).mono ?_; rintro e5 w5 ⟨rfl, k5⟩; replace kk : Ext V w5 := (by first | exact Ext.trans kk k5 | exact Ext.trans (Ext.drew kk) k5); have d0 := cell_ext kk x0; have d1 := cell_ext kk x1; have d2 := cell_ext kk x2; have d3 := cell_ext kk x3; have g0 := cell_ext kk y0; have g1 := cell_ext kk y1; have g2 := cell_ext kk y2; have g3 := cell_ext kk y3)
      | fail)
  all_goals
    have kz := kV.trans kk
    go_wp2
    go_ret
    exact ⟨by first | rfl | simp, kz⟩
end Go.Proofs.YtcclekboeppcfaaDoor
