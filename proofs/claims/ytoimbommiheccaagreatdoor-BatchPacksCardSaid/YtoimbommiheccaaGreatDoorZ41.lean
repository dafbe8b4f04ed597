/-
  Arrays of three words compared.
-/
import Derived.Test.YtoimbommiheccaaGreatDoorZ38
import Derived.DeepKeys
import Derived.Test.YtoimbommiheccaaGreatDoorZ40
import Derived.Test.YtoimbommiheccaaGreatDoorZ32
import Derived.Test.YtoimbommiheccaaGreatDoorZ28
import Derived.Test.YtoimbommiheccaaGreatDoorZ39
namespace Go.Proofs.YtoimbommiheccaaGreatDoor
open Go.RowKit
set_option linter.unusedVariables false
set_option maxRecDepth 100000

theorem cellsU : Tryz.prog.cellsOf 22 = 1 := by kernel_rfl
theorem part0 (a b c : Int) (w : World) : Sem.run Tryz.prog (Go.part 22 #[.int .u64 a, .int .u64 b, .int .u64 c] (0 * 1)) w = Result.ok (.int .u64 a) w := by kernel_rfl
theorem part1 (a b c : Int) (w : World) : Sem.run Tryz.prog (Go.part 22 #[.int .u64 a, .int .u64 b, .int .u64 c] (1 * 1)) w = Result.ok (.int .u64 b) w := by kernel_rfl
theorem part2 (a b c : Int) (w : World) : Sem.run Tryz.prog (Go.part 22 #[.int .u64 a, .int .u64 b, .int .u64 c] (2 * 1)) w = Result.ok (.int .u64 c) w := by kernel_rfl
end Go.Proofs.YtoimbommiheccaaGreatDoor

/-
  The law ParamSame walked; which parameters are the same.
-/
namespace Go.Proofs.YtoimbommiheccaaGreatDoor
open Go.RowKit
set_option linter.unusedVariables false
set_option maxRecDepth 100000

/-- The same words. -/
def SameW (n n' : Nat) (f f' : Nat → Nat) : Prop := n = n' ∧ ∀ i, i < n → f i = f' i
set_option maxHeartbeats 1000000 in
theorem sameW_any (A A' : Option Addr) (n n' c c' : Nat) (f f' : Nat → Nat) (w : World) (hX : FX w A n c f) (hX' : FX w A' n' c' f') (hn : n ≤ 9223372036854775807) (hn' : n' ≤ 9223372036854775807) :
    Calls Tryz.prog 16 #[.slice A n c, .slice A' n' c'] w (Tells w (SameW n n' f f')) := by
  by_cases hne : n = n'
  case neg =>
    have HN := Lib.hid (show ¬ SameW n n' f f' from fun h => hne h.1)
    have e1 : ((n : Int) != (n' : Int)) = true := by simp; omega
    clear hne
    go_enter Tryz.func16, Tryz.ntmps16
    go_wp2
    go_ret
    exact Tells.no HN.out (Ext.refl _)
  subst hne
  go_enter Tryz.func16, Tryz.ntmps16
  go_wp2
  go_loopw [13] (fun i wr => ∃ m d : Nat, m ≤ n ∧ i = .int .i64 (m : Int) ∧ Hid (∀ i, i < m → f i = f' i) ∧ wr = w.drewN d) (fun i _ => n - (intOf i).toNat)
  case atStart => exact ⟨0, 0, by omega, rfl, Lib.hid fun i hi => by omega, rfl⟩
  case round =>
    obtain ⟨m, d, hm, rfl, hall, rfl⟩ := hrel
    by_cases hlt : m < n
    · obtain ⟨ad, rfl, hc⟩ := hX.cells (by omega)
      obtain ⟨ad', rfl, hc'⟩ := hX'.cells (by omega)
      have h1 := hc m hlt
      have h2 := hc' m hlt
      clear hc hc'
      have i0 : (0 : Int) ≤ (m : Int) := by omega
      have i1 : (m : Int) < (n : Int) := by omega
      by_cases he : f m = f' m
      · have HA := Lib.hid (show ∀ i, i < m + 1 → f i = f' i from fun i hi => by
          by_cases h : i = m
          · subst h; exact he
          · exact hall.out i (by omega))
        rw [← he] at h2
        clear he
        generalize f m = x at *
        go_wp2
        go_quiet (fail)
        go_wp2
        exact ⟨⟨m + 1, _, by omega, by go_num, HA, rfl⟩, by simp [intOf]; omega⟩
      · have HN := Lib.hid (show ¬ SameW n n f f' from fun h => he (h.2 m hlt))
        have e1 : ((f m : Int) != (f' m : Int)) = true := by simp; omega
        have e2 : ((f m : Int) == (f' m : Int)) = false := by simp; omega
        clear he
        go_wp2
        go_quiet (fail)
        go_wp2
        go_ret
        exact Tells.no HN.out (by first | exact (Ext.refl w).drewN _ | exact ((Ext.refl w).drewN _).drewN _ | exact ((Ext.refl w).drewN _).drew)
    · have HY := Lib.hid (show SameW n n f f' from ⟨rfl, fun i hi => hall.out i (by omega)⟩)
      go_wp2
      go_ret
      exact Tells.yes HY.out ((Ext.refl w).drewN d)
/-- It tells, and only draws. -/
def TellsQ (w : World) (P : Prop) (ee : Ending) (w' : World) : Prop := (P ∧ ee = .returned (.bool true) ∧ ∃ d, w' = w.drewN d) ∨ (¬ P ∧ ee = .returned (.bool false) ∧ ∃ d, w' = w.drewN d)
/-- A number's sixty-four bits as a word. -/
def bitsU (z : Int) : Int := IntKind.u64.wrap z
theorem bitsU_inj {a b : Int} (a0 : -9223372036854775808 ≤ a) (a1 : a < 9223372036854775808) (b0 : -9223372036854775808 ≤ b) (b1 : b < 9223372036854775808) (h : bitsU a = bitsU b) : a = b := by
  unfold bitsU at h; rw [IntKind.wrap_u64, IntKind.wrap_u64] at h; omega
/-- The same parameters. -/
def SamePar (N : Int) (T L : Nat) (f : Nat → Nat) (Wd N' : Int) (T' L' : Nat) (f' : Nat → Nat) (Wd' : Int) : Prop := SameW L L' f f' ∧ N = N' ∧ T = T' ∧ Wd = Wd'
/-- What is told, as a bool. -/
theorem Tells.b {w w' : World} {P : Prop} {b : Bool} {e : Ending} (h : Tells w P e w') (hb : b = true ↔ P) : e = .returned (.bool b) ∧ Ext w w' := by
  rcases h with ⟨h, he, hw⟩ | ⟨h, he, hw⟩
  · rw [hb.2 h]; exact ⟨he, hw⟩
  · cases b
    · exact ⟨he, hw⟩
    · exact absurd (hb.1 rfl) h
theorem SamePar.symm {N : Int} {T L : Nat} {f : Nat → Nat} {Wd N' : Int} {T' L' : Nat} {f' : Nat → Nat} {Wd' : Int} (h : SamePar N T L f Wd N' T' L' f' Wd') : SamePar N' T' L' f' Wd' N T L f Wd := by
  obtain ⟨⟨rfl, h1⟩, rfl, rfl, rfl⟩ := h
  exact ⟨⟨rfl, fun i hi => (h1 i hi).symm⟩, rfl, rfl, rfl⟩
end Go.Proofs.YtoimbommiheccaaGreatDoor

/-
  The calls of layer 9 whose answers the document fixes; the laws BatchNil and BatchPowers walked.
-/
namespace Go.Proofs.YtoimbommiheccaaGreatDoor
open Go.RowKit
set_option linter.unusedVariables false
set_option maxRecDepth 100000

theorem Bt.root {w : World} {p n T k r v : Nat} (h : Bt w p n T k r v) : Root n T k r v := by
  obtain ⟨_, t, _, _, _, _, _, h5⟩ := h.ex
  exact h5.root
theorem Bt.unit {w : World} {p n T k r v : Nat} (h : Bt w p n T k r v) : ∃ u : Nat, M (T : Int) ((n : Int) * (u : Int)) 1 := by
  obtain ⟨_, t, _, _, _, _, _, h5⟩ := h.ex
  exact h5.unit
def one97 (_ : Nat) : Nat := 97
theorem par_fix9 : ParP 8 17 1 one97 1 := fun k hk => by
  rcases (show k = 0 ∨ k = 1 ∨ k = 2 ∨ k = 3 ∨ k = 4 ∨ k = 5 by omega) with rfl | rfl | rfl | rfl | rfl | rfl
  · exact ⟨by decide, by decide, by decide +kernel⟩
  · exact ⟨by decide, by decide⟩
  · exact ⟨by decide, by decide +kernel, by decide +kernel⟩
  · exact ⟨by decide, by decide⟩
  · intro j hj
    obtain rfl : j = 0 := by omega
    exact ⟨by decide, by decide, fun i hi => by omega, by decide +kernel, by decide +kernel⟩
  · show Go.bitLen (prodF one97 1) ≤ rowS 8
    rw [show prodF one97 1 = 97 by decide, show rowS 8 = 420 by decide]
    decide +kernel
def eOne (i : Nat) : Nat := if i = 0 then 1 else 0
theorem vals_one (r : Int) (n : Nat) (hn : 0 < n) (j : Nat) : vals r n (fun i => (eOne i : Int)) j = 1 := by
  unfold vals
  rw [S_one hn _ (fun i _ hne => by simp [eOne, hne])]
  simp [eOne]
theorem pack_ones {w : World} {p k r v : Nat} {F : Nat → Nat} (h : Bt w p 8 17 k r v) (hF : ∀ i, i < 8 → F i < 17 ∧ M (17 : Int) ((8 : Int) * (F i : Int)) (back (v : Int) 8 (fun j => (laidF 8 17 (fun _ => 1) 4 j : Int)) i)) : SameW 8 8 F eOne := by
  refine ⟨rfl, fun i hi => ?_⟩
  obtain ⟨u, hu⟩ := h.unit
  obtain ⟨h1, h2⟩ := hF i hi
  have hl : ∀ j, j < 8 → laidF 8 17 (fun _ => 1) 4 j = 1 := by decide +kernel
  have h3 : M (17 : Int) (back (v : Int) 8 (fun j => (laidF 8 17 (fun _ => 1) 4 j : Int)) i) ((8 : Int) * (eOne i : Int)) := by
    refine (back_M (b := vals (r : Int) 8 (fun i => (eOne i : Int))) (fun j hj => M.of ?_) i).trans (h.root.backVals _ hi)
    rw [vals_one _ _ (by omega), hl j hj]; rfl
  have h4 : M (17 : Int) (F i : Int) (eOne i : Int) := unit_n (n := 8) hu (h2.trans h3)
  exact M.lt (q := 17) h4 h1 (by unfold eOne; split <;> omega)
theorem bnew_yes {w w' : World} {P : Prop} {n T : Nat} {ee : Ending} (h : BNew w P n T ee w') (hP : P) : ∃ p k r v x : Nat, First T x ∧ Hid (r = rootS T (2 * n) x) ∧ ee = .returned (.tuple #[.pointer (some ⟨p, 0, none⟩), .int .i64 0]) ∧ Bt w' p n T k r v ∧ Ext w w' := by
  rcases h with ⟨h, _⟩ | ⟨_, h⟩
  · exact absurd hP h
  · exact h
theorem sml8 : Sml 8 := .inl rfl
set_option maxHeartbeats 4000000 in
theorem fixed9_any (w : World) (hT : Tabs w) : Calls Tryz.prog 10 #[] w fun e w' => e = .returned (.bool true) ∧ Ext w w' := by
  have HT := Lib.hid hT
  clear hT
  have kV : Ext w (w.alloc (.cells #[.int .u64 97] 22)) := (Ext.refl w).alloc _
  have hU : UW (w.alloc (.cells #[.int .u64 97] 22)) w.heap.size 1 one97 := heap_alloc_new _ _
  have HP := Lib.hid (show PA (w.alloc (.cells #[.int .u64 97] 22)) 8 17 (some ⟨w.heap.size, 0, none⟩) 1 1 1 one97 from ⟨by omega, by omega, by omega, by omega, by omega, UW.fx hU, by omega, fun j _ => by unfold one97; omega⟩)
  clear hU
  go_enter Tryz.func10, Tryz.ntmps10
  go_wp2_with fail
  generalize w.alloc (.cells #[.int .u64 97] 22) = V at *
  refine (bnew_any (f := one97) HP.out (by omega) (by omega) (HT.out.ext kV)).mono ?_
  rintro e w1 h1
  obtain ⟨p, k, r, v, x, _, _, rfl, hb, k1⟩ := bnew_yes h1 par_fix9
  have HB := Lib.hid (show Bt w1 p 8 17 k r v from hb)
  clear h1 hb
  replace kV := kV.trans k1
  go_wp2_with fail
  have ka : Ext w1 (w1.alloc (.cells #[.int .i64 1, .int .i64 1, .int .i64 1, .int .i64 1] 3)) := (Ext.refl _).alloc _
  have hI : IWB (w1.alloc (.cells #[.int .i64 1, .int .i64 1, .int .i64 1, .int .i64 1] 3)) w1.heap.size 4 (fun _ => 1) := heap_alloc_new _ _
  refine (pack_any p 8 17 k r v 4 4 (some ⟨w1.heap.size, 0, none⟩) (fun _ => 1) _ (HB.out.ext ka) sml8 hI.vx (Lib.hid fun _ _ => ⟨by omega, by omega⟩) (by omega) (by omega) (by omega)).mono ?_
  rintro e w2 ⟨g2, F, rfl, hu2, hF, k2⟩
  have HS := Lib.hid (pack_ones HB.out hF.out)
  replace k2 : Ext w1 w2 := ka.trans k2
  have HU := Lib.hid hu2
  clear hu2 hF hI ka
  replace kV := kV.trans k2
  go_wp2_with fail
  refine (power_any p 8 17 k r v 1 w2 (HB.out.ext k2) sml8).mono ?_
  rw [show pw3 8 (stepM 8 1) = 3 by decide +kernel]
  rintro e w3 ⟨rfl, k3⟩
  replace kV := kV.trans k3
  go_wp2_with fail
  refine (power_any p 8 17 k r v (-1) w3 (HB.out.ext (k2.trans k3)) sml8).mono ?_
  rw [show pw3 8 (stepM 8 (-1)) = 11 by decide +kernel]
  rintro e w4 ⟨rfl, k4⟩
  replace kV := kV.trans k4
  go_wp2_with fail
  have kb : Ext w4 (w4.alloc (.cells #[.int .u64 1, .int .u64 0, .int .u64 0, .int .u64 0, .int .u64 0, .int .u64 0, .int .u64 0, .int .u64 0] 22)) := (Ext.refl _).alloc _
  have hE : UW (w4.alloc (.cells #[.int .u64 1, .int .u64 0, .int .u64 0, .int .u64 0, .int .u64 0, .int .u64 0, .int .u64 0, .int .u64 0] 22)) w4.heap.size 8 eOne := heap_alloc_new _ _
  refine (sameW_any _ _ 8 8 8 8 F eOne _ ((UW.fx HU.out).ext ((k3.trans k4).trans kb)) (UW.fx hE) (by omega) (by omega)).mono ?_
  rintro e w5 h5
  obtain ⟨rfl, k5⟩ := tells_yes h5 HS.out
  clear h5 hE
  go_wp2
  go_ret
  exact ⟨rfl, kV.trans (kb.trans k5)⟩
/-- A small ring. -/
def SmallP (N : Int) (L : Nat) : Prop := N ≤ 64 ∧ L ≤ 20
theorem small_any (N T Wd : Int) (A : Option Addr) (L c : Nat) (w : World) (hL : L ≤ 9223372036854775807) :
    Calls Tryz.prog 11 #[.agg #[.int .i64 N, .int .u64 T, .slice A L c, .int .i64 Wd]] w (Tells w (SmallP N L)) := by
  by_cases h0 : N ≤ 64
  · have e0 : decide (N ≤ 64) = true := decide_eq_true h0
    by_cases h1 : L ≤ 20
    · have e1 : decide ((L : Int) ≤ 20) = true := decide_eq_true (by omega)
      have H := Lib.hid (show SmallP N L from ⟨h0, h1⟩)
      clear h0 h1 hL
      go_enter Tryz.func11, Tryz.ntmps11
      go_wp2
      go_ret
      exact Tells.yes H.out ((Ext.refl w).alloc _)
    · have e1 : decide ((L : Int) ≤ 20) = false := decide_eq_false (by omega)
      have H := Lib.hid (show ¬ SmallP N L from fun h => h1 h.2)
      clear h0 h1 hL
      go_enter Tryz.func11, Tryz.ntmps11
      go_wp2
      go_ret
      exact Tells.no H.out ((Ext.refl w).alloc _)
  · have e0 : decide (N ≤ 64) = false := decide_eq_false h0
    have H := Lib.hid (show ¬ SmallP N L from fun h => h0 h.1)
    clear h0 hL
    go_enter Tryz.func11, Tryz.ntmps11
    go_wp2
    go_ret
    exact Tells.no H.out ((Ext.refl w).alloc _)
theorem mod_up {h : Nat} {z : Int} (hh : 0 < h) : -(h : Int) < z.tmod (h : Int) ∧ z.tmod (h : Int) < (h : Int) ∧ (z.tmod (h : Int) + (h : Int)).tmod (h : Int) = z % (h : Int) := by
  have h1 := Int.mul_tdiv_add_tmod z (h : Int)
  have h2 : (z.tmod (h : Int)).natAbs = z.natAbs % h := Int.natAbs_tmod z (h : Int)
  have h4 := Nat.mod_lt z.natAbs hh
  generalize z.tmod (h : Int) = rr at *
  refine ⟨by omega, by omega, ?_⟩
  rw [Int.tmod_eq_emod_of_nonneg (by omega), Int.add_emod_right]
  rw [← h1, Int.add_comm, Int.add_mul_emod_self_left]
set_option maxHeartbeats 4000000 in
theorem refPower_any (n : Nat) (z : Int) (w : World) (hn : Sml n) (z0 : -9223372036854775808 ≤ z) (z1 : z < 9223372036854775808) :
    Calls Tryz.prog 55 #[.int .i64 (n : Int), .int .i64 z] w fun e w' => e = .returned (.int .i64 (pw3 n (stepM n z) : Int)) ∧ Ext w w' := by
  have hle := sml_le hn
  obtain ⟨a1, a2, a3⟩ := mod_up (h := n / 2) (z := z) (by omega)
  obtain ⟨K, hK⟩ := Int.eq_ofNat_of_zero_le (Int.emod_nonneg z (show ((n / 2 : Nat) : Int) ≠ 0 by omega))
  have hKl : K < n / 2 := by have := Int.emod_lt_of_pos z (show 0 < ((n / 2 : Nat) : Int) by omega); omega
  have hsm : stepM n z = K := by unfold stepM; rw [hK]; rfl
  rw [hsm]
  rw [hK] at a3
  rw [show ((n / 2 : Nat) : Int) = (n : Int) / 2 by omega] at a1 a2 a3
  have b1 : (z.tmod ((n : Int) / 2) + (n : Int) / 2).tmod ((n : Int) / 2) = (K : Int) := a3
  obtain ⟨rr, hrr⟩ : ∃ rr, rr = z.tmod ((n : Int) / 2) := ⟨_, rfl⟩
  rw [← hrr] at a1 a2 b1
  have hw1 : IntKind.i64.wrap (z.tmod ((n : Int) / 2)) = rr := by rw [← hrr, IntKind.wrap_i64]; omega
  have hw2 : IntKind.i64.wrap (rr + (n : Int) / 2) = rr + (n : Int) / 2 := by rw [IntKind.wrap_i64]; omega
  have hw3 : IntKind.i64.wrap ((rr + (n : Int) / 2).tmod ((n : Int) / 2)) = (K : Int) := by rw [b1, IntKind.wrap_i64]; omega
  have hz1 : ((n : Int) / 2 == 0) = false := by simp; omega
  have hz2 : ¬ (n : Int) / 2 = 0 := by omega
  have hp0 : pw3 n 0 = 1 := by unfold pw3; rw [Nat.pow_zero]; exact Nat.mod_eq_of_lt (by omega)
  clear hn a3 hK hsm
  rw [hrr.symm] at hw1
  go_enter Tryz.func55, Tryz.ntmps55
  go_wp2
  have hE : (z.tmod ((n : Int) / 2) + (n : Int) / 2) % ((n : Int) / 2) = (K : Int) := by
    rw [← hrr, ← b1, Int.tmod_eq_emod_of_nonneg (by omega)]
  rw [hE]
  clear hE hrr b1 a1 a2 hw1 hw2 hw3
  go_loopw [6, 7] (fun x i wr => ∃ j : Nat, j ≤ K ∧ i = .int .i64 (j : Int) ∧ x = .int .i64 (pw3 n j : Int) ∧ Ext w wr) (fun _ i _ => K - (intOf i).toNat)
  case atStart => exact ⟨0, by omega, rfl, by rw [hp0]; rfl, Ext.refl _⟩
  case round =>
    obtain ⟨j, hj, rfl, rfl, kr⟩ := hrel
    by_cases hlt : j < K
    · have hpl : pw3 n j < 2 * n := Nat.mod_lt _ (by omega)
      have HNX := Lib.hid (pw3_next n j)
      generalize hx : pw3 n j = x at *
      clear hx
      have hz : ((2 * (n : Int)) == 0) = false := by simp; omega
      have hz3 : ¬ (2 * (n : Int)) = 0 := by omega
      have m1 : ((x : Int) * 3).tmod (2 * (n : Int)) = ((x * 3 % (2 * n) : Nat) : Int) := by
        rw [Int.tmod_eq_emod_of_nonneg (by omega), show 2 * (n : Int) = ((2 * n : Nat) : Int) by omega, show (x : Int) * 3 = ((x * 3 : Nat) : Int) by omega, ← Int.natCast_emod]
      have m2 : ((x : Int) * 3) % (2 * (n : Int)) = ((x * 3 % (2 * n) : Nat) : Int) := by
        rw [show 2 * (n : Int) = ((2 * n : Nat) : Int) by omega, show (x : Int) * 3 = ((x * 3 : Nat) : Int) by omega, ← Int.natCast_emod]
      rw [← HNX.out] at m1 m2
      have hpn : pw3 n (j + 1) < 2 * n := Nat.mod_lt _ (by omega)
      go_wp2
      exact ⟨⟨j + 1, by omega, by go_num, by first | rfl | (congr 1; omega) | simp, kr⟩, by simp [intOf]; omega⟩
    · obtain rfl : j = K := by omega
      go_wp2
      go_ret
      exact ⟨rfl, kr⟩
end Go.Proofs.YtoimbommiheccaaGreatDoor

/-
  Rows of numbers made by append; the document's Centered; the law BatchBack walked.
-/
namespace Go.Proofs.YtoimbommiheccaaGreatDoor
open Go.RowKit
set_option linter.unusedVariables false
set_option maxRecDepth 100000

/-- The values of numbers. -/
def i64R (k : Nat) (Z : Nat → Int) : List Value := (List.range k).map fun i => Value.int .i64 (Z i)
theorem i64R_snoc (k : Nat) (Z : Nat → Int) : i64R k Z ++ [Value.int .i64 (Z k)] = i64R (k + 1) Z := by
  unfold i64R; rw [List.range_succ, List.map_append]; rfl
/-- A row of numbers that is being made, from block B on. -/
def IR (B : Nat) (w0 w : World) (v : Value) (k : Nat) (Z : Nat → Int) : Prop := w.ownsRow B 3 1 v k (i64R k Z) ∧ Below B w0 w
theorem IR.nil (w : World) (Z : Nat → Int) : IR w.heap.size w w (.slice none 0 0) 0 Z := ⟨World.ownsRow_nil _ _ _ _, Below.refl _ _⟩
theorem IR.push {B : Nat} {w0 w w1 : World} {v v' : Value} {k : Nat} {z : Int} {Z : Nat → Int} {o : Obj} (h : IR B w0 w v k Z) (hB : B ≤ w.heap.size) (hz : z = Z k)
    (h1 : w1.ownsRow B 3 1 v' (k + 1) (i64R k Z ++ [Value.int .i64 z])) (hg : (w.alloc o).grownBy w1 v.ownBlock) : IR B w0 w1 v' (k + 1) Z := by
  rw [hz, i64R_snoc] at h1
  exact ⟨h1, (h.2.alloc hB o).grown hg (by simp; omega) (fun k e => (h.1.lt k e).1)⟩
theorem IR.ext {B : Nat} {w0 w w' : World} {v : Value} {k : Nat} {Z : Nat → Int} (h : IR B w0 w v k Z) (hb : Ext w w') (hB : B ≤ w.heap.size) : IR B w0 w' v k Z := by
  refine ⟨⟨h.1.1, ?_⟩, Below.trans h.2 (Below.mono hb hB)⟩
  rcases h.1.2 with h0 | ⟨g, cap, cur, e, hg, hh, h1⟩
  · exact .inl h0
  · exact .inr ⟨g, cap, cur, e, hg, (hb.block g (Array.getElem?_eq_some_iff.1 hh).1).trans hh, h1⟩
theorem IR.alloc {B : Nat} {w0 w : World} {v : Value} {k : Nat} {Z : Nat → Int} (h : IR B w0 w v k Z) (o : Obj) : (w.alloc o).ownsRow B 3 1 v k (i64R k Z) := h.1.alloc o
theorem IR.vx {B : Nat} {w0 w : World} {v : Value} {k : Nat} {Z : Nat → Int} (h : IR B w0 w v k Z) : ∃ A c, v = .slice A k c ∧ VX w A k c Z := by
  rcases h.1.2 with ⟨rfl, rfl⟩ | ⟨g, cap, cur, rfl, hg, hh, hle, _⟩
  · exact ⟨none, 0, rfl, Nat.le_refl _, fun h => absurd h (by omega)⟩
  · exact ⟨_, cap, rfl, hle, fun _ => ⟨⟨g, 0, none⟩, rfl, fun j hj => h.1.cells (g := g) rfl j _ (by simp [i64R, hj])⟩⟩
theorem rcenterB (x q : Nat) (y : Int) (w : World) (hy : Hid (y = cenT x q)) (hx : x < 18446744073709551616) (hq : q < 18446744073709551616) :
    Calls Tryz.prog 59 #[.int .u64 (x : Int), .int .u64 (q : Int)] w fun e w' => e = .returned (.int .i64 y) ∧ Ext w w' :=
  (rcenter_any (x : Int) (q : Int) w (by omega) (by omega) (by omega) (by omega)).mono fun e w' ⟨he, hw⟩ => ⟨by rw [hy.out]; exact he, by rw [hw]; exact Ext.refl _⟩
theorem rliftY (v : Int) (q y : Nat) (w : World) (hy : Hid (y = lif v q)) (hq0 : 0 < q) (v0 : -9223372036854775808 ≤ v) (v1 : v < 9223372036854775808) (hq : q < 18446744073709551616) :
    Calls Tryz.prog 54 #[.int .i64 v, .int .u64 (q : Int)] w fun e w' => e = .returned (.int .u64 (y : Int)) ∧ Ext w w' :=
  (rliftM v q w hq0 v0 v1 hq).mono fun e w' ⟨m, hm, _, he, hk⟩ => ⟨by rw [hy.out, ← hm.out]; exact he, hk⟩
/-- A slot's number modulo T. -/
def slotN (T m : Nat) (z : Nat → Int) (i : Nat) : Nat := if i < m then lif (z i) T else 0
/-- The same numbers. -/
def SameI (n n' : Nat) (f f' : Nat → Int) : Prop := n = n' ∧ ∀ i, i < n → f i = f' i
set_option maxHeartbeats 1000000 in
theorem sameRow_any (A A' : Option Addr) (n n' c c' : Nat) (f f' : Nat → Int) (w : World) (hX : VX w A n c f) (hX' : VX w A' n' c' f') (hn : n ≤ 9223372036854775807) (hn' : n' ≤ 9223372036854775807) :
    Calls Tryz.prog 15 #[.slice A n c, .slice A' n' c'] w (Tells w (SameI n n' f f')) := by
  by_cases hne : n = n'
  case neg =>
    have HN := Lib.hid (show ¬ SameI n n' f f' from fun h => hne h.1)
    have e1 : ((n : Int) != (n' : Int)) = true := by simp; omega
    clear hne
    go_enter Tryz.func15, Tryz.ntmps15
    go_wp2
    go_ret
    exact Tells.no HN.out (Ext.refl _)
  subst hne
  go_enter Tryz.func15, Tryz.ntmps15
  go_wp2
  go_loopw [13] (fun i wr => ∃ m d : Nat, m ≤ n ∧ i = .int .i64 (m : Int) ∧ Hid (∀ i, i < m → f i = f' i) ∧ wr = w.drewN d) (fun i _ => n - (intOf i).toNat)
  case atStart => exact ⟨0, 0, by omega, rfl, Lib.hid fun i hi => by omega, rfl⟩
  case round =>
    obtain ⟨m, d, hm, rfl, hall, rfl⟩ := hrel
    by_cases hlt : m < n
    · obtain ⟨ad, rfl, hc⟩ := hX.cells (by omega)
      obtain ⟨ad', rfl, hc'⟩ := hX'.cells (by omega)
      have h1 := hc m hlt
      have h2 := hc' m hlt
      clear hc hc'
      have i0 : (0 : Int) ≤ (m : Int) := by omega
      have i1 : (m : Int) < (n : Int) := by omega
      by_cases he : f m = f' m
      · have HA := Lib.hid (show ∀ i, i < m + 1 → f i = f' i from fun i hi => by
          by_cases h : i = m
          · subst h; exact he
          · exact hall.out i (by omega))
        rw [← he] at h2
        clear he
        generalize f m = x at *
        go_wp2
        go_quiet (fail)
        go_wp2
        exact ⟨⟨m + 1, _, by omega, by go_num, HA, rfl⟩, by simp [intOf]; omega⟩
      · have HN := Lib.hid (show ¬ SameI n n f f' from fun h => he (h.2 m hlt))
        have e1 : ((f m) != (f' m)) = true := by simp; omega
        have e2 : ((f m) == (f' m)) = false := by simp; omega
        clear he
        go_wp2
        go_quiet (fail)
        go_wp2
        go_ret
        exact Tells.no HN.out (by first | exact (Ext.refl w).drewN _ | exact ((Ext.refl w).drewN _).drewN _)
    · have HY := Lib.hid (show SameI n n f f' from ⟨rfl, fun i hi => hall.out i (by omega)⟩)
      go_wp2
      go_ret
      exact Tells.yes HY.out ((Ext.refl w).drewN d)
/-- What is packed and unpacked: the values in the slots. -/
theorem back_slots {w : World} {p n T k r v m : Nat} {z : Nat → Int} {F G : Nat → Nat} (h : Bt w p n T k r v) (hn : Sml n) (hT : 2 ≤ T) (hF : ∀ i, i < n → F i < T ∧ M (T : Int) ((n : Int) * (F i : Int)) (back (v : Int) n (fun j => (laidF n T z m j : Int)) i)) (hG : ∀ i, i < n → G i < T ∧ M (T : Int) (G i : Int) (vals (r : Int) n (fun j => (F j : Int)) i)) :
    ∀ j, j < n → G j = laidF n T z m j := fun j hj => by
  obtain ⟨u, hu⟩ := h.unit
  obtain ⟨h1, h2⟩ := hG j hj
  have h3 : M (T : Int) ((n : Int) * (G j : Int)) ((n : Int) * (laidF n T z m j : Int)) := by
    have h4 : M (T : Int) ((n : Int) * (G j : Int)) (vals (r : Int) n (fun i => (n : Int) * (F i : Int)) j) := by
      rw [vals_scale]; exact M.rfl.mul h2
    refine h4.trans ((vals_M (fun i hi => (hF i hi).2) j).trans ?_)
    exact h.root.valsBack _ hj
  exact M.lt (unit_n hu h3) h1 (laid_lt (by omega))
theorem laid_at {n T m : Nat} {z : Nat → Int} {i : Nat} (hn : Sml n) (hi : i < n / 2) : laidF n T z m (atB n i) = slotN T m z i := by
  unfold laidF slotN
  rw [sl_at hn hi]
end Go.Proofs.YtoimbommiheccaaGreatDoor

/-
  What the document's Fits, At and Unpack answer.
-/
namespace Go.Proofs.YtoimbommiheccaaGreatDoor
open Go.RowKit
set_option linter.unusedVariables false
set_option maxRecDepth 100000

set_option maxHeartbeats 1000000 in
theorem fitsB_any (A : Option Addr) (m c n q : Nat) (f : Nat → Nat) (w : World) (hX : FX w A m c f) (hm : m ≤ 9223372036854775807) (hn : n ≤ 100000) (hq : q < 18446744073709551616) (hl : Hid (∀ i, i < m → f i < 18446744073709551616)) :
    Calls Tryz.prog 19 #[.slice A m c, .int .i64 (n : Int), .int .u64 (q : Int)] w (Tells w (FitL n q m f)) := by
  by_cases hmn : m = n
  case neg =>
    have HN := Lib.hid (show ¬ FitL n q m f from fun h => hmn h.1)
    have e1 : ((m : Int) != (n : Int)) = true := by simp; omega
    have e2 : ((m : Int) == (n : Int)) = false := by simp; omega
    clear hmn
    go_enter Tryz.func19, Tryz.ntmps19
    go_wp2
    go_ret
    exact Tells.no HN.out (Ext.refl _)
  subst hmn
  go_enter Tryz.func19, Tryz.ntmps19
  go_wp2
  go_loopw [15] (fun i wr => ∃ k : Nat, k ≤ m ∧ i = .int .i64 (k : Int) ∧ Hid (∀ j, j < k → f j < q) ∧ Ext w wr) (fun i _ => m - (intOf i).toNat)
  case atStart => exact ⟨0, by omega, rfl, Lib.hid fun j hj => by omega, Ext.refl _⟩
  case round =>
    obtain ⟨k, hk, rfl, hall, kr⟩ := hrel
    by_cases hlt : k < m
    · obtain ⟨ad, rfl, hc⟩ := (hX.ext kr).cells (by omega)
      have hcell := hc k hlt
      clear hc
      by_cases hkq : f k < q
      · have HA := Lib.hid (show ∀ j, j < k + 1 → f j < q from fun j hj => by
          by_cases h : j = k
          · subst h; exact hkq
          · exact hall.out j (by omega))
        generalize f k = x at *
        go_wp2
        exact ⟨⟨k + 1, by omega, by go_num, HA, kr⟩, by simp [intOf]; omega⟩
      · have HN := Lib.hid (show ¬ FitL m q m f from fun h => hkq (h.2 k hlt))
        generalize f k = x at *
        go_wp2
        go_ret
        exact Tells.no HN.out kr
    · have HY := Lib.hid (show FitL m q m f from ⟨rfl, fun i hi => hall.out i (by omega)⟩)
      go_wp2
      go_ret
      exact Tells.yes HY.out kr
/-- The sum of the coefficients from k on, by x. -/
def hornS (f : Nat → Nat) (x : Int) (k n : Nat) : Int := S (n - k) (fun i => (f (k + i) : Int) * x ^ i)
theorem horn_end (f : Nat → Nat) (x : Int) (n : Nat) : hornS f x n n = 0 := by unfold hornS; rw [Nat.sub_self]; rfl
theorem S_first (n : Nat) (g : Nat → Int) : S (n + 1) g = g 0 + S n (fun i => g (i + 1)) := by
  rw [Nat.add_comm n 1, S_split]
  have : S 1 g = g 0 := by rw [S, S]; omega
  rw [this]
  congr 1
  exact S_congr fun i _ => by rw [Nat.add_comm 1 i]
theorem horn_step (f : Nat → Nat) (x : Int) {k n : Nat} (hk : k < n) : hornS f x k n = hornS f x (k + 1) n * x + (f k : Int) := by
  unfold hornS
  rw [show n - k = (n - (k + 1)) + 1 by omega, S_first, S_mul_right, Int.pow_zero, Int.mul_one, Nat.add_zero, Int.add_comm]
  congr 1
  exact S_congr fun i _ => by rw [Int.pow_succ, ← Int.mul_assoc, show k + (i + 1) = k + 1 + i by omega]
theorem horn_all (f : Nat → Nat) (x : Int) (n : Nat) : hornS f x 0 n = S n (fun i => (f i : Int) * x ^ i) := by
  unfold hornS
  rw [Nat.sub_zero]
  exact S_congr fun i _ => by rw [Nat.zero_add]
set_option maxHeartbeats 4000000 in
theorem atP_any (A : Option Addr) (n c x q : Nat) (f : Nat → Nat) (w : World) (hX : FX w A n c f) (hn : n ≤ 1000) (hq0 : 0 < q) (hq : q < 18446744073709551616) (hx : x < 18446744073709551616) (hf : Hid (∀ i, i < n → f i < q)) :
    Calls Tryz.prog 60 #[.slice A n c, .int .u64 (x : Int), .int .u64 (q : Int)] w fun ee w' => ∃ y : Nat, ee = .returned (.int .u64 (y : Int)) ∧ y < q ∧ Hid (M (q : Int) (y : Int) (S n (fun i => (f i : Int) * (x : Int) ^ i))) ∧ Ext w w' := by
  have HX := Lib.hid hX
  clear hX
  go_enter Tryz.func60, Tryz.ntmps60
  go_wp2
  go_loopw [7, 8] (fun v i wr => ∃ k y : Nat, k ≤ n ∧ i = .int .i64 ((k : Int) - 1) ∧ v = .int .u64 (y : Int) ∧ y < q ∧ Hid (M (q : Int) (y : Int) (hornS f (x : Int) k n)) ∧ Ext w wr) (fun _ i _ => (intOf i + 1).toNat)
  case atStart => exact ⟨n, 0, Nat.le_refl _, by first | rfl | go_num, rfl, hq0, Lib.hid (by rw [horn_end]; exact M.rfl), Ext.refl _⟩
  case round =>
    obtain ⟨k, y, hk, rfl, rfl, hyl, hM, kr⟩ := hrel
    by_cases hk0 : k = 0
    · subst hk0
      have HE := Lib.hid (show M (q : Int) (y : Int) (S n (fun i => (f i : Int) * (x : Int) ^ i)) by have := hM.out; rwa [horn_all] at this)
      have e1 : decide ((0 : Int) ≤ ((0 : Nat) : Int) - 1) = false := by decide
      go_wp2
      go_ret
      exact ⟨y, rfl, hyl, HE, kr⟩
    · obtain ⟨j, rfl⟩ : ∃ j, k = j + 1 := ⟨k - 1, by omega⟩
      obtain ⟨ad, rfl, hc⟩ := (HX.out.ext kr).cells (by omega)
      have hcell := hc j (by omega)
      have hfl := hf.out j (by omega)
      clear hc
      have hkj : ((j + 1 : Nat) : Int) - 1 = (j : Int) := by omega
      rw [hkj]
      obtain ⟨u, hu⟩ : ∃ u, u = y * x % q := ⟨_, rfl⟩
      have hul : u < q := by rw [hu]; exact Nat.mod_lt _ hq0
      obtain ⟨v, hv⟩ : ∃ v, v = (u + f j) % q := ⟨_, rfl⟩
      have hvl : v < q := by rw [hv]; exact Nat.mod_lt _ hq0
      have HV := Lib.hid (show M (q : Int) (v : Int) (hornS f (x : Int) j n) by
        rw [hv, horn_step f (x : Int) (show j < n by omega)]
        refine (M.nat _).trans ?_
        rw [Int.natCast_add]
        refine M.add ?_ M.rfl
        rw [hu]
        refine (M.nat _).trans ?_
        rw [Int.natCast_mul]
        exact hM.out.mul M.rfl)
      have HU1 := Lib.hid hu
      have HV1 := Lib.hid hv
      clear hu hv hkj hM
      have i0 : (0 : Int) ≤ (j : Int) := by omega
      have i1 : (j : Int) < (n : Int) := by omega
      have e1 : decide ((0 : Int) ≤ (j : Int)) = true := decide_eq_true i0
      have kk : Ext wr wr := Ext.refl wr
      go_wp2_with fail
      go_region_held3 (fun w' => w'.cell? (ad.add j) = some (.int .u64 (f j : Int))) (go_keep)
        (first
          | (go_at_call 56; refine (raddG u (f j) q _ HV1 hq0 (by omega) (by omega) hq).mono ?_; rintro e5 w5 ⟨rfl, k5⟩; replace kk : Ext wr w5 := (by first | exact Ext.trans kk k5 | exact Ext.trans (Ext.drew kk) k5); have d1 := cell_ext kk hcell)
          | (go_at_call 57; refine (rmulG y x q _ HU1 hq0 (by omega) hx hq).mono ?_; rintro e5 w5 ⟨rfl, k5⟩; replace kk : Ext wr w5 := (by first | exact Ext.trans kk k5 | exact Ext.trans (Ext.drew kk) k5); have d1 := cell_ext kk hcell)
          | fail)
      all_goals
        have kz := kr.trans kk
        go_wp2
        exact ⟨⟨j, v, by omega, by first | rfl | go_num, rfl, hvl, HV, kz⟩, by simp [intOf] <;> omega⟩
end Go.Proofs.YtoimbommiheccaaGreatDoor

/-
  What sums, products and turns of packed polynomials have in their slots.
-/
namespace Go.Proofs.YtoimbommiheccaaGreatDoor
open Go.RowKit
set_option linter.unusedVariables false
set_option maxRecDepth 100000

/-- A packed polynomial. -/
def Pkd (n T v m : Nat) (z : Nat → Int) (F : Nat → Nat) : Prop := ∀ i, i < n → F i < T ∧ M (T : Int) ((n : Int) * (F i : Int)) (back (v : Int) n (fun j => (laidF n T z m j : Int)) i)
theorem pkd_vals {w : World} {p n T k r v m : Nat} {z : Nat → Int} {F : Nat → Nat} (h : Bt w p n T k r v) (hF : Pkd n T v m z F) {j : Nat} (hj : j < n) : M (T : Int) (vals (r : Int) n (fun i => (F i : Int)) j) (laidF n T z m j : Int) := by
  obtain ⟨u, hu⟩ := h.unit
  refine unit_n hu ?_
  have h4 : M (T : Int) ((n : Int) * vals (r : Int) n (fun i => (F i : Int)) j) (vals (r : Int) n (fun i => (n : Int) * (F i : Int)) j) := by
    rw [vals_scale]; exact M.rfl
  exact h4.trans ((vals_M (fun i hi => (hF i hi).2) j).trans (h.root.valsBack _ hj))
/-- What is unpacked of a polynomial P. -/
def Unp (n T r : Nat) (P G : Nat → Nat) : Prop := ∀ i, i < n → G i < T ∧ M (T : Int) (G i : Int) (vals (r : Int) n (fun j => (P j : Int)) i)
theorem vals_plus (r : Int) (n : Nat) (a b : Nat → Int) (j : Nat) : vals r n (fun i => a i + b i) j = vals r n a j + vals r n b j := by
  unfold vals
  rw [S_add]
  exact S_congr fun i _ => Int.add_mul _ _ _
theorem slot_sum {w : World} {p n T k r v m m' : Nat} {z z' : Nat → Int} {F F' P G : Nat → Nat} (h : Bt w p n T k r v) (hn : Sml n) (hT : 2 ≤ T) (hF : Pkd n T v m z F) (hF' : Pkd n T v m' z' F') (hP : ∀ i, i < n → P i = (F i + F' i) % T) (hG : Unp n T r P G) {i : Nat} (hi : i < n / 2) :
    G (atB n i) = (slotN T m z i + slotN T m' z' i) % T := by
  have hl := sml_le hn
  have ha := at_lt (n := n) (by omega) i
  obtain ⟨g1, g2⟩ := hG _ ha
  refine M.lt (q := T) (g2.trans ?_) g1 (Nat.mod_lt _ (by omega))
  have e1 : M (T : Int) (vals (r : Int) n (fun j => (P j : Int)) (atB n i)) (vals (r : Int) n (fun j => (F j : Int) + (F' j : Int)) (atB n i)) := vals_M (fun j hj => by
    rw [hP j hj, ← Int.natCast_add]; exact M.nat _) _
  refine e1.trans ?_
  rw [vals_plus]
  refine ((pkd_vals h hF ha).add (pkd_vals h hF' ha)).trans ?_
  rw [laid_at hn hi, laid_at hn hi, ← Int.natCast_add]
  exact (M.nat _).symm
theorem slot_mul {w : World} {p n T k r v m m' : Nat} {z z' : Nat → Int} {F F' P G : Nat → Nat} (h : Bt w p n T k r v) (hn : Sml n) (hT : 2 ≤ T) (hF : Pkd n T v m z F) (hF' : Pkd n T v m' z' F') (hP : ∀ i, i < n → P i < T ∧ M (T : Int) (P i : Int) (nega n (fun j => (F j : Int)) (fun j => (F' j : Int)) i)) (hG : Unp n T r P G) {i : Nat} (hi : i < n / 2) :
    G (atB n i) = slotN T m z i * slotN T m' z' i % T := by
  have hl := sml_le hn
  have ha := at_lt (n := n) (by omega) i
  obtain ⟨g1, g2⟩ := hG _ ha
  refine M.lt (q := T) (g2.trans ?_) g1 (Nat.mod_lt _ (by omega))
  refine (vals_M (fun j hj => (hP j hj).2) _).trans ((h.root.valsNega _ _ _).trans ?_)
  refine ((pkd_vals h hF ha).mul (pkd_vals h hF' ha)).trans ?_
  rw [laid_at hn hi, laid_at hn hi, ← Int.natCast_mul]
  exact (M.nat _).symm
/-- Where a turn by K puts coefficient i. -/
def plT (n K i : Nat) : Nat := if i * K % (2 * n) < n then i * K % (2 * n) else i * K % (2 * n) - n
theorem plT_lt {n K i : Nat} (hn : 0 < n) : plT n K i < n := by
  have := Nat.mod_lt (i * K) (show 0 < 2 * n by omega)
  unfold plT; split <;> omega
theorem plT_mod {n K i : Nat} (hn : 0 < n) : plT n K i = i * K % n := by
  have h1 : i * K % (2 * n) % n = i * K % n := Nat.mod_mul_left_mod _ _ _
  have h2 := Nat.mod_lt (i * K) (show 0 < 2 * n by omega)
  unfold plT
  split
  · rename_i h; rw [← h1, Nat.mod_eq_of_lt h]
  · rename_i h
    rw [← h1]
    generalize i * K % (2 * n) = y at *
    rw [show y = (y - n) + n by omega, Nat.add_mod_right, Nat.mod_eq_of_lt (by omega)]
    omega
theorem plT_inj {n K K' i i' : Nat} (hn : 0 < n) (hK : K * K' % n = 1 % n) (hi : i < n) (hi' : i' < n) (h : plT n K i = plT n K i') : i = i' := by
  rw [plT_mod hn, plT_mod hn] at h
  have h1 : ∀ y, y < n → y * K % n * K' % n = y := fun y hy => by
    rw [Nat.mod_mul_mod, Nat.mul_assoc, Nat.mul_mod, hK, ← Nat.mul_mod, Nat.mul_one, Nat.mod_eq_of_lt hy]
  rw [← h1 i hi, ← h1 i' hi', h]
theorem turn_none {q n K : Nat} {f : Nat → Nat} : ∀ m p, (∀ i, i < m → plT n K i ≠ p) → turnUp q n K f m p = 0
  | 0, p, _ => rfl
  | m + 1, p, h => by
    have ih := turn_none (q := q) (f := f) m p (fun i hi => h i (by omega))
    have h0 := h m (by omega)
    unfold plT at h0
    rw [turnUp]
    split
    · rename_i hc
      rw [if_pos hc] at h0
      rw [if_neg (fun e => h0 e.symm), ih]
    · rename_i hc
      rw [if_neg hc] at h0
      rw [if_neg (fun e => h0 e.symm), ih]
theorem turn_vals {q n K K' : Nat} {x : Int} {f : Nat → Nat} (hn : 0 < n) (hK : K * K' % n = 1 % n) (hx : M (q : Int) (x ^ n) (-1)) (hf : ∀ i, i < n → f i < q) :
    ∀ m, m ≤ n → M (q : Int) (S n (fun j => (turnUp q n K f m j : Int) * x ^ j)) (S m (fun i => (f i : Int) * x ^ (i * K)))
  | 0, _ => by
    rw [S_congr (g := fun _ => 0) (fun j _ => by show ((0 : Nat) : Int) * x ^ j = 0; simp), S_zero]; exact M.rfl
  | m + 1, hm => by
    have ih := turn_vals hn hK hx hf m (by omega)
    have hz : turnUp q n K f m (plT n K m) = 0 := turn_none m _ (fun i hi e => by
      have := plT_inj hn hK (by omega) (by omega) e; omega)
    have hl := plT_lt (n := n) (K := K) (i := m) hn
    have h2 := Nat.mod_lt (m * K) (show 0 < 2 * n by omega)
    rw [S]
    obtain ⟨y, hy, hyv⟩ : ∃ y : Nat, (∀ j, turnUp q n K f (m + 1) j = if j = plT n K m then y else turnUp q n K f m j) ∧ M (q : Int) ((y : Int) * x ^ plT n K m) ((f m : Int) * x ^ (m * K)) := by
      by_cases hc : m * K % (2 * n) < n
      · refine ⟨f m, fun j => ?_, ?_⟩
        · rw [turnUp, if_pos hc]; unfold plT; rw [if_pos hc]
        · unfold plT; rw [if_pos hc]
          exact M.rfl.mul (pow_modn hx _).symm
      · refine ⟨dif 0 (f m) q, fun j => ?_, ?_⟩
        · rw [turnUp, if_neg hc]; unfold plT; rw [if_neg hc]
        · unfold plT; rw [if_neg hc]
          have hd := M.dif (q := q) (a := 0) (b := f m) (hf m (by omega))
          refine (hd.mul M.rfl).trans ?_
          have e1 : x ^ (m * K % (2 * n)) = x ^ (m * K % (2 * n) - n) * x ^ n := by rw [← Int.pow_add]; congr 1; omega
          have e2 : M (q : Int) (x ^ (m * K)) (-(x ^ (m * K % (2 * n) - n))) := by
            refine (pow_modn hx _).trans ?_
            rw [e1]
            have := (M.rfl (q := (q : Int)) (a := x ^ (m * K % (2 * n) - n))).mul hx
            rwa [Int.mul_neg, Int.mul_one] at this
          have e3 := ((M.rfl (q := (q : Int)) (a := (f m : Int))).mul e2).symm
          rw [Int.mul_neg] at e3
          rw [show ((0 : Nat) : Int) - (f m : Int) = -(f m : Int) by omega, Int.neg_mul]
          exact e3
    have e4 : S n (fun j => (turnUp q n K f (m + 1) j : Int) * x ^ j) = S n (fun j => (if j = plT n K m then (y : Int) else (turnUp q n K f m j : Int)) * x ^ j) := S_congr fun j _ => by
      rw [hy]; split <;> rfl
    rw [e4, S_put hl _ _ _ (by rw [hz]; rfl)]
    exact ih.add hyv
theorem pw3_inv {n : Nat} (hn : Sml n) {s : Nat} (hs : s < n / 2) : pw3 n s * pw3 n (n / 2 - s) % n = 1 % n := by
  have h1 : pw3 n s * pw3 n (n / 2 - s) % (2 * n) = 1 := by
    rw [← pw3_add, show s + (n / 2 - s) = n / 2 by omega, pw3_half hn]
  have h2 : pw3 n s * pw3 n (n / 2 - s) % (2 * n) % n = pw3 n s * pw3 n (n / 2 - s) % n := Nat.mod_mul_left_mod _ _ _
  rw [← h2, h1]
theorem slot_turn {w : World} {p n T k r v m s : Nat} {z : Nat → Int} {F P G : Nat → Nat} (h : Bt w p n T k r v) (hn : Sml n) (hT : 2 ≤ T) (hF : Pkd n T v m z F) (hs : s < n / 2) (hP : ∀ i, i < n → P i = turnUp T n (pw3 n s) F n i) (hG : Unp n T r P G) {i : Nat} (hi : i < n / 2) :
    G (atB n i) = slotN T m z ((i + s) % (n / 2)) := by
  have hl := sml_le hn
  have hh : 0 < n / 2 := by omega
  have ha := at_lt (n := n) (by omega) i
  have hb := at_lt (n := n) (by omega) ((i + s) % (n / 2))
  obtain ⟨g1, g2⟩ := hG _ ha
  have hsl : slotN T m z ((i + s) % (n / 2)) = laidF n T z m (atB n ((i + s) % (n / 2))) := (laid_at hn (Nat.mod_lt _ hh)).symm
  rw [hsl]
  refine M.lt (q := T) (g2.trans ?_) g1 (laid_lt (by omega))
  refine M.trans ?_ (pkd_vals h hF hb)
  have hr : M (T : Int) ((r : Int) ^ n) (-1) := by have := h.root.hr; rwa [← h.root.nk] at this
  have hx : M (T : Int) (((r : Int) ^ (2 * atB n i + 1)) ^ n) (-1) := by
    rw [← Int.pow_mul, Nat.mul_comm, Int.pow_mul]
    exact (hr.pow _).trans (M.of (odd_minus (by omega)))
  have e1 := turn_vals (q := T) (K := pw3 n s) (f := F) (by omega) (pw3_inv hn hs) hx (fun j hj => (hF j hj).1) n (Nat.le_refl _)
  have e2 : vals (r : Int) n (fun j => (P j : Int)) (atB n i) = S n (fun j => (turnUp T n (pw3 n s) F n j : Int) * ((r : Int) ^ (2 * atB n i + 1)) ^ j) := by
    unfold vals
    exact S_congr fun j hj => by
      show (P j : Int) * _ = _
      rw [hP j hj, Int.pow_mul]
  rw [e2]
  refine e1.trans ?_
  unfold vals
  refine S_M fun j hj => M.rfl.mul ?_
  have e3 : ((r : Int) ^ (2 * atB n i + 1)) ^ (j * pw3 n s) = ((r : Int) ^ ((2 * atB n i + 1) * pw3 n s)) ^ j := by
    rw [← Int.pow_mul, ← Int.pow_mul]; congr 1; rw [Nat.mul_comm j, Nat.mul_assoc]
  rw [e3, show (r : Int) ^ ((2 * atB n ((i + s) % (n / 2)) + 1) * j) = ((r : Int) ^ (2 * atB n ((i + s) % (n / 2)) + 1)) ^ j from Int.pow_mul]
  refine M.pow ?_ j
  refine (pow_modn hr _).trans (M.of ?_)
  rw [← pw3_at, ← pw3_at, ← pw3_add, pw3_mod hn]
end Go.Proofs.YtoimbommiheccaaGreatDoor

/-
  The document's sum over all slots is what leads back: plain arithmetic of Pack.
-/
namespace Go.Proofs.YtoimbommiheccaaGreatDoor
open Go.RowKit
set_option linter.unusedVariables false
set_option maxRecDepth 100000

/-- A slot's exponent. -/
def expB (n s i : Nat) : Nat := pw3 n s * i % (2 * n)
theorem pow_odd1 {n T k r v : Nat} (h : Root n T k r v) (s i : Nat) : M (T : Int) ((v : Int) ^ ((2 * atB n s + 1) * i)) ((r : Int) ^ (2 * n - expB n s i)) := by
  have hn0 := h.n0
  have hr : M (T : Int) ((r : Int) ^ n) (-1) := by have := h.hr; rwa [← h.nk] at this
  have hv : M (T : Int) ((v : Int) ^ n) (-1) := by have := h.hv; rwa [← h.nk] at this
  rw [← pw3_at]
  refine (pow_modn hv _).trans ?_
  have hl : expB n s i < 2 * n := Nat.mod_lt _ (by omega)
  show M (T : Int) ((v : Int) ^ expB n s i) _
  generalize expB n s i = e at *
  have h1 := cancel h.rv e
  have h2 : M (T : Int) ((r : Int) ^ e * (r : Int) ^ (2 * n - e)) 1 := by
    rw [← Int.pow_add, show e + (2 * n - e) = 2 * n * 1 by omega]
    exact pow_wrap hr 1
  have h3 := (M.rfl (q := (T : Int)) (a := (v : Int) ^ e)).mul h2
  rw [Int.mul_one, ← Int.mul_assoc, Int.mul_comm ((v : Int) ^ e)] at h3
  have h4 := h1.mul (M.rfl (q := (T : Int)) (a := (r : Int) ^ (2 * n - e)))
  rw [Int.one_mul] at h4
  exact h3.symm.trans h4
theorem pow_odd2 {n T k r v : Nat} (h : Root n T k r v) (s i : Nat) : M (T : Int) ((v : Int) ^ ((2 * (n - 1 - atB n s) + 1) * i)) ((r : Int) ^ expB n s i) := by
  have hn0 := h.n0
  have hv : M (T : Int) ((v : Int) ^ n) (-1) := by have := h.hv; rwa [← h.nk] at this
  have ha := at_lt (n := n) (by omega) s
  have hp := pw3_at n s
  have h0 : M (T : Int) ((v : Int) ^ (pw3 n s * i)) ((v : Int) ^ expB n s i) := pow_modn hv _
  have h1 := cancel h.rv (expB n s i)
  have h2 : M (T : Int) ((v : Int) ^ ((2 * (n - 1 - atB n s) + 1) * i) * (v : Int) ^ (pw3 n s * i)) 1 := by
    rw [← Int.pow_add, ← Nat.add_mul, show 2 * (n - 1 - atB n s) + 1 + pw3 n s = 2 * n by omega]
    exact pow_wrap hv i
  have h3 := (M.rfl (q := (T : Int)) (a := (v : Int) ^ ((2 * (n - 1 - atB n s) + 1) * i))).mul h0
  have h4 := h3.symm.trans h2
  generalize (v : Int) ^ ((2 * (n - 1 - atB n s) + 1) * i) = X at *
  generalize (v : Int) ^ expB n s i = Y at *
  generalize (r : Int) ^ expB n s i = Z at *
  have h5 := (M.rfl (q := (T : Int)) (a := X)).mul h1
  rw [Int.mul_one] at h5
  refine h5.symm.trans ?_
  have h6 := (M.rfl (q := (T : Int)) (a := Z)).mul h4
  rw [Int.mul_one] at h6
  refine (M.of ?_).trans h6
  rw [← Int.mul_assoc, Int.mul_comm X Z, Int.mul_assoc]
theorem laid_under {n T m : Nat} {z : Nat → Int} {i : Nat} (hn : Sml n) (hi : i < n / 2) : laidF n T z m (n - 1 - atB n i) = slotN T m z i := by
  have ha := at_lt (n := n) (by have := sml_le hn; omega) i
  unfold laidF slotN
  rw [(sl_iff hn hi (show n - 1 - atB n i < n by omega)).2 (.inr rfl)]
/-- What one slot brings. -/
def bringS (n T r : Nat) (z : Nat → Int) (i s : Nat) : Int := (lif (z s) T : Int) * ((r : Int) ^ (2 * n - expB n s i) + (r : Int) ^ expB n s i)
theorem back_sum {n T k r v m : Nat} {z : Nat → Int} (h : Root n T k r v) (hn : Sml n) (hm : m ≤ n / 2) (i : Nat) :
    M (T : Int) (back (v : Int) n (fun j => (laidF n T z m j : Int)) i) (S m (bringS n T r z i)) := by
  have e1 : S (n / 2) (fun s => if s < m then bringS n T r z i s else 0) = S m (bringS n T r z i) := by
    rw [show n / 2 = m + (n / 2 - m) by omega, S_split]
    have e2 : S (n / 2 - m) (fun s => if m + s < m then bringS n T r z i (m + s) else 0) = 0 := by
      rw [S_congr (g := fun _ => 0) (fun s _ => if_neg (by omega)), S_zero]
    rw [e2, Int.add_zero]
    exact S_congr fun s hs => if_pos hs
  rw [← e1]
  unfold back
  rw [S_slots hn]
  refine S_M fun s hs => ?_
  show M (T : Int) ((laidF n T z m (atB n s) : Int) * _ + (laidF n T z m (n - 1 - atB n s) : Int) * _) _
  rw [laid_at hn hs, laid_under hn hs]
  have h1 := (M.rfl (q := (T : Int)) (a := (slotN T m z s : Int))).mul (pow_odd1 h s i)
  have h2 := (M.rfl (q := (T : Int)) (a := (slotN T m z s : Int))).mul (pow_odd2 h s i)
  refine (h1.add h2).trans (M.of ?_)
  rw [← Int.mul_add]
  unfold slotN bringS
  split
  · rfl
  · simp
/-- 1/n by the power T - 2, for a power of two: by the test itself. -/
theorem part_unit {n T : Nat} (hn : Sml n) (hT : 3 ≤ T) (ho : T % 2 = 1) (h64 : T < 18446744073709551616) (hs : isS T = true) (h2 : ¬ 2 ∣ T) (hst : strongS T 2 = true) : M (T : Int) ((n : Int) * ((n ^ (T - 2) % T : Nat) : Int)) 1 := by
  have e1 : 2 ^ (T - 1) % T = 1 := by
    have hd : T - 1 = (T - 1) / 2 * 2 := by omega
    rcases strong_half hT ho h64 hst with g | g
    · rw [hd, Nat.pow_mul, Nat.pow_mod, g, Nat.one_pow, Nat.mod_eq_of_lt (by omega)]
    · rw [hd, Nat.pow_mul, Nat.pow_mod, g]
      have h3 : (T - 1) ^ 2 = (T - 2) * T + 1 := by
        obtain ⟨t, rfl⟩ : ∃ t, T = t + 2 := ⟨T - 2, by omega⟩
        rw [show t + 2 - 1 = t + 1 by omega, show t + 2 - 2 = t by omega, Nat.pow_two]; simp only [Nat.add_mul, Nat.mul_add, Nat.one_mul, Nat.mul_one]; omega
      rw [h3, Nat.add_comm, Nat.add_mul_mod_self_right, Nat.mod_eq_of_lt (by omega)]
  have e2 : ∃ j, n = 2 ^ j := by
    rcases hn with rfl | rfl | rfl | rfl
    · exact ⟨3, rfl⟩
    · exact ⟨4, rfl⟩
    · exact ⟨5, rfl⟩
    · exact ⟨6, rfl⟩
  obtain ⟨j, hj⟩ := e2
  have e3 : n ^ (T - 1) % T = 1 := by
    rw [hj, ← Nat.pow_mul, Nat.mul_comm, Nat.pow_mul, Nat.pow_mod, e1, Nat.one_pow, Nat.mod_eq_of_lt (by omega)]
  have e4 : n * (n ^ (T - 2)) = n ^ (T - 1) := by rw [show T - 1 = T - 2 + 1 by omega, Nat.pow_succ, Nat.mul_comm]
  have e5 : n * (n ^ (T - 2) % T) % T = 1 := by rw [Nat.mul_mod, Nat.mod_mod, ← Nat.mul_mod, e4, e3]
  unfold M
  rw [← Int.natCast_mul, ← Int.natCast_emod, e5]
  rw [show (1 : Int) % (T : Int) = ((1 % T : Nat) : Int) by rw [Int.natCast_emod]; rfl, Nat.mod_eq_of_lt (show 1 < T by omega)]
/-- What is packed is the document's sum. -/
theorem pack_same {w : World} {p n T k r v m : Nat} {z : Nat → Int} {F : Nat → Nat} {part y : Nat} (h : Bt w p n T k r v) (hn : Sml n) (hm : m ≤ n / 2) (hF : Pkd n T v m z F) {i : Nat} (hi : i < n) (hp : M (T : Int) ((n : Int) * (part : Int)) 1) (hy : y < T) (hM : M (T : Int) (y : Int) (S m (bringS n T r z i) * (part : Int))) : F i = y := by
  obtain ⟨g1, g2⟩ := hF i hi
  refine M.lt (q := T) (unit_n hp (g2.trans ((back_sum h.root hn hm i).trans ?_))) g1 hy
  have h1 := (M.rfl (q := (T : Int)) (a := (n : Int))).mul hM
  have h2 := (M.rfl (q := (T : Int)) (a := S m (bringS n T r z i))).mul hp
  rw [Int.mul_one] at h2
  refine h2.symm.trans ((M.of ?_).trans h1.symm)
  rw [Int.mul_comm (n : Int), Int.mul_comm (n : Int), Int.mul_assoc]
end Go.Proofs.YtoimbommiheccaaGreatDoor

/-
  What the document's Unpack and Pack answer.
-/
namespace Go.Proofs.YtoimbommiheccaaGreatDoor
open Go.RowKit
set_option linter.unusedVariables false
set_option maxRecDepth 100000

/-- What the document's Root is asked, and which number it comes by. -/
structure Rt (n T x : Nat) : Prop where
  sml : Sml n
  t3 : 3 ≤ T
  t30 : T < 1073741824
  first : 2 ≤ x ∧ x < 1000 ∧ x < T ∧ noSq T x = true ∧ ∀ y, y < x → noSq T y = false
  step : stepS (2 * n) = true
  is_ : isS T = true
  one : T % (2 * n) = 1
theorem rootW {n T x : Nat} (h : Rt n T x) (w : World) : Calls Tryz.prog 52 #[.int .u64 (T : Int), .int .u64 (2 * (n : Int))] w fun e w' => e = .returned (.tuple #[.int .u64 (rootS T (2 * n) x : Int), .int .i64 0]) ∧ Ext w w' := by
  have hl := sml_le h.sml
  have := refRoot_any T (2 * n) x w (Lib.hid h.first) (Lib.hid h.step) (Lib.hid h.is_) (Lib.hid h.one) h.t3 h.t30 (by omega) (by omega)
  rwa [show ((2 * n : Nat) : Int) = 2 * (n : Int) by omega] at this
theorem stepM_self {n i : Nat} (hn : Sml n) (hi : i < n / 2) : stepM n (i : Int) = i := by
  unfold stepM
  rw [← Int.natCast_emod, Nat.mod_eq_of_lt hi]; rfl
theorem powerW {n i P : Nat} (hn : Sml n) (hi : i < n / 2) (hP : Hid (P = pw3 n i)) (w : World) : Calls Tryz.prog 55 #[.int .i64 (n : Int), .int .i64 (i : Int)] w fun e w' => e = .returned (.int .i64 (P : Int)) ∧ Ext w w' := by
  have hl := sml_le hn
  have := refPower_any n (i : Int) w hn (by omega) (by omega)
  rwa [stepM_self hn hi, ← hP.out] at this
theorem powW {a d n y : Nat} (hy : Hid (y = a ^ d % n)) (w : World) (hn : 0 < n) (a1 : a < 18446744073709551616) (d1 : d < 18446744073709551616) (n1 : n < 18446744073709551616) :
    Calls Tryz.prog 53 #[.int .u64 (a : Int), .int .u64 (d : Int), .int .u64 (n : Int)] w fun e w' => e = .returned (.int .u64 (y : Int)) ∧ Ext w w' :=
  (rpowN a d n w hn a1 d1 n1).mono fun e w' ⟨he, hw⟩ => ⟨by rw [hy.out]; exact he, hw⟩
set_option maxHeartbeats 8000000 in
theorem refUnpack_any {n T x cv : Nat} {Wd : Int} {A : Option Addr} {L c : Nat} {Av : Option Addr} {f G : Nat → Nat} {w : World} (hR : Rt n T x) (hX : FX w Av n cv f) (hf : Hid (∀ i, i < n → f i < T)) (hG : Hid (Unp n T (rootS T (2 * n) x) f G)) (hr : rootS T (2 * n) x < T) :
    Calls Tryz.prog 20 #[.agg #[.int .i64 (n : Int), .int .u64 (T : Int), .slice A L c, .int .i64 Wd], .slice Av n cv] w fun ee w' => ∃ A2 c2, ee = .returned (.slice A2 (n / 2) c2) ∧ VX w' A2 (n / 2) c2 (fun i => cenT (G (atB n i)) T) ∧ Ext w w' := by
  have HX := Lib.hid hX
  have HR := Lib.hid hR
  obtain ⟨hle0, hle1, hle2⟩ := sml_le hR.sml
  have hT3 := hR.t3
  have hT30 := hR.t30
  clear hX hR
  obtain ⟨i0, hi, hz0, hz1, hz2⟩ := info_parts info_intB
  have kV : Ext w (w.alloc (.cells #[.int .i64 (n : Int), .int .u64 (T : Int), .slice A L c, .int .i64 Wd] 25)) := (Ext.refl w).alloc _
  obtain ⟨x0, x1, x2, x3⟩ := four_at w (.int .i64 (n : Int)) (.int .u64 (T : Int)) (.slice A L c) (.int .i64 Wd) 25
  go_enter Tryz.func20, Tryz.ntmps20
  go_wp2_with fail
  generalize w.alloc (.cells #[.int .i64 (n : Int), .int .u64 (T : Int), .slice A L c, .int .i64 Wd] 25) = V0 at *
  refine (rootW HR.out V0).mono ?_
  rintro e V ⟨rfl, k1⟩
  replace x0 := cell_ext k1 x0
  replace x1 := cell_ext k1 x1
  replace kV := kV.trans k1
  obtain ⟨r, hrd⟩ : ∃ r, r = rootS T (2 * n) x := ⟨_, rfl⟩
  rw [← hrd] at hG hr ⊢
  clear x2 x3 k1 hrd
  go_wp2
  go_loopw [7, 8] (fun s i wr => ∃ (k : Nat) (A0 : Option Addr) (c0 : Nat), k ≤ n / 2 ∧ i = .int .i64 (k : Int) ∧ s = .slice A0 k c0 ∧ IR V.heap.size V wr (.slice A0 k c0) k (fun i => cenT (G (atB n i)) T)) (fun _ i _ => n / 2 - (intOf i).toNat)
  case atStart => exact ⟨0, none, 0, by omega, rfl, rfl, IR.nil _ _⟩
  case round =>
    obtain ⟨k, A0, c0, hk, rfl, rfl, hlr⟩ := hrel
    have kz : Ext V wr := hlr.2
    have hzs := hlr.2.size
    have y0 := cell_ext kz x0
    have y1 := cell_ext kz x1
    by_cases hlt : k < n / 2
    · have e1 : decide ((k : Int) < (n : Int) / 2) = true := decide_eq_true (by omega)
      have HLR := Lib.hid hlr
      clear hlr
      obtain ⟨P, hP⟩ : ∃ P, P = pw3 n k := ⟨_, rfl⟩
      have hPl : P < 2 * n := by rw [hP]; exact Nat.mod_lt _ (by omega)
      obtain ⟨y, hy⟩ : ∃ y, y = r ^ P % T := ⟨_, rfl⟩
      have hyl : y < T := by rw [hy]; exact Nat.mod_lt _ (by omega)
      have HP := Lib.hid hP
      have HY := Lib.hid hy
      have HU := Lib.hid (show ∀ u : Nat, u < T → M (T : Int) (u : Int) (S n (fun i => (f i : Int) * (y : Int) ^ i)) → G (atB n k) = u from fun u hu hM => by
        obtain ⟨g1, g2⟩ := hG.out _ (at_lt (n := n) (by omega) k)
        refine M.lt (q := T) (g2.trans ?_) g1 hu
        refine M.trans ?_ hM.symm
        unfold vals
        refine S_M fun j hj => M.rfl.mul ?_
        rw [Int.pow_mul, ← pw3_at, ← hP]
        refine M.pow ?_ j
        rw [hy, Int.natCast_emod, Int.natCast_pow]
        unfold M
        rw [Int.emod_emod])
      have wP : IntKind.u64.wrap (P : Int) = (P : Int) := by rw [IntKind.wrap_u64]; omega
      clear hP hy
      have kk : Ext wr wr := Ext.refl wr
      go_wp2_with fail
      go_region_held3 (fun w' => w'.cell? ⟨w.heap.size, 0, none⟩ = some (.int .i64 (n : Int)) ∧ w'.cell? ⟨w.heap.size, 1, none⟩ = some (.int .u64 (T : Int))) (go_keep)
        (first
          | (go_at_call 53; refine (powW HY _ (by omega) (by omega) (by omega) (by omega)).mono ?_; rintro e5 w5 ⟨rfl, k5⟩; replace kk : Ext wr w5 := (by first | exact Ext.trans kk k5 | exact Ext.trans (Ext.drew kk) k5); have d0 := cell_ext kk y0; have d1 := cell_ext kk y1)
          | (go_at_call 55; refine (powerW HR.out.sml hlt HP _).mono ?_; rintro e5 w5 ⟨rfl, k5⟩; replace kk : Ext wr w5 := (by first | exact Ext.trans kk k5 | exact Ext.trans (Ext.drew kk) k5); have d0 := cell_ext kk y0; have d1 := cell_ext kk y1)
          | fail)
      all_goals
        have HXr := Lib.hid (HX.out.ext (kV.trans (kz.trans kk)))
        have HL5 := Lib.hid (HLR.out.ext kk (by omega))
        have hs5 := kk.size
        have hs5V : V.heap.size ≤ w5.heap.size := by omega
        clear HLR y0 y1
        have km : Ext w5 w5 := Ext.refl w5
        go_wp2_with fail
        go_region_held3 (fun w' => w'.cell? ⟨w.heap.size, 1, none⟩ = some (.int .u64 (T : Int))) (go_keep)
          (first
            | (refine step_append_own rfl (.tmp 36) (.tmp 45) 26 rfl V.heap.size 3 i0 (.int .i64 0) 1 8 Tryz.underlying26 hi hz0 hz1 hz2 rfl (by decide) (.slice A0 k c0) k _ (by simp [Act.eval]) ((HL5.out.ext km (by omega)).alloc _) ⟨w7.heap.size, 0, none⟩ 1 1 [.int .i64 (cenT u T)] (by simp [Act.eval]) rfl one_cell one_int (by unfold maxLen; omega) (by omega) (by have := km.size; simp; omega) ?_; intro v8 w8 hown8 hgrow8; obtain ⟨A8, c8, rfl⟩ := own_slice hown8; have hl8 := (HL5.out.ext km (by omega)).push (z := cenT u T) (by have := km.size; omega) HCU.out hown8 hgrow8; have k8 : Ext V w8 := hl8.2; have f1 := cell_ext k8 x1)
            | (go_at_call 59; refine (rcenterB u T (cenT u T) _ (Lib.hid rfl) (by omega) (by omega)).mono ?_; rintro e7 w7 ⟨rfl, k7⟩; replace km : Ext w5 w7 := (by first | exact Ext.trans km k7 | exact Ext.trans (Ext.drew km) k7); have f1 := cell_ext km d1)
            | (go_at_call 60; refine (atP_any Av n cv y T f _ (HXr.out.ext (by first | exact km | exact Ext.drew km)) (by omega) (by omega) (by omega) (by omega) hf).mono ?_; rintro e6 w6 ⟨u, rfl, hul, hMu, k6⟩; have HCU := Lib.hid (show cenT u T = cenT (G (atB n k)) T by rw [HU.out u hul hMu.out]); replace km : Ext w5 w6 := (by first | exact Ext.trans km k6 | exact Ext.trans (Ext.drew km) k6); have f1 := cell_ext km d1)
            | fail)
        all_goals
          go_wp2
          exact ⟨⟨k + 1, A8, c8, by omega, by go_num, rfl, hl8⟩, by simp [intOf]; omega⟩
    · obtain rfl : k = n / 2 := by omega
      have e1 : decide (((n / 2 : Nat) : Int) < (n : Int) / 2) = false := decide_eq_false (by omega)
      obtain ⟨A3, c3, e3, htx⟩ := hlr.vx
      injection e3 with e31 _ e32
      subst e31 e32
      have HTX := Lib.hid htx
      clear htx hlr
      go_wp2
      go_ret
      exact ⟨_, _, rfl, HTX.out, kV.trans kz⟩
end Go.Proofs.YtoimbommiheccaaGreatDoor

/-
  The law BatchUnpacks walked: any polynomial has in its slots what the document says, or is refused.
-/
namespace Go.Proofs.YtoimbommiheccaaGreatDoor
open Go.RowKit
set_option linter.unusedVariables false
set_option maxRecDepth 100000

set_option maxHeartbeats 2000000 in
theorem unpackNo_any (p n T k r v m c : Nat) (A : Option Addr) (f : Nat → Nat) (w : World) (hB : Bt w p n T k r v) (hn : Sml n) (hX : FX w A m c f) (hm : m ≤ 9223372036854775807) (hl : Hid (∀ i, i < m → f i < 18446744073709551616)) (hf : Hid (¬ FitL n T m f)) :
    Calls Tryz.prog 18 #[.pointer (some ⟨p, 0, none⟩), .slice A m c] w fun ee w' => ee = .returned (.tuple #[.slice none 0 0, .int .i64 3]) ∧ Ext w w' := by
  have hle := sml_le hn
  have HB := Lib.hid hB
  have HX := Lib.hid hX
  obtain ⟨pg, t, h0, h1, h2, h3, h4, h5⟩ := hB.ex
  have H5 := Lib.hid h5
  clear hB hn h4 h5 hX
  go_enter Tryz.func18, Tryz.ntmps18
  go_wp2_with fail
  refine (isNone_no p n T k r v w HB.out (by omega) (by omega)).mono ?_
  rintro e w' ⟨rfl, rfl⟩
  go_wp2_with fail
  refine (values_no t n T k r v A m c f w H5.out HX.out hm hl hf).mono ?_
  rintro e w1 ⟨rfl, k1⟩
  go_wp2
  go_ret2
  exact ⟨rfl, k1⟩
theorem tells_no {w w' : World} {P : Prop} {ee : Ending} (h : Tells w P ee w') (hP : ¬ P) : ee = .returned (.bool false) ∧ Ext w w' := by
  rcases h with ⟨h, _⟩ | ⟨_, h2, h3⟩
  · exact absurd h hP
  · exact ⟨h2, h3⟩
theorem rt_of {n T x : Nat} (hs : Sml n) (h2 : PlainP n T) (hx : First T x) : Rt n T x := by
  have hl := sml_le hs
  have h3 : 3 ≤ T := by
    have h := h2.2.1
    have hg := isS_ge h2.2.2
    rcases Nat.lt_or_ge T (2 * n) with g | g
    · rw [Nat.mod_eq_of_lt g] at h; omega
    · omega
  exact ⟨hs, h3, h2.1, first_below h3 hx (sq_both hs h2), sml_step hs, h2.2.2, h2.2.1⟩
theorem fitL_words {n T m : Nat} {f : Nat → Nat} (h : FitL n T m f) : m = n ∧ Hid (∀ i, i < n → f i < T) := ⟨h.1, Lib.hid h.2⟩
set_option maxHeartbeats 8000000 in
theorem batchUnpacks_walk {N : Int} {T : Nat} {Wd : Int} {A : Option Addr} {L c : Nat} {f : Nat → Nat} {Av : Option Addr} {m cv : Nat} {a : Nat → Nat} (w : World) (hP : Hid (PA w N T A L c Wd f)) (hV : FX w Av m cv a) (hm : m ≤ maxLen) (ha : Hid (∀ i, i < m → a i < 18446744073709551616)) (hT : Tabs w) :
    Calls Tryz.prog 4 #[.agg #[.int .i64 N, .int .u64 (T : Int), .slice A L c, .int .i64 Wd], .slice Av m cv] w fun e w' => e = .returned (.bool true) ∧ Ext w w' := by
  have HT := Lib.hid hT
  have HV := Lib.hid hV
  clear hT hV
  have kV : Ext w (w.alloc (.cells #[.int .i64 N, .int .u64 (T : Int), .slice A L c, .int .i64 Wd] 25)) := (Ext.refl w).alloc _
  obtain ⟨x0, x1, x2, x3⟩ := four_at w (.int .i64 N) (.int .u64 (T : Int)) (.slice A L c) (.int .i64 Wd) 25
  have hL := hP.out.len
  have hml : m ≤ 9223372036854775807 := hm
  clear hm
  go_enter Tryz.func4, Tryz.ntmps4
  go_wp2_with fail
  generalize w.alloc (.cells #[.int .i64 N, .int .u64 (T : Int), .slice A L c, .int .i64 Wd] 25) = V0 at *
  refine (fixed9_any V0 (HT.out.ext kV)).mono ?_
  rintro e V ⟨rfl, k1⟩
  replace x0 := cell_ext k1 x0
  replace x1 := cell_ext k1 x1
  replace x2 := cell_ext k1 x2
  replace x3 := cell_ext k1 x3
  replace kV := kV.trans k1
  clear k1
  go_wp2_with fail
  refine (small_any N (T : Int) Wd A L c V hL).mono ?_
  rintro e w1 (⟨hy, rfl, k1⟩ | ⟨hy, rfl, k1⟩)
  case inr =>
    clear hy
    go_wp2
    go_ret
    exact ⟨rfl, kV.trans k1⟩
  have hN64 := hy.1
  have hL20 := hy.2
  have hN0 := hP.out.n0
  clear hy hL
  replace x0 := cell_ext k1 x0
  replace x1 := cell_ext k1 x1
  replace x2 := cell_ext k1 x2
  replace x3 := cell_ext k1 x3
  replace kV := kV.trans k1
  clear k1
  by_cases hmn : m ≤ 100
  case neg =>
    have e1 : decide (100 < (m : Int)) = true := decide_eq_true (by omega)
    go_wp2
    go_ret
    exact ⟨rfl, kV⟩
  have e1 : decide (100 < (m : Int)) = false := decide_eq_false (by omega)
  go_wp2_with fail
  refine (bnew_any (hP.out.ext kV) (by omega) hN64 (HT.out.ext kV)).mono ?_
  rintro e w2 (⟨hy, rfl, k2⟩ | ⟨hy, p, k, r, v, x, hfx, hrx, rfl, hb, k2⟩)
  · have HN := Lib.hid hy
    clear hy
    replace x0 := cell_ext k2 x0
    replace x1 := cell_ext k2 x1
    replace x2 := cell_ext k2 x2
    replace x3 := cell_ext k2 x3
    replace kV := kV.trans k2
    go_wp2_with fail
    refine (rcheckZ (z := 8) (hP.out.ext kV) (by omega) (Lib.hid (.inr ⟨HN.out, rfl⟩))).mono ?_
    rintro e w3 ⟨rfl, k3⟩
    go_wp2
    go_ret
    exact ⟨rfl, kV.trans k3⟩
  have HPar := Lib.hid hy
  obtain ⟨n, rfl, hn0, hn1⟩ := size_nat (hy 0 (by omega))
  have hs : Sml n := sml_all n (by omega) hn0 (hy 0 (by omega)).2.2
  have hpl : PlainP n T := hy 2 (by omega)
  have hR := rt_of hs hpl hfx
  have hT2 := hy.T2
  have hT30 : T < 1073741824 := hpl.1
  have HB := Lib.hid (show Bt w2 p n T k r v from hb)
  have HS := Lib.hid hs
  have HR := Lib.hid hR
  have HRX := Lib.hid (show r = rootS T (2 * n) x from hrx.out)
  have HRL := Lib.hid (show rootS T (2 * n) x < T from rootS_lt (by omega))
  clear hy hb hs hpl hR hfx hrx e1
  replace x0 := cell_ext k2 x0
  replace x1 := cell_ext k2 x1
  replace x2 := cell_ext k2 x2
  replace x3 := cell_ext k2 x3
  replace kV := kV.trans k2
  go_wp2_with fail
  refine (rcheckZ (z := 0) (hP.out.ext kV) (by omega) (Lib.hid (.inl ⟨HPar.out, rfl⟩))).mono ?_
  rintro e w3 ⟨rfl, k3⟩
  have HB3 := Lib.hid (HB.out.ext k3)
  replace x0 := cell_ext k3 x0
  replace x1 := cell_ext k3 x1
  replace x2 := cell_ext k3 x2
  replace x3 := cell_ext k3 x3
  replace kV := kV.trans k3
  clear HPar k2 k3 HB
  by_cases hfit : FitL n T m a
  case neg =>
    have HF := Lib.hid hfit
    clear hfit
    go_wp2_with fail
    refine (unpackNo_any p n T k r v m cv Av a w3 HB3.out HS.out (HV.out.ext kV) hml ha HF).mono ?_
    rintro e w4 ⟨rfl, k4⟩
    replace x0 := cell_ext k4 x0
    replace x1 := cell_ext k4 x1
    replace kV := kV.trans k4
    go_wp2_with fail
    refine (fitsB_any Av m cv n T a w4 (HV.out.ext kV) hml (by omega) (by omega) ha).mono ?_
    rintro e w5 h5
    obtain ⟨rfl, k5⟩ := tells_no h5 HF.out
    clear h5
    go_wp2
    go_ret
    exact ⟨rfl, kV.trans k5⟩
  obtain ⟨rfl, hfl⟩ := fitL_words hfit
  have HF := Lib.hid hfit
  clear hfit
  go_wp2_with fail
  refine (unpack_any p m T k r v cv Av a w3 HB3.out HS.out (HV.out.ext kV) hfl hT2 hT30).mono ?_
  rintro e w4 ⟨g4, G, rfl, hi4, hG, k4⟩
  have HI := Lib.hid hi4
  have HG := Lib.hid (show Unp m T (rootS T (2 * m) x) a G from by rw [← HRX.out]; exact hG.out)
  clear hi4 hG
  replace x0 := cell_ext k4 x0
  replace x1 := cell_ext k4 x1
  replace x2 := cell_ext k4 x2
  replace x3 := cell_ext k4 x3
  replace kV := kV.trans k4
  go_wp2_with fail
  refine (fitsB_any Av m cv m T a w4 (HV.out.ext kV) hml (by omega) (by omega) ha).mono ?_
  rintro e w5 h5
  obtain ⟨rfl, k5⟩ := tells_yes h5 HF.out
  clear h5
  replace x0 := cell_ext k5 x0
  replace x1 := cell_ext k5 x1
  replace x2 := cell_ext k5 x2
  replace x3 := cell_ext k5 x3
  replace kV := kV.trans k5
  go_wp2_with fail
  refine (refUnpack_any (n := m) (T := T) (x := x) (f := a) (G := G) HR.out (HV.out.ext kV) hfl HG HRL.out).mono ?_
  rintro e w6 ⟨A6, c6, rfl, hv6, k6⟩
  have HV6 := Lib.hid hv6
  clear hv6
  go_wp2_with fail
  refine (sameRow_any _ _ (m / 2) (m / 2) (m / 2) c6 _ _ w6 ((IWB.vx HI.out).ext (k5.trans k6)) HV6.out (by omega) (by omega)).mono ?_
  rintro e w7 h7
  obtain ⟨rfl, k7⟩ := tells_yes h7 ⟨rfl, fun _ _ => rfl⟩
  clear h7
  go_wp2
  go_ret
  exact ⟨rfl, kV.trans (k6.trans k7)⟩
end Go.Proofs.YtoimbommiheccaaGreatDoor
