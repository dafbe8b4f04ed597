/-
  Arrays of three words compared.
-/
import Derived.Test.YtoimbommiheccaaDoorZ35
import Derived.DeepKeys
import Derived.Test.YtoimbommiheccaaDoorZ37
import Derived.Test.YtoimbommiheccaaDoorZ30
import Derived.Test.YtoimbommiheccaaDoorZBAdd
namespace Go.Proofs.YtoimbommiheccaaDoor
open Go.RowKit
set_option linter.unusedVariables false
set_option maxRecDepth 100000

theorem cellsU : Tryd.prog.cellsOf 22 = 1 := by kernel_rfl
theorem part0 (a b c : Int) (w : World) : Sem.run Tryd.prog (Go.part 22 #[.int .u64 a, .int .u64 b, .int .u64 c] (0 * 1)) w = Result.ok (.int .u64 a) w := by kernel_rfl
theorem part1 (a b c : Int) (w : World) : Sem.run Tryd.prog (Go.part 22 #[.int .u64 a, .int .u64 b, .int .u64 c] (1 * 1)) w = Result.ok (.int .u64 b) w := by kernel_rfl
theorem part2 (a b c : Int) (w : World) : Sem.run Tryd.prog (Go.part 22 #[.int .u64 a, .int .u64 b, .int .u64 c] (2 * 1)) w = Result.ok (.int .u64 c) w := by kernel_rfl
end Go.Proofs.YtoimbommiheccaaDoor

/-
  The law ParamSame walked; which parameters are the same.
-/
namespace Go.Proofs.YtoimbommiheccaaDoor
open Go.RowKit
set_option linter.unusedVariables false
set_option maxRecDepth 100000

/-- The same words. -/
def SameW (n n' : Nat) (f f' : Nat → Nat) : Prop := n = n' ∧ ∀ i, i < n → f i = f' i
set_option maxHeartbeats 1000000 in
theorem sameW_any (A A' : Option Addr) (n n' c c' : Nat) (f f' : Nat → Nat) (w : World) (hX : FX w A n c f) (hX' : FX w A' n' c' f') (hn : n ≤ 9223372036854775807) (hn' : n' ≤ 9223372036854775807) :
    Calls Tryd.prog 18 #[.slice A n c, .slice A' n' c'] w (Tells w (SameW n n' f f')) := by
  by_cases hne : n = n'
  case neg =>
    have HN := Lib.hid (show ¬ SameW n n' f f' from fun h => hne h.1)
    have e1 : ((n : Int) != (n' : Int)) = true := by simp; omega
    clear hne
    go_enter Tryd.func18, Tryd.ntmps18
    go_wp2
    go_ret
    exact Tells.no HN.out (Ext.refl _)
  subst hne
  go_enter Tryd.func18, Tryd.ntmps18
  go_wp2
  go_loopw [13] (fun i wr => ∃ m d : Nat, m ≤ n ∧ i = .int .i64 (m : Int) ∧ Hid (∀ i, i < m → f i = f' i) ∧ wr = w.drewN d) (fun i _ => n - (intOf i).toNat)
  case atStart => exact ⟨0, 0, by omega, rfl, Lib.hid fun i hi => by omega, rfl⟩
  case round =>
    obtain ⟨m, d, hm, rfl, hall, rfl⟩ := hrel
    by_cases hlt : m < n
    · obtain ⟨ad, rfl, hc⟩ := hX.cells (by omega)
      obtain ⟨ad', rfl, hc'⟩ := hX'.cells (by omega)
      have h1 := hc m hlt
      have h2 := hc' m hlt
      clear hc hc'
      have i0 : (0 : Int) ≤ (m : Int) := by omega
      have i1 : (m : Int) < (n : Int) := by omega
      by_cases he : f m = f' m
      · have HA := Lib.hid (show ∀ i, i < m + 1 → f i = f' i from fun i hi => by
          by_cases h : i = m
          · subst h; exact he
          · exact hall.out i (by omega))
        rw [← he] at h2
        clear he
        generalize f m = x at *
        go_wp2
        go_quiet (fail)
        go_wp2
        exact ⟨⟨m + 1, _, by omega, by go_num, HA, rfl⟩, by simp [intOf]; omega⟩
      · have HN := Lib.hid (show ¬ SameW n n f f' from fun h => he (h.2 m hlt))
        have e1 : ((f m : Int) != (f' m : Int)) = true := by simp; omega
        have e2 : ((f m : Int) == (f' m : Int)) = false := by simp; omega
        clear he
        go_wp2
        go_quiet (fail)
        go_wp2
        go_ret
        exact Tells.no HN.out (by first | exact (Ext.refl w).drewN _ | exact ((Ext.refl w).drewN _).drewN _ | exact ((Ext.refl w).drewN _).drew)
    · have HY := Lib.hid (show SameW n n f f' from ⟨rfl, fun i hi => hall.out i (by omega)⟩)
      go_wp2
      go_ret
      exact Tells.yes HY.out ((Ext.refl w).drewN d)
/-- It tells, and only draws. -/
def TellsQ (w : World) (P : Prop) (ee : Ending) (w' : World) : Prop := (P ∧ ee = .returned (.bool true) ∧ ∃ d, w' = w.drewN d) ∨ (¬ P ∧ ee = .returned (.bool false) ∧ ∃ d, w' = w.drewN d)
/-- A number's sixty-four bits as a word. -/
def bitsU (z : Int) : Int := IntKind.u64.wrap z
theorem bitsU_inj {a b : Int} (a0 : -9223372036854775808 ≤ a) (a1 : a < 9223372036854775808) (b0 : -9223372036854775808 ≤ b) (b1 : b < 9223372036854775808) (h : bitsU a = bitsU b) : a = b := by
  unfold bitsU at h; rw [IntKind.wrap_u64, IntKind.wrap_u64] at h; omega
/-- The same parameters. -/
def SamePar (N : Int) (T L : Nat) (f : Nat → Nat) (Wd N' : Int) (T' L' : Nat) (f' : Nat → Nat) (Wd' : Int) : Prop := SameW L L' f f' ∧ N = N' ∧ T = T' ∧ Wd = Wd'
/-- What is told, as a bool. -/
theorem Tells.b {w w' : World} {P : Prop} {b : Bool} {e : Ending} (h : Tells w P e w') (hb : b = true ↔ P) : e = .returned (.bool b) ∧ Ext w w' := by
  rcases h with ⟨h, he, hw⟩ | ⟨h, he, hw⟩
  · rw [hb.2 h]; exact ⟨he, hw⟩
  · cases b
    · exact ⟨he, hw⟩
    · exact absurd (hb.1 rfl) h
theorem SamePar.symm {N : Int} {T L : Nat} {f : Nat → Nat} {Wd N' : Int} {T' L' : Nat} {f' : Nat → Nat} {Wd' : Int} (h : SamePar N T L f Wd N' T' L' f' Wd') : SamePar N' T' L' f' Wd' N T L f Wd := by
  obtain ⟨⟨rfl, h1⟩, rfl, rfl, rfl⟩ := h
  exact ⟨⟨rfl, fun i hi => (h1 i hi).symm⟩, rfl, rfl, rfl⟩
end Go.Proofs.YtoimbommiheccaaDoor

/-
  The calls of layer 9 whose answers the document fixes; the laws BatchNil and BatchPowers walked.
-/
namespace Go.Proofs.YtoimbommiheccaaDoor
open Go.RowKit
set_option linter.unusedVariables false
set_option maxRecDepth 100000

theorem Bt.root {w : World} {p n T k r v : Nat} (h : Bt w p n T k r v) : Root n T k r v := by
  obtain ⟨_, t, _, _, _, _, _, h5⟩ := h.ex
  exact h5.root
theorem Bt.unit {w : World} {p n T k r v : Nat} (h : Bt w p n T k r v) : ∃ u : Nat, M (T : Int) ((n : Int) * (u : Int)) 1 := by
  obtain ⟨_, t, _, _, _, _, _, h5⟩ := h.ex
  exact h5.unit
def one97 (_ : Nat) : Nat := 97
theorem par_fix9 : ParP 8 17 1 one97 1 := fun k hk => by
  rcases (show k = 0 ∨ k = 1 ∨ k = 2 ∨ k = 3 ∨ k = 4 ∨ k = 5 by omega) with rfl | rfl | rfl | rfl | rfl | rfl
  · exact ⟨by decide, by decide, by decide +kernel⟩
  · exact ⟨by decide, by decide⟩
  · exact ⟨by decide, by decide +kernel, by decide +kernel⟩
  · exact ⟨by decide, by decide⟩
  · intro j hj
    obtain rfl : j = 0 := by omega
    exact ⟨by decide, by decide, fun i hi => by omega, by decide +kernel, by decide +kernel⟩
  · show Go.bitLen (prodF one97 1) ≤ rowS 8
    rw [show prodF one97 1 = 97 by decide, show rowS 8 = 420 by decide]
    decide +kernel
def eOne (i : Nat) : Nat := if i = 0 then 1 else 0
theorem vals_one (r : Int) (n : Nat) (hn : 0 < n) (j : Nat) : vals r n (fun i => (eOne i : Int)) j = 1 := by
  unfold vals
  rw [S_one hn _ (fun i _ hne => by simp [eOne, hne])]
  simp [eOne]
theorem pack_ones {w : World} {p k r v : Nat} {F : Nat → Nat} (h : Bt w p 8 17 k r v) (hF : ∀ i, i < 8 → F i < 17 ∧ M (17 : Int) ((8 : Int) * (F i : Int)) (back (v : Int) 8 (fun j => (laidF 8 17 (fun _ => 1) 4 j : Int)) i)) : SameW 8 8 F eOne := by
  refine ⟨rfl, fun i hi => ?_⟩
  obtain ⟨u, hu⟩ := h.unit
  obtain ⟨h1, h2⟩ := hF i hi
  have hl : ∀ j, j < 8 → laidF 8 17 (fun _ => 1) 4 j = 1 := by decide +kernel
  have h3 : M (17 : Int) (back (v : Int) 8 (fun j => (laidF 8 17 (fun _ => 1) 4 j : Int)) i) ((8 : Int) * (eOne i : Int)) := by
    refine (back_M (b := vals (r : Int) 8 (fun i => (eOne i : Int))) (fun j hj => M.of ?_) i).trans (h.root.backVals _ hi)
    rw [vals_one _ _ (by omega), hl j hj]; rfl
  have h4 : M (17 : Int) (F i : Int) (eOne i : Int) := unit_n (n := 8) hu (h2.trans h3)
  exact M.lt (q := 17) h4 h1 (by unfold eOne; split <;> omega)
theorem bnew_yes {w w' : World} {P : Prop} {n T : Nat} {ee : Ending} (h : BNew w P n T ee w') (hP : P) : ∃ p k r v x : Nat, First T x ∧ Hid (r = rootS T (2 * n) x) ∧ ee = .returned (.tuple #[.pointer (some ⟨p, 0, none⟩), .int .i64 0]) ∧ Bt w' p n T k r v ∧ Ext w w' := by
  rcases h with ⟨h, _⟩ | ⟨_, h⟩
  · exact absurd hP h
  · exact h
theorem sml8 : Sml 8 := .inl rfl
set_option maxHeartbeats 4000000 in
theorem fixed9_any (w : World) (hT : Tabs w) : Calls Tryd.prog 4 #[] w fun e w' => e = .returned (.bool true) ∧ Ext w w' := by
  have HT := Lib.hid hT
  clear hT
  have kV : Ext w (w.alloc (.cells #[.int .u64 97] 22)) := (Ext.refl w).alloc _
  have hU : UW (w.alloc (.cells #[.int .u64 97] 22)) w.heap.size 1 one97 := heap_alloc_new _ _
  have HP := Lib.hid (show PA (w.alloc (.cells #[.int .u64 97] 22)) 8 17 (some ⟨w.heap.size, 0, none⟩) 1 1 1 one97 from ⟨by omega, by omega, by omega, by omega, by omega, UW.fx hU, by omega, fun j _ => by unfold one97; omega⟩)
  clear hU
  go_enter Tryd.func4, Tryd.ntmps4
  go_wp2_with fail
  generalize w.alloc (.cells #[.int .u64 97] 22) = V at *
  refine (bnew_any (f := one97) HP.out (by omega) (by omega) (HT.out.ext kV)).mono ?_
  rintro e w1 h1
  obtain ⟨p, k, r, v, x, _, _, rfl, hb, k1⟩ := bnew_yes h1 par_fix9
  have HB := Lib.hid (show Bt w1 p 8 17 k r v from hb)
  clear h1 hb
  replace kV := kV.trans k1
  go_wp2_with fail
  have ka : Ext w1 (w1.alloc (.cells #[.int .i64 1, .int .i64 1, .int .i64 1, .int .i64 1] 3)) := (Ext.refl _).alloc _
  have hI : IWB (w1.alloc (.cells #[.int .i64 1, .int .i64 1, .int .i64 1, .int .i64 1] 3)) w1.heap.size 4 (fun _ => 1) := heap_alloc_new _ _
  refine (pack_any p 8 17 k r v 4 4 (some ⟨w1.heap.size, 0, none⟩) (fun _ => 1) _ (HB.out.ext ka) sml8 hI.vx (Lib.hid fun _ _ => ⟨by omega, by omega⟩) (by omega) (by omega) (by omega)).mono ?_
  rintro e w2 ⟨g2, F, rfl, hu2, hF, k2⟩
  have HS := Lib.hid (pack_ones HB.out hF.out)
  replace k2 : Ext w1 w2 := ka.trans k2
  have HU := Lib.hid hu2
  clear hu2 hF hI ka
  replace kV := kV.trans k2
  go_wp2_with fail
  refine (power_any p 8 17 k r v 1 w2 (HB.out.ext k2) sml8).mono ?_
  rw [show pw3 8 (stepM 8 1) = 3 by decide +kernel]
  rintro e w3 ⟨rfl, k3⟩
  replace kV := kV.trans k3
  go_wp2_with fail
  refine (power_any p 8 17 k r v (-1) w3 (HB.out.ext (k2.trans k3)) sml8).mono ?_
  rw [show pw3 8 (stepM 8 (-1)) = 11 by decide +kernel]
  rintro e w4 ⟨rfl, k4⟩
  replace kV := kV.trans k4
  go_wp2_with fail
  have kb : Ext w4 (w4.alloc (.cells #[.int .u64 1, .int .u64 0, .int .u64 0, .int .u64 0, .int .u64 0, .int .u64 0, .int .u64 0, .int .u64 0] 22)) := (Ext.refl _).alloc _
  have hE : UW (w4.alloc (.cells #[.int .u64 1, .int .u64 0, .int .u64 0, .int .u64 0, .int .u64 0, .int .u64 0, .int .u64 0, .int .u64 0] 22)) w4.heap.size 8 eOne := heap_alloc_new _ _
  refine (sameW_any _ _ 8 8 8 8 F eOne _ ((UW.fx HU.out).ext ((k3.trans k4).trans kb)) (UW.fx hE) (by omega) (by omega)).mono ?_
  rintro e w5 h5
  obtain ⟨rfl, k5⟩ := tells_yes h5 HS.out
  clear h5 hE
  go_wp2
  go_ret
  exact ⟨rfl, kV.trans (kb.trans k5)⟩
/-- A small ring. -/
def SmallP (N : Int) (L : Nat) : Prop := N ≤ 64 ∧ L ≤ 20
theorem small_any (N T Wd : Int) (A : Option Addr) (L c : Nat) (w : World) (hL : L ≤ 9223372036854775807) :
    Calls Tryd.prog 5 #[.agg #[.int .i64 N, .int .u64 T, .slice A L c, .int .i64 Wd]] w (Tells w (SmallP N L)) := by
  by_cases h0 : N ≤ 64
  · have e0 : decide (N ≤ 64) = true := decide_eq_true h0
    by_cases h1 : L ≤ 20
    · have e1 : decide ((L : Int) ≤ 20) = true := decide_eq_true (by omega)
      have H := Lib.hid (show SmallP N L from ⟨h0, h1⟩)
      clear h0 h1 hL
      go_enter Tryd.func5, Tryd.ntmps5
      go_wp2
      go_ret
      exact Tells.yes H.out ((Ext.refl w).alloc _)
    · have e1 : decide ((L : Int) ≤ 20) = false := decide_eq_false (by omega)
      have H := Lib.hid (show ¬ SmallP N L from fun h => h1 h.2)
      clear h0 h1 hL
      go_enter Tryd.func5, Tryd.ntmps5
      go_wp2
      go_ret
      exact Tells.no H.out ((Ext.refl w).alloc _)
  · have e0 : decide (N ≤ 64) = false := decide_eq_false h0
    have H := Lib.hid (show ¬ SmallP N L from fun h => h0 h.1)
    clear h0 hL
    go_enter Tryd.func5, Tryd.ntmps5
    go_wp2
    go_ret
    exact Tells.no H.out ((Ext.refl w).alloc _)
theorem mod_up {h : Nat} {z : Int} (hh : 0 < h) : -(h : Int) < z.tmod (h : Int) ∧ z.tmod (h : Int) < (h : Int) ∧ (z.tmod (h : Int) + (h : Int)).tmod (h : Int) = z % (h : Int) := by
  have h1 := Int.mul_tdiv_add_tmod z (h : Int)
  have h2 : (z.tmod (h : Int)).natAbs = z.natAbs % h := Int.natAbs_tmod z (h : Int)
  have h4 := Nat.mod_lt z.natAbs hh
  generalize z.tmod (h : Int) = rr at *
  refine ⟨by omega, by omega, ?_⟩
  rw [Int.tmod_eq_emod_of_nonneg (by omega), Int.add_emod_right]
  rw [← h1, Int.add_comm, Int.add_mul_emod_self_left]
end Go.Proofs.YtoimbommiheccaaDoor

/-
  Rows of numbers made by append; the document's Centered; the law BatchBack walked.
-/
namespace Go.Proofs.YtoimbommiheccaaDoor
open Go.RowKit
set_option linter.unusedVariables false
set_option maxRecDepth 100000

/-- The values of numbers. -/
def i64R (k : Nat) (Z : Nat → Int) : List Value := (List.range k).map fun i => Value.int .i64 (Z i)
theorem i64R_snoc (k : Nat) (Z : Nat → Int) : i64R k Z ++ [Value.int .i64 (Z k)] = i64R (k + 1) Z := by
  unfold i64R; rw [List.range_succ, List.map_append]; rfl
/-- A row of numbers that is being made, from block B on. -/
def IR (B : Nat) (w0 w : World) (v : Value) (k : Nat) (Z : Nat → Int) : Prop := w.ownsRow B 3 1 v k (i64R k Z) ∧ Below B w0 w
theorem IR.nil (w : World) (Z : Nat → Int) : IR w.heap.size w w (.slice none 0 0) 0 Z := ⟨World.ownsRow_nil _ _ _ _, Below.refl _ _⟩
theorem IR.push {B : Nat} {w0 w w1 : World} {v v' : Value} {k : Nat} {z : Int} {Z : Nat → Int} {o : Obj} (h : IR B w0 w v k Z) (hB : B ≤ w.heap.size) (hz : z = Z k)
    (h1 : w1.ownsRow B 3 1 v' (k + 1) (i64R k Z ++ [Value.int .i64 z])) (hg : (w.alloc o).grownBy w1 v.ownBlock) : IR B w0 w1 v' (k + 1) Z := by
  rw [hz, i64R_snoc] at h1
  exact ⟨h1, (h.2.alloc hB o).grown hg (by simp; omega) (fun k e => (h.1.lt k e).1)⟩
theorem IR.ext {B : Nat} {w0 w w' : World} {v : Value} {k : Nat} {Z : Nat → Int} (h : IR B w0 w v k Z) (hb : Ext w w') (hB : B ≤ w.heap.size) : IR B w0 w' v k Z := by
  refine ⟨⟨h.1.1, ?_⟩, Below.trans h.2 (Below.mono hb hB)⟩
  rcases h.1.2 with h0 | ⟨g, cap, cur, e, hg, hh, h1⟩
  · exact .inl h0
  · exact .inr ⟨g, cap, cur, e, hg, (hb.block g (Array.getElem?_eq_some_iff.1 hh).1).trans hh, h1⟩
theorem IR.alloc {B : Nat} {w0 w : World} {v : Value} {k : Nat} {Z : Nat → Int} (h : IR B w0 w v k Z) (o : Obj) : (w.alloc o).ownsRow B 3 1 v k (i64R k Z) := h.1.alloc o
theorem IR.vx {B : Nat} {w0 w : World} {v : Value} {k : Nat} {Z : Nat → Int} (h : IR B w0 w v k Z) : ∃ A c, v = .slice A k c ∧ VX w A k c Z := by
  rcases h.1.2 with ⟨rfl, rfl⟩ | ⟨g, cap, cur, rfl, hg, hh, hle, _⟩
  · exact ⟨none, 0, rfl, Nat.le_refl _, fun h => absurd h (by omega)⟩
  · exact ⟨_, cap, rfl, hle, fun _ => ⟨⟨g, 0, none⟩, rfl, fun j hj => h.1.cells (g := g) rfl j _ (by simp [i64R, hj])⟩⟩
theorem rcenterB (x q : Nat) (y : Int) (w : World) (hy : Hid (y = cenT x q)) (hx : x < 18446744073709551616) (hq : q < 18446744073709551616) :
    Calls Tryd.prog 15 #[.int .u64 (x : Int), .int .u64 (q : Int)] w fun e w' => e = .returned (.int .i64 y) ∧ Ext w w' :=
  (rcenter_any (x : Int) (q : Int) w (by omega) (by omega) (by omega) (by omega)).mono fun e w' ⟨he, hw⟩ => ⟨by rw [hy.out]; exact he, by rw [hw]; exact Ext.refl _⟩
theorem rliftY (v : Int) (q y : Nat) (w : World) (hy : Hid (y = lif v q)) (hq0 : 0 < q) (v0 : -9223372036854775808 ≤ v) (v1 : v < 9223372036854775808) (hq : q < 18446744073709551616) :
    Calls Tryd.prog 14 #[.int .i64 v, .int .u64 (q : Int)] w fun e w' => e = .returned (.int .u64 (y : Int)) ∧ Ext w w' :=
  (rliftM v q w hq0 v0 v1 hq).mono fun e w' ⟨m, hm, _, he, hk⟩ => ⟨by rw [hy.out, ← hm.out]; exact he, hk⟩
/-- A slot's number modulo T. -/
def slotN (T m : Nat) (z : Nat → Int) (i : Nat) : Nat := if i < m then lif (z i) T else 0
set_option maxHeartbeats 4000000 in
theorem centered_any {n T : Nat} {Wd : Int} {A : Option Addr} {L c : Nat} {Av : Option Addr} {m cv : Nat} {z : Nat → Int} {w : World} (hn0 : 8 ≤ n) (hn1 : n ≤ 64) (hT0 : 2 ≤ T) (hT : T < 1073741824) (hV : VX w Av m cv z) (hm : m ≤ 1000) (hz : Hid (∀ i, i < m → -9223372036854775808 ≤ z i ∧ z i < 9223372036854775808)) :
    Calls Tryd.prog 13 #[.agg #[.int .i64 (n : Int), .int .u64 (T : Int), .slice A L c, .int .i64 Wd], .slice Av m cv] w fun ee w' => ∃ A2 c2, ee = .returned (.slice A2 (n / 2) c2) ∧ VX w' A2 (n / 2) c2 (fun i => cenT (slotN T m z i) T) ∧ Ext w w' := by
  have HV := Lib.hid hV
  clear hV
  obtain ⟨i0, hi, hz0, hz1, hz2⟩ := info_parts info_intB
  have kV : Ext w (w.alloc (.cells #[.int .i64 (n : Int), .int .u64 (T : Int), .slice A L c, .int .i64 Wd] 25)) := (Ext.refl w).alloc _
  obtain ⟨x0, x1, x2, x3⟩ := four_at w (.int .i64 (n : Int)) (.int .u64 (T : Int)) (.slice A L c) (.int .i64 Wd) 25
  go_enter Tryd.func13, Tryd.ntmps13
  go_wp2
  generalize w.alloc (.cells #[.int .i64 (n : Int), .int .u64 (T : Int), .slice A L c, .int .i64 Wd] 25) = V at *
  go_loopw [5, 6] (fun s i wr => ∃ k : Nat, k ≤ n / 2 ∧ i = .int .i64 (k : Int) ∧ IR V.heap.size V wr s k (fun i => cenT (slotN T m z i) T)) (fun _ i _ => n / 2 - (intOf i).toNat)
  case atStart => exact ⟨0, by omega, rfl, IR.nil _ _⟩
  case round =>
    obtain ⟨k, hk, rfl, hlr⟩ := hrel
    have kz : Ext V wr := hlr.2
    have hzs := hlr.2.size
    have y0 := cell_ext kz x0
    have y1 := cell_ext kz x1
    by_cases hlt : k < n / 2
    · have e1 : decide ((k : Int) < (n : Int) / 2) = true := decide_eq_true (by omega)
      have HLR := Lib.hid hlr
      clear hlr
      by_cases hlm : k < m
      · obtain ⟨ad, rfl, hc⟩ := (HV.out.ext (kV.trans kz)).cells (by omega)
        have hcell := hc k hlm
        obtain ⟨v0, v1⟩ := hz.out k hlm
        clear hc
        obtain ⟨y, hy⟩ : ∃ y, y = lif (z k) T := ⟨_, rfl⟩
        have hyl : y < T := by rw [hy]; exact lif_lt (by omega)
        have HY := Lib.hid hy
        obtain ⟨u, hu⟩ : ∃ u, u = cenT y T := ⟨_, rfl⟩
        have HU := Lib.hid hu
        have HC := Lib.hid (show u = cenT (slotN T m z k) T by rw [hu, hy, slotN, if_pos hlm])
        clear hy hu
        generalize z k = zk at *
        have e2 : decide ((k : Int) < (m : Int)) = true := decide_eq_true (by omega)
        have i0' : (0 : Int) ≤ (k : Int) := by omega
        have i1' : (k : Int) < (m : Int) := by omega
        have kk : Ext wr wr := Ext.refl wr
        go_wp2_with fail
        go_region_held3 (fun w' => w'.cell? ⟨w.heap.size, 1, none⟩ = some (.int .u64 (T : Int)) ∧ w'.cell? (ad.add k) = some (.int .i64 zk)) (go_keep)
          (first
            | (go_at_call 14; refine (rliftY zk T y _ HY (by omega) v0 v1 (by omega)).mono ?_; rintro e5 w5 ⟨rfl, k5⟩; replace kk : Ext wr w5 := (by first | exact Ext.trans kk k5 | exact Ext.trans (Ext.drew kk) k5); have d1 := cell_ext kk y1; have d2 := cell_ext kk hcell)
            | fail)
        all_goals
          have hs5 := kk.size
          go_wp2_with fail
          refine (rcenterB y T u w5 HU (by omega) (by omega)).mono ?_
          rintro e6 w6 ⟨rfl, k6⟩
          have hs6 := k6.size
          have hlr2 := (HLR.out.ext kk (by omega)).ext k6 (by omega)
          go_wp2_with (at_builtin; go_loud (refine wpList_append_own _ rfl _ _ 26 rfl V.heap.size 3 i0 (.int .i64 0) 1 8 Tryd.underlying26 hi hz0 hz1 hz2 rfl (by decide) _ _ _ rfl (hlr2.alloc _) ⟨_, 0, none⟩ 1 1 [.int .i64 u] rfl rfl one_cell one_int (by unfold maxLen; omega) (by omega) (by simp; omega) ?_; intro v3 w3 hown3 hgrow3 _))
          exact ⟨⟨k + 1, by omega, by go_num, hlr2.push (by omega) HC.out hown3 hgrow3⟩, by simp [intOf]; omega⟩
      · have e2 : decide ((k : Int) < (m : Int)) = false := decide_eq_false (by omega)
        obtain ⟨u, hu⟩ : ∃ u, u = cenT 0 T := ⟨_, rfl⟩
        have HU := Lib.hid hu
        have HC := Lib.hid (show u = cenT (slotN T m z k) T by rw [hu, slotN, if_neg hlm])
        clear hu
        go_wp2_with fail
        refine (rcenterB 0 T u wr HU (by omega) (by omega)).mono ?_
        rintro e6 w6 ⟨rfl, k6⟩
        have hs6 := k6.size
        have hlr2 := HLR.out.ext k6 (by omega)
        go_wp2_with (at_builtin; go_loud (refine wpList_append_own _ rfl _ _ 26 rfl V.heap.size 3 i0 (.int .i64 0) 1 8 Tryd.underlying26 hi hz0 hz1 hz2 rfl (by decide) _ _ _ rfl (hlr2.alloc _) ⟨_, 0, none⟩ 1 1 [.int .i64 u] rfl rfl one_cell one_int (by unfold maxLen; omega) (by omega) (by simp; omega) ?_; intro v3 w3 hown3 hgrow3 _))
        exact ⟨⟨k + 1, by omega, by go_num, hlr2.push (by omega) HC.out hown3 hgrow3⟩, by simp [intOf]; omega⟩
    · have e1 : decide ((k : Int) < (n : Int) / 2) = false := decide_eq_false (by omega)
      have hkn : k = n / 2 := by omega
      obtain ⟨A3, c3, rfl, htx⟩ := hlr.vx
      have HTX := Lib.hid (show VX wr A3 (n / 2) c3 _ by rw [← hkn]; exact htx)
      have HKN := Lib.hid hkn
      clear htx hlr hkn
      go_wp2
      go_ret
      exact ⟨A3, c3, by rw [HKN.out]; rfl, HTX.out, kV.trans kz⟩
/-- The same numbers. -/
def SameI (n n' : Nat) (f f' : Nat → Int) : Prop := n = n' ∧ ∀ i, i < n → f i = f' i
/-- What is packed and unpacked: the values in the slots. -/
theorem back_slots {w : World} {p n T k r v m : Nat} {z : Nat → Int} {F G : Nat → Nat} (h : Bt w p n T k r v) (hn : Sml n) (hT : 2 ≤ T) (hF : ∀ i, i < n → F i < T ∧ M (T : Int) ((n : Int) * (F i : Int)) (back (v : Int) n (fun j => (laidF n T z m j : Int)) i)) (hG : ∀ i, i < n → G i < T ∧ M (T : Int) (G i : Int) (vals (r : Int) n (fun j => (F j : Int)) i)) :
    ∀ j, j < n → G j = laidF n T z m j := fun j hj => by
  obtain ⟨u, hu⟩ := h.unit
  obtain ⟨h1, h2⟩ := hG j hj
  have h3 : M (T : Int) ((n : Int) * (G j : Int)) ((n : Int) * (laidF n T z m j : Int)) := by
    have h4 : M (T : Int) ((n : Int) * (G j : Int)) (vals (r : Int) n (fun i => (n : Int) * (F i : Int)) j) := by
      rw [vals_scale]; exact M.rfl.mul h2
    refine h4.trans ((vals_M (fun i hi => (hF i hi).2) j).trans ?_)
    exact h.root.valsBack _ hj
  exact M.lt (unit_n hu h3) h1 (laid_lt (by omega))
theorem laid_at {n T m : Nat} {z : Nat → Int} {i : Nat} (hn : Sml n) (hi : i < n / 2) : laidF n T z m (atB n i) = slotN T m z i := by
  unfold laidF slotN
  rw [sl_at hn hi]
end Go.Proofs.YtoimbommiheccaaDoor

/-
  What sums, products and turns of packed polynomials have in their slots.
-/
namespace Go.Proofs.YtoimbommiheccaaDoor
open Go.RowKit
set_option linter.unusedVariables false
set_option maxRecDepth 100000

/-- A packed polynomial. -/
def Pkd (n T v m : Nat) (z : Nat → Int) (F : Nat → Nat) : Prop := ∀ i, i < n → F i < T ∧ M (T : Int) ((n : Int) * (F i : Int)) (back (v : Int) n (fun j => (laidF n T z m j : Int)) i)
theorem pkd_vals {w : World} {p n T k r v m : Nat} {z : Nat → Int} {F : Nat → Nat} (h : Bt w p n T k r v) (hF : Pkd n T v m z F) {j : Nat} (hj : j < n) : M (T : Int) (vals (r : Int) n (fun i => (F i : Int)) j) (laidF n T z m j : Int) := by
  obtain ⟨u, hu⟩ := h.unit
  refine unit_n hu ?_
  have h4 : M (T : Int) ((n : Int) * vals (r : Int) n (fun i => (F i : Int)) j) (vals (r : Int) n (fun i => (n : Int) * (F i : Int)) j) := by
    rw [vals_scale]; exact M.rfl
  exact h4.trans ((vals_M (fun i hi => (hF i hi).2) j).trans (h.root.valsBack _ hj))
/-- What is unpacked of a polynomial P. -/
def Unp (n T r : Nat) (P G : Nat → Nat) : Prop := ∀ i, i < n → G i < T ∧ M (T : Int) (G i : Int) (vals (r : Int) n (fun j => (P j : Int)) i)
theorem vals_plus (r : Int) (n : Nat) (a b : Nat → Int) (j : Nat) : vals r n (fun i => a i + b i) j = vals r n a j + vals r n b j := by
  unfold vals
  rw [S_add]
  exact S_congr fun i _ => Int.add_mul _ _ _
theorem slot_sum {w : World} {p n T k r v m m' : Nat} {z z' : Nat → Int} {F F' P G : Nat → Nat} (h : Bt w p n T k r v) (hn : Sml n) (hT : 2 ≤ T) (hF : Pkd n T v m z F) (hF' : Pkd n T v m' z' F') (hP : ∀ i, i < n → P i = (F i + F' i) % T) (hG : Unp n T r P G) {i : Nat} (hi : i < n / 2) :
    G (atB n i) = (slotN T m z i + slotN T m' z' i) % T := by
  have hl := sml_le hn
  have ha := at_lt (n := n) (by omega) i
  obtain ⟨g1, g2⟩ := hG _ ha
  refine M.lt (q := T) (g2.trans ?_) g1 (Nat.mod_lt _ (by omega))
  have e1 : M (T : Int) (vals (r : Int) n (fun j => (P j : Int)) (atB n i)) (vals (r : Int) n (fun j => (F j : Int) + (F' j : Int)) (atB n i)) := vals_M (fun j hj => by
    rw [hP j hj, ← Int.natCast_add]; exact M.nat _) _
  refine e1.trans ?_
  rw [vals_plus]
  refine ((pkd_vals h hF ha).add (pkd_vals h hF' ha)).trans ?_
  rw [laid_at hn hi, laid_at hn hi, ← Int.natCast_add]
  exact (M.nat _).symm
theorem slot_mul {w : World} {p n T k r v m m' : Nat} {z z' : Nat → Int} {F F' P G : Nat → Nat} (h : Bt w p n T k r v) (hn : Sml n) (hT : 2 ≤ T) (hF : Pkd n T v m z F) (hF' : Pkd n T v m' z' F') (hP : ∀ i, i < n → P i < T ∧ M (T : Int) (P i : Int) (nega n (fun j => (F j : Int)) (fun j => (F' j : Int)) i)) (hG : Unp n T r P G) {i : Nat} (hi : i < n / 2) :
    G (atB n i) = slotN T m z i * slotN T m' z' i % T := by
  have hl := sml_le hn
  have ha := at_lt (n := n) (by omega) i
  obtain ⟨g1, g2⟩ := hG _ ha
  refine M.lt (q := T) (g2.trans ?_) g1 (Nat.mod_lt _ (by omega))
  refine (vals_M (fun j hj => (hP j hj).2) _).trans ((h.root.valsNega _ _ _).trans ?_)
  refine ((pkd_vals h hF ha).mul (pkd_vals h hF' ha)).trans ?_
  rw [laid_at hn hi, laid_at hn hi, ← Int.natCast_mul]
  exact (M.nat _).symm
/-- Where a turn by K puts coefficient i. -/
def plT (n K i : Nat) : Nat := if i * K % (2 * n) < n then i * K % (2 * n) else i * K % (2 * n) - n
theorem plT_lt {n K i : Nat} (hn : 0 < n) : plT n K i < n := by
  have := Nat.mod_lt (i * K) (show 0 < 2 * n by omega)
  unfold plT; split <;> omega
theorem plT_mod {n K i : Nat} (hn : 0 < n) : plT n K i = i * K % n := by
  have h1 : i * K % (2 * n) % n = i * K % n := Nat.mod_mul_left_mod _ _ _
  have h2 := Nat.mod_lt (i * K) (show 0 < 2 * n by omega)
  unfold plT
  split
  · rename_i h; rw [← h1, Nat.mod_eq_of_lt h]
  · rename_i h
    rw [← h1]
    generalize i * K % (2 * n) = y at *
    rw [show y = (y - n) + n by omega, Nat.add_mod_right, Nat.mod_eq_of_lt (by omega)]
    omega
theorem plT_inj {n K K' i i' : Nat} (hn : 0 < n) (hK : K * K' % n = 1 % n) (hi : i < n) (hi' : i' < n) (h : plT n K i = plT n K i') : i = i' := by
  rw [plT_mod hn, plT_mod hn] at h
  have h1 : ∀ y, y < n → y * K % n * K' % n = y := fun y hy => by
    rw [Nat.mod_mul_mod, Nat.mul_assoc, Nat.mul_mod, hK, ← Nat.mul_mod, Nat.mul_one, Nat.mod_eq_of_lt hy]
  rw [← h1 i hi, ← h1 i' hi', h]
theorem turn_none {q n K : Nat} {f : Nat → Nat} : ∀ m p, (∀ i, i < m → plT n K i ≠ p) → turnUp q n K f m p = 0
  | 0, p, _ => rfl
  | m + 1, p, h => by
    have ih := turn_none (q := q) (f := f) m p (fun i hi => h i (by omega))
    have h0 := h m (by omega)
    unfold plT at h0
    rw [turnUp]
    split
    · rename_i hc
      rw [if_pos hc] at h0
      rw [if_neg (fun e => h0 e.symm), ih]
    · rename_i hc
      rw [if_neg hc] at h0
      rw [if_neg (fun e => h0 e.symm), ih]
theorem turn_vals {q n K K' : Nat} {x : Int} {f : Nat → Nat} (hn : 0 < n) (hK : K * K' % n = 1 % n) (hx : M (q : Int) (x ^ n) (-1)) (hf : ∀ i, i < n → f i < q) :
    ∀ m, m ≤ n → M (q : Int) (S n (fun j => (turnUp q n K f m j : Int) * x ^ j)) (S m (fun i => (f i : Int) * x ^ (i * K)))
  | 0, _ => by
    rw [S_congr (g := fun _ => 0) (fun j _ => by show ((0 : Nat) : Int) * x ^ j = 0; simp), S_zero]; exact M.rfl
  | m + 1, hm => by
    have ih := turn_vals hn hK hx hf m (by omega)
    have hz : turnUp q n K f m (plT n K m) = 0 := turn_none m _ (fun i hi e => by
      have := plT_inj hn hK (by omega) (by omega) e; omega)
    have hl := plT_lt (n := n) (K := K) (i := m) hn
    have h2 := Nat.mod_lt (m * K) (show 0 < 2 * n by omega)
    rw [S]
    obtain ⟨y, hy, hyv⟩ : ∃ y : Nat, (∀ j, turnUp q n K f (m + 1) j = if j = plT n K m then y else turnUp q n K f m j) ∧ M (q : Int) ((y : Int) * x ^ plT n K m) ((f m : Int) * x ^ (m * K)) := by
      by_cases hc : m * K % (2 * n) < n
      · refine ⟨f m, fun j => ?_, ?_⟩
        · rw [turnUp, if_pos hc]; unfold plT; rw [if_pos hc]
        · unfold plT; rw [if_pos hc]
          exact M.rfl.mul (pow_modn hx _).symm
      · refine ⟨dif 0 (f m) q, fun j => ?_, ?_⟩
        · rw [turnUp, if_neg hc]; unfold plT; rw [if_neg hc]
        · unfold plT; rw [if_neg hc]
          have hd := M.dif (q := q) (a := 0) (b := f m) (hf m (by omega))
          refine (hd.mul M.rfl).trans ?_
          have e1 : x ^ (m * K % (2 * n)) = x ^ (m * K % (2 * n) - n) * x ^ n := by rw [← Int.pow_add]; congr 1; omega
          have e2 : M (q : Int) (x ^ (m * K)) (-(x ^ (m * K % (2 * n) - n))) := by
            refine (pow_modn hx _).trans ?_
            rw [e1]
            have := (M.rfl (q := (q : Int)) (a := x ^ (m * K % (2 * n) - n))).mul hx
            rwa [Int.mul_neg, Int.mul_one] at this
          have e3 := ((M.rfl (q := (q : Int)) (a := (f m : Int))).mul e2).symm
          rw [Int.mul_neg] at e3
          rw [show ((0 : Nat) : Int) - (f m : Int) = -(f m : Int) by omega, Int.neg_mul]
          exact e3
    have e4 : S n (fun j => (turnUp q n K f (m + 1) j : Int) * x ^ j) = S n (fun j => (if j = plT n K m then (y : Int) else (turnUp q n K f m j : Int)) * x ^ j) := S_congr fun j _ => by
      rw [hy]; split <;> rfl
    rw [e4, S_put hl _ _ _ (by rw [hz]; rfl)]
    exact ih.add hyv
theorem pw3_inv {n : Nat} (hn : Sml n) {s : Nat} (hs : s < n / 2) : pw3 n s * pw3 n (n / 2 - s) % n = 1 % n := by
  have h1 : pw3 n s * pw3 n (n / 2 - s) % (2 * n) = 1 := by
    rw [← pw3_add, show s + (n / 2 - s) = n / 2 by omega, pw3_half hn]
  have h2 : pw3 n s * pw3 n (n / 2 - s) % (2 * n) % n = pw3 n s * pw3 n (n / 2 - s) % n := Nat.mod_mul_left_mod _ _ _
  rw [← h2, h1]
theorem slot_turn {w : World} {p n T k r v m s : Nat} {z : Nat → Int} {F P G : Nat → Nat} (h : Bt w p n T k r v) (hn : Sml n) (hT : 2 ≤ T) (hF : Pkd n T v m z F) (hs : s < n / 2) (hP : ∀ i, i < n → P i = turnUp T n (pw3 n s) F n i) (hG : Unp n T r P G) {i : Nat} (hi : i < n / 2) :
    G (atB n i) = slotN T m z ((i + s) % (n / 2)) := by
  have hl := sml_le hn
  have hh : 0 < n / 2 := by omega
  have ha := at_lt (n := n) (by omega) i
  have hb := at_lt (n := n) (by omega) ((i + s) % (n / 2))
  obtain ⟨g1, g2⟩ := hG _ ha
  have hsl : slotN T m z ((i + s) % (n / 2)) = laidF n T z m (atB n ((i + s) % (n / 2))) := (laid_at hn (Nat.mod_lt _ hh)).symm
  rw [hsl]
  refine M.lt (q := T) (g2.trans ?_) g1 (laid_lt (by omega))
  refine M.trans ?_ (pkd_vals h hF hb)
  have hr : M (T : Int) ((r : Int) ^ n) (-1) := by have := h.root.hr; rwa [← h.root.nk] at this
  have hx : M (T : Int) (((r : Int) ^ (2 * atB n i + 1)) ^ n) (-1) := by
    rw [← Int.pow_mul, Nat.mul_comm, Int.pow_mul]
    exact (hr.pow _).trans (M.of (odd_minus (by omega)))
  have e1 := turn_vals (q := T) (K := pw3 n s) (f := F) (by omega) (pw3_inv hn hs) hx (fun j hj => (hF j hj).1) n (Nat.le_refl _)
  have e2 : vals (r : Int) n (fun j => (P j : Int)) (atB n i) = S n (fun j => (turnUp T n (pw3 n s) F n j : Int) * ((r : Int) ^ (2 * atB n i + 1)) ^ j) := by
    unfold vals
    exact S_congr fun j hj => by
      show (P j : Int) * _ = _
      rw [hP j hj, Int.pow_mul]
  rw [e2]
  refine e1.trans ?_
  unfold vals
  refine S_M fun j hj => M.rfl.mul ?_
  have e3 : ((r : Int) ^ (2 * atB n i + 1)) ^ (j * pw3 n s) = ((r : Int) ^ ((2 * atB n i + 1) * pw3 n s)) ^ j := by
    rw [← Int.pow_mul, ← Int.pow_mul]; congr 1; rw [Nat.mul_comm j, Nat.mul_assoc]
  rw [e3, show (r : Int) ^ ((2 * atB n ((i + s) % (n / 2)) + 1) * j) = ((r : Int) ^ (2 * atB n ((i + s) % (n / 2)) + 1)) ^ j from Int.pow_mul]
  refine M.pow ?_ j
  refine (pow_modn hr _).trans (M.of ?_)
  rw [← pw3_at, ← pw3_at, ← pw3_add, pw3_mod hn]
end Go.Proofs.YtoimbommiheccaaDoor

/-
  The law BatchGoes walked: sums, products and turns of packed rows go slot by slot.
-/
namespace Go.Proofs.YtoimbommiheccaaDoor
open Go.RowKit
set_option linter.unusedVariables false
set_option maxRecDepth 100000

theorem px_one {w : World} {A : Option Addr} {n c : Nat} {f : Nat → Nat} {G : Option Addr} {W : World} (hX : FX W A n c f) (ad : Addr) (hG : G = some ad) (hc : W.cell? (ad.add 0) = some (.slice A n c)) : PX W G 1 1 (fun _ => A) (fun _ => n) (fun _ => c) (fun _ => f) :=
  ⟨Nat.le_refl _, fun _ => ⟨ad, hG, fun j hj => by
    obtain rfl : j = 0 := by omega
    exact hc⟩, fun j hj => hX⟩
theorem px_new {w : World} {A : Option Addr} {n c : Nat} {f : Nat → Nat} (h : FX w A n c f) : PX (w.alloc (.cells #[.slice A n c] 23)) (some ⟨w.heap.size, 0, none⟩) 1 1 (fun _ => A) (fun _ => n) (fun _ => c) (fun _ => f) :=
  px_one (w := w) (h.ext ((Ext.refl w).alloc _)) ⟨w.heap.size, 0, none⟩ rfl (one_at w _ _)
theorem fx_new (w : World) (T : Nat) : FX (w.alloc (.cells #[.int .u64 (T : Int)] 22)) (some ⟨w.heap.size, 0, none⟩) 1 1 (fun _ => T) :=
  UW.fx (show UW (w.alloc (.cells #[.int .u64 (T : Int)] 22)) w.heap.size 1 (fun _ => T) from heap_alloc_new _ _)
theorem cen_lif {x T : Nat} (hT0 : 2 ≤ T) (hT : T < 1073741824) (hx : x < T) : lif (cenT x T) T = x ∧ -9223372036854775808 ≤ cenT x T ∧ cenT x T < 9223372036854775808 := by
  unfold cenT
  rw [cenS_near _ _ (by omega) (by omega), Int.emod_eq_of_lt (by omega) (by omega)]
  unfold lif
  split
  · refine ⟨?_, by omega, by omega⟩
    rw [show (x : Int) - (T : Int) = (x : Int) + (T : Int) * (-1) by omega, Int.add_mul_emod_self_left, Int.emod_eq_of_lt (by omega) (by omega)]; omega
  · refine ⟨?_, by omega, by omega⟩
    rw [Int.emod_eq_of_lt (by omega) (by omega)]; omega
theorem slotN_lt {T m : Nat} {z : Nat → Int} {i : Nat} (hT : 0 < T) : slotN T m z i < T := by
  unfold slotN; split
  · exact lif_lt hT
  · exact hT
theorem turnUp_lt {q n K : Nat} {f : Nat → Nat} (hq : 0 < q) (hf : ∀ i, i < n → f i < q) : ∀ {m : Nat} (j : Nat), m ≤ n → turnUp q n K f m j < q
  | 0, j, _ => hq
  | m + 1, j, hm => by
    have ih := turnUp_lt (K := K) hq hf (m := m) j (by omega)
    have h1 := hf m (by omega)
    have h2 : dif 0 (f m) q < q := Nat.mod_lt _ hq
    rw [turnUp]
    split <;> split <;> assumption
theorem PX.one {w : World} {A : Option Addr} {c : Nat} {As : Nat → Option Addr} {ns cs : Nat → Nat} {f : Nat → Nat → Nat} (h : PX w A 1 c As ns cs f) : ∃ ad, A = some ad ∧ w.cell? ad = some (.slice (As 0) (ns 0) (cs 0)) ∧ FX w (As 0) (ns 0) (cs 0) (f 0) := by
  obtain ⟨ad, e, hc⟩ := h.cells (by omega)
  refine ⟨ad, e, ?_, h.rows 0 (by omega)⟩
  have := hc 0 (by omega)
  simpa [Addr.add] using this
set_option maxHeartbeats 8000000 in
theorem batchGoes_walk {N : Int} {T : Nat} {Wd : Int} {A : Option Addr} {L c : Nat} {f : Nat → Nat} {Av : Option Addr} {m cv : Nat} {z : Nat → Int} {Av' : Option Addr} {m' cv' : Nat} {z' : Nat → Int} {st : Int} (w : World) (hP : Hid (PA w N T A L c Wd f)) (hV : VX w Av m cv z) (hm : m ≤ maxLen) (hz : Hid (∀ i, i < m → -9223372036854775808 ≤ z i ∧ z i < 9223372036854775808)) (hV' : VX w Av' m' cv' z') (hm' : m' ≤ maxLen) (hz' : Hid (∀ i, i < m' → -9223372036854775808 ≤ z' i ∧ z' i < 9223372036854775808)) (st0 : -9223372036854775808 ≤ st) (st1 : st < 9223372036854775808) (hT : Tabs w) :
    Calls Tryd.prog 3 #[.agg #[.int .i64 N, .int .u64 (T : Int), .slice A L c, .int .i64 Wd], .slice Av m cv, .slice Av' m' cv', .int .i64 st] w fun e w' => e = .returned (.bool true) ∧ Ext w w' := by
  have HT := Lib.hid hT
  have HV := Lib.hid hV
  have HV' := Lib.hid hV'
  clear hT hV hV'
  have kV : Ext w (w.alloc (.cells #[.int .i64 N, .int .u64 (T : Int), .slice A L c, .int .i64 Wd] 25)) := (Ext.refl w).alloc _
  obtain ⟨x0, x1, x2, x3⟩ := four_at w (.int .i64 N) (.int .u64 (T : Int)) (.slice A L c) (.int .i64 Wd) 25
  have hL := hP.out.len
  have hml : m ≤ 9223372036854775807 := hm
  have hml' : m' ≤ 9223372036854775807 := hm'
  clear hm hm'
  go_enter Tryd.func3, Tryd.ntmps3
  go_wp2_with fail
  generalize w.alloc (.cells #[.int .i64 N, .int .u64 (T : Int), .slice A L c, .int .i64 Wd] 25) = V0 at *
  refine (fixed9_any V0 (HT.out.ext kV)).mono ?_
  rintro e V ⟨rfl, k1⟩
  replace x0 := cell_ext k1 x0
  replace x1 := cell_ext k1 x1
  replace x2 := cell_ext k1 x2
  replace x3 := cell_ext k1 x3
  replace kV := kV.trans k1
  clear k1
  go_wp2_with fail
  refine (small_any N (T : Int) Wd A L c V hL).mono ?_
  rintro e w1 (⟨hy, rfl, k1⟩ | ⟨hy, rfl, k1⟩)
  case inr =>
    clear hy
    go_wp2
    go_ret
    exact ⟨rfl, kV.trans k1⟩
  have hN64 := hy.1
  have hL20 := hy.2
  have hN0 := hP.out.n0
  clear hy hL
  replace x0 := cell_ext k1 x0
  replace x1 := cell_ext k1 x1
  replace x2 := cell_ext k1 x2
  replace x3 := cell_ext k1 x3
  replace kV := kV.trans k1
  clear k1
  have hw : IntKind.i64.wrap (N.tdiv 2) = N.tdiv 2 := by
    rw [IntKind.wrap_i64]
    have := Int.mul_tdiv_add_tmod N 2
    have h2 : (N.tmod 2).natAbs = N.natAbs % 2 := Int.natAbs_tmod N 2
    omega
  by_cases hmn : N.tdiv 2 < (m : Int)
  · have e1 : decide (N.tdiv 2 < (m : Int)) = true := decide_eq_true hmn
    go_wp2
    go_ret
    exact ⟨rfl, kV⟩
  have e1 : decide (N.tdiv 2 < (m : Int)) = false := decide_eq_false hmn
  by_cases hmn' : N.tdiv 2 < (m' : Int)
  · have e2 : decide (N.tdiv 2 < (m' : Int)) = true := decide_eq_true hmn'
    go_wp2
    go_ret
    exact ⟨rfl, kV⟩
  have e2 : decide (N.tdiv 2 < (m' : Int)) = false := decide_eq_false hmn'
  go_wp2_with fail
  refine (bnew_any (hP.out.ext kV) (by omega) hN64 (HT.out.ext kV)).mono ?_
  rintro e w2 (⟨hy, rfl, k2⟩ | ⟨hy, p, k, r, v, x, _, _, rfl, hb, k2⟩)
  · clear hy
    go_wp2
    go_ret
    exact ⟨rfl, kV.trans k2⟩
  obtain ⟨n, rfl, hn0, hn1⟩ := size_nat (hy 0 (by omega))
  have hs : Sml n := sml_all n (by omega) hn0 (hy 0 (by omega)).2.2
  have ht2 : (n : Int).tdiv 2 = ((n / 2 : Nat) : Int) := by rw [Int.tdiv_eq_ediv_of_nonneg (by omega)]; omega
  have hmn2 : m ≤ n / 2 := by omega
  have hmn2' : m' ≤ n / 2 := by omega
  have hT2 := hy.T2
  have hT30 : T < 1073741824 := (hy 2 (by omega)).1
  have HB := Lib.hid (show Bt w2 p n T k r v from hb)
  have HS := Lib.hid hs
  have HMN := Lib.hid hmn2
  have HMN' := Lib.hid hmn2'
  clear hy hb hs hw hmn e1 hmn' e2 ht2 hmn2 hmn2'
  replace x0 := cell_ext k2 x0
  replace x1 := cell_ext k2 x1
  replace x2 := cell_ext k2 x2
  replace x3 := cell_ext k2 x3
  replace kV := kV.trans k2
  go_wp2_with fail
  refine (pack_any p n T k r v m cv Av z w2 HB.out HS.out (HV.out.ext kV) hz HMN.out hT2 hT30).mono ?_
  rintro e w3 ⟨g3, F, rfl, hu3, hF, k3⟩
  have HU := Lib.hid hu3
  have HF := Lib.hid (show Pkd n T v m z F from hF.out)
  have HFL := Lib.hid (show ∀ i, i < n → F i < T from fun i hi => (hF.out i hi).1)
  clear hu3 hF
  replace x0 := cell_ext k3 x0
  replace x1 := cell_ext k3 x1
  replace x2 := cell_ext k3 x2
  replace x3 := cell_ext k3 x3
  replace kV := kV.trans k3
  go_wp2_with fail
  refine (pack_any p n T k r v m' cv' Av' z' w3 (HB.out.ext k3) HS.out (HV'.out.ext kV) hz' HMN'.out hT2 hT30).mono ?_
  rintro e w4 ⟨g4, F', rfl, hu4, hF', k4⟩
  have HU' := Lib.hid hu4
  have HF' := Lib.hid (show Pkd n T v m' z' F' from hF'.out)
  have HFL' := Lib.hid (show ∀ i, i < n → F' i < T from fun i hi => (hF'.out i hi).1)
  clear hu4 hF'
  replace x0 := cell_ext k4 x0
  replace x1 := cell_ext k4 x1
  replace x2 := cell_ext k4 x2
  replace x3 := cell_ext k4 x3
  replace kV := kV.trans k4
  have k34 := k3.trans k4
  have hX0 := (UW.fx HU.out).ext k4
  have hY0 := UW.fx HU'.out
  have HX := Lib.hid hX0
  have HY := Lib.hid hY0
  clear hX0 hY0
  go_wp2_with fail
  have kO : Ext w4 (w4.alloc (.cells #[.int .u64 (T : Int)] 22)) := (Ext.refl w4).alloc _
  have HO := Lib.hid (fx_new w4 T)
  have hsO : (w4.alloc (.cells #[.int .u64 (T : Int)] 22)).heap.size = w4.heap.size + 1 := by simp
  obtain ⟨G, hG⟩ : ∃ G, G = w4.heap.size := ⟨_, rfl⟩
  rw [← hG] at HO hsO ⊢
  generalize w4.alloc (.cells #[.int .u64 (T : Int)] 22) = W at *
  rw [← hsO]
  have HX1 := Lib.hid (HX.out.ext kO)
  have HY1 := Lib.hid (HY.out.ext kO)
  have HB4 := Lib.hid (HB.out.ext (k34.trans kO))
  replace x0 := cell_ext kO x0
  replace x1 := cell_ext kO x1
  replace x2 := cell_ext kO x2
  replace x3 := cell_ext kO x3
  replace kV := kV.trans kO
  clear hG hsO kO k34 k3 k4 HU HU' HX HY
  have HQ := Lib.hid (show ∀ j, j < 1 → 0 < (fun _ => T : Nat → Nat) j ∧ (fun _ => T : Nat → Nat) j < 18446744073709551616 from fun j _ => ⟨by show 0 < T; omega, by show T < _; omega⟩)
  have ka : Ext W (W.alloc (.cells #[.slice (some ⟨g3, 0, none⟩) n n] 23)) := (Ext.refl W).alloc _
  have hp1 := px_new HX1.out
  have hp2 := px_new (HY1.out.ext ka)
  have hsa : (W.alloc (.cells #[.slice (some ⟨g3, 0, none⟩) n n] 23)).heap.size = W.heap.size + 1 := by simp
  rw [hsa] at hp2
  have kb : Ext W ((W.alloc (.cells #[.slice (some ⟨g3, 0, none⟩) n n] 23)).alloc (.cells #[.slice (some ⟨g4, 0, none⟩) n n] 23)) := ka.alloc _
  refine (refAdd_any (some ⟨G, 0, none⟩) 1 1 (fun _ => T) (some ⟨W.heap.size, 0, none⟩) 1 1 n (fun _ => some ⟨g3, 0, none⟩) (fun _ => n) (fun _ => F) (some ⟨W.heap.size + 1, 0, none⟩) 1 (fun _ => some ⟨g4, 0, none⟩) (fun _ => n) (fun _ => F') _ (HO.out.ext kb) (by omega) HQ (hp1.ext ((Ext.refl _).alloc _)) hp2 (by omega) (by omega) (by omega) (Lib.hid fun j _ i hi => HFL.out i hi) (Lib.hid fun j _ i hi => HFL'.out i hi)).mono ?_
  rintro e w5 ⟨A5, c5, As5, cs5, rfl, hp5, k5⟩
  replace kb := kb.trans k5
  have HP5 := Lib.hid hp5
  clear hp1 hp2 hsa ka hp5 k5
  have kc : Ext w5 (w5.alloc (.cells #[.slice A5 1 c5] 37)) := (Ext.refl w5).alloc _
  have y5 := one_at w5 (.slice A5 1 c5) 37
  go_wp2_with fail
  have hs5 : (w5.alloc (.cells #[.slice A5 1 c5] 37)).heap.size = w5.heap.size + 1 := by simp
  obtain ⟨b5, hb5⟩ : ∃ b, b = w5.heap.size := ⟨_, rfl⟩
  rw [← hb5] at y5 hs5 ⊢
  generalize w5.alloc (.cells #[.slice A5 1 c5] 37) = V5 at *
  rw [← hs5]
  clear hs5 hb5
  have kd : Ext V5 (V5.alloc (.cells #[.slice (some ⟨g3, 0, none⟩) n n] 23)) := (Ext.refl V5).alloc _
  have HP6 := Lib.hid (px_new (HX1.out.ext (kb.trans kc)))
  refine (power_any p n T k r v st _ (HB4.out.ext (kb.trans (kc.trans kd))) HS.out).mono ?_
  rintro e w6 ⟨rfl, k6⟩
  have hsn0 : stepM n st < n / 2 := by
    unfold stepM
    have h1 := Int.emod_nonneg st (show ((n / 2 : Nat) : Int) ≠ 0 by omega)
    have h2 := Int.emod_lt_of_pos st (show 0 < ((n / 2 : Nat) : Int) by omega)
    omega
  have HSt := Lib.hid (show stepM n st < n / 2 from hsn0)
  obtain ⟨s, hs⟩ : ∃ s, s = stepM n st := ⟨_, rfl⟩
  have HSs := Lib.hid hs
  have hpl : pw3 n (stepM n st) < 2 * n := Nat.mod_lt _ (by omega)
  have hkm : kM (pw3 n (stepM n st) : Int) n = pw3 n (stepM n st) := by
    have := (kM_eq (k := (pw3 n (stepM n st) : Int)) (n := n) (by omega)).1
    rw [Int.emod_eq_of_lt (by omega) (by omega)] at this
    omega
  rw [← hs] at hkm hpl ⊢
  have HKM := Lib.hid hkm
  clear hs hkm hsn0
  replace kd := kd.trans k6
  replace y5 := cell_ext kd y5
  go_wp2_with fail
  refine (refTurn_any (some ⟨G, 0, none⟩) 1 1 (fun _ => T) (some ⟨V5.heap.size, 0, none⟩) 1 1 n (fun _ => some ⟨g3, 0, none⟩) (fun _ => n) (fun _ => F) (pw3 n s : Int) _ (by omega) (by omega) (by omega) (HO.out.ext (kb.trans (kc.trans kd))) (by omega) HQ (HP6.out.ext k6) (by omega) (by omega) (by omega) (Lib.hid fun j _ i hi => HFL.out i hi)).mono ?_
  rintro e w7 ⟨A7, c7, As7, cs7, rfl, hp7, k7⟩
  have HP7 := Lib.hid hp7
  replace kd := kd.trans k7
  replace y5 := cell_ext k7 y5
  have ke : Ext w7 (w7.alloc (.cells #[.slice A7 1 c7] 37)) := (Ext.refl w7).alloc _
  have y7 := one_at w7 (.slice A7 1 c7) 37
  replace y5 := cell_ext ke y5
  obtain ⟨ad5, rfl, z5, hx5⟩ := (HP5.out.ext (kc.trans (kd.trans ke))).one
  have HX5 := Lib.hid hx5
  clear hp7 k6 k7 hx5
  go_wp2_with fail
  have HL5 := Lib.hid (show ∀ i, i < n → (F i + F' i) % T < T from fun i _ => Nat.mod_lt _ (by omega))
  generalize w7.alloc (.cells #[.slice A7 1 c7] 37) = V7 at *
  have kWV : Ext W V7 := kb.trans (kc.trans (kd.trans ke))
  replace x0 := cell_ext kWV x0
  replace x1 := cell_ext kWV x1
  replace x2 := cell_ext kWV x2
  replace x3 := cell_ext kWV x3
  replace kV := kV.trans kWV
  have HB7 := Lib.hid (HB4.out.ext kWV)
  have HX7 := Lib.hid (HX1.out.ext kWV)
  have HY7 := Lib.hid (HY1.out.ext kWV)
  obtain ⟨ad7, rfl, z7, hx7⟩ := (HP7.out.ext ke).one
  have HX8 := Lib.hid (show FX V7 (As7 0) n (cs7 0) (fun i => turnUp T n (pw3 n s) F n i) from by rw [HKM.out] at hx7; exact hx7)
  clear hx7 kWV kb kc kd ke HP5 HP6 HP7 y5 z5 HO HB4 HX1 HY1
  refine (unpack_any p n T k r v (cs5 0) (As5 0) (fun i => (F i + F' i) % T) _ HB7.out HS.out HX5.out HL5 hT2 hT30).mono ?_
  rintro e w8 ⟨g8, G8, rfl, hi8, hG8, k8⟩
  have HI8 := Lib.hid hi8
  have HU8 := Lib.hid (show Unp n T r (fun i => (F i + F' i) % T) G8 from hG8.out)
  clear hi8 hG8
  replace x0 := cell_ext k8 x0
  replace x1 := cell_ext k8 x1
  replace y7 := cell_ext k8 y7
  replace z7 := cell_ext k8 z7
  go_wp2_with fail
  refine (refMul_any (some ⟨g3, 0, none⟩) (some ⟨g4, 0, none⟩) n n n T F F' w8 (HX7.out.ext k8) (HY7.out.ext k8) (by omega) (by omega) (by omega) (by omega) HFL.out HFL'.out).mono ?_
  rintro e w9 ⟨g9, P9, rfl, hu9, hP9, k9⟩
  have HX9 := Lib.hid (UW.fx hu9)
  have HP9 := Lib.hid (show ∀ i, i < n → P9 i < T ∧ M (T : Int) (P9 i : Int) (nega n (fun j => (F j : Int)) (fun j => (F' j : Int)) i) from hP9.out)
  have HL9 := Lib.hid (show ∀ i, i < n → P9 i < T from fun i hi => (hP9.out i hi).1)
  clear hu9 hP9
  replace k8 := k8.trans k9
  go_wp2_with fail
  refine (unpack_any p n T k r v n (some ⟨g9, 0, none⟩) P9 _ (HB7.out.ext k8) HS.out HX9.out HL9 hT2 hT30).mono ?_
  rintro e w10 ⟨g10, G10, rfl, hi10, hG10, k10⟩
  have HI10 := Lib.hid hi10
  have HU10 := Lib.hid (show Unp n T r P9 G10 from hG10.out)
  clear hi10 hG10
  replace k9 := k9.trans k10
  replace k8 := k8.trans k10
  replace x0 := cell_ext k9 x0
  replace x1 := cell_ext k9 x1
  replace y7 := cell_ext k9 y7
  replace z7 := cell_ext k9 z7
  go_wp2_with fail
  have HL8 := Lib.hid (show ∀ i, i < n → turnUp T n (pw3 n s) F n i < T from fun i _ => turnUp_lt (by omega) HFL.out i (Nat.le_refl _))
  refine (unpack_any p n T k r v (cs7 0) (As7 0) (fun i => turnUp T n (pw3 n s) F n i) _ (HB7.out.ext k8) HS.out (HX8.out.ext k8) HL8 hT2 hT30).mono ?_
  rintro e w11 ⟨g11, G11, rfl, hi11, hG11, k11⟩
  have HI11 := Lib.hid hi11
  have HU11 := Lib.hid (show Unp n T r (fun i => turnUp T n (pw3 n s) F n i) G11 from hG11.out)
  clear hi11 hG11
  replace k8 := k8.trans k11
  replace x0 := cell_ext k11 x0
  replace x1 := cell_ext k11 x1
  replace x2 := cell_ext k8 x2
  replace x3 := cell_ext k8 x3
  have HI8' := Lib.hid (show IWB w11 g8 (n / 2) (fun i => cenT (G8 (atB n i)) T) from RW.ext HI8.out (k9.trans k11))
  have HI10' := Lib.hid (show IWB w11 g10 (n / 2) (fun i => cenT (G10 (atB n i)) T) from RW.ext HI10.out k11)
  replace kV := kV.trans k8
  clear y7 z7 HI8 HI10 HX5 HX7 HY7 HX8 HX9 HL5 HL8 HL9 k9 k10 k11 k8 HB7
  have hh : ((n / 2 : Nat) : Int) = (n : Int) / 2 := by omega
  have e9 : ((n : Int) / 2 != (n : Int) / 2) = false := by simp
  have e8 : (((n / 2 : Nat) : Int) != (n : Int) / 2) = false := by rw [hh]; simp
  have kk : Ext w11 w11 := Ext.refl w11
  go_wp2_with fail
  go_region_held3 (fun w' => w'.cell? ⟨w.heap.size, 0, none⟩ = some (.int .i64 (n : Int)) ∧ w'.cell? ⟨w.heap.size, 1, none⟩ = some (.int .u64 (T : Int)) ∧ w'.cell? ⟨w.heap.size, 2, none⟩ = some (.slice A L c) ∧ w'.cell? ⟨w.heap.size, 3, none⟩ = some (.int .i64 Wd)) (go_keep)
    (first
      | (go_at_call_of 13 Av; refine (centered_any (n := n) (T := T) (z := z) (by omega) (by omega) hT2 hT30 (HV.out.ext (kV.trans (by first | exact kk | exact Ext.drew kk))) (by have := HMN.out; omega) hz).mono ?_; rintro e12 w12 ⟨A12, c12, rfl, hv12, k12⟩; replace kk : Ext w11 w12 := (by first | exact Ext.trans kk k12 | exact Ext.trans (Ext.drew kk) k12); have ka12 := k12; have kb12 := kk; have d0 := cell_ext kk x0; have d1 := cell_ext kk x1; have d2 := cell_ext kk x2; have d3 := cell_ext kk x3)
      | (go_at_call_of 13 Av'; refine (centered_any (n := n) (T := T) (z := z') (by omega) (by omega) hT2 hT30 (HV'.out.ext (kV.trans (by first | exact kk | exact Ext.drew kk))) (by have := HMN'.out; omega) hz').mono ?_; rintro e13 w13 ⟨A13, c13, rfl, hv13, k13⟩; replace kk : Ext w11 w13 := (by first | exact Ext.trans kk k13 | exact Ext.trans (Ext.drew kk) k13); have kb13 := kk; have d0 := cell_ext kk x0; have d1 := cell_ext kk x1; have d2 := cell_ext kk x2; have d3 := cell_ext kk x3)
      | fail)
  all_goals
    have HC := Lib.hid (VX.ext hv12 (by first | exact k13 | exact kb13))
    have HD := Lib.hid hv13
    have kf := kV.trans kk
    have HI8 := Lib.hid (show IWB w13 g8 (n / 2) (fun i => cenT (G8 (atB n i)) T) from RW.ext HI8'.out kk)
    have HI10 := Lib.hid (show IWB w13 g10 (n / 2) (fun i => cenT (G10 (atB n i)) T) from RW.ext HI10'.out kk)
    have HI12 := Lib.hid (show IWB w13 g11 (n / 2) (fun i => cenT (G11 (atB n i)) T) from RW.ext HI11.out kk)
    have HBw := HB.out
    have HSL := Lib.hid (show ∀ i, i < n / 2 → G8 (atB n i) = (slotN T m z i + slotN T m' z' i) % T from fun i hi => slot_sum HB.out HS.out hT2 HF.out HF'.out (fun _ _ => rfl) HU8.out hi)
    have HML := Lib.hid (show ∀ i, i < n / 2 → G10 (atB n i) = slotN T m z i * slotN T m' z' i % T from fun i hi => slot_mul HB.out HS.out hT2 HF.out HF'.out HP9.out HU10.out hi)
    have HTL := Lib.hid (show ∀ i, i < n / 2 → G11 (atB n i) = slotN T m z ((i + s) % (n / 2)) from fun i hi => slot_turn HB.out HS.out hT2 HF.out (by rw [HSs.out]; exact HSt.out) (fun _ _ => rfl) HU11.out hi)
    obtain ⟨a1, a2, a3⟩ := mod_up (h := n / 2) (z := st) (by omega)
    have hK : st % ((n / 2 : Nat) : Int) = (s : Int) := by
      rw [HSs.out]; unfold stepM
      rw [Int.toNat_of_nonneg (Int.emod_nonneg _ (by omega))]
    have hKl : s < n / 2 := by rw [HSs.out]; exact HSt.out
    clear hv12 hv13 HI8' HI10' HI11 HBw HF HF' HFL HFL' HP9 HU8 HU10 HU11 HB HSt HSs HT hP hpl HKM HQ HV HV' x0 x1 x2 x3
    rw [hK] at a3
    rw [show ((n / 2 : Nat) : Int) = (n : Int) / 2 by omega] at a1 a2 a3
    have b1 : (st.tmod ((n : Int) / 2) + (n : Int) / 2).tmod ((n : Int) / 2) = (s : Int) := a3
    obtain ⟨rr, hrr⟩ : ∃ rr, rr = st.tmod ((n : Int) / 2) := ⟨_, rfl⟩
    rw [← hrr] at a1 a2 b1
    have hw1 : IntKind.i64.wrap (st.tmod ((n : Int) / 2)) = rr := by rw [← hrr, IntKind.wrap_i64]; omega
    have hw2 : IntKind.i64.wrap (rr + (n : Int) / 2) = rr + (n : Int) / 2 := by rw [IntKind.wrap_i64]; omega
    have hw3 : IntKind.i64.wrap ((rr + (n : Int) / 2).tmod ((n : Int) / 2)) = (s : Int) := by rw [b1, IntKind.wrap_i64]; omega
    have hz1 : ((n : Int) / 2 == 0) = false := by simp; omega
    have hz2 : ¬ (n : Int) / 2 = 0 := by omega
    clear a3 hK e8 e9
    rw [hrr.symm] at hw1
    go_wp2
    have hE : (st.tmod ((n : Int) / 2) + (n : Int) / 2) % ((n : Int) / 2) = (s : Int) := by
      rw [← hrr, ← b1, Int.tmod_eq_emod_of_nonneg (by omega)]
    try rw [hE]
    clear hE hrr b1 a1 a2 hw1 hw2 hw3
    go_loopw [178] (fun iv wr => ∃ k : Nat, k ≤ n / 2 ∧ iv = .int .i64 (k : Int) ∧ Ext w13 wr) (fun iv _ => n / 2 - (intOf iv).toNat)
    case atStart => exact ⟨0, by omega, rfl, Ext.refl _⟩
    case round =>
      obtain ⟨k, hk, rfl, kr⟩ := hrel
      by_cases hlt : k < n / 2
      · have e1 : decide ((k : Int) < (n : Int) / 2) = true := decide_eq_true (by omega)
        obtain ⟨ad12, rfl, hc12⟩ := (HC.out.ext kr).cells (by omega)
        obtain ⟨ad13, rfl, hc13⟩ := (HD.out.ext kr).cells (by omega)
        obtain ⟨j, hj⟩ : ∃ j, j = (k + s) % (n / 2) := ⟨_, rfl⟩
        have hjl : j < n / 2 := by rw [hj]; exact Nat.mod_lt _ (by omega)
        have c1 := hc12 k hlt
        have c2 := hc13 k hlt
        have c3 := hc12 j hjl
        have c4 : wr.cell? ⟨g8, k, none⟩ = some (.int .i64 (cenT (G8 (atB n k)) T)) := RW.cell (RW.ext HI8.out kr) hlt
        have c5 : wr.cell? ⟨g10, k, none⟩ = some (.int .i64 (cenT (G10 (atB n k)) T)) := RW.cell (RW.ext HI10.out kr) hlt
        have c6 : wr.cell? ⟨g11, k, none⟩ = some (.int .i64 (cenT (G11 (atB n k)) T)) := RW.cell (RW.ext HI12.out kr) hlt
        rw [HSL.out k hlt] at c4
        rw [HML.out k hlt] at c5
        rw [HTL.out k hlt, ← hj] at c6
        have d4 := cell_ext kr d1
        clear hc12 hc13
        have hal : slotN T m z k < T := slotN_lt (by omega)
        have hbl : slotN T m' z' k < T := slotN_lt (by omega)
        generalize slotN T m z k = a at *
        generalize slotN T m' z' k = b at *
        obtain ⟨l1, l2, l3⟩ := cen_lif hT2 hT30 hal
        obtain ⟨l4, l5, l6⟩ := cen_lif hT2 hT30 hbl
        obtain ⟨ca, hca⟩ : ∃ ca, ca = cenT a T := ⟨_, rfl⟩
        obtain ⟨cb, hcb⟩ : ∃ cb, cb = cenT b T := ⟨_, rfl⟩
        obtain ⟨y1, hy1⟩ : ∃ y1, y1 = (a + b) % T := ⟨_, rfl⟩
        obtain ⟨y2, hy2⟩ : ∃ y2, y2 = a * b % T := ⟨_, rfl⟩
        have hyl1 : y1 < T := by rw [hy1]; exact Nat.mod_lt _ (by omega)
        have hyl2 : y2 < T := by rw [hy2]; exact Nat.mod_lt _ (by omega)
        obtain ⟨cy1, hcy1⟩ : ∃ cy1, cy1 = cenT y1 T := ⟨_, rfl⟩
        obtain ⟨cy2, hcy2⟩ : ∃ cy2, cy2 = cenT y2 T := ⟨_, rfl⟩
        obtain ⟨cu, hcu⟩ : ∃ cu, cu = cenT (slotN T m z j) T := ⟨_, rfl⟩
        rw [← hca] at c1 l1 l2 l3
        rw [← hcb] at c2 l4 l5 l6
        rw [← hcu] at c3 c6
        rw [← hy1, ← hcy1] at c4
        rw [← hy2, ← hcy2] at c5
        have HL1 := Lib.hid l1.symm
        have HL2 := Lib.hid l4.symm
        have HY1 := Lib.hid hy1
        have HY2 := Lib.hid hy2
        have HC1 := Lib.hid hcy1
        have HC2 := Lib.hid hcy2
        have mj : ((k : Int) + (s : Int)).tmod ((n : Int) / 2) = (j : Int) := by
          rw [Int.tmod_eq_emod_of_nonneg (by omega), hj, Int.natCast_emod]; first | rfl | (congr 1; omega)
        have mj2 : ((k : Int) + (s : Int)) % ((n : Int) / 2) = (j : Int) := by
          rw [hj, Int.natCast_emod]; first | rfl | (congr 1; omega)
        have wj : IntKind.i64.wrap ((k : Int) + (s : Int)) = (k : Int) + (s : Int) := by rw [IntKind.wrap_i64]; omega
        have wj2 : IntKind.i64.wrap (j : Int) = (j : Int) := by rw [IntKind.wrap_i64]; omega
        clear hca hcb hy1 hy2 hcy1 hcy2 hcu hj l1 l4
        have i0 : (0 : Int) ≤ (k : Int) := by omega
        have i1 : (k : Int) < (n : Int) / 2 := by omega
        have j0 : (0 : Int) ≤ (j : Int) := by omega
        have j1 : (j : Int) < (n : Int) / 2 := by omega
        have kk : Ext wr wr := Ext.refl wr
        go_wp2_with fail
        go_region_held3 (fun w' => w'.cell? ⟨w.heap.size, 1, none⟩ = some (.int .u64 (T : Int)) ∧ w'.cell? (ad12.add k) = some (.int .i64 ca) ∧ w'.cell? (ad13.add k) = some (.int .i64 cb)) (go_keep)
          (first
            | (go_at_call_of 14 ca; refine (rliftY ca T a _ HL1 (by omega) l2 l3 (by omega)).mono ?_; rintro e14 w14 ⟨rfl, k14⟩; replace kk : Ext wr w14 := (by first | exact Ext.trans kk k14 | exact Ext.trans (Ext.drew kk) k14); have f0 := cell_ext kk d4; have f1 := cell_ext kk c1; have f2 := cell_ext kk c2)
            | (go_at_call_of 14 cb; refine (rliftY cb T b _ HL2 (by omega) l5 l6 (by omega)).mono ?_; rintro e15 w14 ⟨rfl, k15⟩; replace kk : Ext wr w14 := (by first | exact Ext.trans kk k15 | exact Ext.trans (Ext.drew kk) k15); have f0 := cell_ext kk d4; have f1 := cell_ext kk c1; have f2 := cell_ext kk c2)
            | fail)
        all_goals
          have g4 := cell_ext kk c4
          have g5 := cell_ext kk c5
          have g6 := cell_ext kk c6
          have g7 := cell_ext kk c3
          have q1 : (cy1 != cy1) = false := by simp
          have q2 : (cy2 != cy2) = false := by simp
          have q3 : (cu != cu) = false := by simp
          have km : Ext w14 w14 := Ext.refl w14
          clear c1 c2 c3 c4 c5 c6 d4 f1 f2
          go_wp2_with fail
          go_region_held3 (fun w' => w'.cell? ⟨w.heap.size, 1, none⟩ = some (.int .u64 (T : Int)) ∧ w'.cell? ⟨g8, k, none⟩ = some (.int .i64 cy1) ∧ w'.cell? ⟨g10, k, none⟩ = some (.int .i64 cy2) ∧ w'.cell? ⟨g11, k, none⟩ = some (.int .i64 cu) ∧ w'.cell? (ad12.add j) = some (.int .i64 cu)) (go_keep)
            (first
              | (go_at_call_of 15 y2; refine (rcenterB y2 T cy2 _ HC2 (by omega) (by omega)).mono ?_; rintro e16 w16 ⟨rfl, k16⟩; replace km : Ext w14 w16 := (by first | exact Ext.trans km k16 | exact Ext.trans (Ext.drew km) k16); have s0 := cell_ext km f0; have s1 := cell_ext km g4; have s2 := cell_ext km g5; have s3 := cell_ext km g6; have s4 := cell_ext km g7)
              | (go_at_call_of 15 y1; refine (rcenterB y1 T cy1 _ HC1 (by omega) (by omega)).mono ?_; rintro e16 w16 ⟨rfl, k16⟩; replace km : Ext w14 w16 := (by first | exact Ext.trans km k16 | exact Ext.trans (Ext.drew km) k16); have s0 := cell_ext km f0; have s1 := cell_ext km g4; have s2 := cell_ext km g5; have s3 := cell_ext km g6; have s4 := cell_ext km g7)
              | (go_at_call 17; refine (rmulG a b T _ HY2 (by omega) (by omega) (by omega) (by omega)).mono ?_; rintro e16 w16 ⟨rfl, k16⟩; replace km : Ext w14 w16 := (by first | exact Ext.trans km k16 | exact Ext.trans (Ext.drew km) k16); have s0 := cell_ext km f0; have s1 := cell_ext km g4; have s2 := cell_ext km g5; have s3 := cell_ext km g6; have s4 := cell_ext km g7)
              | (go_at_call 16; refine (raddG a b T _ HY1 (by omega) (by omega) (by omega) (by omega)).mono ?_; rintro e16 w16 ⟨rfl, k16⟩; replace km : Ext w14 w16 := (by first | exact Ext.trans km k16 | exact Ext.trans (Ext.drew km) k16); have s0 := cell_ext km f0; have s1 := cell_ext km g4; have s2 := cell_ext km g5; have s3 := cell_ext km g6; have s4 := cell_ext km g7)
              | fail)
          all_goals
            have kz := (kr.trans kk).trans km
            go_wp2
            exact ⟨⟨k + 1, by omega, by go_num, kz⟩, by simp [intOf]; omega⟩
      · obtain rfl : k = n / 2 := by omega
        have e1 : decide (((n / 2 : Nat) : Int) < (n : Int) / 2) = false := decide_eq_false (by omega)
        go_wp2
        go_ret
        exact ⟨rfl, kf.trans kr⟩
end Go.Proofs.YtoimbommiheccaaDoor
