/-
  The law IntervalMost walked.
-/
import Derived.Test.YtjeipbahddhfgaaIFx
namespace Go.Proofs.Ytjeipbahddhfgaa
open Go.RowKit
set_option linter.unusedVariables false
set_option maxRecDepth 100000

theorem near_end {q : Int × Int} (h : In20 q.1 ∧ In20 q.2) : EndOk q.1 ∧ EndOk q.2 := ⟨in20_end h.1, in20_end h.2⟩
theorem run_max_five {P : Program} (w : World) (z lo hv : Int) : (Builtin.max_ #[3, 3, 3, 3, 3] 3 #[.int .i64 z, .int .i64 lo, .int .i64 (-lo), .int .i64 hv, .int .i64 (-hv)]).run P w = .ok (.int .i64 (max (max z (max lo (-lo))) (max hv (-hv)))) w := by
  simp [Builtin.max_, Builtin.max2]
  (repeat' split) <;> omega
set_option maxHeartbeats 2000000 in
theorem intervalMost_walk (A : Option Addr) (c : Nat) (l : List (Int × Int)) (w : World) (hX : Hid (SpX w A c l)) (hl : l.length ≤ 9223372036854775807) :
    Calls Try.prog 9 #[.slice A l.length c] w fun e w' => e = .returned (.bool true) ∧ Ext w w' := by
  go_enter Try.func9, Try.ntmps9
  go_wp2_with fail
  refine (fixed17_any w).mono ?_
  rintro e1 w1 ⟨rfl, k1⟩
  have HX := Lib.hid (hX.out.ext k1)
  have K1 := Lib.hid k1
  clear k1
  go_wp2_with fail
  go_loopw [3, 10] (fun m i wr => ∃ (k : Nat) (z : Int), k ≤ l.length ∧ i = .int .i64 (k : Int) ∧ m = .int .i64 z ∧ 0 ≤ z ∧ z ≤ 1048576 ∧ Hid (Ext w1 wr) ∧ Hid (∀ (j : Nat) (p : Int × Int), j < k → l[j]? = some p → In20 p.1 ∧ In20 p.2) ∧ Hid (mostF l 0 = mostF (l.drop k) z)) (fun _ i _ => l.length - (intOf i).toNat)
  case atStart => exact ⟨0, 0, by omega, rfl, rfl, by omega, by omega, Lib.hid (Ext.refl _), Lib.hid (fun j p h => absurd h (by omega)), Lib.hid rfl⟩
  case round =>
    obtain ⟨k, z, hk, rfl, rfl, hz0, hz1, hE, hN, hP⟩ := hrel
    by_cases hlt : k < l.length
    · obtain ⟨⟨lo, hv⟩, hp⟩ : ∃ p, l[k]? = some p := ⟨_, List.getElem?_eq_getElem hlt⟩
      obtain ⟨ad, rfl, hc⟩ := (HX.out.ext hE.out).cells (by omega)
      obtain ⟨c0, c1⟩ := hc k _ hp
      have HP := Lib.hid hp
      clear hc hp
      dsimp only at c0 c1
      have j0 : (0 : Int) ≤ (k : Int) := by omega
      have j1 : (k : Int) < (l.length : Int) := by omega
      have n0 := two_atJ0 wr (.int .i64 lo) (.int .i64 hv) 53
      have n1 := two_atJ1 wr (.int .i64 lo) (.int .i64 hv) 53
      have ka : Ext wr (wr.alloc (.cells #[.int .i64 lo, .int .i64 hv] 53)) := (Ext.refl wr).alloc _
      have KA := Lib.hid (K1.out.trans (hE.out.trans ka))
      by_cases d0 : lo < -1048576
      · go_wp2
        go_ret
        exact ⟨rfl, KA.out⟩
      by_cases d1 : hv < -1048576
      · go_wp2
        go_ret
        exact ⟨rfl, KA.out⟩
      by_cases d2 : 1048576 < lo
      · go_wp2
        go_ret
        exact ⟨rfl, KA.out⟩
      by_cases d3 : 1048576 < hv
      · go_wp2
        go_ret
        exact ⟨rfl, KA.out⟩
      have HM := Lib.hid (show mostF l 0 = mostF (l.drop (k + 1)) (max (max z (max lo (-lo))) (max hv (-hv))) by
        obtain ⟨hl2, e2⟩ := List.getElem?_eq_some_iff.1 HP.out
        rw [hP.out, List.drop_eq_getElem_cons hl2, e2, mostF])
      have HKA := Lib.hid (hE.out.trans ka)
      clear ka
      have HNN := Lib.hid (show ∀ (j : Nat) (p : Int × Int), j < k + 1 → l[j]? = some p → In20 p.1 ∧ In20 p.2 from fun j p hj hp => by
        rcases Nat.lt_or_ge j k with g | g
        · exact hN.out j p g hp
        · obtain rfl : j = k := by omega
          rw [HP.out] at hp
          injection hp with hp
          subst hp
          exact ⟨⟨by show -1048576 ≤ lo; omega, by show lo ≤ 1048576; omega⟩, by show -1048576 ≤ hv; omega, by show hv ≤ 1048576; omega⟩)
      have hmx := fun wq => run_max_five (P := Try.prog) wq z lo hv
      go_wp2_with fail
      exact ⟨⟨k + 1, _, by omega, by go_num, rfl, by omega, by omega, HKA, HNN, Lib.hid (by rw [HM.out]; congr 1; omega)⟩, by simp [intOf]; omega⟩
    · have hkn : k = l.length := by omega
      have HR := Lib.hid (show mostF l 0 = z by rw [hP.out, List.drop_eq_nil_of_le (by omega)]; rfl)
      have HEO := Lib.hid (show ∀ p ∈ l, EndOk p.1 ∧ EndOk p.2 from fun p hp => by
        obtain ⟨j, hj, e⟩ := List.getElem_of_mem hp
        exact near_end (hN.out j p (by omega) (by rw [List.getElem?_eq_getElem hj, e])))
      go_wp2_with fail
      refine (most_any A c l wr (Lib.hid (HX.out.ext hE.out)) hl HEO).mono ?_
      rintro e2 w2 ⟨rfl, k2⟩
      rw [HR.out]
      go_wp2
      go_ret
      exact ⟨by simp, K1.out.trans (hE.out.trans k2)⟩
end Go.Proofs.Ytjeipbahddhfgaa
