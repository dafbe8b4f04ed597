/-
  The law LinearPlaces walked.
-/
import Derived.Test.YtdnjjpkajiehgaaLFix
namespace Go.Proofs.Ytdnjjpkajiehgaa
open Go.RowKit
set_option linter.unusedVariables false
set_option maxRecDepth 100000

theorem slotsR_ok {l a : List Int} {y m : Int} (h : slotsR l y m = .ok a) : entN l = (a.length : Int) ∧ (∀ (j : Nat) (z : Int), a[j]? = some z → 0 ≤ z ∧ z < m ∧ (y = 0 → z = (j : Int))) ∧ ∀ (j : Nat) (z z' : Int), a[j + 1]? = some z → a[j]? = some z' → z' < z := by
  unfold slotsR at h
  split at h
  · cases h
  · rename_i hc
    split at h
    · cases h
    · rename_i hm
      injection h with h
      subst h
      have hle := entN_le l
      obtain ⟨K, hK⟩ : ∃ K : Nat, entN l = (K : Int) := ⟨(entN l).toNat, by omega⟩
      obtain ⟨t0, t1, t2, t3⟩ := chan_pos (l := l) (y := y) (by omega)
      rw [hK, Int.toNat_natCast] at hm ⊢
      have hat : ∀ (j : Nat) (z : Int), ((List.range K).map (slotL l y))[j]? = some z → j < K ∧ z = slotL l y j := fun j z hj => by
        have hjk : j < K := by have := (List.getElem?_eq_some_iff.1 hj).1; simpa using this
        rw [List.getElem?_map, List.getElem?_range hjk] at hj
        injection hj with hj
        exact ⟨hjk, hj.symm⟩
      refine ⟨by simp, fun j z hj => ?_, fun j z z' h1 h2 => ?_⟩
      · obtain ⟨hjk, rfl⟩ := hat j z hj
        refine ⟨slotP_nonneg t0 t2 j, ?_, fun h0 => ?_⟩
        · have : slotL l y j ≤ slotL l y (K - 1) := slotP_le t0 t2 (by omega)
          omega
        · subst h0
          unfold slotL chanL pitL
          rw [if_neg (by omega), if_neg (by omega), hK]
          exact slotP_self (by omega)
      · obtain ⟨_, rfl⟩ := hat (j + 1) z h1
        obtain ⟨_, rfl⟩ := hat j z' h2
        exact slotP_lt t0 t2 (by omega)
set_option maxHeartbeats 4000000 in
theorem linearPlaces_walk (A : Option Addr) (n c : Nat) (l : List Int) (m : Int) (w : World) (hX : Hid (ZX w A n c l)) :
    Calls Try.prog 14 #[.slice A n c, .int .i64 m] w fun e w' => e = .returned (.bool true) ∧ Ext w w' := by
  go_enter Try.func14, Try.ntmps14
  go_wp2_with fail
  refine (fixed19_any w).mono ?_
  rintro e1 w1 ⟨rfl, k1⟩
  have K1 := Lib.hid k1
  clear k1
  go_wp2_with fail
  go_loopw [12] (fun i wr => ∃ k : Nat, k ≤ 2 ∧ i = .int .i64 (k : Int) ∧ Hid (Ext w wr)) (fun i _ => 2 - (intOf i).toNat)
  case atStart => exact ⟨0, by omega, rfl, K1⟩
  case round =>
    obtain ⟨k, hk, rfl, hE⟩ := hrel
    by_cases hlt : k < 2
    · go_wp2_with fail
      refine (slots_any A n c l (k : Int) m wr (Lib.hid (hX.out.ext hE.out))).mono ?_
      rintro e2 w2 (⟨a, A1, c1, h1, rfl, h3, h4, k2⟩ | ⟨x, h1, x1, x7, rfl, k2⟩)
      rotate_left
      · have x0 : ¬ ((x : Int) = 0) := by omega
        have x0' : ¬ (x = 0) := by omega
        have HE2 := Lib.hid (hE.out.trans k2)
        clear h1 k2
        go_wp2
        go_roundw
        case rel => exact ⟨k + 1, by omega, by go_num, HE2⟩
        case measure => simp [intOf]; omega
      obtain ⟨o1, o2, o3⟩ := slotsR_ok h1
      have O1 := Lib.hid o1
      have O2 := Lib.hid o2
      have O3 := Lib.hid o3
      have H3 := Lib.hid h3
      have HE2 := Lib.hid (hE.out.trans k2)
      clear o1 o2 o3 h1 h3 k2
      go_wp2_with fail
      go_loop [26] (fun i => ∃ j : Nat, j ≤ a.length ∧ i = .int .i64 (j : Int)) (fun i => a.length - (intOf i).toNat)
      case atStart => exact ⟨0, by omega, rfl⟩
      case round =>
        obtain ⟨j, hj, rfl⟩ := hrel
        by_cases hja : j < a.length
        · obtain ⟨ad, z, rfl, hz, cz⟩ := H3.out.at_ hja
          obtain ⟨z0, z1, z2⟩ := O2.out j z hz
          have i0 : (0 : Int) ≤ (j : Int) := by omega
          have i1 : (j : Int) < (a.length : Int) := by omega
          have hz0 : ¬ z < 0 := by omega
          have hzm : ¬ m ≤ z := by omega
          rcases Nat.eq_zero_or_pos j with hj0 | hj0
          · subst hj0
            rw [add0L] at cz
            rcases (show k = 0 ∨ k = 1 by omega) with rfl | rfl
            · obtain rfl : z = 0 := z2 rfl
              clear z2 hz
              go_wp2
              go_round
              case rel => exact ⟨1, by omega, by go_num⟩
              case measure => simp [intOf]; omega
            · clear z2 hz
              go_wp2
              go_round
              case rel => exact ⟨1, by omega, by go_num⟩
              case measure => simp [intOf]; omega
          · obtain ⟨ad', z', e2, hz', cz'⟩ := H3.out.at_ (show j - 1 < a.length by omega)
            injection e2 with e2
            subst e2
            have hlt2 := O3.out (j - 1) z z' (by rw [show j - 1 + 1 = j by omega]; exact hz) hz'
            have hnl : ¬ z ≤ z' := by omega
            have hjp : (0 : Int) < (j : Int) := by omega
            have e1 : ((j : Int) - 1).toNat = j - 1 := by omega
            have i2 : (0 : Int) ≤ (j : Int) - 1 := by omega
            have i3 : (j : Int) - 1 < (a.length : Int) := by omega
            rcases (show k = 0 ∨ k = 1 by omega) with rfl | rfl
            · obtain rfl : z = (j : Int) := z2 rfl
              clear z2 hz hz'
              go_wp2
              go_round
              case rel => exact ⟨j + 1, by omega, by go_num⟩
              case measure => simp [intOf]; omega
            · clear z2 hz hz'
              go_wp2
              go_round
              case rel => exact ⟨j + 1, by omega, by go_num⟩
              case measure => simp [intOf]; omega
        · have hja2 : j = a.length := by omega
          go_wp2_with fail
          refine (rent_any A n c l w2 (Lib.hid (hX.out.ext HE2.out))).mono ?_
          rintro e3 w3 ⟨rfl, rfl⟩
          rw [O1.out]
          go_wp2
          exact ⟨⟨k + 1, by omega, by go_num, HE2⟩, by simp [intOf]; omega⟩
    · go_wp2
      go_ret
      exact ⟨rfl, hE.out⟩
end Go.Proofs.Ytdnjjpkajiehgaa
