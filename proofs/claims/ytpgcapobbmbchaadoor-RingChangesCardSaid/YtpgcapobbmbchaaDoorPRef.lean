/-
  What Is of the reference of layer 3 answers.
-/
import Derived.Test.YtpgcapobbmbchaaDoorPIs
namespace Go.Proofs.YtpgcapobbmbchaaDoor
open Go.RowKit
set_option linter.unusedVariables false

theorem trial_no {n d : Nat} (h0 : 2 ≤ d) (h1 : d * d ≤ n) (h2 : n < 65536) (h : n % d = 0) : trialS n = false := by
  cases e : trialS n
  · rfl
  · have hd : d < 256 := by
      rcases Nat.lt_or_ge d 256 with g | g
      · exact g
      · have := Nat.mul_le_mul g g; omega
    exact absurd h ((trialS_spec n).1 e d hd h0 h1)
theorem trial_yes {n D : Nat} (h1 : n < D * D) (h : ∀ d, 2 ≤ d → d < D → n % d ≠ 0) : trialS n = true := by
  refine (trialS_spec n).2 fun d _ hd0 hdn => ?_
  rcases Nat.lt_or_ge d D with g | g
  · exact h d hd0 g
  · have := Nat.mul_le_mul g g; omega
set_option maxHeartbeats 1000000 in
theorem ris_any (n : Nat) (w : World) (hn : n < 18446744073709551616) :
    Calls Tryd.prog 93 #[.int .u64 (n : Int)] w fun e w' => e = .returned (.bool (isR n)) ∧ Ext w w' := by
  by_cases h0 : n < 2
  · have H := Lib.hid (show isR n = false by rw [isR, if_pos h0])
    go_enter Tryd.func93, Tryd.ntmps93
    go_wp2
    go_ret
    exact ⟨by rw [H.out]; rfl, Ext.refl _⟩
  · by_cases hs : n < 65536
    · have H := Lib.hid (show isR n = trialS n by rw [isR, if_neg h0, if_pos hs])
      have f1 : decide ((n : Int) < 2) = false := by simp; omega
      have f2 : decide ((n : Int) < 65536) = true := by simp; omega
      have HS := Lib.hid hs
      have H0 := Lib.hid h0
      clear hs h0
      go_enter Tryd.func93, Tryd.ntmps93
      go_wp2
      go_loop [3] (fun dv => ∃ D : Nat, 2 ≤ D ∧ D ≤ 256 ∧ dv = .int .u64 (D : Int) ∧ Hid (∀ d, 2 ≤ d → d < D → n % d ≠ 0)) (fun dv => 256 - (intOf dv).toNat)
      case atStart => exact ⟨2, by omega, by omega, rfl, Lib.hid fun d h1 h2 => by omega⟩
      case round =>
        obtain ⟨D, hD0, hD1, rfl, hi⟩ := hrel
        have hm2 : D * D ≤ 65536 := Nat.mul_le_mul hD1 hD1
        have hm : ((D : Int) * (D : Int)) = ((D * D : Nat) : Int) := (Int.natCast_mul _ _).symm
        have hm0 : (0 : Int) ≤ (D : Int) * (D : Int) := by rw [hm]; omega
        have hm1 : (D : Int) * (D : Int) ≤ 65536 := by rw [hm]; omega
        by_cases hle : D * D ≤ n
        · have hlt : D < 256 := by
            rcases Nat.lt_or_ge D 256 with g | g
            · exact g
            · have := Nat.mul_le_mul g g
              have := HS.out
              omega
          have g1 : decide ((D : Int) * (D : Int) ≤ (n : Int)) = true := by rw [hm]; simp; omega
          by_cases hd : n % D = 0
          · have HT := Lib.hid (show isR n = false by rw [H.out]; exact trial_no hD0 hle HS.out hd)
            have g2 : ((n : Int) % (D : Int) == 0) = true := by simp; omega
            clear hm hm2 hd hle
            go_wp2
            go_ret
            exact ⟨by rw [HT.out]; rfl, Ext.refl _⟩
          · have g2 : ((n : Int) % (D : Int) == 0) = false := by simp; omega
            have HI := Lib.hid (show ∀ d, 2 ≤ d → d < D + 1 → n % d ≠ 0 from fun d h1 h2 => by
              rcases Nat.lt_or_eq_of_le (Nat.le_of_lt_succ h2) with g | g
              · exact hi.out d h1 g
              · rw [g]; exact hd)
            clear hm hm2 hd hle
            go_wp2
            exact ⟨⟨D + 1, by omega, by omega, by go_num, HI⟩, by simp [intOf] <;> omega⟩
        · have g1 : decide ((D : Int) * (D : Int) ≤ (n : Int)) = false := by rw [hm]; simp; omega
          have HT := Lib.hid (show isR n = true by rw [H.out]; exact trial_yes (by omega) hi.out)
          clear hm hm2 hle
          go_wp2
          go_ret
          exact ⟨by rw [HT.out]; rfl, Ext.refl _⟩
    · have H := Lib.hid (show isR n = L12.all (fun a => (!Nat.beq (n % a) 0) && strongS n a) by rw [isR, if_neg h0, if_neg hs])
      obtain ⟨P, hP⟩ : ∃ P : Nat → Bool, P = fun a => (!Nat.beq (n % a) 0) && strongS n a := ⟨_, rfl⟩
      have f1 : decide ((n : Int) < 2) = false := by simp; omega
      have f2 : decide ((n : Int) < 65536) = false := by simp; omega
      have HS := Lib.hid hs
      have H0 := Lib.hid h0
      clear hs h0
      go_enter Tryd.func93, Tryd.ntmps93
      rw [← hP] at H
      have HP := Lib.hid hP
      clear hP
      go_wp2
      have kW : Ext w (w.alloc (Obj.cells #[Value.int IntKind.u64 2, Value.int IntKind.u64 3, Value.int IntKind.u64 5, Value.int IntKind.u64 7, Value.int IntKind.u64 11, Value.int IntKind.u64 13, Value.int IntKind.u64 17, Value.int IntKind.u64 19, Value.int IntKind.u64 23, Value.int IntKind.u64 29, Value.int IntKind.u64 31, Value.int IntKind.u64 37] 79)) := (Ext.refl w).alloc _
      have cW : ∀ j, j < 12 → (w.alloc (Obj.cells #[Value.int IntKind.u64 2, Value.int IntKind.u64 3, Value.int IntKind.u64 5, Value.int IntKind.u64 7, Value.int IntKind.u64 11, Value.int IntKind.u64 13, Value.int IntKind.u64 17, Value.int IntKind.u64 19, Value.int IntKind.u64 23, Value.int IntKind.u64 29, Value.int IntKind.u64 31, Value.int IntKind.u64 37] 79)).cell? ⟨w.heap.size, j, none⟩ = some (.int .u64 ((L12.getD j 0 : Nat) : Int)) := fun j hj => by
        rcases (show j = 0 ∨ j = 1 ∨ j = 2 ∨ j = 3 ∨ j = 4 ∨ j = 5 ∨ j = 6 ∨ j = 7 ∨ j = 8 ∨ j = 9 ∨ j = 10 ∨ j = 11 by omega) with rfl | rfl | rfl | rfl | rfl | rfl | rfl | rfl | rfl | rfl | rfl | rfl
        all_goals simp [L12]
      generalize w.alloc (Obj.cells #[Value.int IntKind.u64 2, Value.int IntKind.u64 3, Value.int IntKind.u64 5, Value.int IntKind.u64 7, Value.int IntKind.u64 11, Value.int IntKind.u64 13, Value.int IntKind.u64 17, Value.int IntKind.u64 19, Value.int IntKind.u64 23, Value.int IntKind.u64 29, Value.int IntKind.u64 31, Value.int IntKind.u64 37] 79) = V at *
      have HC := Lib.hid cW
      clear cW
      go_loopw [23] (fun i wr => ∃ k : Nat, k ≤ 12 ∧ i = .int .i64 (k : Int) ∧ Ext V wr ∧ Hid (isR n = (L12.drop k).all P) ∧ (0 < k → n % 2 = 1)) (fun i _ => 12 - (intOf i).toNat)
      case atStart => exact ⟨0, by omega, rfl, Ext.refl _, H, fun h => by omega⟩
      case round =>
        obtain ⟨k, hk, rfl, kr, hi, hodd⟩ := hrel
        by_cases hlt : k < 12
        · have hc := cell_ext kr (HC.out k hlt)
          obtain ⟨hb0, hb1⟩ := l12_lt hlt
          have HN := Lib.hid (show isR n = (P (L12.getD k 0) && (L12.drop (k + 1)).all P) by rw [hi.out, drop_all hlt])
          have HB0 : k = 0 → L12.getD k 0 = 2 := fun e => by rw [e]; rfl
          have e1 : (0 : Int) ≤ k := by omega
          have e2 : (k : Int) < 12 := by omega
          have HPb := Lib.hid (show P (L12.getD k 0) = ((!Nat.beq (n % L12.getD k 0) 0) && strongS n (L12.getD k 0)) by rw [HP.out])
          generalize L12.getD k 0 = b at *
          by_cases hd : n % b = 0
          · have HF := Lib.hid (show isR n = false by rw [HN.out, HPb.out, beq_iff, decide_eq_true hd]; rfl)
            have g2 : ((n : Int) % (b : Int) == 0) = true := by simp; omega
            clear hd hodd HB0
            go_wp2
            go_ret
            exact ⟨by rw [HF.out]; rfl, kW.trans kr⟩
          · have g2 : ((n : Int) % (b : Int) == 0) = false := by simp; omega
            have hod : n % 2 = 1 := by
              rcases Nat.eq_zero_or_pos k with h | h
              · have := HB0 h; subst this; omega
              · exact hodd h
            have HPc := Lib.hid (show P b = strongS n b by rw [HPb.out, beq_iff, decide_eq_false hd]; rfl)
            have h3 : 3 ≤ n := by have := HS.out; omega
            clear hd hodd HB0
            go_wp2_with fail
            refine (strong_any n b _ h3 hod hn (by omega)).mono ?_
            rintro e w2 ⟨rfl, k2⟩
            cases hp : strongS n b
            · have HF := Lib.hid (show isR n = false by rw [HN.out, HPc.out, hp, Bool.false_and])
              go_wp2
              go_ret
              exact ⟨by rw [HF.out]; rfl, kW.trans (kr.trans k2)⟩
            · have HF := Lib.hid (show isR n = (L12.drop (k + 1)).all P by rw [HN.out, HPc.out, hp, Bool.true_and])
              go_wp2
              exact ⟨⟨k + 1, by omega, by go_num, kr.trans k2, HF, fun _ => hod⟩, by simp [intOf] <;> omega⟩
        · obtain rfl : k = 12 := by omega
          have HF := Lib.hid (show isR n = true by rw [hi.out]; rfl)
          clear hodd hlt hk
          go_wp2
          go_ret
          exact ⟨by rw [HF.out]; rfl, kW.trans kr⟩
end Go.Proofs.YtpgcapobbmbchaaDoor
