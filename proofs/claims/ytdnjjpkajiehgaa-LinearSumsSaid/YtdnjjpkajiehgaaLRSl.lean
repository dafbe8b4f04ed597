/-
  In which slots entries stand: the document's answer.
-/
import Derived.Test.YtdnjjpkajiehgaaLSlo
import Derived.Test.YtdnjjpkajiehgaaLOwn
namespace Go.Proofs.Ytdnjjpkajiehgaa
open Go.RowKit
set_option linter.unusedVariables false
set_option maxRecDepth 100000

theorem powL_step {p s : Int} (h : p = 1 ∨ p = 2 ∨ p = 4 ∨ p = 8 ∨ p = 16 ∨ p = 32 ∨ p = 64) (h1 : p = 1 ∨ p < 2 * s) (hs : s ≤ p) (h64 : s ≤ 64) : powL s = p := by
  unfold powL
  (repeat' split) <;> omega
set_option maxHeartbeats 4000000 in
theorem rslots_any (A : Option Addr) (n c : Nat) (l : List Int) (y m : Int) (w : World) (hX : Hid (ZX w A n c l)) :
    Calls Try.prog 32 #[.slice A n c, .int .i64 y, .int .i64 m] w fun e w' => SlPost w (slotsR l y m) e w' := by
  obtain ⟨i0', hii, hz0, hz1, hz2⟩ := info_partsJ info_intJ
  have hlen := hX.out.len
  have hle := entN_le l
  go_enter Try.func32, Try.ntmps32
  go_wp2_with fail
  refine (rent_any A n c l w hX).mono ?_
  rintro e1 w1 ⟨rfl, rfl⟩
  by_cases h0 : entN l = 0
  · have HR := Lib.hid (show slotsR l y m = .error 4 by unfold slotsR; rw [if_pos (.inl h0)])
    rw [h0]
    clear hlen hle h0
    go_wp2
    go_ret2
    exact .inr ⟨4, HR.out, by omega, by omega, rfl, Ext.refl _⟩
  obtain ⟨K, hK⟩ : ∃ K : Nat, entN l = (K : Int) := ⟨(entN l).toNat, by omega⟩
  have K1 : 1 ≤ K := by omega
  have K2 : K ≤ 64 := by omega
  by_cases hy : y ≠ 0 ∧ y ≠ 1
  · have HR := Lib.hid (show slotsR l y m = .error 4 by unfold slotsR; rw [if_pos (.inr hy)])
    have b0 : (y != 0) = true := by simp; exact hy.1
    have b1 : (y != 1) = true := by simp; exact hy.2
    rw [hK]
    have b2 : ((K : Int) == 0) = false := by simp; omega
    clear hlen hle h0 hK hy
    go_wp2
    go_ret2
    exact .inr ⟨4, HR.out, by omega, by omega, rfl, Ext.refl _⟩
  have hcp := Lib.hid (chan_pos (l := l) (y := y) (by omega))
  have HR := Lib.hid (show slotsR l y m = if m ≤ slotL l y (K - 1) then .error 7 else .ok ((List.range K).map (slotL l y)) by
    unfold slotsR
    rw [if_neg (by omega), hK, Int.toNat_natCast])
  have b2 : ((K : Int) == 0) = false := by simp; omega
  rcases (show y = 0 ∨ y = 1 by omega) with rfl | rfl
  · have HC := Lib.hid (show chanL l 0 = (K : Int) by unfold chanL; rw [if_neg (by omega), hK])
    have HP := Lib.hid (show pitL l 0 = (K : Int) by unfold pitL; rw [if_neg (by omega), hK])
    rw [hK]
    clear hlen hle h0 hK hy
    have HRR := Lib.hid (show slotL l 0 = slotP K K by unfold slotL; rw [HC.out, HP.out])
    rw [HC.out, HP.out] at hcp
    have KD := Lib.hid (Ext.refl w1)
    obtain ⟨t0, t1, t2, t3⟩ := hcp.out
    go_wp2_with fail
    go_loopw [11, 12] (fun ov i wr => ∃ k : Nat, k ≤ K ∧ i = .int .i64 (k : Int) ∧ Hid (wr.ownsRow w1.heap.size 3 1 ov k (i64s ((List.range k).map (slotP K K)))) ∧ Hid (Ext w1 wr) ∧ Hid (∀ j, j < k → slotP K K j < m)) (fun _ i _ => K - (intOf i).toNat)
    case atStart => exact ⟨0, by omega, rfl, Lib.hid (World.ownsRow_nil _ _ _ _), Lib.hid (Ext.refl _), Lib.hid (fun j h => absurd h (by omega))⟩
    case round =>
      obtain ⟨k, hk, rfl, hO, hE, hF⟩ := hrel
      by_cases hlt : k < K
      · have top := slotP_top t0 t1 t2 t3 (show k < 64 by omega)
        have hsl : slotP K K k = (k : Int) / (K : Int) * (K : Int) + (k : Int) % (K : Int) := rfl
        have HSP := Lib.hid hsl
        have hmono := Lib.hid (slotP_le t0 t2 (show k ≤ K - 1 by omega))
        have n0 : ¬ (K : Int) = 0 := by omega
        have q0 : ¬ K = 0 := by omega
        have td : (k : Int).tdiv (K : Int) = (k : Int) / (K : Int) := Int.tdiv_eq_ediv_of_nonneg (by omega)
        have tm : (k : Int).tmod (K : Int) = (k : Int) % (K : Int) := Int.tmod_eq_emod_of_nonneg (by omega)
        have hs0 := hE.out.size
        clear hsl
        by_cases hm : m ≤ (k : Int) / (K : Int) * (K : Int) + (k : Int) % (K : Int)
        · have HE := Lib.hid (show slotsR l 0 m = .error 7 by rw [HR.out, HRR.out, if_pos (Int.le_trans (by rw [HSP.out]; exact hm) hmono.out)])
          go_wp2_with fail
          go_quiet (fail)
          go_wp2
          go_ret2
          exact .inr ⟨7, HE.out, by omega, by omega, rfl, KD.out.trans (hE.out.drewN _)⟩
        · have hm' : (k : Int) / (K : Int) * (K : Int) + (k : Int) % (K : Int) < m := by omega
          go_wp2_with fail
          go_quiet (fail)
          have kq : Ext wr (wr.drewN nq) := (Ext.refl wr).drewN nq
          have hO1 := Lib.hid (own_extL hO.out kq)
          have hE1 := Lib.hid (hE.out.trans kq)
          have hs1 := hE1.out.size
          clear kq
          generalize wr.drewN nq = w4 at *
          go_wp2_with (at_builtin; go_loud (refine wpList_append_own _ rfl _ _ 38 rfl w1.heap.size 3 i0' (.int .i64 0) 1 8 Try.underlying38 hii hz0 hz1 hz2 rfl (by decide) _ _ _ rfl (hO1.out.alloc _) ⟨_, 0, none⟩ 1 1 [.int .i64 ((k : Int) / (K : Int) * (K : Int) + (k : Int) % (K : Int))] rfl rfl one_cellL one_intL (by unfold maxLen; omega) (by omega) (by simp; omega) ?_; intro v3 w3 hown3 hgrow3 hfree3))
          go_roundw
          case rel =>
            refine ⟨k + 1, by omega, by go_num, Lib.hid ?_, Lib.hid ?_, Lib.hid ?_⟩
            · rw [List.range_succ, List.map_append, i64s_app]
              exact hown3
            · exact ext_grownL (hE1.out.alloc _) (hO1.out.alloc _) (Nat.le_refl _) hgrow3
            · intro j hj
              rcases Nat.lt_or_ge j k with g | g
              · exact hF.out j g
              · obtain rfl : k = j := by omega
                rw [HSP.out]; exact hm'
          case measure => simp [intOf]; omega
      · obtain rfl : K = k := by omega
        obtain ⟨A', c', rfl, hz, hf⟩ := rdZ_of_own hO.out
        have HZ := Lib.hid hz
        have HE := Lib.hid (show slotsR l 0 m = .ok ((List.range K).map (slotP K K)) by rw [HR.out, HRR.out, if_neg (by have := hF.out (K - 1) (by omega); omega)])
        clear hz hf
        go_wp2
        go_ret2
        refine .inl ⟨_, A', c', HE.out, ?_, ?_, ?_, KD.out.trans hE.out⟩
        · rw [List.length_map, List.length_range]; rfl
        · rw [List.length_map, List.length_range]; exact HZ.out
        · rw [List.length_map, List.length_range]; exact K2
  · by_cases h3 : n = 3
    · subst h3
      obtain ⟨a, b, d, rfl⟩ : ∃ a b d, l = [a, b, d] := by
        match l, hlen with
        | [a, b, d], _ => exact ⟨a, b, d, rfl⟩
      have HC := Lib.hid (show chanL [a, b, d] 1 = b * d by unfold chanL; rw [if_pos ⟨rfl, rfl⟩]; rfl)
      have HP := Lib.hid (show pitL [a, b, d] 1 = powL (b * d) by unfold pitL; rw [if_pos ⟨rfl, rfl⟩]; rfl)
      have hth := three_of (a := a) (b := b) (c := d) (by omega)
      obtain ⟨ad, rfl, _⟩ := hX.out.cells (by omega)
      obtain ⟨x1, x2⟩ := three_cells hX.out
      rw [hK]
      clear hlen hle h0 hK hy
      have HRR := Lib.hid (show slotL [a, b, d] 1 = slotP (b * d) (powL (b * d)) by unfold slotL; rw [HC.out, HP.out])
      rw [HC.out, HP.out] at hcp
      clear HC HP
      obtain ⟨_, _, _, g1, g2⟩ := hth
      have gw : IntKind.i64.wrap (b * d) = b * d := by rw [IntKind.wrap_i64]; omega
      obtain ⟨S, hB⟩ : ∃ S : Nat, b * d = (S : Int) := ⟨(b * d).toNat, by omega⟩
      rw [hB] at gw HRR hcp g1 g2
      go_wp2_with fail
      go_quiet (fail)
      go_wp2_with fail
      have KD := Lib.hid (show Ext w1 (w1.drewN nq) from (Ext.refl w1).drewN nq)
      generalize w1.drewN nq = w2 at *
      have hB := Lib.hid hB
      clear gw x1 x2
      go_loop [10] (fun p => ∃ P : Int, p = .int .i64 P ∧ Hid (P = 1 ∨ P = 2 ∨ P = 4 ∨ P = 8 ∨ P = 16 ∨ P = 32 ∨ P = 64) ∧ Hid (P = 1 ∨ P < 2 * (S : Int)) ∧ 1 ≤ P ∧ P ≤ 64) (fun p => 64 - (intOf p).toNat)
      case atStart => exact ⟨1, rfl, Lib.hid (.inl rfl), Lib.hid (.inl rfl), by omega, by omega⟩
      case round =>
        obtain ⟨P, rfl, hp1, hp2, hp3, hp4⟩ := hrel
        by_cases hps : P < (S : Int)
        · go_wp2
          go_round
          case rel => exact ⟨2 * P, by go_num, Lib.hid (by have := hp1.out; omega), Lib.hid (by omega), by omega, by have := hp1.out; omega⟩
          case measure => simp [intOf]; have := hp1.out; omega
        · have hpp := powL_step hp1.out hp2.out (by omega) (by omega)
          rw [hpp] at HRR hcp
          clear hpp
          obtain ⟨t0, t1, t2, t3⟩ := hcp.out
          go_wp2_with fail
          go_loopw [11, 12] (fun ov i wr => ∃ k : Nat, k ≤ K ∧ i = .int .i64 (k : Int) ∧ Hid (wr.ownsRow w2.heap.size 3 1 ov k (i64s ((List.range k).map (slotP (S : Int) P)))) ∧ Hid (Ext w2 wr) ∧ Hid (∀ j, j < k → slotP (S : Int) P j < m)) (fun _ i _ => K - (intOf i).toNat)
          case atStart => exact ⟨0, by omega, rfl, Lib.hid (World.ownsRow_nil _ _ _ _), Lib.hid (Ext.refl _), Lib.hid (fun j h => absurd h (by omega))⟩
          case round =>
            obtain ⟨k, hk, rfl, hO, hE, hF⟩ := hrel
            by_cases hlt : k < K
            · have top := slotP_top t0 t1 t2 t3 (show k < 64 by omega)
              have hsl : slotP (S : Int) P k = (k : Int) / (S : Int) * P + (k : Int) % (S : Int) := rfl
              have HSP := Lib.hid hsl
              have hmono := Lib.hid (slotP_le t0 t2 (show k ≤ K - 1 by omega))
              have n0 : ¬ (S : Int) = 0 := by omega
              have q1 : ¬ S = 0 := by omega
              have q0 : ¬ K = 0 := by omega
              have td : (k : Int).tdiv (S : Int) = (k : Int) / (S : Int) := Int.tdiv_eq_ediv_of_nonneg (by omega)
              have tm : (k : Int).tmod (S : Int) = (k : Int) % (S : Int) := Int.tmod_eq_emod_of_nonneg (by omega)
              have hs0 := hE.out.size
              clear hsl
              by_cases hm : m ≤ (k : Int) / (S : Int) * P + (k : Int) % (S : Int)
              · have HE := Lib.hid (show slotsR [a, b, d] 1 m = .error 7 by rw [HR.out, HRR.out, if_pos (Int.le_trans (by rw [HSP.out]; exact hm) hmono.out)])
                go_wp2_with fail
                go_quiet (fail)
                go_wp2
                go_ret2
                exact .inr ⟨7, HE.out, by omega, by omega, rfl, KD.out.trans (hE.out.drewN _)⟩
              · have hm' : (k : Int) / (S : Int) * P + (k : Int) % (S : Int) < m := by omega
                go_wp2_with fail
                go_quiet (fail)
                have kq : Ext wr (wr.drewN nq) := (Ext.refl wr).drewN nq
                have hO1 := Lib.hid (own_extL hO.out kq)
                have hE1 := Lib.hid (hE.out.trans kq)
                have hs1 := hE1.out.size
                clear kq
                generalize wr.drewN nq = w4 at *
                go_wp2_with (at_builtin; go_loud (refine wpList_append_own _ rfl _ _ 38 rfl w2.heap.size 3 i0' (.int .i64 0) 1 8 Try.underlying38 hii hz0 hz1 hz2 rfl (by decide) _ _ _ rfl (hO1.out.alloc _) ⟨_, 0, none⟩ 1 1 [.int .i64 ((k : Int) / (S : Int) * P + (k : Int) % (S : Int))] rfl rfl one_cellL one_intL (by unfold maxLen; omega) (by omega) (by simp; omega) ?_; intro v3 w3 hown3 hgrow3 hfree3))
                go_roundw
                case rel =>
                  refine ⟨k + 1, by omega, by go_num, Lib.hid ?_, Lib.hid ?_, Lib.hid ?_⟩
                  · rw [List.range_succ, List.map_append, i64s_app]
                    exact hown3
                  · exact ext_grownL (hE1.out.alloc _) (hO1.out.alloc _) (Nat.le_refl _) hgrow3
                  · intro j hj
                    rcases Nat.lt_or_ge j k with g | g
                    · exact hF.out j g
                    · obtain rfl : k = j := by omega
                      rw [HSP.out]; exact hm'
                case measure => simp [intOf]; omega
            · obtain rfl : K = k := by omega
              obtain ⟨A', c', rfl, hz, hf⟩ := rdZ_of_own hO.out
              have HZ := Lib.hid hz
              have HE := Lib.hid (show slotsR [a, b, d] 1 m = .ok ((List.range K).map (slotP (S : Int) P)) by rw [HR.out, HRR.out, if_neg (by have := hF.out (K - 1) (by omega); omega)])
              clear hz hf
              go_wp2
              go_ret2
              refine .inl ⟨_, A', c', HE.out, ?_, ?_, ?_, KD.out.trans hE.out⟩
              · rw [List.length_map, List.length_range]; rfl
              · rw [List.length_map, List.length_range]; exact HZ.out
              · rw [List.length_map, List.length_range]; exact K2
    · have h3' : ¬ ((n : Int) = 3) := by omega
      have h3b : ((n : Int) == 3) = false := by simp; omega
      have HC := Lib.hid (show chanL l 1 = (K : Int) by unfold chanL; rw [if_neg (by omega), hK])
      have HP := Lib.hid (show pitL l 1 = (K : Int) by unfold pitL; rw [if_neg (by omega), hK])
      rw [hK]
      clear hlen hle h0 hK hy
      have HRR := Lib.hid (show slotL l 1 = slotP K K by unfold slotL; rw [HC.out, HP.out])
      rw [HC.out, HP.out] at hcp
      have KD := Lib.hid (Ext.refl w1)
      obtain ⟨t0, t1, t2, t3⟩ := hcp.out
      go_wp2_with fail
      go_loopw [11, 12] (fun ov i wr => ∃ k : Nat, k ≤ K ∧ i = .int .i64 (k : Int) ∧ Hid (wr.ownsRow w1.heap.size 3 1 ov k (i64s ((List.range k).map (slotP K K)))) ∧ Hid (Ext w1 wr) ∧ Hid (∀ j, j < k → slotP K K j < m)) (fun _ i _ => K - (intOf i).toNat)
      case atStart => exact ⟨0, by omega, rfl, Lib.hid (World.ownsRow_nil _ _ _ _), Lib.hid (Ext.refl _), Lib.hid (fun j h => absurd h (by omega))⟩
      case round =>
        obtain ⟨k, hk, rfl, hO, hE, hF⟩ := hrel
        by_cases hlt : k < K
        · have top := slotP_top t0 t1 t2 t3 (show k < 64 by omega)
          have hsl : slotP K K k = (k : Int) / (K : Int) * (K : Int) + (k : Int) % (K : Int) := rfl
          have HSP := Lib.hid hsl
          have hmono := Lib.hid (slotP_le t0 t2 (show k ≤ K - 1 by omega))
          have n0 : ¬ (K : Int) = 0 := by omega
          have q0 : ¬ K = 0 := by omega
          have td : (k : Int).tdiv (K : Int) = (k : Int) / (K : Int) := Int.tdiv_eq_ediv_of_nonneg (by omega)
          have tm : (k : Int).tmod (K : Int) = (k : Int) % (K : Int) := Int.tmod_eq_emod_of_nonneg (by omega)
          have hs0 := hE.out.size
          clear hsl
          by_cases hm : m ≤ (k : Int) / (K : Int) * (K : Int) + (k : Int) % (K : Int)
          · have HE := Lib.hid (show slotsR l 1 m = .error 7 by rw [HR.out, HRR.out, if_pos (Int.le_trans (by rw [HSP.out]; exact hm) hmono.out)])
            go_wp2_with fail
            go_quiet (fail)
            go_wp2
            go_ret2
            exact .inr ⟨7, HE.out, by omega, by omega, rfl, KD.out.trans (hE.out.drewN _)⟩
          · have hm' : (k : Int) / (K : Int) * (K : Int) + (k : Int) % (K : Int) < m := by omega
            go_wp2_with fail
            go_quiet (fail)
            have kq : Ext wr (wr.drewN nq) := (Ext.refl wr).drewN nq
            have hO1 := Lib.hid (own_extL hO.out kq)
            have hE1 := Lib.hid (hE.out.trans kq)
            have hs1 := hE1.out.size
            clear kq
            generalize wr.drewN nq = w4 at *
            go_wp2_with (at_builtin; go_loud (refine wpList_append_own _ rfl _ _ 38 rfl w1.heap.size 3 i0' (.int .i64 0) 1 8 Try.underlying38 hii hz0 hz1 hz2 rfl (by decide) _ _ _ rfl (hO1.out.alloc _) ⟨_, 0, none⟩ 1 1 [.int .i64 ((k : Int) / (K : Int) * (K : Int) + (k : Int) % (K : Int))] rfl rfl one_cellL one_intL (by unfold maxLen; omega) (by omega) (by simp; omega) ?_; intro v3 w3 hown3 hgrow3 hfree3))
            go_roundw
            case rel =>
              refine ⟨k + 1, by omega, by go_num, Lib.hid ?_, Lib.hid ?_, Lib.hid ?_⟩
              · rw [List.range_succ, List.map_append, i64s_app]
                exact hown3
              · exact ext_grownL (hE1.out.alloc _) (hO1.out.alloc _) (Nat.le_refl _) hgrow3
              · intro j hj
                rcases Nat.lt_or_ge j k with g | g
                · exact hF.out j g
                · obtain rfl : k = j := by omega
                  rw [HSP.out]; exact hm'
            case measure => simp [intOf]; omega
        · obtain rfl : K = k := by omega
          obtain ⟨A', c', rfl, hz, hf⟩ := rdZ_of_own hO.out
          have HZ := Lib.hid hz
          have HE := Lib.hid (show slotsR l 1 m = .ok ((List.range K).map (slotP K K)) by rw [HR.out, HRR.out, if_neg (by have := hF.out (K - 1) (by omega); omega)])
          clear hz hf
          go_wp2
          go_ret2
          refine .inl ⟨_, A', c', HE.out, ?_, ?_, ?_, KD.out.trans hE.out⟩
          · rw [List.length_map, List.length_range]; rfl
          · rw [List.length_map, List.length_range]; exact HZ.out
          · rw [List.length_map, List.length_range]; exact K2
end Go.Proofs.Ytdnjjpkajiehgaa
