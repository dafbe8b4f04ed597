/-
  In which slots entries stand: the program's answer.
-/
import Derived.Test.YtdnjjpkajiehgaaLPow
import Derived.Test.YtdnjjpkajiehgaaLMem
import Derived.StillTailTactics
import Derived.BigRegion
namespace Go.Proofs.Ytdnjjpkajiehgaa
open Go.RowKit
set_option linter.unusedVariables false
set_option maxRecDepth 100000

/-- What Slots answers, in memory. -/
def SlPost (w : World) (r : Except Nat (List Int)) (e : Ending) (w' : World) : Prop :=
  (∃ (l : List Int) (A : Option Addr) (c : Nat), r = .ok l ∧ e = .returned (.tuple #[.slice A l.length c, .int .i64 0]) ∧ ZX w' A l.length c l ∧ l.length ≤ 64 ∧ Ext w w') ∨
    ∃ n : Nat, r = .error n ∧ 1 ≤ n ∧ n ≤ 7 ∧ e = .returned (.tuple #[.slice none 0 0, .int .i64 (n : Int)]) ∧ Ext w w'
theorem three_cells {w : World} {ad : Addr} {n c : Nat} {a b d : Int} (h : ZX w (some ad) n c [a, b, d]) : w.cell? ⟨ad.block, ad.off + 1, none⟩ = some (.int .i64 b) ∧ w.cell? ⟨ad.block, ad.off + 2, none⟩ = some (.int .i64 d) := by
  obtain ⟨ad', e, hc⟩ := h.cells (by have := h.len; simp at this; omega)
  injection e with e
  subst e
  exact ⟨hc 1 b rfl, hc 2 d rfl⟩
set_option maxHeartbeats 4000000 in
theorem slots_any (A : Option Addr) (n c : Nat) (l : List Int) (y m : Int) (w : World) (hX : Hid (ZX w A n c l)) :
    Calls Try.prog 31 #[.slice A n c, .int .i64 y, .int .i64 m] w fun e w' => SlPost w (slotsR l y m) e w' := by
  have hlen := hX.out.len
  have hle := entN_le l
  go_enter Try.func31, Try.ntmps31
  go_wp2_with fail
  refine (ent_any A n c l w hX).mono ?_
  rintro e1 w1 ⟨rfl, rfl⟩
  by_cases h0 : entN l = 0
  · have HR := Lib.hid (show slotsR l y m = .error 4 by unfold slotsR; rw [if_pos (.inl h0)])
    rw [h0]
    clear hlen hle h0
    go_wp2
    go_ret2
    exact .inr ⟨4, HR.out, by omega, by omega, rfl, Ext.refl _⟩
  obtain ⟨K, hK⟩ : ∃ K : Nat, entN l = (K : Int) := ⟨(entN l).toNat, by omega⟩
  have K1 : 1 ≤ K := by omega
  have K2 : K ≤ 64 := by omega
  by_cases hy : y ≠ 0 ∧ y ≠ 1
  · have HR := Lib.hid (show slotsR l y m = .error 4 by unfold slotsR; rw [if_pos (.inr hy)])
    have b0 : (y != 0) = true := by simp; exact hy.1
    have b1 : (y != 1) = true := by simp; exact hy.2
    rw [hK]
    have b2 : ((K : Int) == 0) = false := by simp; omega
    clear hlen hle h0 hK hy
    go_wp2
    go_ret2
    exact .inr ⟨4, HR.out, by omega, by omega, rfl, Ext.refl _⟩
  have hcp := Lib.hid (chan_pos (l := l) (y := y) (by omega))
  have HR := Lib.hid (show slotsR l y m = if m ≤ slotL l y (K - 1) then .error 7 else .ok ((List.range K).map (slotL l y)) by
    unfold slotsR
    rw [if_neg (by omega), hK, Int.toNat_natCast])
  have b2 : ((K : Int) == 0) = false := by simp; omega
  rcases (show y = 0 ∨ y = 1 by omega) with rfl | rfl
  · have HC := Lib.hid (show chanL l 0 = (K : Int) by unfold chanL; rw [if_neg (by omega), hK])
    have HP := Lib.hid (show pitL l 0 = (K : Int) by unfold pitL; rw [if_neg (by omega), hK])
    rw [hK]
    clear hlen hle h0 hK hy
    have HRR := Lib.hid (show slotL l 0 = slotP K K by unfold slotL; rw [HC.out, HP.out])
    rw [HC.out, HP.out] at hcp
    have KD := Lib.hid (Ext.refl w1)
    obtain ⟨t0, t1, t2, t3⟩ := hcp.out
    have hmk := make_intL K (by omega) w1
    have kM : Ext w1 (w1.alloc (.cells ((List.range K).map fun _ => Value.int .i64 0).toArray 3)) := (Ext.refl w1).alloc _
    have hI : IL (w1.alloc (.cells ((List.range K).map fun _ => Value.int .i64 0).toArray 3)) w1.heap.size K (fun _ => 0) := RL.new w1 3 K _
    have HS := Lib.hid (show w1.heap.size ≤ w1.heap.size from Nat.le_refl _)
    go_wp2_with fail
    clear hmk
    generalize w1.alloc (.cells ((List.range K).map fun _ => Value.int .i64 0).toArray 3) = V at *
    obtain ⟨g, hg⟩ : ∃ g, w1.heap.size = g := ⟨_, rfl⟩
    rw [hg] at hI HS ⊢
    have HG := Lib.hid hg
    clear hg
    go_loopw [47] (fun i wr => ∃ k : Nat, k ≤ K ∧ i = .int .i64 (k : Int) ∧ IL wr g K (fun j => if j < k then slotP K K j else 0) ∧ On g V wr) (fun i _ => K - (intOf i).toNat)
    case atStart => exact ⟨0, by omega, rfl, hI.congr fun j _ => by rw [if_neg (by omega)], On.refl _ _⟩
    case round =>
      obtain ⟨k, hk, rfl, hu, ho⟩ := hrel
      by_cases hlt : k < K
      · have top := slotP_top t0 t1 t2 t3 (show k < 64 by omega)
        have i0 : (0 : Int) ≤ (k : Int) := by omega
        have i1 : (k : Int) < (K : Int) := by omega
        have n0 : ¬ (K : Int) = 0 := by omega
        have q0 : ¬ K = 0 := by omega
        have td : (k : Int).tdiv (K : Int) = (k : Int) / (K : Int) := Int.tdiv_eq_ediv_of_nonneg (by omega)
        have tm : (k : Int).tmod (K : Int) = (k : Int) % (K : Int) := Int.tmod_eq_emod_of_nonneg (by omega)
        have fz := RL.frozen (show RL wr g 3 K _ from hu) k
        have HU := Lib.hid hu
        have HO := Lib.hid ho
        clear hI hu ho
        go_wp2_with fail
        go_still_tail 12, (by kernel_rfl)
        change wpList _ _ _ _ _ wr.drew
        have fz : wr.drew.frozen? ⟨g, k, none⟩ = false := fz
        have HU := Lib.hid (show IL wr.drew g K (fun j => if j < k then slotP K K j else 0) from HU.out)
        have HO : Hid (On g V wr.drew) := Lib.hid (HO.out.trans (On.of ((Ext.refl wr).drew)))
        generalize wr.drew = W at *
        have cl := RL.cell (show RL W g 3 K _ from HU.out) hlt
        go_wp2
        exact ⟨⟨k + 1, by omega, by go_num, (IL.set HU.out hlt _).congr fun j _ => by
          by_cases e : j = k
          · subst e; rw [if_pos rfl, if_pos (by omega)]; rfl
          · rw [if_neg e]
            by_cases e2 : j < k
            · rw [if_pos e2, if_pos (by omega)]
            · rw [if_neg e2, if_neg (by omega)], HO.out.set k _⟩, by simp [intOf]; omega⟩
      · obtain rfl : K = k := by omega
        have HZ := Lib.hid (show ZX wr (some ⟨g, 0, none⟩) K K ((List.range K).map (slotP K K)) from (IL.congr hu (fun j hj => by rw [if_pos hj])).zx)
        have cl := RL.cell (show RL wr g 3 K _ from hu) (show K - 1 < K by omega)
        dsimp only at cl
        rw [if_pos (by omega)] at cl
        have hst := slotP_nonneg t0 t2 (K - 1)
        have KE := Lib.hid (show Ext w1 wr from below_only (KD.out.trans kM) ho (KD.out.trans kM).size (by rw [← HG.out]; exact KD.out.size))
        have i0 : (0 : Int) ≤ (K : Int) - 1 := by omega
        have i1 : (K : Int) - 1 < (K : Int) := by omega
        have e1 : ((K : Int) - 1).toNat = K - 1 := by omega
        by_cases hm : m ≤ slotP K K (K - 1)
        · have HE := Lib.hid (show slotsR l 0 m = .error 7 by rw [HR.out, HRR.out, if_pos hm])
          generalize slotP K K (K - 1) = z at *
          clear hu ho hI
          go_wp2
          go_ret2
          exact .inr ⟨7, HE.out, by omega, by omega, rfl, KE.out⟩
        · have HE := Lib.hid (show slotsR l 0 m = .ok ((List.range K).map (slotP K K)) by rw [HR.out, HRR.out, if_neg hm])
          generalize slotP K K (K - 1) = z at *
          clear hu ho hI
          go_wp2
          go_ret2
          refine .inl ⟨_, some ⟨g, 0, none⟩, K, HE.out, ?_, ?_, ?_, KE.out⟩
          · rw [List.length_map, List.length_range]; rfl
          · rw [List.length_map, List.length_range]; exact HZ.out
          · rw [List.length_map, List.length_range]; exact K2
  · by_cases h3 : n = 3
    · subst h3
      obtain ⟨a, b, d, rfl⟩ : ∃ a b d, l = [a, b, d] := by
        match l, hlen with
        | [a, b, d], _ => exact ⟨a, b, d, rfl⟩
      have HC := Lib.hid (show chanL [a, b, d] 1 = b * d by unfold chanL; rw [if_pos ⟨rfl, rfl⟩]; rfl)
      have HP := Lib.hid (show pitL [a, b, d] 1 = powL (b * d) by unfold pitL; rw [if_pos ⟨rfl, rfl⟩]; rfl)
      have hth := three_of (a := a) (b := b) (c := d) (by omega)
      obtain ⟨ad, rfl, _⟩ := hX.out.cells (by omega)
      obtain ⟨x1, x2⟩ := three_cells hX.out
      rw [hK]
      clear hlen hle h0 hK hy
      have HRR := Lib.hid (show slotL [a, b, d] 1 = slotP (b * d) (powL (b * d)) by unfold slotL; rw [HC.out, HP.out])
      rw [HC.out, HP.out] at hcp
      clear HC HP
      obtain ⟨_, _, _, g1, g2⟩ := hth
      have gw : IntKind.i64.wrap (b * d) = b * d := by rw [IntKind.wrap_i64]; omega
      obtain ⟨B, hB⟩ : ∃ B : Nat, b * d = (B : Int) := ⟨(b * d).toNat, by omega⟩
      rw [hB] at gw HRR hcp g1 g2
      go_wp2_with fail
      go_quiet (fail)
      go_wp2_with fail
      have KD := Lib.hid (show Ext w1 (w1.drewN nq) from (Ext.refl w1).drewN nq)
      generalize w1.drewN nq = w2 at *
      refine (pow_any B w2 (by omega) (by omega)).mono ?_
      rintro e2 w3 ⟨rfl, rfl⟩
      have hB := Lib.hid hB
      generalize powL (B : Int) = P at *
      clear gw x1 x2
      obtain ⟨t0, t1, t2, t3⟩ := hcp.out
      have hmk := make_intL K (by omega) w2
      have kM : Ext w2 (w2.alloc (.cells ((List.range K).map fun _ => Value.int .i64 0).toArray 3)) := (Ext.refl w2).alloc _
      have hI : IL (w2.alloc (.cells ((List.range K).map fun _ => Value.int .i64 0).toArray 3)) w2.heap.size K (fun _ => 0) := RL.new w2 3 K _
      have HS := Lib.hid (show w2.heap.size ≤ w2.heap.size from Nat.le_refl _)
      go_wp2_with fail
      clear hmk
      generalize w2.alloc (.cells ((List.range K).map fun _ => Value.int .i64 0).toArray 3) = V at *
      obtain ⟨g, hg⟩ : ∃ g, w2.heap.size = g := ⟨_, rfl⟩
      rw [hg] at hI HS ⊢
      have HG := Lib.hid hg
      clear hg
      go_loopw [47] (fun i wr => ∃ k : Nat, k ≤ K ∧ i = .int .i64 (k : Int) ∧ IL wr g K (fun j => if j < k then slotP (B : Int) P j else 0) ∧ On g V wr) (fun i _ => K - (intOf i).toNat)
      case atStart => exact ⟨0, by omega, rfl, hI.congr fun j _ => by rw [if_neg (by omega)], On.refl _ _⟩
      case round =>
        obtain ⟨k, hk, rfl, hu, ho⟩ := hrel
        by_cases hlt : k < K
        · have top := slotP_top t0 t1 t2 t3 (show k < 64 by omega)
          have i0 : (0 : Int) ≤ (k : Int) := by omega
          have i1 : (k : Int) < (K : Int) := by omega
          have n0 : ¬ (B : Int) = 0 := by omega
          have q1 : ¬ B = 0 := by omega
          have q0 : ¬ K = 0 := by omega
          have td : (k : Int).tdiv (B : Int) = (k : Int) / (B : Int) := Int.tdiv_eq_ediv_of_nonneg (by omega)
          have tm : (k : Int).tmod (B : Int) = (k : Int) % (B : Int) := Int.tmod_eq_emod_of_nonneg (by omega)
          have fz := RL.frozen (show RL wr g 3 K _ from hu) k
          have HU := Lib.hid hu
          have HO := Lib.hid ho
          clear hI hu ho
          go_wp2_with fail
          go_still_tail 12, (by kernel_rfl)
          change wpList _ _ _ _ _ wr.drew
          have fz : wr.drew.frozen? ⟨g, k, none⟩ = false := fz
          have HU := Lib.hid (show IL wr.drew g K (fun j => if j < k then slotP (B : Int) P j else 0) from HU.out)
          have HO : Hid (On g V wr.drew) := Lib.hid (HO.out.trans (On.of ((Ext.refl wr).drew)))
          generalize wr.drew = W at *
          have cl := RL.cell (show RL W g 3 K _ from HU.out) hlt
          go_wp2
          exact ⟨⟨k + 1, by omega, by go_num, (IL.set HU.out hlt _).congr fun j _ => by
            by_cases e : j = k
            · subst e; rw [if_pos rfl, if_pos (by omega)]; rfl
            · rw [if_neg e]
              by_cases e2 : j < k
              · rw [if_pos e2, if_pos (by omega)]
              · rw [if_neg e2, if_neg (by omega)], HO.out.set k _⟩, by simp [intOf]; omega⟩
        · obtain rfl : K = k := by omega
          have HZ := Lib.hid (show ZX wr (some ⟨g, 0, none⟩) K K ((List.range K).map (slotP (B : Int) P)) from (IL.congr hu (fun j hj => by rw [if_pos hj])).zx)
          have cl := RL.cell (show RL wr g 3 K _ from hu) (show K - 1 < K by omega)
          dsimp only at cl
          rw [if_pos (by omega)] at cl
          have hst := slotP_nonneg t0 t2 (K - 1)
          have KE := Lib.hid (show Ext w1 wr from below_only (KD.out.trans kM) ho (KD.out.trans kM).size (by rw [← HG.out]; exact KD.out.size))
          have i0 : (0 : Int) ≤ (K : Int) - 1 := by omega
          have i1 : (K : Int) - 1 < (K : Int) := by omega
          have e1 : ((K : Int) - 1).toNat = K - 1 := by omega
          by_cases hm : m ≤ slotP (B : Int) P (K - 1)
          · have HE := Lib.hid (show slotsR [a, b, d] 1 m = .error 7 by rw [HR.out, HRR.out, if_pos hm])
            generalize slotP (B : Int) P (K - 1) = z at *
            clear hu ho hI
            go_wp2
            go_ret2
            exact .inr ⟨7, HE.out, by omega, by omega, rfl, KE.out⟩
          · have HE := Lib.hid (show slotsR [a, b, d] 1 m = .ok ((List.range K).map (slotP (B : Int) P)) by rw [HR.out, HRR.out, if_neg hm])
            generalize slotP (B : Int) P (K - 1) = z at *
            clear hu ho hI
            go_wp2
            go_ret2
            refine .inl ⟨_, some ⟨g, 0, none⟩, K, HE.out, ?_, ?_, ?_, KE.out⟩
            · rw [List.length_map, List.length_range]; rfl
            · rw [List.length_map, List.length_range]; exact HZ.out
            · rw [List.length_map, List.length_range]; exact K2
    · have h3' : ¬ ((n : Int) = 3) := by omega
      have h3b : ((n : Int) == 3) = false := by simp; omega
      have HC := Lib.hid (show chanL l 1 = (K : Int) by unfold chanL; rw [if_neg (by omega), hK])
      have HP := Lib.hid (show pitL l 1 = (K : Int) by unfold pitL; rw [if_neg (by omega), hK])
      rw [hK]
      clear hlen hle h0 hK hy
      have HRR := Lib.hid (show slotL l 1 = slotP K K by unfold slotL; rw [HC.out, HP.out])
      rw [HC.out, HP.out] at hcp
      have KD := Lib.hid (Ext.refl w1)
      obtain ⟨t0, t1, t2, t3⟩ := hcp.out
      have hmk := make_intL K (by omega) w1
      have kM : Ext w1 (w1.alloc (.cells ((List.range K).map fun _ => Value.int .i64 0).toArray 3)) := (Ext.refl w1).alloc _
      have hI : IL (w1.alloc (.cells ((List.range K).map fun _ => Value.int .i64 0).toArray 3)) w1.heap.size K (fun _ => 0) := RL.new w1 3 K _
      have HS := Lib.hid (show w1.heap.size ≤ w1.heap.size from Nat.le_refl _)
      go_wp2_with fail
      clear hmk
      generalize w1.alloc (.cells ((List.range K).map fun _ => Value.int .i64 0).toArray 3) = V at *
      obtain ⟨g, hg⟩ : ∃ g, w1.heap.size = g := ⟨_, rfl⟩
      rw [hg] at hI HS ⊢
      have HG := Lib.hid hg
      clear hg
      go_loopw [47] (fun i wr => ∃ k : Nat, k ≤ K ∧ i = .int .i64 (k : Int) ∧ IL wr g K (fun j => if j < k then slotP K K j else 0) ∧ On g V wr) (fun i _ => K - (intOf i).toNat)
      case atStart => exact ⟨0, by omega, rfl, hI.congr fun j _ => by rw [if_neg (by omega)], On.refl _ _⟩
      case round =>
        obtain ⟨k, hk, rfl, hu, ho⟩ := hrel
        by_cases hlt : k < K
        · have top := slotP_top t0 t1 t2 t3 (show k < 64 by omega)
          have i0 : (0 : Int) ≤ (k : Int) := by omega
          have i1 : (k : Int) < (K : Int) := by omega
          have n0 : ¬ (K : Int) = 0 := by omega
          have q0 : ¬ K = 0 := by omega
          have td : (k : Int).tdiv (K : Int) = (k : Int) / (K : Int) := Int.tdiv_eq_ediv_of_nonneg (by omega)
          have tm : (k : Int).tmod (K : Int) = (k : Int) % (K : Int) := Int.tmod_eq_emod_of_nonneg (by omega)
          have fz := RL.frozen (show RL wr g 3 K _ from hu) k
          have HU := Lib.hid hu
          have HO := Lib.hid ho
          clear hI hu ho
          go_wp2_with fail
          go_still_tail 12, (by kernel_rfl)
          change wpList _ _ _ _ _ wr.drew
          have fz : wr.drew.frozen? ⟨g, k, none⟩ = false := fz
          have HU := Lib.hid (show IL wr.drew g K (fun j => if j < k then slotP K K j else 0) from HU.out)
          have HO : Hid (On g V wr.drew) := Lib.hid (HO.out.trans (On.of ((Ext.refl wr).drew)))
          generalize wr.drew = W at *
          have cl := RL.cell (show RL W g 3 K _ from HU.out) hlt
          go_wp2
          exact ⟨⟨k + 1, by omega, by go_num, (IL.set HU.out hlt _).congr fun j _ => by
            by_cases e : j = k
            · subst e; rw [if_pos rfl, if_pos (by omega)]; rfl
            · rw [if_neg e]
              by_cases e2 : j < k
              · rw [if_pos e2, if_pos (by omega)]
              · rw [if_neg e2, if_neg (by omega)], HO.out.set k _⟩, by simp [intOf]; omega⟩
        · obtain rfl : K = k := by omega
          have HZ := Lib.hid (show ZX wr (some ⟨g, 0, none⟩) K K ((List.range K).map (slotP K K)) from (IL.congr hu (fun j hj => by rw [if_pos hj])).zx)
          have cl := RL.cell (show RL wr g 3 K _ from hu) (show K - 1 < K by omega)
          dsimp only at cl
          rw [if_pos (by omega)] at cl
          have hst := slotP_nonneg t0 t2 (K - 1)
          have KE := Lib.hid (show Ext w1 wr from below_only (KD.out.trans kM) ho (KD.out.trans kM).size (by rw [← HG.out]; exact KD.out.size))
          have i0 : (0 : Int) ≤ (K : Int) - 1 := by omega
          have i1 : (K : Int) - 1 < (K : Int) := by omega
          have e1 : ((K : Int) - 1).toNat = K - 1 := by omega
          by_cases hm : m ≤ slotP K K (K - 1)
          · have HE := Lib.hid (show slotsR l 1 m = .error 7 by rw [HR.out, HRR.out, if_pos hm])
            generalize slotP K K (K - 1) = z at *
            clear hu ho hI
            go_wp2
            go_ret2
            exact .inr ⟨7, HE.out, by omega, by omega, rfl, KE.out⟩
          · have HE := Lib.hid (show slotsR l 1 m = .ok ((List.range K).map (slotP K K)) by rw [HR.out, HRR.out, if_neg hm])
            generalize slotP K K (K - 1) = z at *
            clear hu ho hI
            go_wp2
            go_ret2
            refine .inl ⟨_, some ⟨g, 0, none⟩, K, HE.out, ?_, ?_, ?_, KE.out⟩
            · rw [List.length_map, List.length_range]; rfl
            · rw [List.length_map, List.length_range]; exact HZ.out
            · rw [List.length_map, List.length_range]; exact K2
end Go.Proofs.Ytdnjjpkajiehgaa
