/-
  What Search of the reference of layer 3 answers.
-/
import Derived.Test.YtieeomjlmdlcbaaDoorPFind
import Derived.Test.YtieeomjlmdlcbaaDoorPSame
namespace Go.Proofs.YtieeomjlmdlcbaaDoor
open Go.RowKit
set_option linter.unusedVariables false

theorem risS_any (n : Nat) (w : World) (hn : n < 18446744073709551616) :
    Calls Tryd.prog 10 #[.int .u64 (n : Int)] w fun e w' => e = .returned (.bool (isS n)) ∧ Ext w w' := by
  rw [is_same n]; exact ris_any n w hn
set_option maxHeartbeats 2000000 in
theorem rsearch_any (z : Int) (b : Nat) (c : Int) (w : World) (hz0 : -9223372036854775808 ≤ z) (hz1 : z < 9223372036854775808) (hb : b < 18446744073709551616) (hc0 : -9223372036854775808 ≤ c) (hc1 : c < 9223372036854775808) (hT : Tabs w) :
    Calls Tryd.prog 12 #[.int .i64 z, .int .u64 (b : Int), .int .i64 c] w (SPost z b c w) := by
  obtain ⟨i0, hi, hzz0, hzz1, hzz2⟩ := info_parts info_u64
  have HT := Lib.hid hT
  clear hT
  by_cases h1 : z < 4
  · go_enter Tryd.func12, Tryd.ntmps12
    go_wp2
    go_ret2
    exact .inl ⟨.inl h1, rfl, Ext.refl _⟩
  by_cases h2 : 61 < z
  · go_enter Tryd.func12, Tryd.ntmps12
    go_wp2
    go_ret2
    exact .inl ⟨.inr (.inl h2), rfl, Ext.refl _⟩
  cases h3 : stepS b
  · go_enter Tryd.func12, Tryd.ntmps12
    go_wp2_with fail
    refine (rstep_any b w hb).mono ?_
    rw [h3]
    rintro e w' ⟨rfl, rfl⟩
    go_wp2
    go_ret2
    exact .inl ⟨.inr (.inr (.inl h3)), rfl, Ext.refl _⟩
  by_cases h4 : c < 1
  · go_enter Tryd.func12, Tryd.ntmps12
    go_wp2_with fail
    refine (rstep_any b w hb).mono ?_
    rw [h3]
    rintro e w' ⟨rfl, rfl⟩
    go_wp2
    go_ret2
    exact .inl ⟨.inr (.inr (.inr (.inl h4))), rfl, Ext.refl _⟩
  by_cases h5 : 16 < c
  · go_enter Tryd.func12, Tryd.ntmps12
    go_wp2_with fail
    refine (rstep_any b w hb).mono ?_
    rw [h3]
    rintro e w' ⟨rfl, rfl⟩
    go_wp2
    go_ret2
    exact .inl ⟨.inr (.inr (.inr (.inr h5))), rfl, Ext.refl _⟩
  obtain ⟨s, rfl⟩ := Int.eq_ofNat_of_zero_le (show 0 ≤ z by omega)
  obtain ⟨m, rfl⟩ := Int.eq_ofNat_of_zero_le (show 0 ≤ c by omega)
  have HBAD := Lib.hid (show ¬ BadS (s : Int) b (m : Int) by
    rintro (h | h | h | h | h)
    · omega
    · omega
    · rw [h3] at h; cases h
    · omega
    · omega)
  have hs0 : 4 ≤ s := by omega
  have hs1 : s ≤ 61 := by omega
  have hm0 : 1 ≤ m := by omega
  have hm1 : m ≤ 16 := by omega
  have d1 : decide ((s : Int) < 4) = false := by simp; omega
  have d2 : decide ((61 : Int) < (s : Int)) = false := by simp; omega
  have d3 : decide ((m : Int) < 1) = false := by simp; omega
  have d4 : decide ((16 : Int) < (m : Int)) = false := by simp; omega
  obtain ⟨hb0, hb1⟩ := stepS_range h3
  have hS64 : (s : Int) < 64 := by omega
  clear h1 h2 h4 h5 hz0 hz1 hc0 hc1
  obtain ⟨P, hP⟩ : ∃ P : Nat, P = 2 ^ s := ⟨_, rfl⟩
  have hP0 : 16 ≤ P := by rw [hP]; exact Nat.le_trans (by decide) (Nat.pow_le_pow_right (show 0 < 2 by omega) hs0)
  have hP1 : P ≤ 2305843009213693952 := by rw [hP]; exact Nat.le_trans (Nat.pow_le_pow_right (show 0 < 2 by omega) hs1) (by decide)
  obtain ⟨Q, hQ⟩ : ∃ Q : Nat, Q = 2 ^ (s - 1) := ⟨_, rfl⟩
  have hPQ : P = 2 * Q := by rw [hP, hQ, ← Nat.pow_succ']; congr 1; omega
  have hE : IntKind.u64.wrap ((2 : Int) ^ (s - 1)) = (Q : Int) := by
    rw [IntKind.wrap_u64, show ((2 : Int) ^ (s - 1)) = (Q : Int) by rw [hQ, Int.natCast_pow]; rfl]
    omega
  obtain ⟨q, hq⟩ : ∃ q : Nat, q = (P - 2) / b := ⟨_, rfl⟩
  have hqi : (2 * (Q : Int) - 2) / (b : Int) = (q : Int) := by rw [hq, Int.natCast_ediv]; congr 1; omega
  have hqb : q * b ≤ P - 2 := by rw [hq]; exact Nat.div_mul_le_self _ _
  have hqc : (q : Int) * (b : Int) = ((q * b : Nat) : Int) := (Int.natCast_mul _ _).symm
  have hqb0 : (0 : Int) ≤ (q : Int) * (b : Int) := by rw [hqc]; omega
  have hqb1 : (q : Int) * (b : Int) ≤ 2 * (Q : Int) - 2 := by rw [hqc]; omega
  have HQC := Lib.hid hqc
  have HPP := Lib.hid hP
  have HQQ := Lib.hid hq
  have hlo : (2 : Nat) ^ (s - 1) = P / 2 := by
    rw [hP, show s = (s - 1) + 1 by omega, Nat.pow_succ, Nat.add_sub_cancel, Nat.mul_div_cancel _ (by omega)]
  have HSP := Lib.hid (show ∀ e w', (∃ k, Gone (P / 2) b q m k ∧ ((num b q k ≤ P / 2 ∧ (filt b q k).length < m ∧ e = .returned (.tuple #[.slice none 0 0, .int .i64 7]) ∧ Ext w w') ∨ ((filt b q k).length = m ∧ ∃ A n cp, e = .returned (.tuple #[.slice A n cp, .int .i64 0]) ∧ NX w' A n cp (filt b q k) ∧ Ext w w'))) → SPost (s : Int) b (m : Int) w e w' from fun e w' hh => by
    refine .inr ⟨HBAD.out, ?_⟩
    rw [Int.toNat_natCast, Int.toNat_natCast, hlo, ← hP, ← hq]
    exact hh)
  have HNB := Lib.hid (show ∀ k, k ≤ q → num b q k ≤ 2305843009213693951 from fun k hk => by
    unfold num
    have := Nat.mul_le_mul_right b (show q - k ≤ q by omega)
    omega)
  have hPh : P / 2 = Q := by omega
  have hQ0 : 8 ≤ Q := by omega
  have hQ1 : Q ≤ 1152921504606846976 := by omega
  rw [hPh] at HSP
  have hsm : ((s : Int) - 1) = ((s - 1 : Nat) : Int) := by omega
  have hsb : s - 1 < 64 := by omega
  clear hP hq hqc hlo hqb hPQ hQ hP0 hP1 hPh HPP
  go_enter Tryd.func12, Tryd.ntmps12
  go_wp2_with fail
  refine (rstep_any b w hb).mono ?_
  rw [h3]
  rintro e w' ⟨rfl, rfl⟩
  go_wp2
  try rw [hqi]
  clear hqi hsm hE
  go_loopw [8, 10] (fun v nv wr => ∃ (k : Nat), nv = .int .u64 ((num b q k : Nat) : Int) ∧ URow w.heap.size w wr v (filt b q k).length (filt b q k) ∧ Gone Q b q m k ∧ (filt b q k).length ≤ m) (fun _ nv _ => (intOf nv).toNat)
  case atStart =>
    refine ⟨0, u64_eq ?_, URow.nil w, ⟨by omega, fun j hj => by omega⟩, by simp [filt]⟩
    unfold num
    have := HQC.out
    rw [Nat.sub_zero]
    omega
  case round =>
    obtain ⟨k, rfl, hrow, hg, hlen⟩ := hrel
    obtain ⟨A1, c1, rfl, hr1⟩ := rd_of_own hrow.1 hrow.2.2
    have hNB := HNB.out k hg.1
    have HG := Lib.hid hg
    have HNX := Lib.hid (fun h => num_next (b := b) (q := q) (k := k) (lo := Q) hg.1 hb0 (by omega) h)
    have hsz := hrow.2.1.size
    have HL := Lib.hid (show ∀ r, isS (num b q k) = r → r = true → filt b q (k + 1) = filt b q k ++ [num b q k] from fun r h1 h2 => filt_yes (h1.trans h2))
    have HL2 := Lib.hid (show ∀ r, isS (num b q k) = r → r = false → filt b q (k + 1) = filt b q k from fun r h1 h2 => filt_no (h1.trans h2))
    obtain ⟨N, hN⟩ : ∃ N, N = num b q k := ⟨_, rfl⟩
    rw [← hN] at hNB HL HL2 ⊢
    have HN := Lib.hid hN
    obtain ⟨F, hF⟩ : ∃ F, F = filt b q k := ⟨_, rfl⟩
    rw [← hF] at hrow hr1 hlen HL HL2 ⊢
    have HF := Lib.hid hF
    obtain ⟨L, hLL⟩ : ∃ L, L = F.length := ⟨_, rfl⟩
    rw [← hLL] at hrow hr1 hlen ⊢
    have HLL := Lib.hid hLL
    clear hN hF hLL hg
    by_cases hLm : L < m
    · by_cases hle : N ≤ Q
      · have HX := Lib.hid (show num b q k ≤ Q ∧ (filt b q k).length < m by rw [← HN.out, ← HF.out, ← HLL.out]; exact ⟨hle, hLm⟩)
        go_wp2
        go_ret2
        exact HSP.out _ _ ⟨k, HG.out, .inl ⟨HX.out.1, HX.out.2, rfl, hrow.2.1⟩⟩
      · obtain ⟨n1, n2, n3⟩ := HNX.out (by rw [← HN.out]; omega)
        rw [← HN.out] at n2 n3
        have HG2 := Lib.hid (show Gone Q b q m (k + 1) from ⟨n1, fun j hj => by
          rcases Nat.lt_or_eq_of_le (Nat.le_of_lt_succ hj) with h | h
          · exact HG.out.2 j h
          · rw [h, ← HN.out, ← HF.out, ← HLL.out]; exact ⟨by omega, hLm⟩⟩)
        have HN3 := Lib.hid n3
        clear n3
        go_wp2_with fail
        refine (risS_any N _ (by omega)).mono ?_
        rintro e w2 ⟨rfl, k2⟩
        have hrow2 := hrow.ext hsz k2
        have hsz2 := hrow2.2.1.size
        cases hp : isS N
        · have HF2 := Lib.hid (HL2.out _ hp rfl)
          go_wp2
          refine ⟨⟨k + 1, by rw [← HN3.out]; go_num, ?_, HG2.out, ?_⟩, by simp [intOf] <;> omega⟩
          · rw [HF2.out, ← HLL.out]; exact hrow2
          · rw [HF2.out, ← HLL.out]; omega
        · have HF2 := Lib.hid (HL.out _ hp rfl)
          go_wp2_with (at_builtin; go_loud (refine wpList_append_own _ rfl _ _ 27 rfl w.heap.size 22 i0 (.int .u64 0) 1 8 Tryd.underlying27 hi hzz0 hzz1 hzz2 rfl (by decide) _ _ _ rfl (hrow2.1.alloc _) ⟨_, 0, none⟩ 1 1 [.int .u64 (N : Int)] rfl rfl one_cell one_int (by unfold maxLen; omega) (by omega) (by simp; omega) ?_; intro v2 w3 hown2 hgrow2 _))
          refine ⟨⟨k + 1, by rw [← HN3.out]; go_num, ?_, HG2.out, ?_⟩, by simp [intOf] <;> omega⟩
          · rw [HF2.out, List.length_append, ← HLL.out]; exact hrow2.push hsz2 (by rw [W64_eq]; omega) hown2 hgrow2
          · rw [HF2.out, List.length_append, ← HLL.out]; simp; omega
    · have hLe : L = m := by omega
      subst hLe
      have HX := Lib.hid (show (filt b q k).length = L by rw [← HF.out, ← HLL.out])
      clear hLm
      go_wp2
      go_ret2
      exact HSP.out _ _ ⟨k, HG.out, .inr ⟨HX.out, A1, L, c1, rfl, by rw [← HF.out]; exact hr1, hrow.2.1⟩⟩
end Go.Proofs.YtieeomjlmdlcbaaDoor
