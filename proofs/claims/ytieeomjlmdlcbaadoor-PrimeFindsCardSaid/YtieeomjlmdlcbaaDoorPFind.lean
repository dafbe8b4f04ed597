/-
  What Search of package prime answers.
-/
import Derived.Test.YtieeomjlmdlcbaaDoorPStep
namespace Go.Proofs.YtieeomjlmdlcbaaDoor
open Go.RowKit
set_option linter.unusedVariables false

/-- The numbers that are 1 modulo a step, falling. -/
def num (b q k : Nat) : Nat := (q - k) * b + 1
/-- Those of the first k of them that pass. -/
def filt (b q : Nat) : Nat → List Nat
  | 0 => []
  | k + 1 => filt b q k ++ (if isS (num b q k) = true then [num b q k] else [])
theorem filt_yes {b q k : Nat} (h : isS (num b q k) = true) : filt b q (k + 1) = filt b q k ++ [num b q k] := by rw [filt, if_pos h]
theorem filt_no {b q k : Nat} (h : isS (num b q k) = false) : filt b q (k + 1) = filt b q k := by rw [filt, if_neg (by rw [h]; decide), List.append_nil]
theorem filt_mono {b q : Nat} {j k : Nat} (h : j ≤ k) : (filt b q j).length ≤ (filt b q k).length := by
  induction k with
  | zero => rw [show j = 0 by omega]; exact Nat.le_refl _
  | succ k ih =>
    rcases Nat.lt_or_eq_of_le h with g | g
    · have := ih (by omega)
      rw [filt, List.length_append]; omega
    · rw [g]; exact Nat.le_refl _
theorem num_next {b q k lo : Nat} (hk : k ≤ q) (hb : 2 ≤ b) (hlo : 1 ≤ lo) (h : lo < num b q k) : k + 1 ≤ q ∧ b < num b q k ∧ num b q k - b = num b q (k + 1) := by
  unfold num at *
  rcases Nat.eq_zero_or_pos (q - k) with h0 | h0
  · rw [h0, Nat.zero_mul] at h; omega
  · obtain ⟨m, hm⟩ : ∃ m, q - k = m + 1 := ⟨q - k - 1, by omega⟩
    rw [hm, Nat.add_mul, Nat.one_mul] at h
    rw [show q - (k + 1) = m by omega, hm, Nat.add_mul, Nat.one_mul]
    refine ⟨by omega, by omega, by omega⟩
/-- Which arguments are refused. -/
def BadS (z : Int) (b : Nat) (c : Int) : Prop := z < 4 ∨ 61 < z ∨ stepS b = false ∨ c < 1 ∨ 16 < c
/-- The search has gone over k numbers, all of them above the least one, and not found enough before. -/
def Gone (lo b q c k : Nat) : Prop := k ≤ q ∧ ∀ j, j < k → lo < num b q j ∧ (filt b q j).length < c
/-- What a search answers. -/
def SPost (z : Int) (b : Nat) (c : Int) (w : World) (e : Ending) (w' : World) : Prop :=
  (BadS z b c ∧ e = .returned (.tuple #[.slice none 0 0, .int .i64 1]) ∧ Ext w w') ∨
  (¬ BadS z b c ∧ ∃ k, Gone (2 ^ (z.toNat - 1)) b ((2 ^ z.toNat - 2) / b) c.toNat k ∧
    ((num b ((2 ^ z.toNat - 2) / b) k ≤ 2 ^ (z.toNat - 1) ∧ (filt b ((2 ^ z.toNat - 2) / b) k).length < c.toNat ∧ e = .returned (.tuple #[.slice none 0 0, .int .i64 7]) ∧ Ext w w') ∨
     ((filt b ((2 ^ z.toNat - 2) / b) k).length = c.toNat ∧ ∃ A n cp, e = .returned (.tuple #[.slice A n cp, .int .i64 0]) ∧ NX w' A n cp (filt b ((2 ^ z.toNat - 2) / b) k) ∧ Ext w w')))

theorem info_u64 : (Tryd.prog.info? 22).map (fun i => (i.zero, i.size, i.bytes)) = some (some (.int .u64 0), 1, 8) := by kernel_rfl
/-- A row of words that a call is making, from nothing on. -/
def URow (B : Nat) (w0 w : World) (v : Value) (n : Nat) (zs : List Nat) : Prop := w.ownsRow B 22 1 v n (u64s zs) ∧ Below B w0 w ∧ (∀ x ∈ zs, x < W64)
theorem URow.nil (w : World) : URow w.heap.size w w (.slice none 0 0) 0 [] := ⟨World.ownsRow_nil _ _ _ _, Below.refl _ _, by simp⟩
theorem URow.push {B : Nat} {w0 w w1 : World} {v v' : Value} {n : Nat} {zs : List Nat} {z : Nat} {o : Obj} (h : URow B w0 w v n zs) (hB : B ≤ w.heap.size) (hz : z < W64)
    (h1 : w1.ownsRow B 22 1 v' (n + 1) (u64s zs ++ [Value.int .u64 (z : Int)])) (hg : (w.alloc o).grownBy w1 v.ownBlock) : URow B w0 w1 v' (n + 1) (zs ++ [z]) := by
  rw [u64s_snoc] at h1
  exact ⟨h1, (h.2.1.alloc hB o).grown hg (by simp; omega) (fun k e => (h.1.lt k e).1), snoc_lt h.2.2 hz⟩
theorem URow.ext {B : Nat} {w0 w w1 : World} {v : Value} {n : Nat} {zs : List Nat} (h : URow B w0 w v n zs) (hB : B ≤ w.heap.size) (k : Ext w w1) : URow B w0 w1 v n zs := by
  refine ⟨h.1.kept (row := none) ⟨k.os, k.tape, k.output, k.size, fun i hi _ => k.block i hi⟩ ?_, h.2.1.trans (Below.mono k hB), h.2.2⟩
  cases e : v.ownBlock
  · exact .inl rfl
  · exact .inr (by simp)

set_option maxHeartbeats 2000000 in
theorem search_any (z : Int) (b : Nat) (c : Int) (w : World) (hz0 : -9223372036854775808 ≤ z) (hz1 : z < 9223372036854775808) (hb : b < 18446744073709551616) (hc0 : -9223372036854775808 ≤ c) (hc1 : c < 9223372036854775808) (hT : Tabs w) :
    Calls Tryd.prog 11 #[.int .i64 z, .int .u64 (b : Int), .int .i64 c] w (SPost z b c w) := by
  obtain ⟨i0, hi, hzz0, hzz1, hzz2⟩ := info_parts info_u64
  have HT := Lib.hid hT
  clear hT
  by_cases h1 : z < 4
  · go_enter Tryd.func11, Tryd.ntmps11
    go_wp2
    go_ret2
    exact .inl ⟨.inl h1, rfl, Ext.refl _⟩
  by_cases h2 : 61 < z
  · go_enter Tryd.func11, Tryd.ntmps11
    go_wp2
    go_ret2
    exact .inl ⟨.inr (.inl h2), rfl, Ext.refl _⟩
  cases h3 : stepS b
  · go_enter Tryd.func11, Tryd.ntmps11
    go_wp2_with fail
    refine (order_any b w hb).mono ?_
    rw [h3]
    rintro e w' ⟨rfl, rfl⟩
    go_wp2
    go_ret2
    exact .inl ⟨.inr (.inr (.inl h3)), rfl, Ext.refl _⟩
  by_cases h4 : c < 1
  · go_enter Tryd.func11, Tryd.ntmps11
    go_wp2_with fail
    refine (order_any b w hb).mono ?_
    rw [h3]
    rintro e w' ⟨rfl, rfl⟩
    go_wp2
    go_ret2
    exact .inl ⟨.inr (.inr (.inr (.inl h4))), rfl, Ext.refl _⟩
  by_cases h5 : 16 < c
  · go_enter Tryd.func11, Tryd.ntmps11
    go_wp2_with fail
    refine (order_any b w hb).mono ?_
    rw [h3]
    rintro e w' ⟨rfl, rfl⟩
    go_wp2
    go_ret2
    exact .inl ⟨.inr (.inr (.inr (.inr h5))), rfl, Ext.refl _⟩
  obtain ⟨s, rfl⟩ := Int.eq_ofNat_of_zero_le (show 0 ≤ z by omega)
  obtain ⟨m, rfl⟩ := Int.eq_ofNat_of_zero_le (show 0 ≤ c by omega)
  have HBAD := Lib.hid (show ¬ BadS (s : Int) b (m : Int) by
    rintro (h | h | h | h | h)
    · omega
    · omega
    · rw [h3] at h; cases h
    · omega
    · omega)
  have hs0 : 4 ≤ s := by omega
  have hs1 : s ≤ 61 := by omega
  have hm0 : 1 ≤ m := by omega
  have hm1 : m ≤ 16 := by omega
  have d1 : decide ((s : Int) < 4) = false := by simp; omega
  have d2 : decide ((61 : Int) < (s : Int)) = false := by simp; omega
  have d3 : decide ((m : Int) < 1) = false := by simp; omega
  have d4 : decide ((16 : Int) < (m : Int)) = false := by simp; omega
  obtain ⟨hb0, hb1⟩ := stepS_range h3
  have hS64 : (s : Int) < 64 := by omega
  clear h1 h2 h4 h5 hz0 hz1 hc0 hc1
  obtain ⟨P, hP⟩ : ∃ P : Nat, P = 2 ^ s := ⟨_, rfl⟩
  have hP0 : 16 ≤ P := by rw [hP]; exact Nat.le_trans (by decide) (Nat.pow_le_pow_right (show 0 < 2 by omega) hs0)
  have hP1 : P ≤ 2305843009213693952 := by rw [hP]; exact Nat.le_trans (Nat.pow_le_pow_right (show 0 < 2 by omega) hs1) (by decide)
  have hE : IntKind.u64.wrap ((2 : Int) ^ s) = (P : Int) := by
    rw [IntKind.wrap_u64, show ((2 : Int) ^ s) = (P : Int) by rw [hP, Int.natCast_pow]; rfl]
    omega
  obtain ⟨q, hq⟩ : ∃ q : Nat, q = (P - 2) / b := ⟨_, rfl⟩
  have hqi : ((P : Int) - 2) / (b : Int) = (q : Int) := by rw [hq, Int.natCast_ediv]; congr 1; omega
  have hqb : q * b ≤ P - 2 := by rw [hq]; exact Nat.div_mul_le_self _ _
  have hqc : (q : Int) * (b : Int) = ((q * b : Nat) : Int) := (Int.natCast_mul _ _).symm
  have hqb0 : (0 : Int) ≤ (q : Int) * (b : Int) := by rw [hqc]; omega
  have hqb1 : (q : Int) * (b : Int) ≤ (P : Int) - 2 := by rw [hqc]; omega
  have HQC := Lib.hid hqc
  have HPP := Lib.hid hP
  have HQQ := Lib.hid hq
  have hlo : (2 : Nat) ^ (s - 1) = P / 2 := by
    rw [hP, show s = (s - 1) + 1 by omega, Nat.pow_succ, Nat.add_sub_cancel, Nat.mul_div_cancel _ (by omega)]
  have HSP := Lib.hid (show ∀ e w', (∃ k, Gone (P / 2) b q m k ∧ ((num b q k ≤ P / 2 ∧ (filt b q k).length < m ∧ e = .returned (.tuple #[.slice none 0 0, .int .i64 7]) ∧ Ext w w') ∨ ((filt b q k).length = m ∧ ∃ A n cp, e = .returned (.tuple #[.slice A n cp, .int .i64 0]) ∧ NX w' A n cp (filt b q k) ∧ Ext w w'))) → SPost (s : Int) b (m : Int) w e w' from fun e w' hh => by
    refine .inr ⟨HBAD.out, ?_⟩
    rw [Int.toNat_natCast, Int.toNat_natCast, hlo, ← hP, ← hq]
    exact hh)
  have HNB := Lib.hid (show ∀ k, k ≤ q → num b q k ≤ 2305843009213693951 from fun k hk => by
    unfold num
    have := Nat.mul_le_mul_right b (show q - k ≤ q by omega)
    omega)
  clear hP hq hqc hlo hqb
  go_enter Tryd.func11, Tryd.ntmps11
  go_wp2_with fail
  refine (order_any b w hb).mono ?_
  rw [h3]
  rintro e w' ⟨rfl, rfl⟩
  go_wp2
  try rw [hqi]
  clear hqi
  go_loopw [9, 10] (fun v nv wr => ∃ (k : Nat), nv = .int .u64 ((num b q k : Nat) : Int) ∧ URow w.heap.size w wr v (filt b q k).length (filt b q k) ∧ Gone (P / 2) b q m k ∧ (filt b q k).length ≤ m) (fun _ nv _ => (intOf nv).toNat)
  case atStart =>
    refine ⟨0, u64_eq ?_, URow.nil w, ⟨by omega, fun j hj => by omega⟩, by simp [filt]⟩
    unfold num
    have := HQC.out
    rw [Nat.sub_zero]
    omega
  case round =>
    obtain ⟨k, rfl, hrow, hg, hlen⟩ := hrel
    obtain ⟨A1, c1, rfl, hr1⟩ := rd_of_own hrow.1 hrow.2.2
    have hNB := HNB.out k hg.1
    have HG := Lib.hid hg
    have HNX := Lib.hid (fun h => num_next (b := b) (q := q) (k := k) (lo := P / 2) hg.1 hb0 (by omega) h)
    have hsz := hrow.2.1.size
    have HL := Lib.hid (show ∀ r, isS (num b q k) = r → r = true → filt b q (k + 1) = filt b q k ++ [num b q k] from fun r h1 h2 => filt_yes (h1.trans h2))
    have HL2 := Lib.hid (show ∀ r, isS (num b q k) = r → r = false → filt b q (k + 1) = filt b q k from fun r h1 h2 => filt_no (h1.trans h2))
    obtain ⟨N, hN⟩ : ∃ N, N = num b q k := ⟨_, rfl⟩
    rw [← hN] at hNB HL HL2 ⊢
    have HN := Lib.hid hN
    obtain ⟨F, hF⟩ : ∃ F, F = filt b q k := ⟨_, rfl⟩
    rw [← hF] at hrow hr1 hlen HL HL2 ⊢
    have HF := Lib.hid hF
    obtain ⟨L, hLL⟩ : ∃ L, L = F.length := ⟨_, rfl⟩
    rw [← hLL] at hrow hr1 hlen ⊢
    have HLL := Lib.hid hLL
    clear hN hF hLL hg
    by_cases hgo : P / 2 < N ∧ L < m
    · obtain ⟨g1, g2⟩ := hgo
      obtain ⟨n1, n2, n3⟩ := HNX.out (by rw [← HN.out]; exact g1)
      rw [← HN.out] at n2 n3
      have HG2 := Lib.hid (show Gone (P / 2) b q m (k + 1) from ⟨n1, fun j hj => by
        rcases Nat.lt_or_eq_of_le (Nat.le_of_lt_succ hj) with h | h
        · exact HG.out.2 j h
        · rw [h, ← HN.out, ← HF.out, ← HLL.out]; exact ⟨g1, g2⟩⟩)
      have HN3 := Lib.hid n3
      clear n3
      go_wp2_with fail
      refine (is_any N _ (by omega) (HT.out.ext (show Ext w _ from hrow.2.1))).mono ?_
      rintro e w2 ⟨rfl, k2⟩
      have hrow2 := hrow.ext hsz k2
      have hsz2 := hrow2.2.1.size
      cases hp : isS N
      · have HF2 := Lib.hid (HL2.out _ hp rfl)
        go_wp2
        refine ⟨⟨k + 1, by rw [← HN3.out]; go_num, ?_, HG2.out, ?_⟩, by simp [intOf] <;> omega⟩
        · rw [HF2.out, ← HLL.out]; exact hrow2
        · rw [HF2.out, ← HLL.out]; omega
      · have HF2 := Lib.hid (HL.out _ hp rfl)
        go_wp2_with (at_builtin; go_loud (refine wpList_append_own _ rfl _ _ 27 rfl w.heap.size 22 i0 (.int .u64 0) 1 8 Tryd.underlying27 hi hzz0 hzz1 hzz2 rfl (by decide) _ _ _ rfl (hrow2.1.alloc _) ⟨_, 0, none⟩ 1 1 [.int .u64 (N : Int)] rfl rfl one_cell one_int (by unfold maxLen; omega) (by omega) (by simp; omega) ?_; intro v2 w3 hown2 hgrow2 _))
        refine ⟨⟨k + 1, by rw [← HN3.out]; go_num, ?_, HG2.out, ?_⟩, by simp [intOf] <;> omega⟩
        · rw [HF2.out, List.length_append, ← HLL.out]; exact hrow2.push hsz2 (by rw [W64_eq]; omega) hown2 hgrow2
        · rw [HF2.out, List.length_append, ← HLL.out]; simp; omega
    · by_cases hLm : L < m
      · have hle : N ≤ P / 2 := by omega
        have HX := Lib.hid (show num b q k ≤ P / 2 ∧ (filt b q k).length < m by rw [← HN.out, ← HF.out, ← HLL.out]; exact ⟨hle, hLm⟩)
        clear hgo
        go_wp2
        go_ret2
        exact HSP.out _ _ ⟨k, HG.out, .inl ⟨HX.out.1, HX.out.2, rfl, hrow.2.1⟩⟩
      · have hLe : L = m := by omega
        subst hLe
        have HX := Lib.hid (show (filt b q k).length = L by rw [← HF.out, ← HLL.out])
        clear hgo hLm
        by_cases hle : P / 2 < N
        · go_wp2
          go_ret2
          exact HSP.out _ _ ⟨k, HG.out, .inr ⟨HX.out, A1, L, c1, rfl, by rw [← HF.out]; exact hr1, hrow.2.1⟩⟩
        · go_wp2
          go_ret2
          exact HSP.out _ _ ⟨k, HG.out, .inr ⟨HX.out, A1, L, c1, rfl, by rw [← HF.out]; exact hr1, hrow.2.1⟩⟩
end Go.Proofs.YtieeomjlmdlcbaaDoor
