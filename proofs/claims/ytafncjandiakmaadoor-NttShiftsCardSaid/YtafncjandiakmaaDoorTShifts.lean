/-
  The law NttShifts walked.
-/
import Derived.Test.YtafncjandiakmaaDoorTFixed
import Derived.Deep.RegionLawGrows
namespace Go.Proofs.YtafncjandiakmaaDoor
open Go.RowKit
set_option linter.unusedVariables false

/-- X times a polynomial. -/
theorem nega_up {n : Nat} (hn : 2 ≤ n) (a : Nat → Int) {m : Nat} (hm : m < n) : nega n a (fun l => ((if l = 1 then 1 else 0 : Nat) : Int)) m = if m = 0 then -a (n - 1) else a (m - 1) := by
  have inner : ∀ i, i < n → S n (fun l => if i + l = m then a i * ((if l = 1 then 1 else 0 : Nat) : Int) else if i + l = m + n then -(a i * ((if l = 1 then 1 else 0 : Nat) : Int)) else 0) = if i + 1 = m then a i else if i + 1 = m + n then -a i else 0 := fun i _ => by
    rw [S_one (k := 1) (by omega)]
    · rw [if_pos (rfl : 1 = 1), show (((1 : Nat)) : Int) = 1 from rfl, Int.mul_one]
    · intro l _ hl
      rw [if_neg hl, show (((0 : Nat)) : Int) = 0 from rfl, Int.mul_zero, Int.neg_zero]
      split
      · rfl
      · split <;> rfl
  unfold nega
  rw [S_congr inner]
  by_cases h : m = 0
  · subst h
    rw [if_pos rfl, S_one (k := n - 1) (by omega)]
    · rw [if_neg (by omega), if_pos (by omega)]
    · intro i hi hne
      rw [if_neg (by omega), if_neg (by omega)]
  · rw [if_neg h, S_one (k := m - 1) (by omega)]
    · rw [if_pos (by omega)]
    · intro i hi hne
      rw [if_neg (by omega), if_neg (by omega)]
theorem rsub0 (x q y : Nat) (w : World) (hq0 : 0 < q) (hx : x < q) (hq : q < 18446744073709551616) (hy : Hid (y = dif 0 x q)) :
    Calls Tryd.prog 22 #[.int .u64 0, .int .u64 (x : Int), .int .u64 (q : Int)] w fun e w' => e = .returned (.int .u64 (y : Int)) ∧ Ext w w' := by
  refine (rsub_any 0 x q w (by omega) (by omega) (by omega) (by omega) (by omega) (by omega)).mono ?_
  have e : subS 0 (x : Int) (q : Int) = (y : Int) := by
    rw [subS_pos (by omega), hy.out]
    unfold dif
    rw [Int.natCast_emod, show ((0 + q - x : Nat) : Int) = (0 - (x : Int)) + (q : Int) by omega, Int.add_emod_right]
  rw [e]
  rintro ee w' ⟨he, rfl⟩
  exact ⟨he, Ext.refl _⟩
theorem one_drew {w : World} {z : Value} {t : TypeId} : ∀ (j : Nat) (u : Value), [z][j]? = some u → (w.alloc (.cells #[z] t)).drew.cell? ((⟨w.heap.size, 0, none⟩ : Addr).add j) = some u := one_cell
theorem row_cells {w : World} {g n z : Nat} {X : Nat → Nat} {v : Value} {t : TypeId} (h : UW w g n X) (hz : z < n) : ∀ (j : Nat) (u : Value), (u64s ((List.range z).map X))[j]? = some u → (w.alloc (.cells #[v] t)).drew.cell? ((⟨g, 0, none⟩ : Addr).add j) = some u := fun j u hu => by
  have h1 := RW.cell (RW.ext h ((Ext.refl w).alloc (.cells #[v] t))) (i := j)
  unfold u64s at hu
  rw [List.getElem?_map, List.getElem?_map] at hu
  by_cases hj : j < z
  · rw [List.getElem?_range hj] at hu
    simp only [Option.map_some, Option.some.injEq] at hu
    rw [Addr.add_lit, Nat.zero_add, ← hu]
    exact h1 (by omega)
  · rw [List.getElem?_eq_none (by simp; omega)] at hu
    cases hu
theorem fx_of_rd {w : World} {B : Nat} {A : Option Addr} {n c : Nat} {xs : List Nat} (h : NR w B A n c xs) : FX w A n c (fun i => xs.getD i 0) :=
  ⟨h.room, fun hn => by
    obtain ⟨ad, e, _, hc⟩ := h.cells hn
    refine ⟨ad, e, fun j hj => ?_⟩
    have hl : j < xs.length := by have := h.len; omega
    rw [hc j xs[j] (List.getElem?_eq_getElem hl), List.getD_eq_getElem?_getD, List.getElem?_eq_getElem hl, Option.getD_some]⟩
set_option maxHeartbeats 8000000 in
set_option maxRecDepth 100000 in
theorem nttShifts_walk (k : Nat) (A : Option Addr) (m c : Nat) (f : Nat → Nat) (w : World) (hk : k < 256) (hX : FX w A m c f) (hm : m ≤ maxLen) (hf : Hid (∀ i, i < m → f i < 18446744073709551616)) (hT : Tabs w) :
    Calls Tryd.prog 8 #[.int .u8 (k : Int), .slice A m c] w fun e w' => e = .returned (.bool true) ∧ Ext w w' := by
  have HT := Lib.hid hT
  have HFit := Lib.hid (fit_law k)
  have HX := Lib.hid hX
  clear hT hX
  unfold maxLen at hm
  obtain ⟨e, he⟩ : ∃ e, e = k % 9 := ⟨_, rfl⟩
  obtain ⟨d, hd⟩ : ∃ d, d = k % 3 := ⟨_, rfl⟩
  have hk9 : (k : Int) % 9 = (e : Int) := by omega
  have hk3 : (k : Int) % 3 = (d : Int) := by omega
  have he9 : e < 9 := by omega
  have hd3 : d < 3 := by omega
  obtain ⟨q, hq⟩ : ∃ q, q = lawQ k := ⟨_, rfl⟩
  have hcell : ∀ w0 : World, (w0.alloc (.cells #[.int .u64 12289, .int .u64 40961, .int .u64 1152921504606830593] 22)).cell? ⟨w0.heap.size, d, none⟩ = some (.int .u64 (q : Int)) := fun w0 => by
    rw [hq]; unfold lawQ; rw [← hd]
    rcases (show d = 0 ∨ d = 1 ∨ d = 2 by omega) with rfl | rfl | rfl <;> simp
  obtain ⟨n, hn⟩ : ∃ n, n = 2 ^ (e + 1) := ⟨_, rfl⟩
  rw [← he, ← hq, ← hn] at HFit
  have hsh : 2 * 2 ^ e = (n : Int) := by rw [hn, Int.natCast_pow, Int.pow_succ, Int.mul_comm]; rfl
  have hn2 := two_le HFit.out.k0 HFit.out.k9
  rw [← HFit.out.nk] at hn2
  obtain ⟨hn0, hn1⟩ := hn2
  have hsw : IntKind.i64.wrap (2 * 2 ^ e) = (n : Int) := by rw [hsh, IntKind.wrap_i64]; omega
  have hq1 := HFit.out.q1
  have hq0 := isS_ge HFit.out.is_
  clear hn hq he hd
  go_enter Tryd.func8, Tryd.ntmps8
  go_wp2_with fail
  refine (fixed4_any w HT.out).mono ?_
  rintro ee w1 ⟨rfl, k1⟩
  have hcell1 := hcell w1
  clear hcell
  go_wp2_with fail
  have ka : Ext w1 (w1.alloc (.cells #[.int .u64 12289, .int .u64 40961, .int .u64 1152921504606830593] 22)) := (Ext.refl w1).alloc _
  refine (new_any n q (e + 1) _ HFit (HT.out.ext (k1.trans ka))).mono ?_
  rintro ee w2 ⟨p, r, v, x, _, _, rfl, ht, k2⟩
  have kw2 := k1.trans (ka.trans k2)
  have HTB := Lib.hid ht
  clear ht ka k2 hcell1 k1 hsh hsw hk9 hk3
  by_cases hlong : m ≤ 5000
  case neg =>
    have hg : decide (5000 < (m : Int)) = true := by simp; omega
    go_wp2_with fail
    refine (chk_any n q (e + 1) _ HFit).mono ?_
    rintro ee w3 ⟨z, rfl, k3⟩
    cases hz : (z != 0)
    all_goals
      go_wp2
      go_ret
      exact ⟨rfl, kw2.trans k3⟩
  have hg0 : decide (5000 < (m : Int)) = false := by simp; omega
  go_wp2_with fail
  refine (cut_any A m c n q f w2 (HX.out.ext kw2) (by omega) (by omega) (by omega) (by omega) hf).mono ?_
  rintro ee w3 ⟨rfl, huX, k3⟩
  obtain ⟨X, hFX⟩ : ∃ F, F = (fun i => if i < m then f i % q else 0) := ⟨_, rfl⟩
  rw [← hFX] at huX
  have HLX := Lib.hid (show ∀ i, i < n → X i < q from fun i _ => by
    rw [hFX]; show (if i < m then f i % q else 0) < q
    split
    · exact Nat.mod_lt _ (by omega)
    · omega)
  obtain ⟨g3, hGX⟩ : ∃ g, g = w2.heap.size := ⟨_, rfl⟩
  rw [← hGX] at huX ⊢
  clear hFX hGX
  have kw3 := kw2.trans k3
  have hmk := make_u64 n (by omega)
  have hmod : (1 : Int) % (n : Int) = 1 := Int.emod_eq_of_lt (by omega) (by omega)
  have hnz : ((n : Int) == 0) = false := by simp; omega
  have hnz2 : ¬ (n : Int) = 0 := by omega
  have hnz3 : ¬ n = 0 := by omega
  have u0 := newU_uw w3 n
  have b1 := RW.cell u0 (i := 1) (by omega)
  have z1 := RW.frozen u0 1
  have i1 : (1 : Int) < (n : Int) := by omega
  go_wp2_with fail
  have u1 := (u0.set (i := 1) (by omega) 1).congr (f' := fun i => if i = 1 then 1 else 0) (fun i _ => rfl)
  have ku : Ext w3 ((w3.alloc (.cells (newU n) 22)).setCell ⟨w3.heap.size, 1, none⟩ (.int .u64 ((1 : Nat) : Int))) := ((Ext.refl w3).alloc _).set (p := ⟨w3.heap.size, 1, none⟩) (Nat.le_refl _) _
  have hweq : (w3.alloc (.cells (newU n) 22)).setCell ⟨w3.heap.size, 1, none⟩ (.int .u64 ((1 : Nat) : Int)) = w3.alloc (.cells ((newU n).setIfInBounds 1 (.int .u64 1)) 22) := by go_simp
  rw [hweq] at u1 ku
  clear hweq
  have hx3 := RW.ext huX ku
  have HLup := Lib.hid (show ∀ i, i < n → (if i = 1 then 1 else 0) < q from fun i _ => by split <;> omega)
  refine (mulP_any p n q (e + 1) r v _ _ n n X _ _ (HTB.out.ext (k3.trans ku)) (UW.fx hx3) HLX (UW.fx u1) HLup).mono ?_
  rintro ee w4 ⟨g4, R, rfl, hu4, hR, k4⟩
  have hx4 := RW.ext hx3 k4
  have kw4 := kw3.trans (ku.trans k4)
  clear hmk hmod hnz hnz2 hnz3 u0 b1 z1 u1 hx3 huX
  obtain ⟨y, hy⟩ : ∃ y, y = dif 0 (X (n - 1)) q := ⟨_, rfl⟩
  have HY := Lib.hid hy
  have HW := Lib.hid (show ∀ i, i < n → R i = (y :: (List.range (n - 1)).map X).getD i 0 from fun i hi => by
    have h1 := (hR.out i hi).2
    rw [nega_up hn0 (fun j => (X j : Int)) hi] at h1
    rcases Nat.eq_zero_or_pos i with h0 | h0
    · subst h0
      rw [if_pos rfl] at h1
      rw [List.getD_cons_zero, hy]
      refine M.lt (q := q) (h1.trans ?_) (hR.out 0 hi).1 (Nat.mod_lt _ (by omega))
      refine M.symm ((M.dif (HLX.out _ (by omega))).trans (M.of ?_))
      simp
    · obtain ⟨j, rfl⟩ : ∃ j, i = j + 1 := ⟨i - 1, by omega⟩
      rw [if_neg (by omega), Nat.add_sub_cancel] at h1
      rw [List.getD_cons_succ, List.getD_eq_getElem?_getD, List.getElem?_map, List.getElem?_range (by omega)]
      exact M.lt (q := q) h1 (hR.out _ hi).1 (HLX.out _ (by omega)))
  have hyl : y < q := by rw [hy]; exact Nat.mod_lt _ (by omega)
  have HLY : ∀ x ∈ y :: (List.range (n - 1)).map X, x < W64 := fun x hx => by
    rw [W64_eq]
    rcases List.mem_cons.1 hx with h | h
    · omega
    · obtain ⟨j, hj, rfl⟩ := List.mem_map.1 h
      have := HLX.out j (by have := List.mem_range.1 hj; omega)
      omega
  have HLYY := Lib.hid HLY
  clear hy HLY hR
  have hlast := RW.cell hx4 (i := n - 1) (by omega)
  have hlx := HLX.out (n - 1) (by omega)
  obtain ⟨z, hz⟩ : ∃ z, z = n - 1 := ⟨_, rfl⟩
  rw [← hz] at hlast hlx HY HW HLYY
  have hzi : IntKind.i64.wrap ((n : Int) - 1) = (z : Int) := by rw [IntKind.wrap_i64]; omega
  have hzl : z < n := by omega
  have hz1 : 1 ≤ z := by omega
  have HZ := Lib.hid (show n = 1 + z by omega)
  clear hz
  have i2 : (0 : Int) ≤ (z : Int) := by omega
  have i3 : (z : Int) < (n : Int) := by omega
  have i4 : (z : Int) ≤ (n : Int) := by omega
  obtain ⟨i0, hi, hzz0, hzz1, hzz2⟩ := info_parts info_u64
  generalize hXz : X z = xz at hlast hlx HY
  clear hXz
  go_wp2_with fail
  go_region_law (first
      | (refine step_append_grows rfl (.tmp 70) (.tmp 74) 23 rfl 22 i0 (.int .u64 0) 1 8 Tryd.underlying23 hi hzz0 hzz1 hzz2 rfl (by decide) (some ⟨w5.heap.size, 0, none⟩) 1 1 [.int .u64 (y : Int)] (by simp [Act.eval]) (fun h => by cases h) rfl (fun b hb j u hu => by injection hb with hb; subst hb; exact one_drew j u hu) ⟨g3, 0, none⟩ z n (u64s ((List.range z).map X)) (by simp [Act.eval]) (by rw [u64s_length]; simp) (fun j u hu => row_cells hx5 hzl j u hu) u64s_one (by omega) (by unfold maxLen; omega) (by omega) ?_; intro v6 w6 hown6 hgrow6; obtain ⟨A6, c6, rfl, hr6⟩ := rd_of_own (n := 1 + z) (zs := y :: (List.range z).map X) hown6 HLYY.out; have k6 : Ext w5 w6 := Below.grown ((Ext.refl w5).alloc _) hgrow6 (by simp) (fun k e => by cases e))
      | (go_simp; go_at_call 22; refine (rsub0 xz q y _ (by omega) hlx (by omega) HY).mono ?_; rintro e2 w5 ⟨rfl, k5⟩; have k5' := (Ext.refl _).drew.trans k5; have hx5 := RW.ext hx4 k5')
      | fail)
  all_goals
    rw [← HZ.out] at hr6 ⊢
    have hfx6 := fx_of_rd hr6
    have hr4 := RW.ext hu4 (k5'.trans k6)
    go_wp2_with fail
    refine (same_any _ _ n n c6 R _ w6 (UW.fx hr4) hfx6 (by omega) HW).mono ?_
    rintro ee w7 ⟨rfl, k7⟩
    go_wp2
    go_ret
    exact ⟨rfl, kw4.trans (k5'.trans (k6.trans k7))⟩
end Go.Proofs.YtafncjandiakmaaDoor
