/-
  The law NttValues walked.
-/
import Derived.Test.YtafncjandiakmaaDoorTFixed
import Derived.Deep.RegionLaw
namespace Go.Proofs.YtafncjandiakmaaDoor
open Go.RowKit
set_option linter.unusedVariables false

theorem rmulE (a b n y : Nat) (w : World) (hn : 0 < n) (a1 : a < 18446744073709551616) (d1 : b < 18446744073709551616) (n1 : n < 18446744073709551616) (h : Hid (a * b % n = y)) :
    Calls Tryd.prog 21 #[.int .u64 (a : Int), .int .u64 (b : Int), .int .u64 (n : Int)] w fun e w' => e = .returned (.int .u64 (y : Int)) ∧ Ext w w' := by
  rw [← h.out]; exact rmulN a b n w hn a1 d1 n1
set_option maxHeartbeats 8000000 in
set_option maxRecDepth 100000 in
theorem nttValues_walk (k : Nat) (A : Option Addr) (m c : Nat) (f : Nat → Nat) (Ay : Option Addr) (my cy : Nat) (fy : Nat → Nat) (w : World) (hk : k < 256) (hX : FX w A m c f) (hm : m ≤ maxLen) (hf : Hid (∀ i, i < m → f i < 18446744073709551616)) (hXy : FX w Ay my cy fy) (hmy : my ≤ maxLen) (hfy : Hid (∀ i, i < my → fy i < 18446744073709551616)) (hT : Tabs w) :
    Calls Tryd.prog 6 #[.int .u8 (k : Int), .slice A m c, .slice Ay my cy] w fun e w' => e = .returned (.bool true) ∧ Ext w w' := by
  have HT := Lib.hid hT
  have HFit := Lib.hid (fit_law k)
  have HX := Lib.hid hX
  have HXy := Lib.hid hXy
  clear hT hX hXy
  unfold maxLen at hm
  unfold maxLen at hmy
  obtain ⟨e, he⟩ : ∃ e, e = k % 9 := ⟨_, rfl⟩
  obtain ⟨d, hd⟩ : ∃ d, d = k % 3 := ⟨_, rfl⟩
  have hk9 : (k : Int) % 9 = (e : Int) := by omega
  have hk3 : (k : Int) % 3 = (d : Int) := by omega
  have he9 : e < 9 := by omega
  have hd3 : d < 3 := by omega
  obtain ⟨q, hq⟩ : ∃ q, q = lawQ k := ⟨_, rfl⟩
  have hcell : ∀ w0 : World, (w0.alloc (.cells #[.int .u64 12289, .int .u64 40961, .int .u64 1152921504606830593] 22)).cell? ⟨w0.heap.size, d, none⟩ = some (.int .u64 (q : Int)) := fun w0 => by
    rw [hq]; unfold lawQ; rw [← hd]
    rcases (show d = 0 ∨ d = 1 ∨ d = 2 by omega) with rfl | rfl | rfl <;> simp
  obtain ⟨n, hn⟩ : ∃ n, n = 2 ^ (e + 1) := ⟨_, rfl⟩
  rw [← he, ← hq, ← hn] at HFit
  have hsh : 2 * 2 ^ e = (n : Int) := by rw [hn, Int.natCast_pow, Int.pow_succ, Int.mul_comm]; rfl
  have hn2 := two_le HFit.out.k0 HFit.out.k9
  rw [← HFit.out.nk] at hn2
  obtain ⟨hn0, hn1⟩ := hn2
  have hsw : IntKind.i64.wrap (2 * 2 ^ e) = (n : Int) := by rw [hsh, IntKind.wrap_i64]; omega
  have hq1 := HFit.out.q1
  have hq0 := isS_ge HFit.out.is_
  clear hn hq he hd
  go_enter Tryd.func6, Tryd.ntmps6
  go_wp2_with fail
  refine (fixed4_any w HT.out).mono ?_
  rintro ee w1 ⟨rfl, k1⟩
  have hcell1 := hcell w1
  clear hcell
  go_wp2_with fail
  have ka : Ext w1 (w1.alloc (.cells #[.int .u64 12289, .int .u64 40961, .int .u64 1152921504606830593] 22)) := (Ext.refl w1).alloc _
  refine (new_any n q (e + 1) _ HFit (HT.out.ext (k1.trans ka))).mono ?_
  rintro ee w2 ⟨p, r, v, x, _, _, rfl, ht, k2⟩
  have kw2 := k1.trans (ka.trans k2)
  have HTB := Lib.hid ht
  clear ht ka k2 hcell1 k1 hsh hsw hk9 hk3
  by_cases hlong : m ≤ 5000
  case neg =>
    have hg : decide (5000 < (m : Int)) = true := by simp; omega
    go_wp2_with fail
    refine (chk_any n q (e + 1) _ HFit).mono ?_
    rintro ee w3 ⟨z, rfl, k3⟩
    cases hz : (z != 0)
    all_goals
      go_wp2
      go_ret
      exact ⟨rfl, kw2.trans k3⟩
  by_cases hlong2 : my ≤ 5000
  case neg =>
    have hg : decide (5000 < (my : Int)) = true := by simp; omega
    have hg0 : decide (5000 < (m : Int)) = false := by simp; omega
    go_wp2_with fail
    refine (chk_any n q (e + 1) _ HFit).mono ?_
    rintro ee w3 ⟨z, rfl, k3⟩
    cases hz : (z != 0)
    all_goals
      go_wp2
      go_ret
      exact ⟨rfl, kw2.trans k3⟩
  have hg0 : decide (5000 < (m : Int)) = false := by simp; omega
  have hg1 : decide (5000 < (my : Int)) = false := by simp; omega
  go_wp2_with fail
  refine (cut_any A m c n q f w2 (HX.out.ext kw2) (by omega) (by omega) (by omega) (by omega) hf).mono ?_
  rintro ee w3 ⟨rfl, huX, k3⟩
  obtain ⟨X, hFX⟩ : ∃ F, F = (fun i => if i < m then f i % q else 0) := ⟨_, rfl⟩
  rw [← hFX] at huX
  have HLX := Lib.hid (show ∀ i, i < n → X i < q from fun i _ => by
    rw [hFX]; show (if i < m then f i % q else 0) < q
    split
    · exact Nat.mod_lt _ (by omega)
    · omega)
  obtain ⟨g3, hGX⟩ : ∃ g, g = w2.heap.size := ⟨_, rfl⟩
  rw [← hGX] at huX ⊢
  clear hFX hGX
  have kw3 := kw2.trans k3
  go_wp2_with fail
  refine (cut_any Ay my cy n q fy w3 (HXy.out.ext kw3) (by omega) (by omega) (by omega) (by omega) hfy).mono ?_
  rintro ee w3b ⟨rfl, huZ, k3b⟩
  obtain ⟨Z, hFZ⟩ : ∃ F, F = (fun i => if i < my then fy i % q else 0) := ⟨_, rfl⟩
  rw [← hFZ] at huZ
  have HLZ := Lib.hid (show ∀ i, i < n → Z i < q from fun i _ => by
    rw [hFZ]; show (if i < my then fy i % q else 0) < q
    split
    · exact Nat.mod_lt _ (by omega)
    · omega)
  obtain ⟨g3b, hGZ⟩ : ∃ g, g = w3.heap.size := ⟨_, rfl⟩
  rw [← hGZ] at huZ ⊢
  clear hFZ hGZ
  have kt3 := k3.trans k3b
  have kw3b := kw3.trans k3b
  have hx3 := RW.ext huX k3b
  go_wp2_with fail
  refine (mulP_any p n q (e + 1) r v _ _ n n X Z w3b (HTB.out.ext kt3) (UW.fx hx3) HLX (UW.fx huZ) HLZ).mono ?_
  rintro ee w4 ⟨g4, R, rfl, hu4, hR, k4⟩
  have HLR := Lib.hid (fun i hi => (hR.out i hi).1)
  have hx4 := RW.ext hx3 k4
  have hz4 := RW.ext huZ k4
  have kt4 := kt3.trans k4
  clear huX huZ hx3
  go_wp2_with fail
  refine (values_any p n q (e + 1) r v _ n X w4 (HTB.out.ext kt4) (UW.fx hx4) HLX).mono ?_
  rintro ee w5 ⟨g5, U, rfl, hu5, hU, k5⟩
  have kt5 := kt4.trans k5
  have hz5 := RW.ext hz4 k5
  go_wp2_with fail
  refine (values_any p n q (e + 1) r v _ n Z w5 (HTB.out.ext kt5) (UW.fx hz5) HLZ).mono ?_
  rintro ee w6 ⟨g6, V, rfl, hu6, hV, k6⟩
  have kt6 := kt5.trans k6
  have hr6 := RW.ext hu4 (k5.trans k6)
  go_wp2_with fail
  refine (values_any p n q (e + 1) r v _ n R w6 (HTB.out.ext kt6) (UW.fx hr6) HLR).mono ?_
  rintro ee w7 ⟨g7, Y, rfl, hu7, hY, k7⟩
  have hroot := HTB.out.root
  have S1 := Lib.hid (show ∀ i, i < n → U i * V i % q = Y i from fun i hi => (M.lt (q := q) (by
    refine (hY.out i hi).2.trans ((vals_M (fun j hj => (hR.out j hj).2) i).trans ((hroot.valsNega _ _ i).trans ?_))
    refine (((hU.out i hi).2.mul (hV.out i hi).2).symm).trans ?_
    rw [← Int.natCast_mul]
    exact (M.nat _).symm) (hY.out i hi).1 (Nat.mod_lt _ (by omega))).symm)
  have HLU := Lib.hid (fun i hi => (hU.out i hi).1)
  have HLV := Lib.hid (fun i hi => (hV.out i hi).1)
  have HLY := Lib.hid (fun i hi => (hY.out i hi).1)
  have u7 := RW.ext hu5 (k6.trans k7)
  have v7 := RW.ext hu6 k7
  have kw7 := kw3b.trans (k4.trans (k5.trans (k6.trans k7)))
  clear hroot hV hR hU hY hx4 hz4 hz5 hu5 hu6 hr6 hu4 k3 k3b k4 k5 k6 k7 kt3 kt4 kt5 kt6 kw2 kw3 kw3b
  have hnn : ((n : Int) != (n : Int)) = false := by simp
  go_wp2_with fail
  go_loopw [119] (fun i wr => ∃ j : Nat, j ≤ n ∧ i = .int .i64 (j : Int) ∧ Ext w7 wr) (fun i _ => n - (intOf i).toNat)
  case atStart => exact ⟨0, by omega, rfl, Ext.refl _⟩
  case round =>
    obtain ⟨j, hj, rfl, kr⟩ := hrel
    by_cases hlt : j < n
    · have c0 := cell_ext kr (RW.cell hu7 hlt)
      have c1 := cell_ext kr (RW.cell u7 hlt)
      have c2 := cell_ext kr (RW.cell v7 hlt)
      have HS := Lib.hid (S1.out j hlt)
      have l0 := HLU.out j hlt
      have l1 := HLV.out j hlt
      have l2 := HLY.out j hlt
      generalize U j = Uj at *
      generalize V j = Vj at *
      generalize Y j = Yj at *
      have i0 : (0 : Int) ≤ (j : Int) := by omega
      have i1 : (j : Int) < (n : Int) := by omega
      go_wp2_with fail
      go_region_held3 (fun w' => w'.cell? ⟨g7, j, none⟩ = some (.int .u64 (Yj : Int)) ∧ w'.cell? ⟨g5, j, none⟩ = some (.int .u64 (Uj : Int)) ∧ w'.cell? ⟨g6, j, none⟩ = some (.int .u64 (Vj : Int))) (go_keep)
        (first
          | (go_at_call 21; refine (rmulE Uj Vj q Yj _ (by omega) (by omega) (by omega) (by omega) HS).mono ?_; rintro e2 w8 ⟨rfl, k8⟩; have k8' := (Ext.refl _).drew.trans k8; have d0 := cell_ext k8' c0; have d1 := cell_ext k8' c1; have d2 := cell_ext k8' c2)
          | fail)
      go_wp2
      exact ⟨⟨j + 1, by omega, by go_num, kr.trans k8'⟩, by simp [intOf]; omega⟩
    · go_wp2
      go_ret
      exact ⟨rfl, kw7.trans kr⟩
end Go.Proofs.YtafncjandiakmaaDoor
