/-
  The law NttBack walked.
-/
import Derived.Test.YtafncjandiakmaaDoorTFixed
namespace Go.Proofs.YtafncjandiakmaaDoor
open Go.RowKit
set_option linter.unusedVariables false

set_option maxHeartbeats 8000000 in
set_option maxRecDepth 100000 in
theorem nttBack_walk (k : Nat) (A : Option Addr) (m c : Nat) (f : Nat → Nat) (w : World) (hk : k < 256) (hX : FX w A m c f) (hm : m ≤ maxLen) (hf : Hid (∀ i, i < m → f i < 18446744073709551616)) (hT : Tabs w) :
    Calls Tryd.prog 5 #[.int .u8 (k : Int), .slice A m c] w fun e w' => e = .returned (.bool true) ∧ Ext w w' := by
  have HT := Lib.hid hT
  have HFit := Lib.hid (fit_law k)
  have HX := Lib.hid hX
  clear hT hX
  unfold maxLen at hm
  obtain ⟨e, he⟩ : ∃ e, e = k % 9 := ⟨_, rfl⟩
  obtain ⟨d, hd⟩ : ∃ d, d = k % 3 := ⟨_, rfl⟩
  have hk9 : (k : Int) % 9 = (e : Int) := by omega
  have hk3 : (k : Int) % 3 = (d : Int) := by omega
  have he9 : e < 9 := by omega
  have hd3 : d < 3 := by omega
  obtain ⟨q, hq⟩ : ∃ q, q = lawQ k := ⟨_, rfl⟩
  have hcell : ∀ w0 : World, (w0.alloc (.cells #[.int .u64 12289, .int .u64 40961, .int .u64 1152921504606830593] 22)).cell? ⟨w0.heap.size, d, none⟩ = some (.int .u64 (q : Int)) := fun w0 => by
    rw [hq]; unfold lawQ; rw [← hd]
    rcases (show d = 0 ∨ d = 1 ∨ d = 2 by omega) with rfl | rfl | rfl <;> simp
  obtain ⟨n, hn⟩ : ∃ n, n = 2 ^ (e + 1) := ⟨_, rfl⟩
  rw [← he, ← hq, ← hn] at HFit
  have hsh : 2 * 2 ^ e = (n : Int) := by rw [hn, Int.natCast_pow, Int.pow_succ, Int.mul_comm]; rfl
  have hn2 := two_le HFit.out.k0 HFit.out.k9
  rw [← HFit.out.nk] at hn2
  obtain ⟨hn0, hn1⟩ := hn2
  have hsw : IntKind.i64.wrap (2 * 2 ^ e) = (n : Int) := by rw [hsh, IntKind.wrap_i64]; omega
  have hq1 := HFit.out.q1
  have hq0 := isS_ge HFit.out.is_
  clear hn hq he hd
  go_enter Tryd.func5, Tryd.ntmps5
  go_wp2_with fail
  refine (fixed4_any w HT.out).mono ?_
  rintro ee w1 ⟨rfl, k1⟩
  have hcell1 := hcell w1
  clear hcell
  go_wp2_with fail
  have ka : Ext w1 (w1.alloc (.cells #[.int .u64 12289, .int .u64 40961, .int .u64 1152921504606830593] 22)) := (Ext.refl w1).alloc _
  refine (new_any n q (e + 1) _ HFit (HT.out.ext (k1.trans ka))).mono ?_
  rintro ee w2 ⟨p, r, v, x, _, _, rfl, ht, k2⟩
  have kw2 := k1.trans (ka.trans k2)
  have HTB := Lib.hid ht
  clear ht ka k2 hcell1 k1 hsh hsw hk9 hk3
  by_cases hlong : m ≤ 5000
  case neg =>
    have hg : decide (5000 < (m : Int)) = true := by simp; omega
    go_wp2_with fail
    refine (chk_any n q (e + 1) _ HFit).mono ?_
    rintro ee w3 ⟨z, rfl, k3⟩
    cases hz : (z != 0)
    all_goals
      go_wp2
      go_ret
      exact ⟨rfl, kw2.trans k3⟩
  have hg0 : decide (5000 < (m : Int)) = false := by simp; omega
  go_wp2_with fail
  refine (cut_any A m c n q f w2 (HX.out.ext kw2) (by omega) (by omega) (by omega) (by omega) hf).mono ?_
  rintro ee w3 ⟨rfl, huX, k3⟩
  obtain ⟨X, hFX⟩ : ∃ F, F = (fun i => if i < m then f i % q else 0) := ⟨_, rfl⟩
  rw [← hFX] at huX
  have HLX := Lib.hid (show ∀ i, i < n → X i < q from fun i _ => by
    rw [hFX]; show (if i < m then f i % q else 0) < q
    split
    · exact Nat.mod_lt _ (by omega)
    · omega)
  obtain ⟨g3, hGX⟩ : ∃ g, g = w2.heap.size := ⟨_, rfl⟩
  rw [← hGX] at huX ⊢
  clear hFX hGX
  have kw3 := kw2.trans k3
  go_wp2_with fail
  refine (values_any p n q (e + 1) r v _ n X w3 (HTB.out.ext k3) (UW.fx huX) HLX).mono ?_
  rintro ee w4 ⟨g4, V, rfl, hu4, hV, k4⟩
  have HLV := Lib.hid (fun i hi => (hV.out i hi).1)
  go_wp2_with fail
  refine (back_any p n q (e + 1) r v _ n V w4 (HTB.out.ext (k3.trans k4)) (UW.fx hu4) HLV).mono ?_
  rintro ee w5 ⟨g5, R, rfl, hu5, hR, k5⟩
  have hx5 := RW.ext huX (k4.trans k5)
  go_wp2_with fail
  refine (back_any p n q (e + 1) r v _ n X w5 (HTB.out.ext (k3.trans (k4.trans k5))) (UW.fx hx5) HLX).mono ?_
  rintro ee w6 ⟨g6, U, rfl, hu6, hU, k6⟩
  have HLU := Lib.hid (fun i hi => (hU.out i hi).1)
  go_wp2_with fail
  refine (values_any p n q (e + 1) r v _ n U w6 (HTB.out.ext (k3.trans (k4.trans (k5.trans k6)))) (UW.fx hu6) HLU).mono ?_
  rintro ee w7 ⟨g7, Y, rfl, hu7, hY, k7⟩
  obtain ⟨un, hun⟩ := HTB.out.unit
  have hroot := HTB.out.root
  have S1 := Lib.hid (show ∀ i, i < n → R i = X i from fun i hi => M.lt (q := q) (unit_n hun ((hR.out i hi).2.trans ((back_M (fun j hj => (hV.out j hj).2) i).trans (hroot.backVals _ hi)))) (hR.out i hi).1 (HLX.out i hi))
  have S2 := Lib.hid (show ∀ i, i < n → Y i = X i from fun i hi => M.lt (q := q) (unit_n hun (by
    refine (M.rfl.mul (hY.out i hi).2).trans ?_
    rw [← vals_scale]
    exact (vals_M (fun j hj => (hU.out j hj).2) i).trans (hroot.valsBack _ hi))) (hY.out i hi).1 (HLX.out i hi))
  have hx7 := RW.ext hx5 (k6.trans k7)
  have hr7 := RW.ext hu5 (k6.trans k7)
  clear hroot hun hV hR hU hY
  go_wp2_with fail
  refine (same_any _ _ n n n R X w7 (UW.fx hr7) (UW.fx hx7) (by omega) S1).mono ?_
  rintro ee w8 ⟨rfl, k8⟩
  go_wp2_with fail
  refine (same_any _ _ n n n Y X w8 (UW.fx (RW.ext hu7 k8)) (UW.fx (RW.ext hx7 k8)) (by omega) S2).mono ?_
  rintro ee w9 ⟨rfl, k9⟩
  go_wp2
  go_ret
  exact ⟨rfl, kw3.trans (k4.trans (k5.trans (k6.trans (k7.trans (k8.trans k9)))))⟩
end Go.Proofs.YtafncjandiakmaaDoor
