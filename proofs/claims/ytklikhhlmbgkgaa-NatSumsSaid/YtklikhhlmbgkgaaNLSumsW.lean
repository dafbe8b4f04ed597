/-
  The law NatSums walked.
-/
import Derived.Test.YtklikhhlmbgkgaaRWrap
import Derived.Test.YtklikhhlmbgkgaaNLaw
import Derived.Test.YtklikhhlmbgkgaaNCopy
namespace Go.Proofs.Ytklikhhlmbgkgaa
open Go.RowKit
set_option linter.unusedVariables false

set_option maxHeartbeats 2000000 in
theorem natSums_walk (A A' : Option Addr) (n n' c c' : Nat) (xs ys : List Nat) (w : World) (h : NX w A n c xs) (h' : NX w A' n' c' ys) :
    Calls Try.prog 9 #[.slice A n c, .slice A' n' c'] w fun e w' => e = .returned (.bool true) ∧ Ext w w' := by
  obtain ⟨i0, hi, hz0, hz1, hz2⟩ := info_parts info_u64
  go_enter Try.func9, Try.ntmps9
  go_wp2_with fail
  refine (fixed2_any w).mono ?_
  rintro e w1 ⟨rfl, k1⟩
  by_cases hf : n ≤ 30 ∧ n' ≤ 30
  · go_wp2_with fail
    refine (few2_any w1 A A' n n' c c' _ w1.heap.size rfl true (by simpa using hf)).mono ?_
    rintro e w2 ⟨rfl, k2⟩
    obtain ⟨hn, hn'⟩ := hf
    have x2 := h.ext (k1.trans k2)
    have y2 := h'.ext (k1.trans k2)
    go_wp2_with (at_builtin; go_loud (first
      | (refine wpList_copy rfl (.tmp 18) (.tmp 19) rfl w2.heap.size rfl A n c xs rfl rfl x2 (by omega) ?_; intro A3 c3 w3 x3 k3)
      | (refine wpList_copy rfl (.tmp 21) (.tmp 22) rfl w3.heap.size rfl A' n' c' ys rfl rfl (y2.ext k3) (by omega) ?_; intro A4 c4 w4 y4 k4)))
    refine (subX (x3.ext k4) y4 (by omega) (by omega)).mono ?_
    rintro e w5 (⟨hlt, rfl, he5⟩ | ⟨hle, A5, n5, c5, rfl, hn5, hx5, he5⟩)
    · have k5 : Ext w4 w5 := he5
      have g5 : Ext w2 w5 := k3.trans (k4.trans k5)
      go_wp2_with fail
      refine (rsubX (x2.ext g5) (y2.ext g5) (by omega) (by omega)).mono ?_
      rintro e w6 (⟨_, rfl, he6⟩ | ⟨hle, _⟩)
      rotate_left
      · omega
      have k6 : Ext w5 w6 := he6
      go_wp2_with fail
      refine (addX (x3.ext (k4.trans (k5.trans k6))) (y4.ext (k5.trans k6)) (by omega) (by omega)).mono ?_
      rintro e w7 ⟨A7, n7, c7, rfl, hn7, hx7, k7⟩
      have g7 : Ext w2 w7 := k3.trans (k4.trans (k5.trans (k6.trans k7)))
      go_wp2_with fail
      refine (raddX (x2.ext g7) (y2.ext g7) (by omega) (by omega)).mono ?_
      rintro e w8 ⟨A8, n8, c8, rfl, hn8, hx8, k8⟩
      go_wp2_with fail
      refine (sameEq (hx7.ext k8) hx8 (by omega) (by omega)).mono ?_
      rintro e w9 ⟨rfl, k9⟩
      go_wp2_with fail
      refine (sameEq (Rd.none_ _ _ _ _ _ _ : NX w9 none 0 0 []) (Rd.none_ _ _ _ _ _ _ : NX w9 none 0 0 []) (by omega) (by omega)).mono ?_
      rintro e w10 ⟨rfl, k10⟩
      have g10 : Ext w4 w10 := k5.trans (k6.trans (k7.trans (k8.trans (k9.trans k10))))
      go_wp2_with fail
      refine (cmpX (x3.ext (k4.trans g10)) (y4.ext g10) (by omega) (by omega)).mono ?_
      rintro e w11 ⟨rfl, k11⟩
      have g11 : Ext w2 w11 := k3.trans (k4.trans (g10.trans k11))
      go_wp2_with fail
      refine (rcmpX (x2.ext g11) (y2.ext g11) (by omega) (by omega)).mono ?_
      rintro e w12 ⟨rfl, k12⟩
      go_wp2_with fail
      refine (sameEq (x3.ext (k4.trans (g10.trans (k11.trans k12)))) (x2.ext (g11.trans k12)) (by omega) (by omega)).mono ?_
      rintro e w13 ⟨rfl, k13⟩
      go_wp2_with fail
      refine (sameEq (y4.ext (g10.trans (k11.trans (k12.trans k13)))) (y2.ext (g11.trans (k12.trans k13))) (by omega) (by omega)).mono ?_
      rintro e w14 ⟨rfl, k14⟩
      go_wp2
      go_ret
      exact ⟨rfl, k1.trans (k2.trans (g11.trans (k12.trans (k13.trans k14))))⟩
    · have k5 : Ext w4 w5 := he5
      have g5 : Ext w2 w5 := k3.trans (k4.trans k5)
      go_wp2_with fail
      refine (rsubX (x2.ext g5) (y2.ext g5) (by omega) (by omega)).mono ?_
      rintro e w6 (⟨hlt, _⟩ | ⟨_, A6, n6, c6, rfl, hn6, hx6, he6⟩)
      · omega
      have k6 : Ext w5 w6 := he6
      go_wp2_with fail
      refine (addX (x3.ext (k4.trans (k5.trans k6))) (y4.ext (k5.trans k6)) (by omega) (by omega)).mono ?_
      rintro e w7 ⟨A7, n7, c7, rfl, hn7, hx7, k7⟩
      have g7 : Ext w2 w7 := k3.trans (k4.trans (k5.trans (k6.trans k7)))
      go_wp2_with fail
      refine (raddX (x2.ext g7) (y2.ext g7) (by omega) (by omega)).mono ?_
      rintro e w8 ⟨A8, n8, c8, rfl, hn8, hx8, k8⟩
      go_wp2_with fail
      refine (sameEq (hx7.ext k8) hx8 (by omega) (by omega)).mono ?_
      rintro e w9 ⟨rfl, k9⟩
      go_wp2_with fail
      refine (sameEq (NX.ext hx5 (k6.trans (k7.trans (k8.trans k9)))) (NX.ext hx6 (k7.trans (k8.trans k9))) (by omega) (by omega)).mono ?_
      rintro e w10 ⟨rfl, k10⟩
      have g10 : Ext w4 w10 := k5.trans (k6.trans (k7.trans (k8.trans (k9.trans k10))))
      go_wp2_with fail
      refine (cmpX (x3.ext (k4.trans g10)) (y4.ext g10) (by omega) (by omega)).mono ?_
      rintro e w11 ⟨rfl, k11⟩
      have g11 : Ext w2 w11 := k3.trans (k4.trans (g10.trans k11))
      go_wp2_with fail
      refine (rcmpX (x2.ext g11) (y2.ext g11) (by omega) (by omega)).mono ?_
      rintro e w12 ⟨rfl, k12⟩
      go_wp2_with fail
      refine (sameEq (x3.ext (k4.trans (g10.trans (k11.trans k12)))) (x2.ext (g11.trans k12)) (by omega) (by omega)).mono ?_
      rintro e w13 ⟨rfl, k13⟩
      go_wp2_with fail
      refine (sameEq (y4.ext (g10.trans (k11.trans (k12.trans k13)))) (y2.ext (g11.trans (k12.trans k13))) (by omega) (by omega)).mono ?_
      rintro e w14 ⟨rfl, k14⟩
      go_wp2
      go_ret
      exact ⟨rfl, k1.trans (k2.trans (g11.trans (k12.trans (k13.trans k14))))⟩
  · go_wp2_with fail
    refine (few2_any w1 A A' n n' c c' _ w1.heap.size rfl false (by simpa using hf)).mono ?_
    rintro e w2 ⟨rfl, k2⟩
    go_wp2
    go_ret
    exact ⟨rfl, k1.trans k2⟩
end Go.Proofs.Ytklikhhlmbgkgaa
