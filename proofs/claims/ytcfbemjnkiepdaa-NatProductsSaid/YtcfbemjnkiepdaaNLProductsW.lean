/-
  The law NatProducts walked.
-/
import Derived.Test.YtcfbemjnkiepdaaRBits
import Derived.Test.YtcfbemjnkiepdaaNCopy
namespace Go.Proofs.Ytcfbemjnkiepdaa
open Go.RowKit
set_option linter.unusedVariables false

theorem modR {A : Option Addr} {n c d R : Nat} {xs : List Nat} {w : World} (hR : Hid (R = if d = 0 then 0 else nv xs % d)) (h : NX w A n c xs) (hn : n ≤ 1000) (hd : d < 18446744073709551616) :
    Calls Try.prog 46 #[.slice A n c, .int .u64 (d : Int)] w fun e w' => e = .returned (.int .u64 (R : Int)) ∧ Ext w w' :=
  (natMod_any A n c _ d xs w h (by omega) hd).mono fun e w' ⟨he, q, hw⟩ => ⟨by rw [he, hR.out], by rw [hw]; exact (Ext.refl w).drewN q⟩
theorem rmodR {A : Option Addr} {n c d R : Nat} {xs : List Nat} {w : World} (hR : Hid (R = if d = 0 then 0 else nv xs % d)) (h : NX w A n c xs) (hn : n ≤ 1000) (hd : d < 18446744073709551616) :
    Calls Try.prog 47 #[.slice A n c, .int .u64 (d : Int)] w fun e w' => e = .returned (.int .u64 (R : Int)) ∧ Ext w w' :=
  (rmodX d h (by omega) hd).mono fun e w' ⟨he, hw⟩ => ⟨by rw [he, hR.out], hw⟩
theorem bitsR {A : Option Addr} {n c R : Nat} {xs : List Nat} {w : World} (hR : Hid (R = Go.bitLen (nv xs))) (h : NX w A n c xs) (hn : n ≤ 1000) :
    Calls Try.prog 44 #[.slice A n c] w fun e w' => e = .returned (.int .i64 (R : Int)) ∧ Ext w w' :=
  (natBits_any A n c _ xs w h (by omega)).mono fun e w' ⟨he, hw⟩ => ⟨by rw [he, hR.out], by rw [← hw]; exact Ext.refl w⟩
theorem rbitsR {A : Option Addr} {n c R : Nat} {xs : List Nat} {w : World} (hR : Hid (R = Go.bitLen (nv xs))) (h : NX w A n c xs) (hn : n ≤ 1000) :
    Calls Try.prog 45 #[.slice A n c] w fun e w' => e = .returned (.int .i64 (R : Int)) ∧ Ext w w' :=
  (rbitsX h (by omega)).mono fun e w' ⟨he, hw⟩ => ⟨by rw [he, hR.out], hw⟩

set_option maxHeartbeats 2000000 in
theorem natProducts_walk (A A' : Option Addr) (n n' c c' : Nat) (xs ys : List Nat) (d : Nat) (w : World) (h : NX w A n c xs) (h' : NX w A' n' c' ys) (hd : d < 18446744073709551616) :
    Calls Try.prog 10 #[.slice A n c, .slice A' n' c', .int .u64 (d : Int)] w fun e w' => e = .returned (.bool true) ∧ Ext w w' := by
  obtain ⟨i0, hi, hz0, hz1, hz2⟩ := info_parts info_u64
  obtain ⟨RM, HRM⟩ : ∃ R, Hid (R = if d = 0 then 0 else nv xs % d) := ⟨_, Lib.hid rfl⟩
  obtain ⟨BL, HBL⟩ : ∃ R, Hid (R = Go.bitLen (nv xs)) := ⟨_, Lib.hid rfl⟩
  go_enter Try.func10, Try.ntmps10
  go_wp2_with fail
  refine (fixed2_any w).mono ?_
  rintro e w1 ⟨rfl, k1⟩
  by_cases hf : n ≤ 30 ∧ n' ≤ 30
  · go_wp2_with fail
    refine (few2_any w1 A A' n n' c c' _ w1.heap.size rfl true (by simpa using hf)).mono ?_
    rintro e w2 ⟨rfl, k2⟩
    obtain ⟨hn, hn'⟩ := hf
    have x2 := h.ext (k1.trans k2)
    have y2 := h'.ext (k1.trans k2)
    go_wp2_with (at_builtin; go_loud (first
      | (refine wpList_copy rfl (.tmp 22) (.tmp 23) rfl w2.heap.size rfl A n c xs rfl rfl x2 (by omega) ?_; intro A3 c3 w3 x3 k3)
      | (refine wpList_copy rfl (.tmp 25) (.tmp 26) rfl w3.heap.size rfl A' n' c' ys rfl rfl (y2.ext k3) (by omega) ?_; intro A4 c4 w4 y4 k4)))
    have D := divX (x3.ext k4) y4 (by omega) (by omega)
    refine D.mono ?_
    clear D
    rintro e w5 hD
    have hD2 : ∃ (A5 : Option Addr) (n5 c5 : Nat) (A6 : Option Addr) (n6 c6 : Nat) (er : Int) (qs rs : List Nat), e = .returned (.tuple #[.slice A5 n5 c5, .slice A6 n6 c6, .int .i64 er]) ∧ n5 ≤ 40 ∧ n6 ≤ 40 ∧ NX w5 A5 n5 c5 qs ∧ NX w5 A6 n6 c6 rs ∧ Ext w4 w5 ∧ ((nv ys = 0 ∧ qs = [] ∧ rs = [] ∧ er = 1) ∨ (0 < nv ys ∧ qs = nw (nv xs / nv ys) ∧ rs = nw (nv xs % nv ys) ∧ er = 0)) := by
      rcases hD with ⟨hY, rfl, he5⟩ | ⟨hY, A5, n5, c5, A6, n6, c6, rfl, hn5, hn6, hx5, hx6, he5⟩
      · exact ⟨none, 0, 0, none, 0, 0, 1, [], [], rfl, by omega, by omega, Rd.none_ _ _ _ _ _ _, Rd.none_ _ _ _ _ _ _, he5, .inl ⟨hY, rfl, rfl, rfl⟩⟩
      · exact ⟨A5, n5, c5, A6, n6, c6, 0, _, _, rfl, by omega, by omega, hx5, hx6, he5, .inr ⟨hY, rfl, rfl, rfl⟩⟩
    clear hD
    obtain ⟨A5, n5, c5, A6, n6, c6, er, qs, rs, rfl, hn5, hn6, x5, x6, k5, hval⟩ := hD2
    have HVAL := Lib.hid hval
    clear hval
    have g5 : Ext w2 w5 := k3.trans (k4.trans k5)
    go_wp2_with fail
    refine (rdivX (x2.ext g5) (y2.ext g5) (by omega) (by omega)).mono ?_
    rintro e w6 hD
    have hD2 : ∃ (A7 : Option Addr) (n7 c7 : Nat) (A8 : Option Addr) (n8 c8 : Nat), e = .returned (.tuple #[.slice A7 n7 c7, .slice A8 n8 c8, .int .i64 er]) ∧ n7 ≤ 400 ∧ n8 ≤ 400 ∧ NX w6 A7 n7 c7 qs ∧ NX w6 A8 n8 c8 rs ∧ Ext w5 w6 := by
      rcases hD with ⟨hY, rfl, he6⟩ | ⟨hY, A7, n7, c7, A8, n8, c8, rfl, hn7, hn8, hx7, hx8, he6⟩
      · rcases HVAL.out with ⟨_, rfl, rfl, rfl⟩ | ⟨hh, _⟩
        · exact ⟨none, 0, 0, none, 0, 0, rfl, by omega, by omega, Rd.none_ _ _ _ _ _ _, Rd.none_ _ _ _ _ _ _, he6⟩
        · omega
      · rcases HVAL.out with ⟨hh, _⟩ | ⟨_, rfl, rfl, rfl⟩
        · omega
        · exact ⟨A7, n7, c7, A8, n8, c8, rfl, by omega, by omega, hx7, hx8, he6⟩
    clear hD HVAL
    obtain ⟨A7, n7, c7, A8, n8, c8, rfl, hn7, hn8, x7, x8, k6⟩ := hD2
    go_wp2_with fail
    refine (mulX (x3.ext (k4.trans (k5.trans k6))) (y4.ext (k5.trans k6)) (by omega) (by omega)).mono ?_
    rintro e w7 ⟨A9, n9, c9, rfl, hn9, x9, k7⟩
    have g7 : Ext w2 w7 := g5.trans (k6.trans k7)
    go_wp2_with fail
    refine (rmulX (x2.ext g7) (y2.ext g7) (by omega) (by omega)).mono ?_
    rintro e w8 ⟨A10, n10, c10, rfl, hn10, x10, k8⟩
    go_wp2_with fail
    refine (sameEq (x9.ext k8) x10 (by omega) (by omega)).mono ?_
    rintro e w9 ⟨rfl, k9⟩
    have g9 : Ext w6 w9 := k7.trans (k8.trans k9)
    go_wp2_with fail
    refine (sameEq (x5.ext (k6.trans g9)) (x7.ext g9) (by omega) (by omega)).mono ?_
    rintro e w10 ⟨rfl, k10⟩
    go_wp2_with fail
    refine (sameEq (x6.ext (k6.trans (g9.trans k10))) (x8.ext (g9.trans k10)) (by omega) (by omega)).mono ?_
    rintro e w11 ⟨rfl, k11⟩
    have g11 : Ext w4 w11 := k5.trans (k6.trans (g9.trans (k10.trans k11)))
    go_wp2_with fail
    refine (bitsR HBL (x3.ext (k4.trans g11)) (by omega)).mono ?_
    rintro e w11b ⟨rfl, k11b⟩
    have g12 : Ext w2 w11b := k3.trans (k4.trans (g11.trans k11b))
    go_wp2_with fail
    refine (rbitsR HBL (x2.ext g12) (by omega)).mono ?_
    rintro e w12 ⟨rfl, k12⟩
    go_wp2_with fail
    refine (modR HRM (x3.ext (k4.trans (g11.trans (k11b.trans k12)))) (by omega) hd).mono ?_
    rintro e w13 ⟨rfl, k13⟩
    have g13 : Ext w2 w13 := g12.trans (k12.trans k13)
    go_wp2_with fail
    refine (rmodR HRM (x2.ext g13) (by omega) hd).mono ?_
    rintro e w14 ⟨rfl, k14⟩
    go_wp2_with fail
    refine (natOf_any d w14 hd).mono ?_
    rintro e w15 ⟨A15, n15, c15, rfl, hn15, x15, k15'⟩
    have k15 : Ext w14 w15 := k15'
    go_wp2_with fail
    refine (rofX d hd w15).mono ?_
    rintro e w16 ⟨A16, n16, c16, rfl, hn16, x16, k16⟩
    go_wp2_with fail
    refine (sameEq (NX.ext x15 k16) x16 (by omega) (by omega)).mono ?_
    rintro e w17 ⟨rfl, k17⟩
    have g17 : Ext w4 w17 := g11.trans (k11b.trans (k12.trans (k13.trans (k14.trans (k15.trans (k16.trans k17))))))
    have gg17 : Ext w2 w17 := g13.trans (k14.trans (k15.trans (k16.trans k17)))
    go_wp2_with fail
    refine (sameEq (x3.ext (k4.trans g17)) (x2.ext gg17) (by omega) (by omega)).mono ?_
    rintro e w18 ⟨rfl, k18⟩
    go_wp2_with fail
    refine (sameEq (y4.ext (g17.trans k18)) (y2.ext (gg17.trans k18)) (by omega) (by omega)).mono ?_
    rintro e w19 ⟨rfl, k19⟩
    go_wp2
    go_ret
    exact ⟨rfl, k1.trans (k2.trans (gg17.trans (k18.trans k19)))⟩
  · go_wp2_with fail
    refine (few2_any w1 A A' n n' c c' _ w1.heap.size rfl false (by simpa using hf)).mono ?_
    rintro e w2 ⟨rfl, k2⟩
    go_wp2
    go_ret
    exact ⟨rfl, k1.trans k2⟩
end Go.Proofs.Ytcfbemjnkiepdaa
