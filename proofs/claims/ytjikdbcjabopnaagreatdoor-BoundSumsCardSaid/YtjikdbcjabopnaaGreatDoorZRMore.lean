import Derived.Test.YtjikdbcjabopnaaGreatDoorZ26
namespace Go.Proofs.YtjikdbcjabopnaaGreatDoor
open Go.RowKit
set_option linter.unusedVariables false
set_option maxRecDepth 100000
theorem rtimesX {A A' : Option Addr} {n n' c c' : Nat} {xs ys : List Nat} {w : World} (h : DX w A n c xs) (h' : DX w A' n' c' ys) (hn : n ≤ 10000) (hn' : n' ≤ 10000) :
    Calls Tryz.prog 182 #[.slice A n c, .slice A' n' c'] w fun e w' => ∃ A2 n2 c2, e = .returned (.slice A2 n2 c2) ∧ n2 ≤ n + n' + 1 ∧ DX w' A2 n2 c2 (dg 65536 (vl 65536 xs * vl 65536 ys)) ∧ ExtN w w' := (times_dg_any A A' n n' c c' xs ys w h h' hn hn').mono fun e w' ⟨A2, n2, c2, a1, a2, a3, a4, _⟩ => ⟨A2, n2, c2, a1, a2, a3, a4⟩
theorem rmulX {A A' : Option Addr} {n n' c c' : Nat} {xs ys : List Nat} {w : World} (h : NXN w A n c xs) (h' : NXN w A' n' c' ys) (hn : n ≤ 2000) (hn' : n' ≤ 2000) :
    Calls Tryz.prog 117 #[.slice A n c, .slice A' n' c'] w fun e w' => ∃ A2 n2 c2, e = .returned (.slice A2 n2 c2) ∧ n2 ≤ 4 * n + 4 * n' + 1 ∧ NXN w' A2 n2 c2 (nw (nv xs * nv ys)) ∧ ExtN w w' := by
 have HV := Lib.hid (show vl 65536 (dg 65536 (vl 65536 (dg 65536 (nv xs)) * vl 65536 (dg 65536 (nv ys)))) = nv xs * nv ys by rw [vl_dg d_two, vl_dg d_two, vl_dg d_two])
 go_enter Tryz.func117, Tryz.ntmps117
 go_wp2_with fail
 refine (digX h (by omega)).mono ?_
 rintro e w1 ⟨A1, n1, c1, rfl, hn1, d1, k1⟩
 go_wp2_with fail
 refine (digX (h'.ext k1) (by omega)).mono ?_
 rintro e w2 ⟨A2, n2, c2, rfl, hn2, d2, k2⟩
 go_wp2_with fail
 refine (rtimesX (d1.ext k2) d2 (by omega) (by omega)).mono ?_
 rintro e w3 ⟨A3, n3, c3, rfl, hn3, d3, k3⟩
 go_wp2_with fail
 refine (fromX d3 (by omega)).mono ?_
 rw [HV.out]
 rintro e w4 ⟨A4, n4, c4, rfl, hn4, d4, k4⟩
 go_wp2
 go_ret
 exact ⟨A4, n4, c4, rfl, by omega, d4, k1.trans (k2.trans (k3.trans k4))⟩
theorem partsX {A A' : Option Addr} {n n' c c' X Y : Nat} {w : World} (h : DX w A n c (dg 65536 X)) (h' : DX w A' n' c' (dg 65536 Y)) (hn : n ≤ 10000) (hn' : n' ≤ 10000) (hY : 0 < Y) :
    Calls Tryz.prog 224 #[.slice A n c, .slice A' n' c'] w fun e w' => ∃ A m c A2 m2 c2, e = .returned (.tuple #[.slice A m c, .slice A2 m2 c2]) ∧ m ≤ n ∧ m2 ≤ n' ∧ DX w' A m c (dg 65536 (X / Y)) ∧ DX w' A2 m2 c2 (dg 65536 (X % Y)) ∧ ExtN w w' := parts_any A A' n n' c c' X Y w h h' hn hn' hY
theorem dg_pos_len {V : Nat} (h : 0 < V) : 0 < (dg 65536 V).length := by
 rcases Nat.eq_zero_or_pos (dg 65536 V).length with h0 | h0
 ·have := dg_nil d_two (List.eq_nil_of_length_eq_zero h0)
  omega
 ·exact h0
theorem rdivX {A A' : Option Addr} {n n' c c' : Nat} {xs ys : List Nat} {w : World} (h : NXN w A n c xs) (h' : NXN w A' n' c' ys) (hn : n ≤ 2000) (hn' : n' ≤ 2000) :
    Calls Tryz.prog 163 #[.slice A n c, .slice A' n' c'] w (DivPostN w (4 * n + 4 * n') (nv xs) (nv ys)) := by
 go_enter Tryz.func163, Tryz.ntmps163
 go_wp2_with fail
 refine (digX h' (by omega)).mono ?_
 rintro e w1 ⟨A1, n1, c1, rfl, hn1, d1, k1⟩
 by_cases hY : nv ys = 0
 ·have hl := d1.len
  rw [hY, dg_zero] at hl
  obtain rfl : n1 = 0 := hl.symm
  go_wp2
  go_ret3
  exact .inl ⟨hY, rfl, k1⟩
 ·have hl := d1.len
  have hp := dg_pos_len (V := nv ys) (by omega)
  have hnb : ((n1 : Int) == 0) = false := by simp; omega
  clear hl hp
  go_wp2_with fail
  refine (digX (h.ext k1) (by omega)).mono ?_
  rintro e w2 ⟨A2, n2, c2, rfl, hn2, d2, k2⟩
  go_wp2_with fail
  refine (partsX d2 (d1.ext k2) (by omega) (by omega) (by omega)).mono ?_
  rintro e w3 ⟨A3, n3, c3, A4, n4, c4, rfl, hn3, hn4, d3, d4, k3⟩
  have HV := Lib.hid (vl_dg d_two (nv xs / nv ys))
  have HV2 := Lib.hid (vl_dg d_two (nv xs % nv ys))
  go_wp2_with fail
  refine (fromX d3 (by omega)).mono ?_
  rw [HV.out]
  rintro e w4 ⟨A5, n5, c5, rfl, hn5, d5, k4⟩
  go_wp2_with fail
  refine (fromX (d4.ext k4) (by omega)).mono ?_
  rw [HV2.out]
  rintro e w5 ⟨A6, n6, c6, rfl, hn6, d6, k5⟩
  go_wp2
  go_ret3
  exact .inr ⟨by omega, A5, n5, c5, A6, n6, c6, rfl, by omega, by omega, d5.ext k5, d6, k1.trans (k2.trans (k3.trans (k4.trans k5)))⟩
theorem nw_head {V : Nat} (h : V < 18446744073709551616) : (nw V)[0]?.getD 0 = V := by
 rcases Nat.eq_zero_or_pos V with h0 | h0
 ·subst h0
  rw [show nw 0 = [] from dg_zero _]; rfl
 ·rw [nw_one h0 h]; rfl
theorem rmodX {A : Option Addr} {n c : Nat} {xs : List Nat} {w : World} (d : Nat) (h : NXN w A n c xs) (hn : n ≤ 2000) (hd : d < 18446744073709551616) :
    Calls Tryz.prog 192 #[.slice A n c, .int .u64 (d : Int)] w fun e w' => e = .returned (.int .u64 ((if d = 0 then 0 else nv xs % d : Nat) : Int)) ∧ ExtN w w' := by
 by_cases hd0 : d = 0
 ·subst hd0
  go_enter Tryz.func192, Tryz.ntmps192
  go_wp2
  go_ret
  exact ⟨rfl, ExtN.refl _⟩
 ·have hdb : ((d : Int) == 0) = false := by simpa using hd0
  rw [if_neg hd0]
  have E := Lib.hid (nv_one d)
  go_enter Tryz.func192, Tryz.ntmps192
  go_wp2_with fail
  refine (rdivX (h.ext ((ExtN.refl w).alloc _)) (NXN.one w w.heap.size rfl d d rfl hd) (by omega) (by omega)).mono ?_
  rw [E.out]
  rintro e w2 (⟨h0, _⟩ | ⟨_, A2, n2, c2, A3, n3, c3, rfl, hn2, hn3, hx2, hx3, he2⟩)
  ·omega
  have k2 : ExtN w w2 := ((ExtN.refl w).alloc _).trans he2
  have hlt := Nat.mod_lt (nv xs) (show 0 < d by omega)
  have HH := Lib.hid (nw_head (V := nv xs % d) (by omega))
  by_cases hn0 : n3 = 0
  ·subst hn0
   have H0 := hx3.len
   have HR := Lib.hid (dg_nil W64_two (hx3.eq_nil rfl))
   clear H0
   go_wp2
   go_ret
   exact ⟨congrArg Ending.returned (u64_eq (by rw [HR.out]; rfl)), k2⟩
  ·have hnb : ((n3 : Int) == 0) = false := by simpa using hn0
   obtain ⟨ad, x, rfl, hb, hxb, hx, hc⟩ := hx3.at_ (show 0 < n3 by omega)
   have HX := Lib.hid hx
   have hc0 : w2.cell? ad = some (.int .u64 (x : Int)) := hc
   clear hx
   go_wp2
   go_ret
   refine ⟨congrArg Ending.returned (u64_eq ?_), k2⟩
   have := HH.out
   rw [HX.out, Option.getD_some] at this
   rw [this]
end Go.Proofs.YtjikdbcjabopnaaGreatDoor
