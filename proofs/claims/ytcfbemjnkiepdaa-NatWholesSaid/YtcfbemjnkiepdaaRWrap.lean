/-
  What Cmp, Add, Sub and Of of the reference of layer 2 answer.
-/
import Derived.Test.YtcfbemjnkiepdaaRLess
namespace Go.Proofs.Ytcfbemjnkiepdaa
open Go.RowKit
set_option linter.unusedVariables false

/-- Digits, wherever they lie. -/
def DX (w : World) (A : Option Addr) (n c : Nat) (zs : List Nat) : Prop := DR w w.heap.size A n c zs
theorem DX.ext {a b : World} {A : Option Addr} {n c : Nat} {xs : List Nat} (h : DX a A n c xs) (k : Ext a b) : DX b A n c xs := (Rd.below h k).more k.size
theorem digX {A : Option Addr} {n c : Nat} {xs : List Nat} {w : World} (h : NX w A n c xs) (hn : n ≤ 10000) :
    Calls Try.prog 64 #[.slice A n c] w fun e w' => ∃ A2 n2 c2, e = .returned (.slice A2 n2 c2) ∧ n2 ≤ 4 * n ∧ DX w' A2 n2 c2 (dg 65536 (nv xs)) ∧ Ext w w' := (digits_any A n c xs w h hn).mono fun e w' ⟨A2, n2, c2, a1, a2, a3, a4, _⟩ => ⟨A2, n2, c2, a1, a2, a3, a4⟩
theorem fromX {A : Option Addr} {n c : Nat} {zs : List Nat} {w : World} (h : DX w A n c zs) (hn : n ≤ 100000) :
    Calls Try.prog 62 #[.slice A n c] w fun e w' => ∃ A2 n2 c2, e = .returned (.slice A2 n2 c2) ∧ n2 ≤ n ∧ NX w' A2 n2 c2 (nw (vl 65536 zs)) ∧ Ext w w' := from_any A n c zs w h hn
theorem plusX {A A' : Option Addr} {n n' c c' : Nat} {xs ys : List Nat} {w : World} (h : DX w A n c xs) (h' : DX w A' n' c' ys) (hn : n ≤ 100000) (hn' : n' ≤ 100000) :
    Calls Try.prog 68 #[.slice A n c, .slice A' n' c'] w fun e w' => ∃ A2 n2 c2, e = .returned (.slice A2 n2 c2) ∧ n2 ≤ n + n' + 1 ∧ DX w' A2 n2 c2 (dg 65536 (vl 65536 xs + vl 65536 ys)) ∧ Ext w w' := (plus_any A A' n n' c c' xs ys w h h' hn hn').mono fun e w' ⟨A2, n2, c2, a1, a2, a3, a4, _⟩ => ⟨A2, n2, c2, a1, a2, a3, a4⟩
theorem lessX {A A' : Option Addr} {n n' c c' X Y : Nat} {w : World} (h : DX w A n c (dg 65536 X)) (h' : DX w A' n' c' (dg 65536 Y)) (hn : n ≤ 100000) (hv : Y ≤ X) :
    Calls Try.prog 63 #[.slice A n c, .slice A' n' c'] w fun e w' => ∃ A2 n2 c2, e = .returned (.slice A2 n2 c2) ∧ n2 ≤ n ∧ DX w' A2 n2 c2 (dg 65536 (X - Y)) ∧ Ext w w' := by
  have hl : n' ≤ n := by
    rcases Nat.lt_or_ge n n' with hh | hh
    · have := dg_len_lt (b := 65536) d_two (n := X) (m := Y) (by rw [h.len, h'.len]; exact hh)
      omega
    · exact hh
  have := rless_any A A' n n' c c' _ _ w h h' hn hl (by rw [vl_dg d_two, vl_dg d_two]; exact hv)
  rw [vl_dg d_two, vl_dg d_two] at this
  exact this.mono fun e w' ⟨A2, n2, c2, a1, a2, a3, a4, _⟩ => ⟨A2, n2, c2, a1, a2, a3, a4⟩
theorem compareX {A A' : Option Addr} {n n' c c' X Y : Nat} {w : World} (h : DX w A n c (dg 65536 X)) (h' : DX w A' n' c' (dg 65536 Y)) (hn : n ≤ 1000000) (hn' : n' ≤ 1000000) :
    Calls Try.prog 70 #[.slice A n c, .slice A' n' c'] w fun e w' => e = .returned (.int .i64 (cmpS X Y)) ∧ Ext w w' := (compare_any A A' n n' c c' _ X Y w h h' hn hn').mono fun e w' ⟨he, q, hw⟩ => ⟨he, by rw [hw]; exact (Ext.refl w).drewN q⟩

theorem rcmpX {A A' : Option Addr} {n n' c c' : Nat} {xs ys : List Nat} {w : World} (h : NX w A n c xs) (h' : NX w A' n' c' ys) (hn : n ≤ 10000) (hn' : n' ≤ 10000) :
    Calls Try.prog 39 #[.slice A n c, .slice A' n' c'] w fun e w' => e = .returned (.int .i64 (cmpS (nv xs) (nv ys))) ∧ Ext w w' := by
  go_enter Try.func39, Try.ntmps39
  go_wp2_with fail
  refine (digX h hn).mono ?_
  rintro e w1 ⟨A1, n1, c1, rfl, hn1, d1, k1⟩
  go_wp2_with fail
  refine (digX (h'.ext k1) hn').mono ?_
  rintro e w2 ⟨A2, n2, c2, rfl, hn2, d2, k2⟩
  go_wp2_with fail
  refine (compareX (d1.ext k2) d2 (by omega) (by omega)).mono ?_
  rintro e w3 ⟨rfl, k3⟩
  go_wp2
  go_ret
  exact ⟨rfl, k1.trans (k2.trans k3)⟩
theorem raddX {A A' : Option Addr} {n n' c c' : Nat} {xs ys : List Nat} {w : World} (h : NX w A n c xs) (h' : NX w A' n' c' ys) (hn : n ≤ 10000) (hn' : n' ≤ 10000) :
    Calls Try.prog 37 #[.slice A n c, .slice A' n' c'] w fun e w' => ∃ A2 n2 c2, e = .returned (.slice A2 n2 c2) ∧ n2 ≤ 4 * n + 4 * n' + 1 ∧ NX w' A2 n2 c2 (nw (nv xs + nv ys)) ∧ Ext w w' := by
  have HV := Lib.hid (show vl 65536 (dg 65536 (vl 65536 (dg 65536 (nv xs)) + vl 65536 (dg 65536 (nv ys)))) = nv xs + nv ys by rw [vl_dg d_two, vl_dg d_two, vl_dg d_two])
  go_enter Try.func37, Try.ntmps37
  go_wp2_with fail
  refine (digX h hn).mono ?_
  rintro e w1 ⟨A1, n1, c1, rfl, hn1, d1, k1⟩
  go_wp2_with fail
  refine (digX (h'.ext k1) hn').mono ?_
  rintro e w2 ⟨A2, n2, c2, rfl, hn2, d2, k2⟩
  go_wp2_with fail
  refine (plusX (d1.ext k2) d2 (by omega) (by omega)).mono ?_
  rintro e w3 ⟨A3, n3, c3, rfl, hn3, d3, k3⟩
  go_wp2_with fail
  refine (fromX d3 (by omega)).mono ?_
  rw [HV.out]
  rintro e w4 ⟨A4, n4, c4, rfl, hn4, d4, k4⟩
  go_wp2
  go_ret
  exact ⟨A4, n4, c4, rfl, by omega, d4, k1.trans (k2.trans (k3.trans k4))⟩
theorem rsubX {A A' : Option Addr} {n n' c c' : Nat} {xs ys : List Nat} {w : World} (h : NX w A n c xs) (h' : NX w A' n' c' ys) (hn : n ≤ 10000) (hn' : n' ≤ 10000) :
    Calls Try.prog 34 #[.slice A n c, .slice A' n' c'] w (SubPost w (4 * n) (nv xs) (nv ys)) := by
  go_enter Try.func34, Try.ntmps34
  go_wp2_with fail
  refine (rcmpX h h' hn hn').mono ?_
  rintro e w0 ⟨rfl, k0⟩
  by_cases hlt : nv xs < nv ys
  · have HE := Lib.hid (cmpS_lt hlt)
    rw [HE.out]
    go_wp2
    go_ret2
    exact .inl ⟨hlt, rfl, k0⟩
  · have hd : decide (cmpS (nv xs) (nv ys) < 0) = false := by
      unfold cmpS; rw [if_neg hlt]; split <;> decide
    go_wp2_with fail
    refine (digX (h.ext k0) hn).mono ?_
    rintro e w1 ⟨A1, n1, c1, rfl, hn1, d1, k1⟩
    go_wp2_with fail
    refine (digX (h'.ext (k0.trans k1)) hn').mono ?_
    rintro e w2 ⟨A2, n2, c2, rfl, hn2, d2, k2⟩
    go_wp2_with fail
    refine (lessX (d1.ext k2) d2 (by omega) (by omega)).mono ?_
    rintro e w3 ⟨A3, n3, c3, rfl, hn3, d3, k3⟩
    have HV := Lib.hid (vl_dg d_two (nv xs - nv ys))
    go_wp2_with fail
    refine (fromX d3 (by omega)).mono ?_
    rw [HV.out]
    rintro e w4 ⟨A4, n4, c4, rfl, hn4, d4, k4⟩
    go_wp2
    go_ret2
    exact .inr ⟨by omega, A4, n4, c4, rfl, by omega, d4, k0.trans (k1.trans (k2.trans (k3.trans k4)))⟩
theorem rofX (x : Nat) (hx : x < 18446744073709551616) (w : World) :
    Calls Try.prog 49 #[.int .u64 (x : Int)] w fun e w' => ∃ A2 n2 c2, e = .returned (.slice A2 n2 c2) ∧ n2 ≤ 4 ∧ NX w' A2 n2 c2 (nw x) ∧ Ext w w' := by
  have HV := Lib.hid (show vl 65536 (dg 65536 (nv [x])) = x by rw [vl_dg d_two, nv_one])
  go_enter Try.func49, Try.ntmps49
  go_wp2_with fail
  refine (digX (NX.one w w.heap.size rfl x x rfl hx) (by omega)).mono ?_
  rintro e w1 ⟨A1, n1, c1, rfl, hn1, d1, k1⟩
  go_wp2_with fail
  refine (fromX d1 (by omega)).mono ?_
  rw [HV.out]
  rintro e w4 ⟨A4, n4, c4, rfl, hn4, d4, k4⟩
  go_wp2
  go_ret
  exact ⟨A4, n4, c4, rfl, by omega, d4, ((Ext.refl w).alloc _).trans (k1.trans k4)⟩
end Go.Proofs.Ytcfbemjnkiepdaa
