/-
  The law CrtGoes, walked.
-/
import Derived.Test.YtpgcapobbmbchaaDoorZ39
import Derived.Test.YtpgcapobbmbchaaDoorZ33
import Derived.Test.YtpgcapobbmbchaaDoorZ23
namespace Go.Proofs.YtpgcapobbmbchaaDoor
open Go.RowKit
set_option linter.unusedVariables false
set_option maxRecDepth 100000

theorem iv_res {b : Bool} {X q : Nat} (hq : 0 < q) : (resF b X q : Int) = iv b X % (q : Int) := by
  cases b
  · simp [resF, iv]
  · have h1 : X % q < q := Nat.mod_lt _ hq
    show (((0 + q - X % q) % q : Nat) : Int) = (-(X : Int)) % (q : Int)
    rw [Int.natCast_emod, show ((0 + q - X % q : Nat) : Int) = (q : Int) - ((X % q : Nat) : Int) by omega, Int.natCast_emod]
    have h2 := Int.emod_add_mul_ediv (X : Int) (q : Int)
    rw [show (q : Int) - (X : Int) % (q : Int) = -(X : Int) + (q : Int) * (1 + (X : Int) / (q : Int)) by rw [Int.mul_add, Int.mul_one]; omega]
    exact Int.add_mul_emod_self_left _ _ _
theorem iv_again6 (z : Int) : iv (decide (z < 0)) z.natAbs = z := by
  unfold iv
  by_cases h : z < 0
  · simp [h]; omega
  · simp [h]; omega
theorem res_z {z : Int} {q : Nat} (hq : 0 < q) : (resF (decide (z < 0)) (nv (nw z.natAbs)) q : Int) = z % (q : Int) := by
  rw [nv_nw, iv_res hq, iv_again6]
theorem res_add {b b' : Bool} {X Y q : Nat} (hq : 0 < q) : (resF b X q + resF b' Y q) % q = resF (decide (iv b X + iv b' Y < 0)) (nv (nw (iv b X + iv b' Y).natAbs)) q := by
  apply Int.ofNat.inj
  show ((_ : Nat) : Int) = ((_ : Nat) : Int)
  rw [res_z hq, Int.natCast_emod, Int.natCast_add, iv_res hq, iv_res hq, ← Int.add_emod]
theorem res_mul {b b' : Bool} {X Y q : Nat} (hq : 0 < q) : resF b X q * resF b' Y q % q = resF (decide (iv b X * iv b' Y < 0)) (nv (nw (iv b X * iv b' Y).natAbs)) q := by
  apply Int.ofNat.inj
  show ((_ : Nat) : Int) = ((_ : Nat) : Int)
  rw [res_z hq, Int.natCast_emod, Int.natCast_mul, iv_res hq, iv_res hq, ← Int.mul_emod]
theorem raddE (a b n y : Nat) (w : World) (hn : 0 < n) (a1 : a < 18446744073709551616) (d1 : b < 18446744073709551616) (n1 : n < 18446744073709551616) (h : Hid ((a + b) % n = y)) :
    Calls Tryd.prog 59 #[.int .u64 (a : Int), .int .u64 (b : Int), .int .u64 (n : Int)] w fun e w' => e = .returned (.int .u64 (y : Int)) ∧ Ext w w' := by
  refine (radd_any a b n w (by omega) (by omega) (by omega) (by omega) (by omega) (by omega)).mono fun e w' ⟨he, hw⟩ => ⟨?_, by rw [← hw]; exact Ext.refl _⟩
  rw [he, ← h.out]
  unfold addS
  rw [if_neg (by omega), Int.natCast_emod, Int.natCast_add]
/-- What a sum or a product of whole numbers is told as. -/
def ZP (w : World) (z : Int) (e : Ending) (w' : World) : Prop := ∃ (f : Bool) (A : Option Addr) (n c : Nat) (zs : List Nat), e = .returned (.agg #[.bool f, .slice A n c]) ∧ n ≤ 1000 ∧ NX w' A n c zs ∧ Hid (f = decide (z < 0) ∧ zs = nw z.natAbs) ∧ Ext w w'
theorem rsum6 {A A' : Option Addr} {n n' c c' : Nat} {b b' : Bool} {xs ys : List Nat} {w : World} (h : NX w A n c xs) (h' : NX w A' n' c' ys) (hn : n ≤ 20) (hn' : n' ≤ 20) :
    Calls Tryd.prog 55 #[.agg #[.bool b, .slice A n c], .agg #[.bool b', .slice A' n' c']] w (ZP w (iv b (nv xs) + iv b' (nv ys))) :=
  (rsumX' ⟨xs, h, rfl⟩ ⟨ys, h', rfl⟩ (by omega) (by omega)).mono fun e w' ⟨A2, n2, c2, he, hl, hx, k⟩ => ⟨_, A2, n2, c2, _, he, by omega, hx, Lib.hid ⟨rfl, rfl⟩, k⟩
theorem rtimes6 {A A' : Option Addr} {n n' c c' : Nat} {b b' : Bool} {xs ys : List Nat} {w : World} (h : NX w A n c xs) (h' : NX w A' n' c' ys) (hn : n ≤ 20) (hn' : n' ≤ 20) :
    Calls Tryd.prog 58 #[.agg #[.bool b, .slice A n c], .agg #[.bool b', .slice A' n' c']] w (ZP w (iv b (nv xs) * iv b' (nv ys))) :=
  (rtimesX' ⟨xs, h, rfl⟩ ⟨ys, h', rfl⟩ (by omega) (by omega)).mono fun e w' ⟨A2, n2, c2, he, hl, hx, k⟩ => ⟨_, A2, n2, c2, _, he, by omega, hx, Lib.hid ⟨rfl, rfl⟩, k⟩
set_option maxHeartbeats 8000000 in
theorem crtGoes_walk {b : Bool} {A : Option Addr} {n c : Nat} {xs : List Nat} {b' : Bool} {A' : Option Addr} {n' c' : Nat} {ys : List Nat} {B : Option Addr} {L d : Nat} {q : Nat → Nat} (w : World) (HA : Hid (NX w A n c xs)) (HA' : Hid (NX w A' n' c' ys)) (hB : FX w B L d q) (hL : L ≤ maxLen) (hq : Hid (∀ j, j < L → q j < 18446744073709551616)) (hT : Tabs w) :
    Calls Tryd.prog 14 #[.agg #[.bool b, .slice A n c], .agg #[.bool b', .slice A' n' c'], .slice B L d] w fun e w' => e = .returned (.bool true) ∧ Ext w w' := by
  have HT := Lib.hid hT
  have HB := Lib.hid hB
  clear hT hB
  unfold maxLen at hL
  have kV : Ext w ((w.alloc (.cells #[.bool b, .slice A n c] 59)).alloc (.cells #[.bool b', .slice A' n' c'] 59)) := ((Ext.refl w).alloc _).alloc _
  have hi : RW ((w.alloc (.cells #[.bool b, .slice A n c] 59)).alloc (.cells #[.bool b', .slice A' n' c'] 59)) w.heap.size 59 2 (two (.bool b) (.slice A n c)) := RW.ext (show RW (w.alloc (.cells #[.bool b, .slice A n c] 59)) w.heap.size 59 2 (two (.bool b) (.slice A n c)) from heap_alloc_new _ _) ((Ext.refl _).alloc _)
  have hj : RW ((w.alloc (.cells #[.bool b, .slice A n c] 59)).alloc (.cells #[.bool b', .slice A' n' c'] 59)) (w.heap.size + 1) 59 2 (two (.bool b') (.slice A' n' c')) := by
    have h0 : RW ((w.alloc (.cells #[.bool b, .slice A n c] 59)).alloc (.cells #[.bool b', .slice A' n' c'] 59)) (w.alloc (.cells #[.bool b, .slice A n c] 59)).heap.size 59 2 (two (.bool b') (.slice A' n' c')) := heap_alloc_new _ _
    rwa [show (w.alloc (.cells #[.bool b, .slice A n c] 59)).heap.size = w.heap.size + 1 by simp] at h0
  go_enter Tryd.func14, Tryd.ntmps14
  go_wp2_with fail
  generalize ((w.alloc (.cells #[.bool b, .slice A n c] 59)).alloc (.cells #[.bool b', .slice A' n' c'] 59)) = V at *
  have HK := Lib.hid (show ∀ W' : World, Ext V W' → W'.cell? ⟨w.heap.size, 0, none⟩ = some (.bool b) ∧ W'.cell? ⟨w.heap.size, 1, none⟩ = some (.slice A n c) ∧ W'.cell? ⟨w.heap.size + 1, 0, none⟩ = some (.bool b') ∧ W'.cell? ⟨w.heap.size + 1, 1, none⟩ = some (.slice A' n' c') from fun W' k =>
    ⟨(hi.ext k).cell (i := 0) (by omega), (hi.ext k).cell (i := 1) (by omega), (hj.ext k).cell (i := 0) (by omega), (hj.ext k).cell (i := 1) (by omega)⟩)
  clear hi hj
  refine (fixed6_any V (HT.out.ext kV)).mono ?_
  rintro ee w1 ⟨rfl, k1⟩
  have kw1 := kV.trans k1
  obtain ⟨x0, x1, x2, x3⟩ := HK.out w1 k1
  by_cases g1 : 24 < L
  · go_wp2
    go_ret
    exact ⟨rfl, kw1⟩
  by_cases g2 : 20 < n
  · go_wp2
    go_ret
    exact ⟨rfl, kw1⟩
  by_cases g3 : 20 < n'
  · go_wp2
    go_ret
    exact ⟨rfl, kw1⟩
  by_cases hR : RowC L q
  · have HR := Lib.hid hR
    clear hR
    go_wp2_with fail
    refine (Residues_any b A n c xs B L d q w1 (NX.ext HA.out kw1) (by omega) (HB.out.ext kw1) hq (HT.out.ext kw1) HR.out).mono ?_
    rintro ee w2 ⟨g2, rfl, hu2, k2⟩
    have U2 := Lib.hid hu2
    clear hu2 x0 x1 x2 x3
    have v2 := k1.trans k2
    have kw2 := kV.trans v2
    obtain ⟨x0, x1, x2, x3⟩ := HK.out w2 v2
    go_wp2_with fail
    refine (Residues_any b' A' n' c' ys B L d q w2 (NX.ext HA'.out kw2) (by omega) (HB.out.ext kw2) hq (HT.out.ext kw2) HR.out).mono ?_
    rintro ee w3 ⟨g3, rfl, hu3, k3⟩
    have U3 := Lib.hid hu3
    clear hu3 x0 x1 x2 x3
    have v3 := v2.trans k3
    have kw3 := kV.trans v3
    obtain ⟨x0, x1, x2, x3⟩ := HK.out w3 v3
    go_wp2_with fail
    refine (rsum6 (NX.ext HA.out kw3) (NX.ext HA'.out kw3) (by omega) (by omega)).mono ?_
    rintro ee w4 ⟨f4, A4, n4, c4, zs4, rfl, hn4, hx4, H4, k4⟩
    have X4 := Lib.hid hx4
    clear hx4 x0 x1 x2 x3
    have v4 := v3.trans k4
    have kw4 := kV.trans v4
    obtain ⟨x0, x1, x2, x3⟩ := HK.out w4 v4
    go_wp2_with fail
    refine (Residues_any f4 A4 n4 c4 zs4 B L d q w4 X4.out (by omega) (HB.out.ext kw4) hq (HT.out.ext kw4) HR.out).mono ?_
    rintro ee w5 ⟨g5, rfl, hu5, k5⟩
    have U5 := Lib.hid hu5
    clear hu5 x0 x1 x2 x3
    have v5 := v4.trans k5
    have kw5 := kV.trans v5
    obtain ⟨x0, x1, x2, x3⟩ := HK.out w5 v5
    go_wp2_with fail
    refine (rtimes6 (NX.ext HA.out kw5) (NX.ext HA'.out kw5) (by omega) (by omega)).mono ?_
    rintro ee w6 ⟨f6, A6, n6, c6, zs6, rfl, hn6, hx6, H6, k6⟩
    have X6 := Lib.hid hx6
    clear hx6 x0 x1 x2 x3
    have v6 := v5.trans k6
    have kw6 := kV.trans v6
    go_wp2_with fail
    refine (Residues_any f6 A6 n6 c6 zs6 B L d q w6 X6.out (by omega) (HB.out.ext kw6) hq (HT.out.ext kw6) HR.out).mono ?_
    rintro ee w7 ⟨g7, rfl, hu7, k7⟩
    have kw7 := kw6.trans k7
    have UA := Lib.hid (RW.ext U2.out (k3.trans (k4.trans (k5.trans (k6.trans k7)))))
    have UB := Lib.hid (RW.ext U3.out (k4.trans (k5.trans (k6.trans k7))))
    have US := Lib.hid (RW.ext U5.out (k6.trans k7))
    have UP := Lib.hid hu7
    have S1 := Lib.hid (show ∀ j, j < L → (resF b (nv xs) (q j) + resF b' (nv ys) (q j)) % q j = resF f4 (nv zs4) (q j) from fun j hj => by
      rw [H4.out.1, H4.out.2]; exact res_add (okq_lt HR.out j hj).1)
    have S2 := Lib.hid (show ∀ j, j < L → resF b (nv xs) (q j) * resF b' (nv ys) (q j) % q j = resF f6 (nv zs6) (q j) from fun j hj => by
      rw [H6.out.1, H6.out.2]; exact res_mul (okq_lt HR.out j hj).1)
    clear hu7 U2 U3 U5 X4 X6 H4 H6 k1 k2 k3 k4 k5 k6 k7 v2 v3 v4 v5 v6 kw1 kw2 kw3 kw4 kw5 kw6
    have hnn : ((L : Int) != (L : Int)) = false := by simp
    go_wp2_with fail
    go_loopw [117] (fun i wr => ∃ j : Nat, j ≤ L ∧ i = .int .i64 (j : Int) ∧ Ext w7 wr) (fun i _ => L - (intOf i).toNat)
    case atStart => exact ⟨0, by omega, rfl, Ext.refl _⟩
    case round =>
      obtain ⟨j, hj, rfl, kr⟩ := hrel
      by_cases hlt : j < L
      · obtain ⟨ad, rfl, hc⟩ := (HB.out.ext (kw7.trans kr)).cells (by omega)
        have hcell := hc j hlt
        clear hc
        obtain ⟨hq0, hq1⟩ := okq_lt HR.out j hlt
        have c0 := cell_ext kr (RW.cell UA.out hlt)
        have c1 := cell_ext kr (RW.cell UB.out hlt)
        have c2 := cell_ext kr (RW.cell US.out hlt)
        have c3 : wr.cell? ⟨g7, j, none⟩ = some (.int .u64 ((resF f6 (nv zs6) (q j) : Nat) : Int)) := cell_ext kr (RW.cell UP.out hlt)
        have HS := Lib.hid (S1.out j hlt)
        have HP := Lib.hid (S2.out j hlt)
        have l0 : resF b (nv xs) (q j) < q j := resF_lt hq0
        have l1 : resF b' (nv ys) (q j) < q j := resF_lt hq0
        generalize resF b (nv xs) (q j) = aj at *
        generalize resF b' (nv ys) (q j) = bj at *
        generalize resF f4 (nv zs4) (q j) = sj at *
        generalize resF f6 (nv zs6) (q j) = pj at *
        have i0 : (0 : Int) ≤ (j : Int) := by omega
        have i1 : (j : Int) < (L : Int) := by omega
        go_wp2_with fail
        generalize q j = qj at *
        go_region_held3 (fun w' => w'.cell? ⟨g2, j, none⟩ = some (.int .u64 (aj : Int)) ∧ w'.cell? ⟨g3, j, none⟩ = some (.int .u64 (bj : Int)) ∧ w'.cell? ⟨g5, j, none⟩ = some (.int .u64 (sj : Int)) ∧ w'.cell? ⟨g7, j, none⟩ = some (.int .u64 (pj : Int))) (go_keep)
          (first
            | (go_at_call 60; refine (rmulE aj bj qj pj _ (by omega) (by omega) (by omega) (by omega) HP).mono ?_; rintro e2 w9 ⟨rfl, k9⟩; have k9' := k8'.trans k9; have d0 := cell_ext k9' c0; have d1 := cell_ext k9' c1; have d2 := cell_ext k9' c2; have d3 := cell_ext k9' c3)
            | (go_at_call 59; refine (raddE aj bj qj sj _ (by omega) (by omega) (by omega) (by omega) HS).mono ?_; rintro e2 w8 ⟨rfl, k8⟩; have k8' := (Ext.refl _).drew.trans k8; have e0 := cell_ext k8' c0; have e1 := cell_ext k8' c1; have e3 := cell_ext k8' c2; have e4 := cell_ext k8' c3)
            | fail)
        go_wp2
        exact ⟨⟨j + 1, by omega, by go_num, kr.trans k9'⟩, by simp [intOf]; omega⟩
      · go_wp2
        go_ret
        exact ⟨rfl, kw7.trans kr⟩
  · have HR := Lib.hid hR
    clear hR
    go_wp2_with fail
    refine (Residues_no b A n c B L d q w1 (HB.out.ext kw1) (by omega) hq (HT.out.ext kw1) HR.out).mono ?_
    rintro ee w2 ⟨rfl, k2⟩
    clear x0 x1 x2 x3
    have v2 := k1.trans k2
    have kw2 := kV.trans v2
    obtain ⟨x0, x1, x2, x3⟩ := HK.out w2 v2
    go_wp2_with fail
    refine (Residues_no b' A' n' c' B L d q w2 (HB.out.ext kw2) (by omega) hq (HT.out.ext kw2) HR.out).mono ?_
    rintro ee w3 ⟨rfl, k3⟩
    clear x0 x1 x2 x3
    have v3 := v2.trans k3
    have kw3 := kV.trans v3
    obtain ⟨x0, x1, x2, x3⟩ := HK.out w3 v3
    go_wp2_with fail
    refine (rsum6 (NX.ext HA.out kw3) (NX.ext HA'.out kw3) (by omega) (by omega)).mono ?_
    rintro ee w4 ⟨f4, A4, n4, c4, zs4, rfl, hn4, hx4, H4, k4⟩
    clear hx4 x0 x1 x2 x3
    have v4 := v3.trans k4
    have kw4 := kV.trans v4
    obtain ⟨x0, x1, x2, x3⟩ := HK.out w4 v4
    go_wp2_with fail
    refine (Residues_no f4 A4 n4 c4 B L d q w4 (HB.out.ext kw4) (by omega) hq (HT.out.ext kw4) HR.out).mono ?_
    rintro ee w5 ⟨rfl, k5⟩
    clear x0 x1 x2 x3
    have v5 := v4.trans k5
    have kw5 := kV.trans v5
    obtain ⟨x0, x1, x2, x3⟩ := HK.out w5 v5
    go_wp2_with fail
    refine (rtimes6 (NX.ext HA.out kw5) (NX.ext HA'.out kw5) (by omega) (by omega)).mono ?_
    rintro ee w6 ⟨f6, A6, n6, c6, zs6, rfl, hn6, hx6, H6, k6⟩
    clear hx6 x0 x1 x2 x3
    have v6 := v5.trans k6
    have kw6 := kV.trans v6
    go_wp2_with fail
    refine (Residues_no f6 A6 n6 c6 B L d q w6 (HB.out.ext kw6) (by omega) hq (HT.out.ext kw6) HR.out).mono ?_
    rintro ee w7 ⟨rfl, k7⟩
    have kw7 := kw6.trans k7
    go_wp2
    go_ret
    exact ⟨rfl, kw7⟩
end Go.Proofs.YtpgcapobbmbchaaDoor
