import Derived.Test.YtjikdbcjabopnaaGreatDoorZ35
import Derived.Test.YtjikdbcjabopnaaGreatDoorZ30
namespace Go.Proofs.YtjikdbcjabopnaaGreatDoor
open Go.RowKit
set_option linter.unusedVariables false
set_option linter.unusedSimpArgs false
set_option maxRecDepth 100000
def sumF (Xs : Nat → Nat) : Nat → Nat
 | 0 => 0
 | k + 1 => sumF Xs k + Xs k
theorem W64_pos : 1 ≤ W64 := by rw [W64_eq]; omega
theorem NV.lt {w : World} {v : Value} {X M : Nat} (h : NV w v X M) : X < W64 ^ M := by
 obtain ⟨A, n, c, xs, rfl, hn, rfl, hx⟩ := h
 have h1 : nv xs < W64 ^ xs.length := vl_lt hx.lt
 rw [hx.len] at h1
 exact Nat.lt_of_lt_of_le h1 (Nat.pow_le_pow_right W64_pos hn)
theorem sumF_lt {Xs : Nat → Nat} {P : Nat} : ∀ k, (∀ j, j < k → Xs j < P) → sumF Xs k ≤ k * P
 | 0, _ => by simp [sumF]
 | k + 1, h => by
  have := sumF_lt k (fun j hj => h j (by omega))
  have h2 := h k (by omega)
  rw [sumF, Nat.succ_mul]
  omega
theorem prodF_le9 {Xs : Nat → Nat} {P : Nat} : ∀ k, (∀ j, j < k → Xs j < P) → prodF Xs k ≤ P ^ k
 | 0, _ => by simp [prodF]
 | k + 1, h => by
  have h1 := prodF_le9 k (fun j hj => h j (by omega))
  have h2 := h k (by omega)
  rw [prodF, Nat.pow_succ, Nat.mul_comm (P ^ k)]
  exact Nat.mul_le_mul (by omega) h1
theorem rsum_any (g K M : Nat) (vs : Nat → Value) (Xs : Nat → Nat) (w : World) (hK : K ≤ 8) (hM : M ≤ 1000) (hc : Hid (∀ j, j < K → w.cell? ⟨g, j, none⟩ = some (vs j) ∧ NV w (vs j) (Xs j) M)) :
    Calls Tryz.prog 86 #[.slice (some ⟨g, 0, none⟩) K K] w fun e w' => ∃ A n c, e = .returned (.slice A n c) ∧ n ≤ M + 1 ∧ NX w' A n c (nw (sumF Xs K)) ∧ Ext w w' := by
 have hb : ∀ k, k ≤ K → sumF Xs k < W64 ^ (M + 1) := fun k hk => by
  have h1 := sumF_lt k (P := W64 ^ M) (fun j hj => (hc.out j (by omega)).2.lt)
  have h2 : k * W64 ^ M ≤ 8 * W64 ^ M := Nat.mul_le_mul_right _ (by omega)
  have h3 : 0 < W64 ^ M := Nat.pow_pos (by rw [W64_eq]; omega)
  rw [Nat.pow_succ]
  generalize W64 ^ M = P at *
  rw [W64_eq]
  omega
 have HB := Lib.hid hb
 clear hb
 go_enter Tryz.func86, Tryz.ntmps86
 have H1 := Lib.hid (show NX w none 0 0 (nw (sumF Xs 0)) from nil_nx w)
 go_wp2
 go_loopw [3, 8] (fun t i wr => ∃ (k : Nat) (A : Option Addr) (n c : Nat), k ≤ K ∧ i = .int .i64 (k : Int) ∧ t = .slice A n c ∧ n ≤ M + 1 ∧ Hid (NX wr A n c (nw (sumF Xs k))) ∧ Ext w wr) (fun _ i _ => K - (intOf i).toNat)
 case atStart => exact ⟨0, none, 0, 0, by omega, rfl, rfl, by omega, H1, Ext.refl w⟩
 case round =>
  obtain ⟨k, A, n, c, hk, rfl, rfl, hn, hx, kr⟩ := hrel
  by_cases hlt : k < K
  ·obtain ⟨h1, h2⟩ := hc.out k hlt
   obtain ⟨A2, n2, c2, xs2, e2, hn2, hv2, hx2⟩ := h2
   rw [e2] at h1
   have hcell := cell_ext kr h1
   have H2 := Lib.hid (hx2.ext kr)
   have HV := Lib.hid hv2
   have i0 : (0 : Int) ≤ (k : Int) := by omega
   have i1 : (k : Int) < (K : Int) := by omega
   clear h1 hx2 hv2 e2
   go_wp2_with fail
   refine (raddX hx.out H2.out (by omega) (by omega)).mono ?_
   rintro e w3 ⟨A3, n3, c3, rfl, hn3, hx3, k3'⟩
   have k3 : Ext wr w3 := k3'
   rw [nv_nw, HV.out] at hx3
   have H3 := Lib.hid (show NX w3 A3 n3 c3 (nw (sumF Xs (k + 1))) from hx3)
   clear hx3 k3' hn3
   have hn4 : n3 ≤ M + 1 := NX.len_le H3.out (HB.out (k + 1) (by omega))
   go_wp2
   exact ⟨⟨k + 1, A3, n3, c3, by omega, by go_num, rfl, hn4, H3, kr.trans k3⟩, by simp [intOf]; omega⟩
  ·obtain rfl : k = K := by omega
   go_wp2
   go_ret
   exact ⟨A, n, c, rfl, hn, hx.out, kr⟩
theorem rtimes_any (g K M : Nat) (vs : Nat → Value) (Xs : Nat → Nat) (w : World) (hK : K ≤ 5) (hM : M ≤ 100) (hc : Hid (∀ j, j < K → w.cell? ⟨g, j, none⟩ = some (vs j) ∧ NV w (vs j) (Xs j) M)) :
    Calls Tryz.prog 97 #[.slice (some ⟨g, 0, none⟩) K K] w fun e w' => ∃ A n c, e = .returned (.slice A n c) ∧ n ≤ K * M + 1 ∧ NX w' A n c (nw (prodF Xs K)) ∧ Ext w w' := by
 have hb : ∀ k, k ≤ K → prodF Xs k < W64 ^ (K * M + 1) := fun k hk => by
  have h1 := prodF_le9 k (P := W64 ^ M) (fun j hj => (hc.out j (by omega)).2.lt)
  rw [← Nat.pow_mul] at h1
  have h2 : W64 ^ (M * k) ≤ W64 ^ (K * M) := Nat.pow_le_pow_right W64_pos (by rw [Nat.mul_comm]; exact Nat.mul_le_mul_right _ hk)
  have h3 : 0 < W64 ^ (K * M) := Nat.pow_pos (by rw [W64_eq]; omega)
  rw [Nat.pow_succ]
  generalize W64 ^ (K * M) = P at *
  rw [W64_eq]
  omega
 have HB := Lib.hid hb
 clear hb
 have hKM : K * M ≤ 5 * 100 := Nat.mul_le_mul hK hM
 have k1 : Ext w (w.alloc (.cells #[.int .u64 1] 22)) := (Ext.refl w).alloc _
 have H1 := Lib.hid (show NX (w.alloc (.cells #[.int .u64 1] 22)) (some ⟨w.heap.size, 0, none⟩) 1 1 (nw (prodF Xs 0)) from nx_one w w.heap.size rfl 1 (by omega) (by omega))
 go_enter Tryz.func97, Tryz.ntmps97
 go_wp2
 generalize (w.alloc (.cells #[.int .u64 1] 22)) = V at *
 go_loopw [3, 9] (fun t i wr => ∃ (k : Nat) (A : Option Addr) (n c : Nat), k ≤ K ∧ i = .int .i64 (k : Int) ∧ t = .slice A n c ∧ n ≤ K * M + 1 ∧ Hid (NX wr A n c (nw (prodF Xs k))) ∧ Ext w wr) (fun _ i _ => K - (intOf i).toNat)
 case atStart => exact ⟨0, _, 1, 1, by omega, rfl, rfl, by omega, H1, k1⟩
 case round =>
  obtain ⟨k, A, n, c, hk, rfl, rfl, hn, hx, kr⟩ := hrel
  by_cases hlt : k < K
  ·obtain ⟨h1, h2⟩ := hc.out k hlt
   obtain ⟨A2, n2, c2, xs2, e2, hn2, hv2, hx2⟩ := h2
   rw [e2] at h1
   have hcell := cell_ext kr h1
   have H2 := Lib.hid (hx2.ext kr)
   have HV := Lib.hid hv2
   have i0 : (0 : Int) ≤ (k : Int) := by omega
   have i1 : (k : Int) < (K : Int) := by omega
   clear h1 hx2 hv2 e2
   go_wp2_with fail
   refine (rmulX hx.out H2.out (by omega) (by omega)).mono ?_
   rintro e w3 ⟨A3, n3, c3, rfl, hn3, hx3, k3'⟩
   have k3 : Ext wr w3 := k3'
   rw [nv_nw, HV.out] at hx3
   have H3 := Lib.hid (show NX w3 A3 n3 c3 (nw (prodF Xs (k + 1))) by
    rw [show prodF Xs (k + 1) = prodF Xs k * Xs k by rw [prodF, Nat.mul_comm]]
    exact hx3)
   clear hx3 k3' hn3
   have hn4 : n3 ≤ K * M + 1 := NX.len_le H3.out (HB.out (k + 1) (by omega))
   go_wp2
   exact ⟨⟨k + 1, A3, n3, c3, by omega, by go_num, rfl, hn4, H3, kr.trans k3⟩, by simp [intOf]; omega⟩
  ·obtain rfl : k = K := by omega
   go_wp2
   go_ret
   exact ⟨A, n, c, rfl, hn, hx.out, kr⟩
theorem rup_any {A A' : Option Addr} {n n' c c' X Y : Nat} {xs ys : List Nat} {w : World} (h : NX w A n c xs) (h' : NX w A' n' c' ys) (hn : n ≤ 900) (hn' : n' ≤ 900) (hX : nv xs = X) (hy : nv ys = Y) (hY : 0 < Y) :
    Calls Tryz.prog 98 #[.slice A n c, .slice A' n' c'] w fun e w' => ∃ A2 n2 c2, e = .returned (.slice A2 n2 c2) ∧ n2 ≤ n + 1 ∧ NX w' A2 n2 c2 (nw (upZ X Y)) ∧ Ext w w' := by
 have hXn : X < W64 ^ n := by
  have h1 : nv xs < W64 ^ xs.length := vl_lt h.lt
  rwa [h.len, hX] at h1
 have hb : upZ X Y < W64 ^ (n + 1) := by
  have h1 : X / Y ≤ X := Nat.div_le_self _ _
  have h2 : upZ X Y ≤ X + 1 := by unfold upZ; split <;> omega
  rw [Nat.pow_succ]
  have h3 : 0 < W64 ^ n := Nat.pow_pos (by rw [W64_eq]; omega)
  generalize W64 ^ n = P at *
  rw [W64_eq]
  omega
 have HB := Lib.hid hb
 clear hb hXn
 go_enter Tryz.func98, Tryz.ntmps98
 go_wp2_with fail
 refine (rdivX h h' (by omega) (by omega)).mono ?_
 rw [hX, hy]
 rintro ee w3 (⟨h0, _⟩ | ⟨_, A3, n3, c3, A4, n4, c4, rfl, hn3, hn4, hx3, hx4, k3'⟩)
 ·omega
 have k3 : Ext w w3 := k3'
 have H3 := Lib.hid (show NX w3 A3 n3 c3 (nw (X / Y)) from hx3)
 have H4 := Lib.hid (show NX w3 A4 n4 c4 (nw (X % Y)) from hx4)
 clear hx3 hx4 k3'
 by_cases hr : X % Y = 0
 ·have hz : n4 = 0 := by
     have := H4.out.len
     rw [hr, show nw 0 = [] from dg_zero _] at this
     exact this.symm
  subst hz
  have hu : upZ X Y = X / Y := by unfold upZ; rw [if_pos hr]
  rw [hu] at HB
  have HU := Lib.hid hu
  clear hr hu
  go_wp2
  go_ret
  exact ⟨A3, n3, c3, rfl, NX.len_le H3.out HB.out, by rw [HU.out]; exact H3.out, k3⟩
 ·have hz : 0 < n4 := by
     rcases Nat.eq_zero_or_pos n4 with h0 | h0
     ·exfalso
      have h5 := H4.out.len
      rw [h0] at h5
      have h6 := List.length_eq_zero_iff.1 h5
      have h7 : nv (nw (X % Y)) = 0 := by rw [h6]; rfl
      rw [nv_nw] at h7
      exact hr h7
     ·exact h0
  have hu : upZ X Y = X / Y + 1 := by unfold upZ; rw [if_neg hr]
  rw [hu] at HB
  have HU := Lib.hid hu
  have i1 : (0 : Int) < (n4 : Int) := by omega
  clear hr hu
  have kz : Ext w3 (w3.alloc (.cells #[.int .u64 1] 22)) := (Ext.refl _).alloc _
  have H5 := Lib.hid (show NX (w3.alloc (.cells #[.int .u64 1] 22)) (some ⟨w3.heap.size, 0, none⟩) 1 1 (nw 1) from nx_one w3 w3.heap.size rfl 1 (by omega) (by omega))
  go_wp2_with fail
  refine (raddX (NX.ext H3.out kz) H5.out (by omega) (by omega)).mono ?_
  rintro e w5 ⟨A5, n5, c5, rfl, hn5, hx5, k5'⟩
  have k5 : Ext w3 w5 := kz.trans k5'
  rw [nv_nw, nv_nw] at hx5
  have H6 := Lib.hid (show NX w5 A5 n5 c5 (nw (X / Y + 1)) from hx5)
  clear hx5 k5'
  go_wp2
  go_ret
  exact ⟨A5, n5, c5, rfl, NX.len_le H6.out HB.out, by rw [HU.out]; exact H6.out, k3.trans k5⟩
theorem of_any14 (x : Nat) (hx : x < 9223372036854775808) (w : World) :
    Calls Tryz.prog 85 #[.int .i64 (x : Int)] w fun e w' => ∃ A n c, e = .returned (.slice A n c) ∧ n ≤ 1 ∧ NX w' A n c (nw x) ∧ Ext w w' := by
 have hw : IntKind.u64.wrap (x : Int) = (x : Int) := by rw [IntKind.wrap_u64]; omega
 have HB := Lib.hid (show x < W64 ^ 1 by rw [W64_eq]; omega)
 go_enter Tryz.func85, Tryz.ntmps85
 go_wp2_with fail
 refine (rofX x (by omega) w).mono ?_
 rintro e w1 ⟨A1, n1, c1, rfl, hn1, hx1, k1'⟩
 have k1 : Ext w w1 := k1'
 have H1 := Lib.hid (show NX w1 A1 n1 c1 (nw x) from hx1)
 clear hx1 k1'
 go_wp2
 go_ret
 exact ⟨A1, n1, c1, rfl, NX.len_le H1.out HB.out, H1.out, k1⟩
theorem of1 (x : Nat) (hx : x < 18446744073709551616) (w : World) :
    Calls Tryz.prog 96 #[.int .u64 (x : Int)] w fun e w' => ∃ A n c, e = .returned (.slice A n c) ∧ n ≤ 1 ∧ NX w' A n c (nw x) ∧ Ext w w' :=
 (rofX x hx w).mono fun e w' ⟨A1, n1, c1, he, hn1, hx1, k1⟩ => ⟨A1, n1, c1, he, NX.len_le (show NX w' A1 n1 c1 (nw x) from hx1) (by rw [W64_eq]; omega), hx1, k1⟩
theorem rrest_any {N : Int} {T : Nat} {Wd : Int} {A : Option Addr} {L c : Nat} {f : Nat → Nat} {m : Nat} {w : World} (hP : Hid (PA w N T A L c Wd f)) (hL : L ≤ 100) (hm : m + 1 ≤ L) (hT2 : 2 ≤ T) :
    Calls Tryz.prog 87 #[.agg #[.int .i64 N, .int .u64 (T : Int), .slice A L c, .int .i64 Wd], .int .i64 (m : Int)] w fun e w' => ∃ A2 n2 c2, e = .returned (.slice A2 n2 c2) ∧ n2 ≤ 1 ∧ NX w' A2 n2 c2 (nw (prodF f (m + 1) % T)) ∧ Ext w w' := by
 have ht := hP.out.t1
 have kV : Ext w (w.alloc (.cells #[.int .i64 N, .int .u64 (T : Int), .slice A L c, .int .i64 Wd] 25)) := (Ext.refl w).alloc _
 go_enter Tryz.func87, Tryz.ntmps87
 go_wp2_with fail
 refine (rstepA (hP.out.ext kV) hL hm hT2).mono ?_
 rintro e w1 ⟨A1, n1, c1, r, hr, rfl, hn1, hx1, k1⟩
 have hr2 : r < 18446744073709551616 := by
  rw [hr.out]
  have := Nat.mod_lt (prodF f (m + 1)) (show T > 0 by omega)
  omega
 clear hx1
 go_wp2_with fail
 refine (of1 r hr2 _).mono ?_
 rintro e w2 ⟨A2, n2, c2, rfl, hn2, hx2, k2⟩
 have H2 := Lib.hid hx2
 clear hx2
 go_wp2
 go_ret
 exact ⟨A2, n2, c2, rfl, hn2, by rw [← hr.out]; exact H2.out, kV.trans (k1.trans k2)⟩
theorem rsum1 {w : World} {v0 : Value} {X0 M : Nat} (h0 : NV w v0 X0 M) (hM : M ≤ 1000) :
    Calls Tryz.prog 86 #[.slice (some ⟨w.heap.size, 0, none⟩) 1 1] (w.alloc (.cells #[v0] 50)) fun e w' => ∃ A n c, e = .returned (.slice A n c) ∧ n ≤ M + 1 ∧ NX w' A n c (nw (X0)) ∧ Ext w w' := by
 have hc : Hid (∀ j, j < 1 → (w.alloc (.cells #[v0] 50)).cell? ⟨w.heap.size, j, none⟩ = some ((fun j => v0 : Nat → Value) j) ∧ NV (w.alloc (.cells #[v0] 50)) ((fun j => v0 : Nat → Value) j) ((fun j => X0 : Nat → Nat) j) M) := Lib.hid (by
  intro j hj
  rcases (show j = 0 by omega) with rfl
  ·exact ⟨by first | simp | (simp; done), h0.ext ((Ext.refl w).alloc _)⟩)
 have hp : sumF (fun j => X0 : Nat → Nat) 1 = X0 := by simp [sumF, prodF, Nat.mul_comm, Nat.mul_left_comm, Nat.mul_assoc]
 refine (rsum_any _ 1 M _ _ _ (by omega) hM hc).mono ?_
 rintro e w1 ⟨A, n, c, he, hn, hx, k⟩
 rw [hp] at hx
 exact ⟨A, n, c, he, hn, hx, ((Ext.refl w).alloc _).trans k⟩
theorem rsum2 {w : World} {v0 v1 : Value} {X0 X1 M : Nat} (h0 : NV w v0 X0 M) (h1 : NV w v1 X1 M) (hM : M ≤ 1000) :
    Calls Tryz.prog 86 #[.slice (some ⟨w.heap.size, 0, none⟩) 2 2] (w.alloc (.cells #[v0, v1] 50)) fun e w' => ∃ A n c, e = .returned (.slice A n c) ∧ n ≤ M + 1 ∧ NX w' A n c (nw (X0 + X1)) ∧ Ext w w' := by
 have hc : Hid (∀ j, j < 2 → (w.alloc (.cells #[v0, v1] 50)).cell? ⟨w.heap.size, j, none⟩ = some ((fun j => if j = 0 then v0 else v1 : Nat → Value) j) ∧ NV (w.alloc (.cells #[v0, v1] 50)) ((fun j => if j = 0 then v0 else v1 : Nat → Value) j) ((fun j => if j = 0 then X0 else X1 : Nat → Nat) j) M) := Lib.hid (by
  intro j hj
  rcases (show j = 0 ∨ j = 1 by omega) with rfl | rfl
  ·exact ⟨by first | simp | (simp; done), h0.ext ((Ext.refl w).alloc _)⟩
  ·exact ⟨by first | simp | (simp; done), h1.ext ((Ext.refl w).alloc _)⟩)
 have hp : sumF (fun j => if j = 0 then X0 else X1 : Nat → Nat) 2 = X0 + X1 := by simp [sumF, prodF, Nat.mul_comm, Nat.mul_left_comm, Nat.mul_assoc]
 refine (rsum_any _ 2 M _ _ _ (by omega) hM hc).mono ?_
 rintro e w1 ⟨A, n, c, he, hn, hx, k⟩
 rw [hp] at hx
 exact ⟨A, n, c, he, hn, hx, ((Ext.refl w).alloc _).trans k⟩
theorem rsum3 {w : World} {v0 v1 v2 : Value} {X0 X1 X2 M : Nat} (h0 : NV w v0 X0 M) (h1 : NV w v1 X1 M) (h2 : NV w v2 X2 M) (hM : M ≤ 1000) :
    Calls Tryz.prog 86 #[.slice (some ⟨w.heap.size, 0, none⟩) 3 3] (w.alloc (.cells #[v0, v1, v2] 50)) fun e w' => ∃ A n c, e = .returned (.slice A n c) ∧ n ≤ M + 1 ∧ NX w' A n c (nw (X0 + X1 + X2)) ∧ Ext w w' := by
 have hc : Hid (∀ j, j < 3 → (w.alloc (.cells #[v0, v1, v2] 50)).cell? ⟨w.heap.size, j, none⟩ = some ((fun j => if j = 0 then v0 else if j = 1 then v1 else v2 : Nat → Value) j) ∧ NV (w.alloc (.cells #[v0, v1, v2] 50)) ((fun j => if j = 0 then v0 else if j = 1 then v1 else v2 : Nat → Value) j) ((fun j => if j = 0 then X0 else if j = 1 then X1 else X2 : Nat → Nat) j) M) := Lib.hid (by
  intro j hj
  rcases (show j = 0 ∨ j = 1 ∨ j = 2 by omega) with rfl | rfl | rfl
  ·exact ⟨by first | simp | (simp; done), h0.ext ((Ext.refl w).alloc _)⟩
  ·exact ⟨by first | simp | (simp; done), h1.ext ((Ext.refl w).alloc _)⟩
  ·exact ⟨by first | simp | (simp; done), h2.ext ((Ext.refl w).alloc _)⟩)
 have hp : sumF (fun j => if j = 0 then X0 else if j = 1 then X1 else X2 : Nat → Nat) 3 = X0 + X1 + X2 := by simp [sumF, prodF, Nat.mul_comm, Nat.mul_left_comm, Nat.mul_assoc]
 refine (rsum_any _ 3 M _ _ _ (by omega) hM hc).mono ?_
 rintro e w1 ⟨A, n, c, he, hn, hx, k⟩
 rw [hp] at hx
 exact ⟨A, n, c, he, hn, hx, ((Ext.refl w).alloc _).trans k⟩
theorem rsum4 {w : World} {v0 v1 v2 v3 : Value} {X0 X1 X2 X3 M : Nat} (h0 : NV w v0 X0 M) (h1 : NV w v1 X1 M) (h2 : NV w v2 X2 M) (h3 : NV w v3 X3 M) (hM : M ≤ 1000) :
    Calls Tryz.prog 86 #[.slice (some ⟨w.heap.size, 0, none⟩) 4 4] (w.alloc (.cells #[v0, v1, v2, v3] 50)) fun e w' => ∃ A n c, e = .returned (.slice A n c) ∧ n ≤ M + 1 ∧ NX w' A n c (nw (X0 + X1 + X2 + X3)) ∧ Ext w w' := by
 have hc : Hid (∀ j, j < 4 → (w.alloc (.cells #[v0, v1, v2, v3] 50)).cell? ⟨w.heap.size, j, none⟩ = some ((fun j => if j = 0 then v0 else if j = 1 then v1 else if j = 2 then v2 else v3 : Nat → Value) j) ∧ NV (w.alloc (.cells #[v0, v1, v2, v3] 50)) ((fun j => if j = 0 then v0 else if j = 1 then v1 else if j = 2 then v2 else v3 : Nat → Value) j) ((fun j => if j = 0 then X0 else if j = 1 then X1 else if j = 2 then X2 else X3 : Nat → Nat) j) M) := Lib.hid (by
  intro j hj
  rcases (show j = 0 ∨ j = 1 ∨ j = 2 ∨ j = 3 by omega) with rfl | rfl | rfl | rfl
  ·exact ⟨by first | simp | (simp; done), h0.ext ((Ext.refl w).alloc _)⟩
  ·exact ⟨by first | simp | (simp; done), h1.ext ((Ext.refl w).alloc _)⟩
  ·exact ⟨by first | simp | (simp; done), h2.ext ((Ext.refl w).alloc _)⟩
  ·exact ⟨by first | simp | (simp; done), h3.ext ((Ext.refl w).alloc _)⟩)
 have hp : sumF (fun j => if j = 0 then X0 else if j = 1 then X1 else if j = 2 then X2 else X3 : Nat → Nat) 4 = X0 + X1 + X2 + X3 := by simp [sumF, prodF, Nat.mul_comm, Nat.mul_left_comm, Nat.mul_assoc]
 refine (rsum_any _ 4 M _ _ _ (by omega) hM hc).mono ?_
 rintro e w1 ⟨A, n, c, he, hn, hx, k⟩
 rw [hp] at hx
 exact ⟨A, n, c, he, hn, hx, ((Ext.refl w).alloc _).trans k⟩
theorem rtimes2 {w : World} {v0 v1 : Value} {X0 X1 M : Nat} (h0 : NV w v0 X0 M) (h1 : NV w v1 X1 M) (hM : M ≤ 100) :
    Calls Tryz.prog 97 #[.slice (some ⟨w.heap.size, 0, none⟩) 2 2] (w.alloc (.cells #[v0, v1] 50)) fun e w' => ∃ A n c, e = .returned (.slice A n c) ∧ n ≤ 2 * M + 1 ∧ NX w' A n c (nw (X0 * X1)) ∧ Ext w w' := by
 have hc : Hid (∀ j, j < 2 → (w.alloc (.cells #[v0, v1] 50)).cell? ⟨w.heap.size, j, none⟩ = some ((fun j => if j = 0 then v0 else v1 : Nat → Value) j) ∧ NV (w.alloc (.cells #[v0, v1] 50)) ((fun j => if j = 0 then v0 else v1 : Nat → Value) j) ((fun j => if j = 0 then X0 else X1 : Nat → Nat) j) M) := Lib.hid (by
  intro j hj
  rcases (show j = 0 ∨ j = 1 by omega) with rfl | rfl
  ·exact ⟨by first | simp | (simp; done), h0.ext ((Ext.refl w).alloc _)⟩
  ·exact ⟨by first | simp | (simp; done), h1.ext ((Ext.refl w).alloc _)⟩)
 have hp : prodF (fun j => if j = 0 then X0 else X1 : Nat → Nat) 2 = X0 * X1 := by simp [sumF, prodF, Nat.mul_comm, Nat.mul_left_comm, Nat.mul_assoc]
 refine (rtimes_any _ 2 M _ _ _ (by omega) hM hc).mono ?_
 rintro e w1 ⟨A, n, c, he, hn, hx, k⟩
 rw [hp] at hx
 exact ⟨A, n, c, he, hn, hx, ((Ext.refl w).alloc _).trans k⟩
theorem rtimes3 {w : World} {v0 v1 v2 : Value} {X0 X1 X2 M : Nat} (h0 : NV w v0 X0 M) (h1 : NV w v1 X1 M) (h2 : NV w v2 X2 M) (hM : M ≤ 100) :
    Calls Tryz.prog 97 #[.slice (some ⟨w.heap.size, 0, none⟩) 3 3] (w.alloc (.cells #[v0, v1, v2] 50)) fun e w' => ∃ A n c, e = .returned (.slice A n c) ∧ n ≤ 3 * M + 1 ∧ NX w' A n c (nw (X0 * X1 * X2)) ∧ Ext w w' := by
 have hc : Hid (∀ j, j < 3 → (w.alloc (.cells #[v0, v1, v2] 50)).cell? ⟨w.heap.size, j, none⟩ = some ((fun j => if j = 0 then v0 else if j = 1 then v1 else v2 : Nat → Value) j) ∧ NV (w.alloc (.cells #[v0, v1, v2] 50)) ((fun j => if j = 0 then v0 else if j = 1 then v1 else v2 : Nat → Value) j) ((fun j => if j = 0 then X0 else if j = 1 then X1 else X2 : Nat → Nat) j) M) := Lib.hid (by
  intro j hj
  rcases (show j = 0 ∨ j = 1 ∨ j = 2 by omega) with rfl | rfl | rfl
  ·exact ⟨by first | simp | (simp; done), h0.ext ((Ext.refl w).alloc _)⟩
  ·exact ⟨by first | simp | (simp; done), h1.ext ((Ext.refl w).alloc _)⟩
  ·exact ⟨by first | simp | (simp; done), h2.ext ((Ext.refl w).alloc _)⟩)
 have hp : prodF (fun j => if j = 0 then X0 else if j = 1 then X1 else X2 : Nat → Nat) 3 = X0 * X1 * X2 := by simp [sumF, prodF, Nat.mul_comm, Nat.mul_left_comm, Nat.mul_assoc]
 refine (rtimes_any _ 3 M _ _ _ (by omega) hM hc).mono ?_
 rintro e w1 ⟨A, n, c, he, hn, hx, k⟩
 rw [hp] at hx
 exact ⟨A, n, c, he, hn, hx, ((Ext.refl w).alloc _).trans k⟩
theorem rtimes4 {w : World} {v0 v1 v2 v3 : Value} {X0 X1 X2 X3 M : Nat} (h0 : NV w v0 X0 M) (h1 : NV w v1 X1 M) (h2 : NV w v2 X2 M) (h3 : NV w v3 X3 M) (hM : M ≤ 100) :
    Calls Tryz.prog 97 #[.slice (some ⟨w.heap.size, 0, none⟩) 4 4] (w.alloc (.cells #[v0, v1, v2, v3] 50)) fun e w' => ∃ A n c, e = .returned (.slice A n c) ∧ n ≤ 4 * M + 1 ∧ NX w' A n c (nw (X0 * X1 * X2 * X3)) ∧ Ext w w' := by
 have hc : Hid (∀ j, j < 4 → (w.alloc (.cells #[v0, v1, v2, v3] 50)).cell? ⟨w.heap.size, j, none⟩ = some ((fun j => if j = 0 then v0 else if j = 1 then v1 else if j = 2 then v2 else v3 : Nat → Value) j) ∧ NV (w.alloc (.cells #[v0, v1, v2, v3] 50)) ((fun j => if j = 0 then v0 else if j = 1 then v1 else if j = 2 then v2 else v3 : Nat → Value) j) ((fun j => if j = 0 then X0 else if j = 1 then X1 else if j = 2 then X2 else X3 : Nat → Nat) j) M) := Lib.hid (by
  intro j hj
  rcases (show j = 0 ∨ j = 1 ∨ j = 2 ∨ j = 3 by omega) with rfl | rfl | rfl | rfl
  ·exact ⟨by first | simp | (simp; done), h0.ext ((Ext.refl w).alloc _)⟩
  ·exact ⟨by first | simp | (simp; done), h1.ext ((Ext.refl w).alloc _)⟩
  ·exact ⟨by first | simp | (simp; done), h2.ext ((Ext.refl w).alloc _)⟩
  ·exact ⟨by first | simp | (simp; done), h3.ext ((Ext.refl w).alloc _)⟩)
 have hp : prodF (fun j => if j = 0 then X0 else if j = 1 then X1 else if j = 2 then X2 else X3 : Nat → Nat) 4 = X0 * X1 * X2 * X3 := by simp [sumF, prodF, Nat.mul_comm, Nat.mul_left_comm, Nat.mul_assoc]
 refine (rtimes_any _ 4 M _ _ _ (by omega) hM hc).mono ?_
 rintro e w1 ⟨A, n, c, he, hn, hx, k⟩
 rw [hp] at hx
 exact ⟨A, n, c, he, hn, hx, ((Ext.refl w).alloc _).trans k⟩
theorem rtimes4d {w : World} {v0 v1 v2 v3 : Value} {X0 X1 X2 X3 M : Nat} (h0 : NV w v0 X0 M) (h1 : NV w v1 X1 M) (h2 : NV w v2 X2 M) (h3 : NV w v3 X3 M) (hM : M ≤ 100) :
    Calls Tryz.prog 97 #[.slice (some ⟨w.heap.size, 0, none⟩) 4 4] (w.alloc (.cells #[v0, v1, v2, v3] 50)).drew fun e w' => ∃ A n c, e = .returned (.slice A n c) ∧ n ≤ 4 * M + 1 ∧ NX w' A n c (nw (X0 * X1 * X2 * X3)) ∧ Ext w w' := by
 have kd : Ext w (w.alloc (.cells #[v0, v1, v2, v3] 50)).drew := Ext.drew ((Ext.refl w).alloc _)
 have hc : Hid (∀ j, j < 4 → (w.alloc (.cells #[v0, v1, v2, v3] 50)).drew.cell? ⟨w.heap.size, j, none⟩ = some ((fun j => if j = 0 then v0 else if j = 1 then v1 else if j = 2 then v2 else v3 : Nat → Value) j) ∧ NV (w.alloc (.cells #[v0, v1, v2, v3] 50)).drew ((fun j => if j = 0 then v0 else if j = 1 then v1 else if j = 2 then v2 else v3 : Nat → Value) j) ((fun j => if j = 0 then X0 else if j = 1 then X1 else if j = 2 then X2 else X3 : Nat → Nat) j) M) := Lib.hid (by
  intro j hj
  rcases (show j = 0 ∨ j = 1 ∨ j = 2 ∨ j = 3 by omega) with rfl | rfl | rfl | rfl
  ·exact ⟨by first | (exact cell_ext (Ext.drew (Ext.refl _)) (by simp)) | simp, h0.ext kd⟩
  ·exact ⟨by first | (exact cell_ext (Ext.drew (Ext.refl _)) (by simp)) | simp, h1.ext kd⟩
  ·exact ⟨by first | (exact cell_ext (Ext.drew (Ext.refl _)) (by simp)) | simp, h2.ext kd⟩
  ·exact ⟨by first | (exact cell_ext (Ext.drew (Ext.refl _)) (by simp)) | simp, h3.ext kd⟩)
 have hp : prodF (fun j => if j = 0 then X0 else if j = 1 then X1 else if j = 2 then X2 else X3 : Nat → Nat) 4 = X0 * X1 * X2 * X3 := by simp [sumF, prodF, Nat.mul_comm, Nat.mul_left_comm, Nat.mul_assoc]
 refine (rtimes_any _ 4 M _ _ _ (by omega) hM hc).mono ?_
 rintro e w1 ⟨A, n, c, he, hn, hx, k⟩
 rw [hp] at hx
 exact ⟨A, n, c, he, hn, hx, kd.trans k⟩
theorem rup1 {A : Option Addr} {n c X q M : Nat} {w : World} (h : NV w (.slice A n c) X M) (hM : M ≤ 900) (hq : 0 < q) (hq2 : q < 18446744073709551616) :
    Calls Tryz.prog 98 #[.slice A n c, .slice (some ⟨w.heap.size, 0, none⟩) 1 1] (w.alloc (.cells #[.int .u64 (q : Int)] 22)) fun e w' => ∃ A2 n2 c2, e = .returned (.slice A2 n2 c2) ∧ n2 ≤ M + 1 ∧ NX w' A2 n2 c2 (nw (upZ X q)) ∧ Ext w w' := by
 have kz : Ext w (w.alloc (.cells #[.int .u64 (q : Int)] 22)) := (Ext.refl _).alloc _
 obtain ⟨A0, n0, c0, xs, he0, hn0, hv0, hx0⟩ := h
 injection he0 with h1 h2 h3
 subst h1 h2 h3
 refine (rup_any (hx0.ext kz) (nx_one w w.heap.size rfl q hq hq2) (by omega) (by omega) hv0 (nv_nw q) hq).mono ?_
 rintro e w1 ⟨A1, n1, c1, he, hn1, hx, k⟩
 exact ⟨A1, n1, c1, he, by omega, hx, kz.trans k⟩
theorem rup1d {A : Option Addr} {n c X q M : Nat} {w : World} (h : NV w (.slice A n c) X M) (hM : M ≤ 900) (hq : 0 < q) (hq2 : q < 18446744073709551616) :
    Calls Tryz.prog 98 #[.slice A n c, .slice (some ⟨w.heap.size, 0, none⟩) 1 1] (w.alloc (.cells #[.int .u64 (q : Int)] 22)).drew fun e w' => ∃ A2 n2 c2, e = .returned (.slice A2 n2 c2) ∧ n2 ≤ M + 1 ∧ NX w' A2 n2 c2 (nw (upZ X q)) ∧ Ext w w' := by
 have kz : Ext w (w.alloc (.cells #[.int .u64 (q : Int)] 22)).drew := Ext.drew ((Ext.refl _).alloc _)
 obtain ⟨A0, n0, c0, xs, he0, hn0, hv0, hx0⟩ := h
 injection he0 with h1 h2 h3
 subst h1 h2 h3
 refine (rup_any (hx0.ext kz) (NX.ext (nx_one w w.heap.size rfl q hq hq2) (Ext.drew (Ext.refl _))) (by omega) (by omega) hv0 (nv_nw q) hq).mono ?_
 rintro e w1 ⟨A1, n1, c1, he, hn1, hx, k⟩
 exact ⟨A1, n1, c1, he, by omega, hx, kz.trans k⟩
theorem rcheck14_any {N : Int} {T : Nat} {Wd : Int} {A : Option Addr} {L c : Nat} {f : Nat → Nat} {l lo : Int} {E : Nat} {w : World} (hP : Hid (PA w N T A L c Wd f)) (hL : L ≤ 100) (hE : Hid (ErrL (ParP N T L f Wd) lo l L E)) :
    Calls Tryz.prog 28 #[.agg #[.int .i64 N, .int .u64 (T : Int), .slice A L c, .int .i64 Wd], .int .i64 l, .int .i64 lo] w fun e w' => e = .returned (.int .i64 (E : Int)) ∧ Ext w w' := by
 have kV : Ext w (w.alloc (.cells #[.int .i64 N, .int .u64 (T : Int), .slice A L c, .int .i64 Wd] 25)) := (Ext.refl w).alloc _
 obtain ⟨x0, x1, x2, x3⟩ := four_at w (.int .i64 N) (.int .u64 (T : Int)) (.slice A L c) (.int .i64 Wd) 25
 obtain ⟨z, hz⟩ := errZ (ParP N T L f Wd)
 have HZ := Lib.hid hz
 go_enter Tryz.func28, Tryz.ntmps28
 go_wp2_with fail
 generalize w.alloc (.cells #[.int .i64 N, .int .u64 (T : Int), .slice A L c, .int .i64 Wd] 25) = V at *
 refine (rcheckZ (hP.out.ext kV) hL HZ).mono ?_
 rintro e w1 ⟨rfl, k1⟩
 replace x2 := cell_ext k1 x2
 replace kV := kV.trans k1
 clear x0 x1 x3 k1
 rcases hz with ⟨hp, rfl⟩ | ⟨hp, rfl⟩
 ·by_cases h1 : l < lo
  ·have he : E = 10 := by
      rcases hE.out with ⟨h, e⟩ | ⟨h, h2, e⟩ | ⟨h, h2, e⟩
      ·exact absurd hp h
      ·exact e
      ·omega
   subst he
   have b1 : decide (l < lo) = true := by simp [h1]
   clear hE hp HZ
   go_wp2
   go_ret
   exact ⟨by first | rfl | simp, kV⟩
  ·by_cases h2 : (L : Int) ≤ l
   ·have he : E = 10 := by
       rcases hE.out with ⟨h, e⟩ | ⟨h, h2, e⟩ | ⟨h, h2, e⟩
       ·exact absurd hp h
       ·exact e
       ·omega
    subst he
    have b1 : decide (l < lo) = false := by simp; omega
    have b2 : decide ((L : Int) ≤ l) = true := by simp [h2]
    clear hE hp HZ
    go_wp2
    go_ret
    exact ⟨by first | rfl | simp, kV⟩
   ·have he : E = 0 := by
       rcases hE.out with ⟨h, e⟩ | ⟨h, h2, e⟩ | ⟨h, h2, e⟩
       ·exact absurd hp h
       ·omega
       ·exact e
    subst he
    have b1 : decide (l < lo) = false := by simp; omega
    have b2 : decide ((L : Int) ≤ l) = false := by simp; omega
    clear hE hp HZ
    go_wp2
    go_ret
    exact ⟨by first | rfl | simp, kV⟩
 ·have he : E = 8 := by
     rcases hE.out with ⟨h, e⟩ | ⟨h, h2, e⟩ | ⟨h, h2, e⟩
     ·exact e
     ·exact absurd h hp
     ·exact absurd h hp
  subst he
  clear hE hp HZ
  go_wp2
  go_ret
  exact ⟨by first | rfl | simp, kV⟩
end Go.Proofs.YtjikdbcjabopnaaGreatDoor
