/-
  Worlds that only grow: what was there reads as it did. And that the calls of layer 2 whose answers the document fixes answer so.
-/
import Derived.Test.YtcfbemjnkiepdaaNNear
namespace Go.Proofs.Ytcfbemjnkiepdaa
open Go.RowKit
set_option linter.unusedVariables false

/-- From a to b memory has only grown. -/
def Ext (a b : World) : Prop := Below a.heap.size a b
theorem Ext.refl (a : World) : Ext a a := Below.refl _ _
theorem Ext.trans {a b c : World} (h : Ext a b) (k : Ext b c) : Ext a c := Below.trans h (Below.mono k h.size)
theorem Ext.alloc {a b : World} (h : Ext a b) (o : Obj) : Ext a (b.alloc o) := h.trans (Below.alloc (Below.refl _ _) (Nat.le_refl _) o)
theorem Ext.drewN {a b : World} (h : Ext a b) (n : Nat) : Ext a (b.drewN n) := below_drewN h n
/-- A natural's words, wherever they lie. -/
def NX (w : World) (A : Option Addr) (n c : Nat) (xs : List Nat) : Prop := NR w w.heap.size A n c xs
theorem NX.ext {a b : World} {A : Option Addr} {n c : Nat} {xs : List Nat} (h : NX a A n c xs) (k : Ext a b) : NX b A n c xs := (Rd.below h k).more k.size
theorem NX.one (w : World) (g : Nat) (hg : g = w.heap.size) (z : Int) (x : Nat) (hz : z = x) (hx : x < 18446744073709551616) : NX (w.alloc (.cells #[.int .u64 z] 22)) (some ⟨g, 0, none⟩) 1 1 [x] := by
  subst hz hg
  refine ⟨rfl, Nat.le_refl _, fun z hz => by rw [List.mem_singleton.1 hz, W64_eq]; exact hx, fun _ => ⟨_, rfl, by simp, fun j z hz => ?_⟩⟩
  match j, hz with
  | 0, hz => simp at hz; subst hz; simp [Addr.add]
theorem NX.two (w : World) (g : Nat) (hg : g = w.heap.size) (z z' : Int) (x y : Nat) (hz : z = x) (hz' : z' = y) (hx : x < 18446744073709551616) (hy : y < 18446744073709551616) : NX (w.alloc (.cells #[.int .u64 z, .int .u64 z'] 22)) (some ⟨g, 0, none⟩) 2 2 [x, y] := by
  subst hz hz' hg
  refine ⟨rfl, Nat.le_refl _, fun z hz => ?_, fun _ => ⟨_, rfl, by simp, fun j z hz => ?_⟩⟩
  · rw [W64_eq]
    rcases List.mem_cons.1 hz with rfl | hz
    · exact hx
    · rw [List.mem_singleton.1 hz]; exact hy
  · match j, hz with
    | 0, hz => simp at hz; subst hz; simp [Addr.add]
    | 1, hz => simp at hz; subst hz; simp [Addr.add]
theorem nv_one (x : Nat) : nv [x] = x := by show vl W64 [x] = x; simp [vl]
theorem nv_two (x y : Nat) : nv [x, y] = x + 18446744073709551616 * y := by show vl W64 [x, y] = _; simp [vl, W64_eq]
theorem nw_one {x : Nat} (h0 : 0 < x) (hx : x < 18446744073709551616) : nw x = [x] := by
  have := dg_unique W64_two [x] (fun z hz => by rw [List.mem_singleton.1 hz, W64_eq]; exact hx) (.inr (by simp; omega))
  rw [show vl W64 [x] = x from nv_one x] at this
  exact this.symm
theorem nw_two {x y : Nat} (h0 : 0 < y) (hx : x < 18446744073709551616) (hy : y < 18446744073709551616) : nw (x + 18446744073709551616 * y) = [x, y] := by
  have := dg_unique W64_two [x, y] (fun z hz => by
    rw [W64_eq]
    rcases List.mem_cons.1 hz with rfl | hz
    · exact hx
    · rw [List.mem_singleton.1 hz]; exact hy) (.inr (by simp; omega))
  rw [show vl W64 [x, y] = _ from nv_two x y] at this
  exact this.symm

/-- The calls over naturals, in these words. -/
theorem addX {A A' : Option Addr} {n n' c c' : Nat} {xs ys : List Nat} {w : World} (h : NX w A n c xs) (h' : NX w A' n' c' ys) (hn : n ≤ 1000) (hn' : n' ≤ 1000) :
    Calls Try.prog 36 #[.slice A n c, .slice A' n' c'] w fun e w' => ∃ A2 n2 c2, e = .returned (.slice A2 n2 c2) ∧ n2 ≤ n + n' + 1 ∧ NX w' A2 n2 c2 (nw (nv xs + nv ys)) ∧ Ext w w' := natAdd_any A A' n n' c c' xs ys w h h' (by omega) (by omega)
theorem mulX {A A' : Option Addr} {n n' c c' : Nat} {xs ys : List Nat} {w : World} (h : NX w A n c xs) (h' : NX w A' n' c' ys) (hn : n ≤ 1000) (hn' : n' ≤ 1000) :
    Calls Try.prog 42 #[.slice A n c, .slice A' n' c'] w fun e w' => ∃ A2 n2 c2, e = .returned (.slice A2 n2 c2) ∧ n2 ≤ n + n' ∧ NX w' A2 n2 c2 (nw (nv xs * nv ys)) ∧ Ext w w' := natMul_any A A' n n' c c' xs ys w h h' (by omega) (by omega)
theorem divX {A A' : Option Addr} {n n' c c' : Nat} {xs ys : List Nat} {w : World} (h : NX w A n c xs) (h' : NX w A' n' c' ys) (hn : n ≤ 1000) (hn' : n' ≤ 1000) :
    Calls Try.prog 40 #[.slice A n c, .slice A' n' c'] w (DivPost w (n + 1) (nv xs) (nv ys)) := div_any A A' n n' c c' xs ys w h h' (by omega) (by omega)
theorem subX {A A' : Option Addr} {n n' c c' : Nat} {xs ys : List Nat} {w : World} (h : NX w A n c xs) (h' : NX w A' n' c' ys) (hn : n ≤ 100000) (hn' : n' ≤ 100000) :
    Calls Try.prog 33 #[.slice A n c, .slice A' n' c'] w (SubPost w n (nv xs) (nv ys)) := sub_nat_any A A' n n' c c' xs ys w h h' (by omega) (by omega)
theorem cmpX {A A' : Option Addr} {n n' c c' : Nat} {xs ys : List Nat} {w : World} (h : NX w A n c xs) (h' : NX w A' n' c' ys) (hn : n ≤ 100000) (hn' : n' ≤ 100000) :
    Calls Try.prog 38 #[.slice A n c, .slice A' n' c'] w fun e w' => e = .returned (.int .i64 (cmpS (nv xs) (nv ys))) ∧ Ext w w' := (cmp_any A A' n n' c c' _ xs ys w h h' (by omega) (by omega)).mono fun e w' ⟨he, q, hw⟩ => ⟨he, by rw [hw]; exact (Ext.refl w).drewN q⟩
theorem sameX {A A' : Option Addr} {n n' c c' : Nat} {xs ys : List Nat} {w : World} (h : NX w A n c xs) (h' : NX w A' n' c' ys) (hn : n ≤ 100000) (hn' : n' ≤ 100000) :
    Calls Try.prog 35 #[.slice A n c, .slice A' n' c'] w fun e w' => e = .returned (.bool (decide (xs = ys))) ∧ Ext w w' := (same_any A A' n n' c c' _ xs ys w h h' (by omega) (by omega)).mono fun e w' ⟨he, q, hw⟩ => ⟨he, by rw [hw]; exact (Ext.refl w).drewN q⟩
theorem sameIntX {A A' : Option Addr} {n n' c c' : Nat} {b b' : Bool} {xs ys : List Nat} {w : World} (h : NX w A n c xs) (h' : NX w A' n' c' ys) (hn : n ≤ 100000) (hn' : n' ≤ 100000) :
    Calls Try.prog 52 #[.agg #[.bool b, .slice A n c], .agg #[.bool b', .slice A' n' c']] w fun e w' => e = .returned (.bool (decide (b = b' ∧ xs = ys))) ∧ Ext w w' := sameInt_any A A' n n' c c' b b' xs ys w h h' (by omega) (by omega)
theorem nearX {A A' : Option Addr} {n n' c c' : Nat} {b : Bool} {xs ys : List Nat} {w : World} (h : NX w A n c xs) (h' : NX w A' n' c' ys) (hn : n ≤ 1000) (hn' : n' ≤ 1000) :
    Calls Try.prog 50 #[.agg #[.bool b, .slice A n c], .slice A' n' c'] w (NearPost w (n + 4) b (nv xs) (nv ys)) := near_any A A' n n' c c' b xs ys w h h' hn hn'

theorem fix1 : nw (nv [18446744073709551615] + nv [1]) = [0, 1] := by
  rw [nv_one, nv_one, show 18446744073709551615 + 1 = 0 + 18446744073709551616 * 1 by omega]
  exact nw_two (by omega) (by omega) (by omega)
theorem fix2 : nw (nv [0, 1] / nv [10]) = [1844674407370955161] := by
  rw [nv_one, nv_two, show (0 + 18446744073709551616 * 1) / 10 = 1844674407370955161 by omega]
  exact nw_one (by omega) (by omega)
theorem fix3 : nw (nv [0, 1] % nv [10]) = [6] := by
  rw [nv_one, nv_two, show (0 + 18446744073709551616 * 1) % 10 = 6 by omega]
  exact nw_one (by omega) (by omega)
theorem fix4 : nearZ true (nv [3]) (nv [2]) = -1 := by rw [nv_one, nv_one]; decide
theorem fix5 : nearZ false (nv [3]) (nv [2]) = 2 := by rw [nv_one, nv_one]; decide
theorem fix6 : nw (-1 : Int).natAbs = [1] := by
  rw [show (-1 : Int).natAbs = 1 by omega]
  exact nw_one (by omega) (by omega)
theorem fix7 : nw (2 : Int).natAbs = [2] := by
  rw [show (2 : Int).natAbs = 2 by omega]
  exact nw_one (by omega) (by omega)

set_option maxHeartbeats 1000000 in
theorem fixed2_any (w : World) : Calls Try.prog 31 #[] w fun e w' => e = .returned (.bool true) ∧ Ext w w' := by
  go_enter Try.func31, Try.ntmps31
  go_wp2_with fail
  refine (addX ((NX.one w w.heap.size rfl 18446744073709551615 18446744073709551615 (by omega) (by omega)).ext ((Ext.refl _).alloc _)) (NX.one _ (w.heap.size + 1) (by simp) 1 1 (by omega) (by omega)) (by omega) (by omega)).mono ?_
  rw [fix1]
  rintro e w1 ⟨A1, n1, c1, rfl, hn1, hx1, he1⟩
  have k1 := (((Ext.refl w).alloc _).alloc _).trans he1
  go_wp2_with fail
  refine (divX ((NX.two w1 w1.heap.size rfl 0 1 0 1 (by omega) (by omega) (by omega) (by omega)).ext ((Ext.refl _).alloc _)) (NX.one _ (w1.heap.size + 1) (by simp) 10 10 (by omega) (by omega)) (by omega) (by omega)).mono ?_
  rintro e w2 (⟨h0, _⟩ | ⟨_, A2, n2, c2, A3, n3, c3, rfl, hn2, hn3, hx2, hx3, he2⟩)
  · rw [nv_one] at h0; omega
  rw [fix2] at hx2
  rw [fix3] at hx3
  have k2 : Ext w1 w2 := (((Ext.refl w1).alloc _).alloc _).trans he2
  go_wp2_with fail
  refine (nearX ((NX.one w2 w2.heap.size rfl 3 3 (by omega) (by omega)).ext ((Ext.refl _).alloc _)) (NX.one _ (w2.heap.size + 1) (by simp) 2 2 (by omega) (by omega)) (by omega) (by omega)).mono ?_
  rintro e w3 (⟨h0, _⟩ | ⟨_, A4, n4, c4, rfl, hn4, hx4, he3⟩)
  · rw [nv_one] at h0; omega
  rw [fix4] at hx4 ⊢
  rw [fix6] at hx4
  have k3 : Ext w2 w3 := (((Ext.refl w2).alloc _).alloc _).trans he3
  go_wp2_with fail
  refine (nearX ((NX.one _ (w3.heap.size + 1) (by simp) 3 3 (by omega) (by omega)).ext ((Ext.refl _).alloc _)) (NX.one _ (w3.heap.size + 1 + 1) (by simp) 2 2 (by omega) (by omega)) (by omega) (by omega)).mono ?_
  rintro e w4 (⟨h0, _⟩ | ⟨_, A5, n5, c5, rfl, hn5, hx5, he4⟩)
  · rw [nv_one] at h0; omega
  rw [fix5] at hx5 ⊢
  rw [fix7] at hx5
  have k4 : Ext w3 w4 := ((((Ext.refl w3).alloc _).alloc _).alloc _).trans he4
  have k4' := (((Ext.refl _).alloc _).alloc _).trans he4
  have c40 : w4.cell? ⟨w3.heap.size, 0, none⟩ = some (.bool true) := kept_cell k4' (by simp) (by simp)
  have c41 : w4.cell? ⟨w3.heap.size, 1, none⟩ = some (.slice A4 n4 c4) := kept_cell k4' (by simp) (by simp)
  have z4 : w3.heap.size < w4.heap.size := by have := k4'.size; simp at this; omega
  go_wp2_with fail
  refine (sameX (hx1.ext (((k2.trans (k3.trans k4)).alloc _).alloc _)) (NX.two _ (w4.heap.size + 1) (by simp) 0 1 0 1 (by omega) (by omega) (by omega) (by omega)) (by omega) (by omega)).mono ?_
  rw [show decide ([0, 1] = [0, 1]) = true by decide]
  rintro e w5 ⟨rfl, he5⟩
  have k5 : Ext w4 w5 := (((Ext.refl w4).alloc _).alloc _).trans he5
  have k5' := ((Ext.refl _).alloc _).trans he5
  have c50 : w5.cell? ⟨w4.heap.size, 0, none⟩ = some (.bool false) := kept_cell k5' (by simp) (by simp)
  have c51 : w5.cell? ⟨w4.heap.size, 1, none⟩ = some (.slice A5 n5 c5) := kept_cell k5' (by simp) (by simp)
  have z5 : w4.heap.size < w5.heap.size := by have := k5'.size; simp at this; omega
  go_wp2_with fail
  refine (sameX (NX.ext hx2 ((k3.trans (k4.trans k5)).alloc _)) (NX.one _ w5.heap.size rfl 1844674407370955161 1844674407370955161 (by omega) (by omega)) (by omega) (by omega)).mono ?_
  rw [show decide ([1844674407370955161] = [1844674407370955161]) = true by simp]
  rintro e w6 ⟨rfl, he6⟩
  have k6 : Ext w5 w6 := ((Ext.refl w5).alloc _).trans he6
  go_wp2_with fail
  refine (sameX (NX.ext hx3 ((k3.trans (k4.trans (k5.trans k6))).alloc _)) (NX.one _ w6.heap.size rfl 6 6 (by omega) (by omega)) (by omega) (by omega)).mono ?_
  rw [show decide ([6] = [6]) = true by decide]
  rintro e w7 ⟨rfl, he7⟩
  have k7 : Ext w6 w7 := ((Ext.refl w6).alloc _).trans he7
  have c70 : w7.cell? ⟨w3.heap.size, 0, none⟩ = some (.bool true) := kept_cell (k5.trans (k6.trans k7)) z4 c40
  have c71 : w7.cell? ⟨w3.heap.size, 1, none⟩ = some (.slice A4 n4 c4) := kept_cell (k5.trans (k6.trans k7)) z4 c41
  go_wp2_with fail
  refine (sameIntX (NX.ext hx4 ((k4.trans (k5.trans (k6.trans k7))).alloc _)) (NX.one _ w7.heap.size rfl 1 1 (by omega) (by omega)) (by omega) (by omega)).mono ?_
  rw [show decide (true = true ∧ [1] = [1]) = true by decide]
  rintro e w8 ⟨rfl, he8⟩
  have k8 : Ext w7 w8 := ((Ext.refl w7).alloc _).trans he8
  have c80 : w8.cell? ⟨w4.heap.size, 0, none⟩ = some (.bool false) := kept_cell (k6.trans (k7.trans k8)) z5 c50
  have c81 : w8.cell? ⟨w4.heap.size, 1, none⟩ = some (.slice A5 n5 c5) := kept_cell (k6.trans (k7.trans k8)) z5 c51
  go_wp2_with fail
  refine (sameIntX (NX.ext hx5 ((k5.trans (k6.trans (k7.trans k8))).alloc _)) (NX.one _ w8.heap.size rfl 2 2 (by omega) (by omega)) (by omega) (by omega)).mono ?_
  rw [show decide (false = false ∧ [2] = [2]) = true by decide]
  rintro e w9 ⟨rfl, he9⟩
  have k9 : Ext w8 w9 := ((Ext.refl w8).alloc _).trans he9
  go_wp2
  go_ret
  exact ⟨rfl, k1.trans (k2.trans (k3.trans (k4.trans (k5.trans (k6.trans (k7.trans (k8.trans k9)))))))⟩
end Go.Proofs.Ytcfbemjnkiepdaa
