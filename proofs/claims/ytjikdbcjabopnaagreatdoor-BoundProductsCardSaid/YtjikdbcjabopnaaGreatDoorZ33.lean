import Derived.Test.YtjikdbcjabopnaaGreatDoorZ30
import Derived.Test.YtjikdbcjabopnaaGreatDoorZVTape
namespace Go.Proofs.YtjikdbcjabopnaaGreatDoor
open Go.RowKit
set_option linter.unusedVariables false
set_option linter.unusedSimpArgs false
set_option maxRecDepth 100000
def NV (w : World) (v : Value) (X M : Nat) : Prop := ∃ A n c xs, v = .slice A n c ∧ n ≤ M ∧ nv xs = X ∧ NX w A n c xs
theorem NV.ext {w w' : World} {v : Value} {X M : Nat} (h : NV w v X M) (k : Ext w w') : NV w' v X M := by
 obtain ⟨A, n, c, xs, h1, h2, h3, h4⟩ := h
 exact ⟨A, n, c, xs, h1, h2, h3, h4.ext k⟩
theorem NX.val {w : World} {A : Option Addr} {n c X M : Nat} (h : NX w A n c (nw X)) (hn : n ≤ M) : NV w (.slice A n c) X M := ⟨A, n, c, nw X, rfl, hn, nv_nw X, h⟩
def SB (w : World) (p X M : Nat) : Prop := ∃ A n c, w.heap[p]? = some (.cells #[.slice A n c] 203 (0, 0)) ∧ n ≤ M ∧ NX w A n c (nw X)
theorem SB.ext {w w' : World} {p X M : Nat} (h : SB w p X M) (k : Ext w w') : SB w' p X M := by
 obtain ⟨A, n, c, h1, h2, h3⟩ := h
 exact ⟨A, n, c, (k.block p (Array.getElem?_eq_some_iff.1 h1).1).trans h1, h2, h3.ext k⟩
theorem SB.lt {w : World} {p X M : Nat} (h : SB w p X M) : p < w.heap.size := by
 obtain ⟨A, n, c, h1, h2, h3⟩ := h
 exact (Array.getElem?_eq_some_iff.1 h1).1
theorem nil_nx (w : World) : NX w none 0 0 (nw 0) := by
 have e : nw 0 = [] := dg_zero _
 rw [e]
 exact ⟨rfl, Nat.le_refl _, fun x hx => by simp at hx, fun h => absurd h (by omega)⟩
theorem SB.new (w : World) : SB (w.alloc (.cells #[.slice none 0 0] 203)) w.heap.size 0 0 :=
 ⟨none, 0, 0, heap_alloc_new w _, Nat.le_refl _, nil_nx _⟩
theorem row_aside {w : World} {p : Nat} {v : Value} {t : TypeId} (h : w.heap[p]? = some (.cells #[v] t (0, 0))) (hv : ∀ k z, v ≠ .int k z) {a : Addr} {k : IntKind} {z : Int} (ha : w.cell? a = some (.int k z)) : a.block ≠ p := by
 intro e
 subst e
 unfold World.cell? at ha
 rw [h] at ha
 simp only at ha
 split at ha
 ·cases ha
 ·rcases ho : a.off with _ | o
  ·rw [ho] at ha; injection ha with ha; exact hv _ _ ha
  ·rw [ho] at ha; simp at ha
theorem NX.onR {w w' : World} {q : Nat} {v : Value} {t : TypeId} {A : Option Addr} {n c : Nat} {xs : List Nat} (h : NX w A n c xs) (hq : w.heap[q]? = some (.cells #[v] t (0, 0))) (hv : ∀ k z, v ≠ .int k z) (k : On q w w') : NX w' A n c xs := by
 refine ⟨h.len, h.room, h.lt, fun hn => ?_⟩
 obtain ⟨ad, rfl, hb, hc⟩ := h.cells hn
 refine ⟨ad, rfl, Nat.lt_of_lt_of_le hb k.size, fun j x hx => (World.cell?_of_block ?_).trans (hc j x hx)⟩
 have := hc j x hx
 exact k.block _ (by rw [add_block]; exact hb) (fun e => row_aside hq hv this (by injection e))
theorem SB.store {w : World} {p X M Y m : Nat} (h : SB w p X M) {A : Option Addr} {n c : Nat} (hY : NX w A n c (nw Y)) (hn : n ≤ m) : SB (w.setCell ⟨p, 0, none⟩ (.slice A n c)) p Y m := by
 obtain ⟨A1, n1, c1, h1, h2, h3⟩ := h
 exact ⟨A, n, c, by simp [World.setCell, Array.getElem?_modify, h1], hn, hY.onR h1 (fun k z e => by cases e) ((On.refl _ _).set _ _)⟩
theorem product_any (g K M : Nat) (vs : Nat → Value) (Xs : Nat → Nat) (w : World) (hK : K ≤ 3) (hM : M ≤ 200) (hc : Hid (∀ j, j < K → w.cell? ⟨g, j, none⟩ = some (vs j) ∧ NV w (vs j) (Xs j) M)) :
    Calls Tryz.prog 91 #[.slice (some ⟨g, 0, none⟩) K K] w fun e w' => ∃ A n c, e = .returned (.slice A n c) ∧ n ≤ 1 + K * M ∧ NX w' A n c (nw (prodF Xs K)) ∧ Ext w w' := by
 go_enter Tryz.func91, Tryz.ntmps91
 go_wp2_with fail
 refine (ofF_any 1 w (by omega)).mono ?_
 rintro e w1 ⟨A1, n1, c1, rfl, hn1, hx1, k1, _⟩
 have k1' : Ext w w1 := k1
 have H1 := Lib.hid (show NX w1 A1 n1 c1 (nw (prodF Xs 0)) from hx1)
 clear hx1 k1
 go_wp2
 go_loopw [3, 9] (fun t i wr => ∃ (k : Nat) (A : Option Addr) (n c : Nat), k ≤ K ∧ i = .int .i64 (k : Int) ∧ t = .slice A n c ∧ n ≤ 1 + k * M ∧ Hid (NX wr A n c (nw (prodF Xs k))) ∧ Ext w wr) (fun _ i _ => K - (intOf i).toNat)
 case atStart => exact ⟨0, A1, n1, c1, by omega, rfl, rfl, by omega, H1, k1'⟩
 case round =>
  obtain ⟨k, A, n, c, hk, rfl, rfl, hn, hx, kr⟩ := hrel
  by_cases hlt : k < K
  ·obtain ⟨h1, h2⟩ := hc.out k hlt
   obtain ⟨A2, n2, c2, xs2, e2, hn2, hv2, hx2⟩ := h2
   rw [e2] at h1
   have hcell := cell_ext kr h1
   have H2 := Lib.hid (hx2.ext kr)
   have HV := Lib.hid hv2
   have i0 : (0 : Int) ≤ (k : Int) := by omega
   have i1 : (k : Int) < (K : Int) := by omega
   clear h1 hx2 hv2 e2
   have hkM : k * M ≤ 2 * 200 := Nat.mul_le_mul (by omega) hM
   go_wp2_with fail
   refine (mulX hx.out H2.out (by omega) (by omega)).mono ?_
   rintro e w3 ⟨A3, n3, c3, rfl, hn3, hx3, k3⟩
   rw [nv_nw, HV.out] at hx3
   have H3 := Lib.hid (show NX w3 A3 n3 c3 (nw (prodF Xs (k + 1))) by
    rw [show prodF Xs (k + 1) = prodF Xs k * Xs k by rw [prodF, Nat.mul_comm]]
    exact hx3)
   clear hx3
   have hn4 : n3 ≤ 1 + (k + 1) * M := by rw [Nat.succ_mul]; omega
   go_wp2
   exact ⟨⟨k + 1, A3, n3, c3, by omega, by go_num, rfl, hn4, H3, kr.trans k3⟩, by simp [intOf]; omega⟩
  ·obtain rfl : k = K := by omega
   go_wp2
   go_ret
   exact ⟨A, n, c, rfl, hn, hx.out, kr⟩
theorem addB_any (p X m g K M : Nat) (vs : Nat → Value) (Xs : Nat → Nat) (w : World) (hK : K ≤ 3) (hM : M ≤ 200) (hm : m ≤ 900) (hS : Hid (SB w p X m)) (hc : Hid (∀ j, j < K → w.cell? ⟨g, j, none⟩ = some (vs j) ∧ NV w (vs j) (Xs j) M)) :
    Calls Tryz.prog 152 #[.pointer (some ⟨p, 0, none⟩), .slice (some ⟨g, 0, none⟩) K K] w fun e w' => e = .returned (.tuple #[]) ∧ SB w' p (X + prodF Xs K) (m + (1 + K * M) + 1) ∧ On p w w' := by
 obtain ⟨A, n, c, h1, h2, h3⟩ := hS.out
 have c0 : w.cell? ⟨p, 0, none⟩ = some (.slice A n c) := by rw [cell_of_row w p 0 _ _ (0, 0) h1]; rfl
 have HX := Lib.hid h3
 have hKM : K * M ≤ 3 * 200 := Nat.mul_le_mul hK hM
 have z0 : w.frozen? ⟨p, 0, none⟩ = false := by simp [World.frozen?, h1]
 have zf : ∀ w' : World, Ext w w' → w'.frozen? ⟨p, 0, none⟩ = false := fun w' k => by
  have := (SB.ext hS.out k)
  obtain ⟨_, _, _, h, _⟩ := this
  simp [World.frozen?, h]
 clear h1 h3
 go_enter Tryz.func152, Tryz.ntmps152
 have kk : Ext w w := Ext.refl w
 go_wp2_with fail
 go_region_with
  (first
   | (go_at_call 89; refine (addX (HX.out.ext (by first | exact kk | exact Ext.drew kk)) (NX.ext H3.out (by first | exact kx | exact Ext.drew kx)) (by omega) (by omega)).mono ?_; rintro e4 w4 ⟨A4, n4, c4, rfl, hn4, hx4, k4⟩; rw [nv_nw, nv_nw] at hx4; have H4 := Lib.hid hx4; clear hx4; replace kk : Ext w w4 := (by first | exact Ext.trans kk k4 | exact Ext.trans (Ext.drew kk) k4); have ky : Ext w4 w4 := Ext.refl w4; have c4' := cell_ext kk c0; have z4 := zf _ kk)
   | (go_at_call 91; refine (product_any g K M vs Xs _ hK hM (Lib.hid fun j hj => ⟨cell_ext (by first | exact kk | exact Ext.drew kk) (hc.out j hj).1, (hc.out j hj).2.ext (by first | exact kk | exact Ext.drew kk)⟩)).mono ?_; rintro e3 w3 ⟨A3, n3, c3, rfl, hn3, hx3, k3⟩; have H3 := Lib.hid hx3; clear hx3; replace kk : Ext w w3 := (by first | exact Ext.trans kk k3 | exact Ext.trans (Ext.drew kk) k3); have kx : Ext w3 w3 := Ext.refl w3; have c3' := cell_ext kk c0; have z3 := zf _ kk)
   | fail)
 all_goals
  go_wp2
  go_end0
  refine ⟨rfl, ?_, ?_⟩
  ·exact SB.store (SB.ext hS.out (by first | exact kk | exact Ext.drew kk)) (NX.ext H4.out (by first | exact ky | exact Ext.drew ky)) (by omega)
  ·exact On.set (On.of (by first | exact kk | exact Ext.drew kk)) _ _
theorem plus1 {w : World} {p Y m : Nat} {v0 : Value} {X0 M : Nat} (h0 : NV w v0 X0 M) (hM : M ≤ 200) (hm : m ≤ 900) (hS : SB w p Y m) :
    Calls Tryz.prog 152 #[.pointer (some ⟨p, 0, none⟩), .slice (some ⟨w.heap.size, 0, none⟩) 1 1] (w.alloc (.cells #[v0] 50)) fun e w' => e = .returned (.tuple #[]) ∧ SB w' p (Y + X0) (m + (1 + 1 * M) + 1) ∧ On p w w' := by
 have hc : Hid (∀ j, j < 1 → (w.alloc (.cells #[v0] 50)).cell? ⟨w.heap.size, j, none⟩ = some ((fun j => v0 : Nat → Value) j) ∧ NV (w.alloc (.cells #[v0] 50)) ((fun j => v0 : Nat → Value) j) ((fun j => X0 : Nat → Nat) j) M) := Lib.hid (by
  intro j hj
  rcases (show j = 0 by omega) with rfl
  ·exact ⟨by first | simp | (simp; done), h0.ext ((Ext.refl w).alloc _)⟩)
 have hp : prodF (fun j => X0 : Nat → Nat) 1 = X0 := by simp [prodF, Nat.mul_comm, Nat.mul_left_comm, Nat.mul_assoc]
 refine (addB_any p Y m _ 1 M _ _ _ (by omega) hM hm (Lib.hid (hS.ext ((Ext.refl w).alloc _))) hc).mono ?_
 rintro e w1 ⟨he, hs, o⟩
 rw [hp] at hs
 exact ⟨he, hs, (On.of ((Ext.refl w).alloc _)).trans o⟩
theorem plus2 {w : World} {p Y m : Nat} {v0 v1 : Value} {X0 X1 M : Nat} (h0 : NV w v0 X0 M) (h1 : NV w v1 X1 M) (hM : M ≤ 200) (hm : m ≤ 900) (hS : SB w p Y m) :
    Calls Tryz.prog 152 #[.pointer (some ⟨p, 0, none⟩), .slice (some ⟨w.heap.size, 0, none⟩) 2 2] (w.alloc (.cells #[v0, v1] 50)) fun e w' => e = .returned (.tuple #[]) ∧ SB w' p (Y + X0 * X1) (m + (1 + 2 * M) + 1) ∧ On p w w' := by
 have hc : Hid (∀ j, j < 2 → (w.alloc (.cells #[v0, v1] 50)).cell? ⟨w.heap.size, j, none⟩ = some ((fun j => if j = 0 then v0 else v1 : Nat → Value) j) ∧ NV (w.alloc (.cells #[v0, v1] 50)) ((fun j => if j = 0 then v0 else v1 : Nat → Value) j) ((fun j => if j = 0 then X0 else X1 : Nat → Nat) j) M) := Lib.hid (by
  intro j hj
  rcases (show j = 0 ∨ j = 1 by omega) with rfl | rfl
  ·exact ⟨by first | simp | (simp; done), h0.ext ((Ext.refl w).alloc _)⟩
  ·exact ⟨by first | simp | (simp; done), h1.ext ((Ext.refl w).alloc _)⟩)
 have hp : prodF (fun j => if j = 0 then X0 else X1 : Nat → Nat) 2 = X0 * X1 := by simp [prodF, Nat.mul_comm, Nat.mul_left_comm, Nat.mul_assoc]
 refine (addB_any p Y m _ 2 M _ _ _ (by omega) hM hm (Lib.hid (hS.ext ((Ext.refl w).alloc _))) hc).mono ?_
 rintro e w1 ⟨he, hs, o⟩
 rw [hp] at hs
 exact ⟨he, hs, (On.of ((Ext.refl w).alloc _)).trans o⟩
theorem times3 {w : World} {v0 v1 v2 : Value} {X0 X1 X2 M : Nat} (h0 : NV w v0 X0 M) (h1 : NV w v1 X1 M) (h2 : NV w v2 X2 M) (hM : M ≤ 200) :
    Calls Tryz.prog 91 #[.slice (some ⟨w.heap.size, 0, none⟩) 3 3] (w.alloc (.cells #[v0, v1, v2] 50)) fun e w' => ∃ A n c, e = .returned (.slice A n c) ∧ n ≤ 1 + 3 * M ∧ NX w' A n c (nw (X0 * X1 * X2)) ∧ Ext w w' := by
 have hc : Hid (∀ j, j < 3 → (w.alloc (.cells #[v0, v1, v2] 50)).cell? ⟨w.heap.size, j, none⟩ = some ((fun j => if j = 0 then v0 else if j = 1 then v1 else v2 : Nat → Value) j) ∧ NV (w.alloc (.cells #[v0, v1, v2] 50)) ((fun j => if j = 0 then v0 else if j = 1 then v1 else v2 : Nat → Value) j) ((fun j => if j = 0 then X0 else if j = 1 then X1 else X2 : Nat → Nat) j) M) := Lib.hid (by
  intro j hj
  rcases (show j = 0 ∨ j = 1 ∨ j = 2 by omega) with rfl | rfl | rfl
  ·exact ⟨by first | simp | (simp; done), h0.ext ((Ext.refl w).alloc _)⟩
  ·exact ⟨by first | simp | (simp; done), h1.ext ((Ext.refl w).alloc _)⟩
  ·exact ⟨by first | simp | (simp; done), h2.ext ((Ext.refl w).alloc _)⟩)
 have hp : prodF (fun j => if j = 0 then X0 else if j = 1 then X1 else X2 : Nat → Nat) 3 = X0 * X1 * X2 := by simp [prodF, Nat.mul_comm, Nat.mul_left_comm, Nat.mul_assoc]
 refine (product_any _ 3 M _ _ _ (by omega) hM hc).mono ?_
 rintro e w1 ⟨A, n, c, he, hn, hx, k⟩
 rw [hp] at hx
 exact ⟨A, n, c, he, hn, hx, ((Ext.refl w).alloc _).trans k⟩
theorem plus3 {w : World} {p Y m : Nat} {v0 v1 v2 : Value} {X0 X1 X2 M : Nat} (h0 : NV w v0 X0 M) (h1 : NV w v1 X1 M) (h2 : NV w v2 X2 M) (hM : M ≤ 200) (hm : m ≤ 900) (hS : SB w p Y m) :
    Calls Tryz.prog 152 #[.pointer (some ⟨p, 0, none⟩), .slice (some ⟨w.heap.size, 0, none⟩) 3 3] (w.alloc (.cells #[v0, v1, v2] 50)) fun e w' => e = .returned (.tuple #[]) ∧ SB w' p (Y + X0 * X1 * X2) (m + (1 + 3 * M) + 1) ∧ On p w w' := by
 have hc : Hid (∀ j, j < 3 → (w.alloc (.cells #[v0, v1, v2] 50)).cell? ⟨w.heap.size, j, none⟩ = some ((fun j => if j = 0 then v0 else if j = 1 then v1 else v2 : Nat → Value) j) ∧ NV (w.alloc (.cells #[v0, v1, v2] 50)) ((fun j => if j = 0 then v0 else if j = 1 then v1 else v2 : Nat → Value) j) ((fun j => if j = 0 then X0 else if j = 1 then X1 else X2 : Nat → Nat) j) M) := Lib.hid (by
  intro j hj
  rcases (show j = 0 ∨ j = 1 ∨ j = 2 by omega) with rfl | rfl | rfl
  ·exact ⟨by first | simp | (simp; done), h0.ext ((Ext.refl w).alloc _)⟩
  ·exact ⟨by first | simp | (simp; done), h1.ext ((Ext.refl w).alloc _)⟩
  ·exact ⟨by first | simp | (simp; done), h2.ext ((Ext.refl w).alloc _)⟩)
 have hp : prodF (fun j => if j = 0 then X0 else if j = 1 then X1 else X2 : Nat → Nat) 3 = X0 * X1 * X2 := by simp [prodF, Nat.mul_comm, Nat.mul_left_comm, Nat.mul_assoc]
 refine (addB_any p Y m _ 3 M _ _ _ (by omega) hM hm (Lib.hid (hS.ext ((Ext.refl w).alloc _))) hc).mono ?_
 rintro e w1 ⟨he, hs, o⟩
 rw [hp] at hs
 exact ⟨he, hs, (On.of ((Ext.refl w).alloc _)).trans o⟩
def upZ (X Y : Nat) : Nat := if X % Y = 0 then X / Y else X / Y + 1
theorem up_any {A A' : Option Addr} {n n' c c' X Y : Nat} {xs ys : List Nat} {w : World} (h : NX w A n c xs) (h' : NX w A' n' c' ys) (hn : n ≤ 900) (hn' : n' ≤ 900) (hX : nv xs = X) (hy : nv ys = Y) (hY : 0 < Y) :
    Calls Tryz.prog 90 #[.slice A n c, .slice A' n' c'] w fun e w' => ∃ A2 n2 c2, e = .returned (.slice A2 n2 c2) ∧ n2 ≤ n + 3 ∧ NX w' A2 n2 c2 (nw (upZ X Y)) ∧ Ext w w' := by
 subst hX hy
 go_enter Tryz.func90, Tryz.ntmps90
 go_wp2_with fail
 refine (divX h h' (by omega) (by omega)).mono ?_
 rintro ee w3 (⟨h0, _⟩ | ⟨_, A3, n3, c3, A4, n4, c4, rfl, hn3, hn4, hx3, hx4, k3'⟩)
 ·omega
 have k3 : Ext w w3 := k3'
 have H3 := Lib.hid (show NX w3 A3 n3 c3 (nw (nv xs / nv ys)) from hx3)
 have H4 := Lib.hid (show NX w3 A4 n4 c4 (nw (nv xs % nv ys)) from hx4)
 clear hx3 hx4 k3'
 obtain ⟨B, hB⟩ : ∃ B, B = Go.bitLen (nv xs % nv ys) := ⟨_, rfl⟩
 have HB := Lib.hid hB
 clear hB
 go_wp2_with fail
 refine (bitsX H4.out (by omega) HB).mono ?_
 rintro ee w4 ⟨rfl, k4⟩
 by_cases hz : nv xs % nv ys = 0
 ·have HZ := Lib.hid (show upZ (nv xs) (nv ys) = nv xs / nv ys by unfold upZ; rw [if_pos hz])
  have hB0 : B = 0 := by rw [HB.out]; exact bitLen_zero hz
  subst hB0
  clear hz
  go_wp2
  go_ret
  exact ⟨A3, n3, c3, rfl, by omega, by rw [HZ.out]; exact NX.ext H3.out k4, k3.trans k4⟩
 ·have HZ := Lib.hid (show upZ (nv xs) (nv ys) = nv xs / nv ys + 1 by unfold upZ; rw [if_neg hz])
  have hB0 : 0 < B := by rw [HB.out]; exact bitLen_pos (by omega)
  have e1 : decide ((0 : Int) < (B : Int)) = true := by simp; omega
  have e2 : ((0 : Int) < (B : Int)) = True := by simp; omega
  clear hz
  go_wp2_with fail
  refine (ofF_any 1 w4 (by omega)).mono ?_
  rintro e w5 ⟨A5, n5, c5, rfl, hn5, hx5, k5', _⟩
  have k5 : Ext w4 w5 := k5'
  have H5 := Lib.hid (show NX w5 A5 n5 c5 (nw 1) from hx5)
  clear hx5 k5'
  go_wp2_with fail
  refine (addX (NX.ext H3.out (k4.trans k5)) H5.out (by omega) (by omega)).mono ?_
  rintro e w6 ⟨A6, n6, c6, rfl, hn6, hx6, k6⟩
  rw [nv_nw, nv_nw] at hx6
  have H6 := Lib.hid hx6
  clear hx6
  go_wp2
  go_ret
  exact ⟨A6, n6, c6, rfl, by omega, by rw [HZ.out]; exact H6.out, k3.trans (k4.trans (k5.trans k6))⟩
def StC (w : World) (g : Nat) (n T Wd : Nat) (R : Value) (S : Value) : Prop := w.cell? ⟨g, 0, none⟩ = some (.int .u64 (n : Int)) ∧ w.cell? ⟨g, 1, none⟩ = some (.int .u64 (T : Int)) ∧ w.cell? ⟨g, 2, none⟩ = some (.int .u64 (Wd : Int)) ∧ w.cell? ⟨g, 3, none⟩ = some R ∧ w.cell? ⟨g, 4, none⟩ = some S
theorem StC.ext {w w' : World} {g n T Wd : Nat} {R S : Value} (h : StC w g n T Wd R S) (k : Ext w w') : StC w' g n T Wd R S :=
 ⟨cell_ext k h.1, cell_ext k h.2.1, cell_ext k h.2.2.1, cell_ext k h.2.2.2.1, cell_ext k h.2.2.2.2⟩
theorem five_at (w : World) (x0 x1 x2 x3 x4 : Value) (t : TypeId) : (w.alloc (.cells #[x0, x1, x2, x3, x4] t)).cell? ⟨w.heap.size, 0, none⟩ = some x0 ∧ (w.alloc (.cells #[x0, x1, x2, x3, x4] t)).cell? ⟨w.heap.size, 1, none⟩ = some x1 ∧ (w.alloc (.cells #[x0, x1, x2, x3, x4] t)).cell? ⟨w.heap.size, 2, none⟩ = some x2 ∧ (w.alloc (.cells #[x0, x1, x2, x3, x4] t)).cell? ⟨w.heap.size, 3, none⟩ = some x3 ∧ (w.alloc (.cells #[x0, x1, x2, x3, x4] t)).cell? ⟨w.heap.size, 4, none⟩ = some x4 := by simp
theorem stModulus_any (n T Wd : Nat) (A : Option Addr) (L c : Nat) (S : Value) (f : Nat → Nat) (w : World) (hL : L ≤ 100) (hX : FX w A L c f) (hf : Hid (∀ j, j < L → f j < 18446744073709551616)) :
    Calls Tryz.prog 92 #[.agg #[.int .u64 (n : Int), .int .u64 (T : Int), .int .u64 (Wd : Int), .slice A L c, S]] w fun e w' => ∃ A2 n2 c2, e = .returned (.slice A2 n2 c2) ∧ n2 ≤ L + 1 ∧ NX w' A2 n2 c2 (nw (prodF f L)) ∧ Ext w w' := by
 have kV : Ext w (w.alloc (.cells #[.int .u64 (n : Int), .int .u64 (T : Int), .int .u64 (Wd : Int), .slice A L c, S] 120)) := (Ext.refl w).alloc _
 obtain ⟨x0, x1, x2, x3, x4⟩ := five_at w (.int .u64 (n : Int)) (.int .u64 (T : Int)) (.int .u64 (Wd : Int)) (.slice A L c) S 120
 go_enter Tryz.func92, Tryz.ntmps92
 go_wp2_with fail
 refine (Product_any A L c f _ (by omega) (hX.ext kV) hf).mono ?_
 rintro ee w3 ⟨A3, n3, c3, rfl, hn3, hx3, k3⟩
 have H3 := Lib.hid hx3
 clear hx3
 go_wp2
 go_ret
 exact ⟨A3, n3, c3, rfl, by omega, H3.out, kV.trans k3⟩
def geo (n : Nat) : Nat → Nat
 | 0 => 0
 | k + 1 => geo n k + n ^ k
theorem geo_le {n : Nat} (hn : n ≤ 4096) : ∀ k, k ≤ 3 → n ^ k ≤ 68719476736 ∧ geo n k ≤ 206158430208 := by
 have h1 : n ^ 1 ≤ 4096 ^ 1 := Nat.pow_le_pow_left hn 1
 have h2 : n ^ 2 ≤ 4096 ^ 2 := Nat.pow_le_pow_left hn 2
 have h3 : n ^ 3 ≤ 4096 ^ 3 := Nat.pow_le_pow_left hn 3
 have h0 : n ^ 0 = 1 := rfl
 intro k hk
 rcases (show k = 0 ∨ k = 1 ∨ k = 2 ∨ k = 3 by omega) with rfl | rfl | rfl | rfl
 all_goals (simp only [geo]; omega)
theorem rounding_any (n T Wd K : Nat) (R S : Value) (w : World) (hn : n ≤ 4096) (hK : K ≤ 3) :
    Calls Tryz.prog 93 #[.agg #[.int .u64 (n : Int), .int .u64 (T : Int), .int .u64 (Wd : Int), R, S], .int .i64 (K : Int)] w fun e w' => ∃ A2 n2 c2, e = .returned (.slice A2 n2 c2) ∧ n2 ≤ 1 ∧ NX w' A2 n2 c2 (nw ((geo n K + 1) / 2)) ∧ Ext w w' := by
 have kV : Ext w (w.alloc (.cells #[.int .u64 (n : Int), .int .u64 (T : Int), .int .u64 (Wd : Int), R, S] 120)) := (Ext.refl w).alloc _
 obtain ⟨x0, x1, x2, x3, x4⟩ := five_at w (.int .u64 (n : Int)) (.int .u64 (T : Int)) (.int .u64 (Wd : Int)) R S 120
 go_enter Tryz.func93, Tryz.ntmps93
 go_wp2
 generalize w.alloc (.cells #[.int .u64 (n : Int), .int .u64 (T : Int), .int .u64 (Wd : Int), R, S] 120) = V at *
 go_loopw [5, 6, 8] (fun h p i wr => ∃ k : Nat, k ≤ K ∧ i = .int .i64 (k : Int) ∧ h = .int .u64 ((geo n k : Nat) : Int) ∧ p = .int .u64 ((n ^ k : Nat) : Int) ∧ Ext V wr) (fun _ _ i _ => K - (intOf i).toNat)
 case atStart => exact ⟨0, by omega, rfl, rfl, rfl, Ext.refl _⟩
 case round =>
  obtain ⟨k, hk, rfl, rfl, rfl, kr⟩ := hrel
  obtain ⟨b1, b2⟩ := geo_le hn k (by omega)
  have y0 := cell_ext kr x0
  by_cases hlt : k < K
  ·obtain ⟨b3, b4⟩ := geo_le hn (k + 1) (by omega)
   have g1 : geo n (k + 1) = geo n k + n ^ k := rfl
   have g2 : n ^ (k + 1) = n ^ k * n := Nat.pow_succ n k
   have HG1 := Lib.hid g1
   have HG2 := Lib.hid g2
   have hw1 : IntKind.u64.wrap (((geo n k : Nat) : Int) + ((n ^ k : Nat) : Int)) = ((geo n (k + 1) : Nat) : Int) := by rw [IntKind.wrap_u64, g1]; omega
   have hw2 : IntKind.u64.wrap (((n ^ k : Nat) : Int) * (n : Int)) = ((n ^ (k + 1) : Nat) : Int) := by
    rw [g2] at b3 ⊢
    rw [IntKind.wrap_u64, Int.natCast_mul]
    exact Int.emod_eq_of_lt (by rw [← Int.natCast_mul]; omega) (by rw [← Int.natCast_mul]; omega)
   obtain ⟨gk, hgk⟩ : ∃ x, x = geo n k := ⟨_, rfl⟩
   obtain ⟨gk1, hgk1⟩ : ∃ x, x = geo n (k + 1) := ⟨_, rfl⟩
   obtain ⟨pk, hpk⟩ : ∃ x, x = n ^ k := ⟨_, rfl⟩
   obtain ⟨pk1, hpk1⟩ : ∃ x, x = n ^ (k + 1) := ⟨_, rfl⟩
   rw [← hgk, ← hpk, ← hgk1] at hw1
   rw [← hpk, ← hpk1] at hw2
   rw [← hgk, ← hpk]
   have E1 := Lib.hid hgk1
   have E2 := Lib.hid hpk1
   clear hgk hgk1 hpk hpk1 b1 b2 b3 b4 HG1 HG2
   have i1 : (k : Int) < (K : Int) := by omega
   clear g1 g2
   go_wp2
   exact ⟨⟨k + 1, by omega, by go_num, by rw [E1.out], by rw [E2.out], kr⟩, by simp [intOf]; omega⟩
  ·obtain rfl : k = K := by omega
   obtain ⟨gk, hgk⟩ : ∃ x, x = geo n k := ⟨_, rfl⟩
   rw [← hgk] at b2 ⊢
   have hb : (gk + 1) / 2 < 18446744073709551616 := by omega
   have hcast : IntKind.u64.wrap ((gk : Int) + 1) = ((gk + 1 : Nat) : Int) := by rw [IntKind.wrap_u64]; omega
   have E1 := Lib.hid hgk
   clear hgk b1
   have hq : ((gk + 1 : Nat) : Int).tdiv 2 = (((gk + 1) / 2 : Nat) : Int) := rfl
   go_wp2_with fail
   refine (ofF_any ((gk + 1) / 2) _ hb).mono ?_
   rintro e w5 ⟨A5, n5, c5, rfl, hn5, hx5, k5', _⟩
   have k5 : Ext wr w5 := k5'
   have H5 := Lib.hid (show NX w5 A5 n5 c5 (nw ((gk + 1) / 2)) from hx5)
   clear hx5 k5'
   go_wp2
   go_ret
   exact ⟨A5, n5, c5, rfl, by omega, by first | exact H5.out | (rw [← E1.out]; exact H5.out), kV.trans (kr.trans k5)⟩
def Adds (fn : Nat) (cap : Array Value) (w : World) (X M : Nat) : Prop :=
 ∀ w1, Ext w w1 → SB w1 w.heap.size 0 0 → Calls Tryz.prog fn (#[.func (.func 152) #[.pointer (some ⟨w.heap.size, 0, none⟩)] #[]] ++ cap) w1 fun e w2 => e = .returned (.tuple #[]) ∧ SB w2 w.heap.size X M ∧ On w.heap.size w1 w2
theorem summed_any (fn : Nat) (cap : Array Value) (X M : Nat) (w : World) (hE : Hid (EntersV fn)) (hG : Hid (Adds fn cap w X M)) :
    Calls Tryz.prog 81 #[.func (.func fn) #[] cap] w fun e w' => ∃ A n c, e = .returned (.slice A n c) ∧ n ≤ M ∧ NX w' A n c (nw X) ∧ Ext w w' := by
 have kV : Ext w (w.alloc (.cells #[.slice none 0 0] 203)) := (Ext.refl w).alloc _
 have HS := Lib.hid (SB.new w)
 go_enter Tryz.func81, Tryz.ntmps81
 go_wp2_with fail
 rw [hE.out, Oper.upon_enter]
 refine (hG.out _ kV HS.out).mono ?_
 rintro ee w2 ⟨rfl, hs, o⟩
 obtain ⟨A, n, c, h1, h2, h3⟩ := hs
 have c0 : w2.cell? ⟨w.heap.size, 0, none⟩ = some (.slice A n c) := by rw [cell_of_row w2 _ 0 _ _ (0, 0) h1]; rfl
 have kz := Ext.on kV o (Nat.le_refl _)
 have H3 := Lib.hid h3
 clear h1 h3 HS
 go_wp2
 go_ret
 exact ⟨A, n, c, rfl, h2, H3.out, kz⟩
def ErrL (P : Prop) (lo l : Int) (L E : Nat) : Prop := (¬ P ∧ E = 8) ∨ (P ∧ ¬ (lo ≤ l ∧ l < (L : Int)) ∧ E = 10) ∨ (P ∧ (lo ≤ l ∧ l < (L : Int)) ∧ E = 0)
theorem errL (P : Prop) (lo l : Int) (L : Nat) : ∃ E, ErrL P lo l L E := by
 by_cases h : P
 ·by_cases h2 : lo ≤ l ∧ l < (L : Int)
  ·exact ⟨0, .inr (.inr ⟨h, h2, rfl⟩)⟩
  ·exact ⟨10, .inr (.inl ⟨h, h2, rfl⟩)⟩
 ·exact ⟨8, .inl ⟨h, rfl⟩⟩
structure ParK (n T W0 L : Nat) (f : Nat → Nat) : Prop where
 n8 : 8 ≤ n
 n4 : n ≤ 4096
 two : n % 2 = 0
 t2 : 2 ≤ T
 t30 : T < 1073741824
 w1 : 1 ≤ W0
 w16 : W0 ≤ 16
 l1 : 1 ≤ L
 l8 : L ≤ 8
 q50 : ∀ j, j < L → f j < 1125899906842624
 q2 : ∀ j, j < L → 2 ≤ f j
theorem par_k {N : Int} {T L : Nat} {f : Nat → Nat} {W : Int} (h : ParP N T L f W) : ∃ n W0 : Nat, N = (n : Int) ∧ W = (W0 : Int) ∧ ParK n T W0 L f := by
 have h0 : SizeP N := h 0 (by omega)
 obtain ⟨n, rfl, hn0, hn1⟩ := size_nat h0
 have h1 : 1 ≤ W ∧ W ≤ 16 := h 1 (by omega)
 obtain ⟨W0, rfl⟩ := Int.eq_ofNat_of_zero_le (show 0 ≤ W by omega)
 have h2 : PlainP n T := h 2 (by omega)
 have h3 : CountP L := h 3 (by omega)
 have h4 : PrsP n T L f := h 4 (by omega)
 exact ⟨n, W0, rfl, rfl, ⟨hn0, hn1, stepS_even h0.2.2, h.T2, h2.1, by omega, by omega, h3.1, h3.2, fun j hj => (h4 j hj).1, fun j hj => isS_ge (h4 j hj).2.2.2.2⟩⟩
theorem NX.onB {w w' : World} {q : Nat} {A : Option Addr} {n c : Nat} {xs : List Nat} (h : NX w A n c xs) (hq : ∀ ad, A = some ad → ad.block ≠ q) (k : On q w w') : NX w' A n c xs := by
 refine ⟨h.len, h.room, h.lt, fun hn => ?_⟩
 obtain ⟨ad, rfl, hb, hc⟩ := h.cells hn
 refine ⟨ad, rfl, Nat.lt_of_lt_of_le hb k.size, fun j x hx => (World.cell?_of_block ?_).trans (hc j x hx)⟩
 exact k.block _ (by rw [add_block]; exact hb) (fun e => hq ad rfl (by injection e with e; rw [add_block] at e; exact e))
def LvPost (w : World) (E : Nat) (N : Int) (T : Nat) (A : Option Addr) (L c : Nat) (f : Nat → Nat) (W l : Int) (ee : Ending) (w' : World) : Prop :=
 (E ≠ 0 ∧ ee = .returned (.tuple #[.agg #[.int .u64 0, .int .u64 0, .int .u64 0, .slice none 0 0, .slice none 0 0], .int .i64 (E : Int)]) ∧ Ext w w') ∨
 (E = 0 ∧ ∃ (n W0 m : Nat) (A2 : Option Addr) (n2 c2 : Nat), N = (n : Int) ∧ W = (W0 : Int) ∧ l = (m : Int) ∧ m < L ∧ Hid (ParK n T W0 L f) ∧ ee = .returned (.tuple #[.agg #[.int .u64 (n : Int), .int .u64 (T : Int), .int .u64 (W0 : Int), .slice A (m + 1) c, .slice A2 n2 c2], .int .i64 0]) ∧ n2 ≤ 1 ∧ Hid (NX w' A2 n2 c2 (nw (prodF f (m + 1) % T))) ∧ Ext w w')
set_option maxHeartbeats 4000000 in
theorem blevelOf_any {N : Int} {T : Nat} {Wd : Int} {A : Option Addr} {L c : Nat} {f : Nat → Nat} {l : Int} {E : Nat} {w : World} (hP : PA w N T A L c Wd f) (hL : L ≤ 100) (l0 : -9223372036854775808 ≤ l) (l1 : l < 9223372036854775808) (hT : Tabs w) (hE : Hid (ErrL (ParP N T L f Wd) 0 l L E)) :
    Calls Tryz.prog 79 #[.agg #[.int .i64 N, .int .u64 (T : Int), .slice A L c, .int .i64 Wd], .int .i64 l] w (LvPost w E N T A L c f Wd l) := by
 have HT := Lib.hid hT
 have HP := Lib.hid hP
 have hroom := hP.fx.room
 have n0 := hP.n0
 have n1 := hP.n1
 have w0' := hP.w0
 have w1' := hP.w1
 clear hT hP
 have kV : Ext w ((w.alloc (.cells #[.int .i64 N, .int .u64 (T : Int), .slice A L c, .int .i64 Wd] 25)).alloc (.cells #[.int .u64 0, .int .u64 0, .int .u64 0, .slice none 0 0, .slice none 0 0] 120)) := ((Ext.refl w).alloc _).alloc _
 obtain ⟨a0, a1, a2, a3⟩ := four_at w (.int .i64 N) (.int .u64 (T : Int)) (.slice A L c) (.int .i64 Wd) 25
 have ka : Ext (w.alloc (.cells #[.int .i64 N, .int .u64 (T : Int), .slice A L c, .int .i64 Wd] 25)) ((w.alloc (.cells #[.int .i64 N, .int .u64 (T : Int), .slice A L c, .int .i64 Wd] 25)).alloc (.cells #[.int .u64 0, .int .u64 0, .int .u64 0, .slice none 0 0, .slice none 0 0] 120)) := (Ext.refl _).alloc _
 have x0 := cell_ext ka a0
 have x1 := cell_ext ka a1
 have x2 := cell_ext ka a2
 have x3 := cell_ext ka a3
 obtain ⟨s0, s1, s2, s3, s4⟩ := five_at (w.alloc (.cells #[.int .i64 N, .int .u64 (T : Int), .slice A L c, .int .i64 Wd] 25)) (.int .u64 0) (.int .u64 0) (.int .u64 0) (.slice none 0 0) (.slice none 0 0) 120
 rw [show (w.alloc (.cells #[.int .i64 N, .int .u64 (T : Int), .slice A L c, .int .i64 Wd] 25)).heap.size = w.heap.size + 1 by simp] at s0 s1 s2 s3 s4
 have hrow : ((w.alloc (.cells #[.int .i64 N, .int .u64 (T : Int), .slice A L c, .int .i64 Wd] 25)).alloc (.cells #[.int .u64 0, .int .u64 0, .int .u64 0, .slice none 0 0, .slice none 0 0] 120)).heap[w.heap.size + 1]? = some (.cells #[.int .u64 0, .int .u64 0, .int .u64 0, .slice none 0 0, .slice none 0 0] 120) := by
  have := heap_alloc_new (w.alloc (.cells #[.int .i64 N, .int .u64 (T : Int), .slice A L c, .int .i64 Wd] 25)) (.cells #[.int .u64 0, .int .u64 0, .int .u64 0, .slice none 0 0, .slice none 0 0] 120)
  rwa [show (w.alloc (.cells #[.int .i64 N, .int .u64 (T : Int), .slice A L c, .int .i64 Wd] 25)).heap.size = w.heap.size + 1 by simp] at this
 clear a0 a1 a2 a3 ka
 go_enter Tryz.func79, Tryz.ntmps79
 go_wp2_with fail
 generalize ((w.alloc (.cells #[.int .i64 N, .int .u64 (T : Int), .slice A L c, .int .i64 Wd] 25)).alloc (.cells #[.int .u64 0, .int .u64 0, .int .u64 0, .slice none 0 0, .slice none 0 0] 120)) = V at *
 refine (step_any N T Wd A L c f l V n0 n1 l0 l1 HP.out.t1 (by omega) (HP.out.fx.ext kV) (Lib.hid HP.out.words) (HT.out.ext kV)).mono ?_
 rintro ee w1 h1
 have H1 := Lib.hid h1
 clear h1
 obtain ⟨b, hb⟩ : ∃ b, b = w.heap.size := ⟨_, rfl⟩
 rw [← hb] at x0 x1 x2 x3 s0 s1 s2 s3 s4 hrow ⊢
 have HROW := Lib.hid hrow
 have hbV : w.heap.size ≤ b := by omega
 clear hrow
 have HB := Lib.hid hb
 clear hb
 obtain ⟨hy, rfl, k1⟩ | ⟨hy, hl, rfl, k1⟩ | ⟨hy, hl, A1, n1', c1, r, hr, hrl, rfl, hn1, hx1, k1⟩ := H1.out
 ·have he : E = 8 := by
     rcases hE.out with ⟨h, e⟩ | ⟨h, h2, e⟩ | ⟨h, h2, e⟩
     ·exact e
     ·exact absurd h hy
     ·exact absurd h hy
  subst he
  clear hy H1 hE
  replace s0 := cell_ext k1 s0
  replace s1 := cell_ext k1 s1
  replace s2 := cell_ext k1 s2
  replace s3 := cell_ext k1 s3
  replace s4 := cell_ext k1 s4
  have hrow := (k1.block (b + 1) (Array.getElem?_eq_some_iff.1 HROW.out).1).trans HROW.out
  have zf : ∀ j, w1.frozen? ⟨b + 1, j, none⟩ = false := fun j => by simp [World.frozen?, hrow]
  have z0 := zf 0
  have z1 := zf 1
  have z2 := zf 2
  have z3 := zf 3
  have z4 := zf 4
  clear hrow zf
  go_wp2
  refine bodyPost_ret (v := .tuple #[.agg #[.int .u64 0, .int .u64 0, .int .u64 0, .slice none 0 0, .slice none 0 0], .int .i64 8]) (by simp [results, Tryz.results79, go_sem, s0, s1, s2, s3, s4]) rfl ?_
  have hb1 : w.heap.size ≤ b + 1 := by omega
  exact .inl ⟨by decide, rfl, Ext.set (p := ⟨b + 1, 4, none⟩) (Ext.set (p := ⟨b + 1, 3, none⟩) (Ext.set (p := ⟨b + 1, 2, none⟩) (Ext.set (p := ⟨b + 1, 1, none⟩) (Ext.set (p := ⟨b + 1, 0, none⟩) (kV.trans k1) hb1 _) hb1 _) hb1 _) hb1 _) hb1 _⟩
 ·have he : E = 10 := by
     rcases hE.out with ⟨h, e⟩ | ⟨h, h2, e⟩ | ⟨h, h2, e⟩
     ·exact absurd hy h
     ·exact e
     ·exact absurd h2 hl
  subst he
  clear hy hl H1 hE
  replace s0 := cell_ext k1 s0
  replace s1 := cell_ext k1 s1
  replace s2 := cell_ext k1 s2
  replace s3 := cell_ext k1 s3
  replace s4 := cell_ext k1 s4
  have hrow := (k1.block (b + 1) (Array.getElem?_eq_some_iff.1 HROW.out).1).trans HROW.out
  have zf : ∀ j, w1.frozen? ⟨b + 1, j, none⟩ = false := fun j => by simp [World.frozen?, hrow]
  have z0 := zf 0
  have z1 := zf 1
  have z2 := zf 2
  have z3 := zf 3
  have z4 := zf 4
  clear hrow zf
  go_wp2
  refine bodyPost_ret (v := .tuple #[.agg #[.int .u64 0, .int .u64 0, .int .u64 0, .slice none 0 0, .slice none 0 0], .int .i64 10]) (by simp [results, Tryz.results79, go_sem, s0, s1, s2, s3, s4]) rfl ?_
  have hb1 : w.heap.size ≤ b + 1 := by omega
  exact .inl ⟨by decide, rfl, Ext.set (p := ⟨b + 1, 4, none⟩) (Ext.set (p := ⟨b + 1, 3, none⟩) (Ext.set (p := ⟨b + 1, 2, none⟩) (Ext.set (p := ⟨b + 1, 1, none⟩) (Ext.set (p := ⟨b + 1, 0, none⟩) (kV.trans k1) hb1 _) hb1 _) hb1 _) hb1 _) hb1 _⟩
 ·have he : E = 0 := by
     rcases hE.out with ⟨h, e⟩ | ⟨h, h2, e⟩ | ⟨h, h2, e⟩
     ·exact absurd hy h
     ·exact absurd hl h2
     ·exact e
  subst he
  obtain ⟨n, W0, rfl, rfl, hk⟩ := par_k hy
  obtain ⟨m, rfl⟩ := Int.eq_ofNat_of_zero_le hl.1
  have hm : m < L := by have := hl.2; omega
  have HK := Lib.hid hk
  have e1 : IntKind.u64.wrap (n : Int) = (n : Int) := by have := hk.n4; rw [IntKind.wrap_u64]; omega
  have e2 : IntKind.u64.wrap (W0 : Int) = (W0 : Int) := by have := hk.w16; rw [IntKind.wrap_u64]; omega
  have hrT : r < 18446744073709551616 := by have := hk.t30; omega
  have hr2 := hr.out
  rw [Int.toNat_natCast] at hr2
  have HR := Lib.hid hr2
  have hwm : IntKind.i64.wrap ((m : Int) + 1) = (m : Int) + 1 := by rw [IntKind.wrap_i64]; omega
  have i0 : (0 : Int) ≤ (m : Int) + 1 := by omega
  have i1 : (m : Int) + 1 ≤ (c : Int) := by omega
  have i2 : (m : Int) + 1 ≤ (L : Int) := by omega
  obtain ⟨ad, rfl, _⟩ := HP.out.fx.cells (by omega)
  clear hy hl H1 hE hx1 hk hr hr2 l0 l1 n0 n1 w0' w1' hrl
  replace s0 := cell_ext k1 s0
  replace s1 := cell_ext k1 s1
  replace s2 := cell_ext k1 s2
  replace s3 := cell_ext k1 s3
  replace s4 := cell_ext k1 s4
  replace x0 := cell_ext k1 x0
  replace x1 := cell_ext k1 x1
  replace x2 := cell_ext k1 x2
  replace x3 := cell_ext k1 x3
  have hrow := (k1.block (b + 1) (Array.getElem?_eq_some_iff.1 HROW.out).1).trans HROW.out
  have zf : ∀ w', Ext w1 w' → ∀ j, w'.frozen? ⟨b + 1, j, none⟩ = false := fun w' k j => by
   have := (k.block (b + 1) (Array.getElem?_eq_some_iff.1 hrow).1).trans hrow
   simp [World.frozen?, this]
  have z0 := zf w1 (Ext.refl _) 0
  have z1 := zf w1 (Ext.refl _) 1
  have z2 := zf w1 (Ext.refl _) 2
  have z3 := zf w1 (Ext.refl _) 3
  have z4 := zf w1 (Ext.refl _) 4
  have ZF := Lib.hid zf
  have kk : Ext w1 w1 := Ext.refl w1
  clear zf hrow
  go_wp2_with fail
  go_region_held3 (fun w' => w'.cell? ⟨b, 0, none⟩ = some (.int .i64 (n : Int)) ∧ w'.cell? ⟨b, 1, none⟩ = some (.int .u64 (T : Int)) ∧ w'.cell? ⟨b, 2, none⟩ = some (.slice (some ad) L c) ∧ w'.cell? ⟨b, 3, none⟩ = some (.int .i64 (W0 : Int))) (go_keep)
   (first
    | (go_at_call 83; refine (ofF_any r _ hrT).mono ?_; rintro e5 w5 ⟨A5, n5, c5, rfl, hn5, hx5, k5', hf5⟩; have k5 : Ext _ w5 := k5'; have HF : Hid (∀ ad, A5 = some ad → w1.heap.size ≤ ad.block) := Lib.hid (fun ad e => Nat.le_trans (show w1.heap.size ≤ _ from (by first | exact Below.size kk | exact Below.size (Ext.drew kk))) (hf5 ad e)); clear hf5; have H5 : Hid (NX w5 A5 n5 c5 (nw r)) := Lib.hid hx5; clear hx5 k5'; replace kk : Ext w1 w5 := (by first | exact Ext.trans kk k5 | exact Ext.trans (Ext.drew kk) k5); have d0 := cell_ext kk x0; have d1 := cell_ext kk x1; have d2 := cell_ext kk x2; have d3 := cell_ext kk x3; have t0 := cell_ext kk s0; have t1 := cell_ext kk s1; have t2 := cell_ext kk s2; have t3 := cell_ext kk s3; have t4 := cell_ext kk s4; have y0 := ZF.out w5 kk 0; have y1 := ZF.out w5 kk 1; have y2 := ZF.out w5 kk 2; have y3 := ZF.out w5 kk 3; have y4 := ZF.out w5 kk 4; have ky : Ext w5 w5 := Ext.refl w5)
    | fail)
  all_goals
   go_wp2
   refine bodyPost_ret (v := .tuple #[.agg #[.int .u64 (n : Int), .int .u64 (T : Int), .int .u64 (W0 : Int), .slice (some ad) (m + 1) c, .slice A5 n5 c5], .int .i64 0]) (by simp [results, Tryz.results79, go_sem, t0, t1, t2, t3, t4]) rfl ?_
   have hb1 : w.heap.size ≤ b + 1 := by omega
   have hbw : b + 1 < w1.heap.size := Nat.lt_of_lt_of_le (Array.getElem?_eq_some_iff.1 HROW.out).1 k1.size
   refine .inr ⟨rfl, n, W0, m, A5, n5, c5, rfl, rfl, rfl, hm, HK, rfl, hn5, ?_, ?_⟩
   ·rw [← HR.out]
    exact Lib.hid (H5.out.onB (q := b + 1) (fun ad2 e => by have := HF.out ad2 e; omega) (On.set (On.set (On.set (On.set (On.set (On.refl _ _) 0 _) 1 _) 2 _) 3 _) 4 _))
   ·exact Ext.set (p := ⟨b + 1, 4, none⟩) (Ext.set (p := ⟨b + 1, 3, none⟩) (Ext.set (p := ⟨b + 1, 2, none⟩) (Ext.set (p := ⟨b + 1, 1, none⟩) (Ext.set (p := ⟨b + 1, 0, none⟩) (kV.trans (k1.trans kk)) hb1 _) hb1 _) hb1 _) hb1 _) hb1 _
end Go.Proofs.YtjikdbcjabopnaaGreatDoor
