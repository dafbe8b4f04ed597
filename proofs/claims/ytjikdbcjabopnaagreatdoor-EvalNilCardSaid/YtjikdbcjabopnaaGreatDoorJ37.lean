import Derived.Test.YtjikdbcjabopnaaGreatDoorJ31
import Derived.Test.YtjikdbcjabopnaaGreatDoorJ36
import Derived.Test.YtjikdbcjabopnaaGreatDoorJ29
import Derived.Test.YtjikdbcjabopnaaGreatDoorJ30
import Derived.Deep.QuietTactic
import Derived.BigQuiet
import Derived.Deep.DeepCutAuto
import Derived.Test.YtjikdbcjabopnaaGreatDoorJ18
import Derived.Test.YtjikdbcjabopnaaGreatDoorJ32
import Derived.Test.YtjikdbcjabopnaaGreatDoorJ16
import Derived.Test.YtjikdbcjabopnaaGreatDoorJ25
import Derived.Test.YtjikdbcjabopnaaGreatDoorJGCopy
import Derived.Test.YtjikdbcjabopnaaGreatDoorJ33
namespace Go.Proofs.YtjikdbcjabopnaaGreatDoor
open Go.RowKit
set_option linter.unusedVariables false
set_option maxRecDepth 100000
theorem WK.cells {w : World} {g n N : Nat} {b : Nat → Bool} {X : Nat → Nat} (h : WK w g n n N b X) {i : Nat} (hi : i < n) : w.frozen? ⟨g, i * 2, none⟩ = false ∧ w.frozen? ⟨g, i * 2 + 1, none⟩ = false ∧ g < w.heap.size := by
 obtain ⟨As, ns, cs, h1, h2⟩ := h
 exact ⟨h1.frozen _, h1.frozen _, h1.lt⟩
theorem mul10 {A A' : Option Addr} {n n' c c' : Nat} {X Y Z : Nat} {w : World} (hz : Hid (Z = X * Y)) (h : NX w A n c (nw X)) (h' : NX w A' n' c' (nw Y)) (hn : n ≤ 1000) (hn' : n' ≤ 1000) :
    Calls Tryz.prog 160 #[.slice A n c, .slice A' n' c'] w (fun e w' => ∃ A2 n2 c2, e = .returned (.slice A2 n2 c2) ∧ n2 ≤ n + n' ∧ NX w' A2 n2 c2 (nw Z) ∧ Ext w w') := by
 refine (natMul_any A A' n n' c c' (nw X) (nw Y) w h h' (by omega) (by omega)).mono ?_
 rw [nv_nw, nv_nw, ← hz.out]
 rintro e w' ⟨A2, n2, c2, rfl, h2, h3, h4⟩
 exact ⟨A2, n2, c2, rfl, h2, h3, h4⟩
theorem of10 {x : Nat} {w : World} (hx : x < 18446744073709551616) :
    Calls Tryz.prog 83 #[.int .u64 (x : Int)] w (fun e w' => ∃ A2 n2 c2, e = .returned (.slice A2 n2 c2) ∧ n2 ≤ 1 ∧ NX w' A2 n2 c2 (nw x) ∧ Ext w w') := by
 refine (ofF_any x w hx).mono ?_
 rintro e w' ⟨A2, n2, c2, rfl, h2, h3, h4, _⟩
 exact ⟨A2, n2, c2, rfl, h2, h3, h4⟩
theorem div10 {A A' : Option Addr} {n n' c c' : Nat} {X Y Z : Nat} {w : World} (hz : Hid (Z = X / Y)) (hY : 0 < Y) (h : NX w A n c (nw X)) (h' : NX w A' n' c' (nw Y)) (hn : n ≤ 1000) (hn' : n' ≤ 1000) :
    Calls Tryz.prog 158 #[.slice A n c, .slice A' n' c'] w (fun e w' => ∃ A2 n2 c2 A3 n3 c3, e = .returned (.tuple #[.slice A2 n2 c2, .slice A3 n3 c3, .int .i64 0]) ∧ n2 ≤ n + 1 ∧ NX w' A2 n2 c2 (nw Z) ∧ Ext w w') := by
 refine (div_any A A' n n' c c' (nw X) (nw Y) w h h' (by omega) (by omega)).mono ?_
 rw [nv_nw, nv_nw]
 rintro e w' (⟨h0, _⟩ | ⟨_, A2, n2, c2, A3, n3, c3, rfl, h2, _, h3, _, h4⟩)
 ·omega
 exact ⟨A2, n2, c2, A3, n3, c3, rfl, h2, by rw [hz.out]; exact h3, h4⟩
theorem bl_le : ∀ k v : Nat, v < 2 ^ k → Go.bitLen v ≤ k
 | 0, v, h => by
  obtain rfl : v = 0 := by simpa using h
  exact Nat.le_refl _
 | k + 1, v, h => by
  rcases Nat.eq_zero_or_pos v with rfl | hv
  ·exact Nat.zero_le _
  ·rw [bits_half hv]
   have := bl_le k (v / 2) (by rw [Nat.pow_succ] at h; omega)
   omega
theorem bl_nx {w : World} {A : Option Addr} {n c X : Nat} (h : NX w A n c (nw X)) : Go.bitLen X ≤ 64 * n := by
 refine bl_le _ _ ?_
 have h1 := dg_bound X
 rw [h.len] at h1
 rw [Nat.pow_mul]
 exact h1
def mostN (n L : Nat) (q : Nat → Nat) : Nat := 4 * n * (prodF q L / 2 * (prodF q L / 2))
def wcN (n L : Nat) (q : Nat → Nat) : Nat := (Go.bitLen (mostN n L q) + 60) / 60
set_option maxHeartbeats 4000000 in
theorem wideCount_any (n L d : Nat) (B : Option Addr) (q : Nat → Nat) (w : World) (hB : FX w B L d q) (hn : n ≤ 4096) (hL : L ≤ 24) (hq : Hid (∀ j, j < L → q j < 18446744073709551616)) :
    Calls Tryz.prog 169 #[.int .i64 (n : Int), .slice B L d] w fun e w' => e = .returned (.int .i64 (wcN n L q : Int)) ∧ Ext w w' := by
 have HB := Lib.hid hB
 clear hB
 obtain ⟨Q, hQ⟩ : ∃ Q, Q = prodF q L := ⟨_, rfl⟩
 obtain ⟨H, hH⟩ : ∃ H, H = Q / 2 := ⟨_, rfl⟩
 obtain ⟨H2, hH2⟩ : ∃ H2, H2 = H * H := ⟨_, rfl⟩
 obtain ⟨M4, hM4⟩ : ∃ M4, M4 = 4 * n * H2 := ⟨_, rfl⟩
 obtain ⟨b, hb⟩ : ∃ b, b = Go.bitLen M4 := ⟨_, rfl⟩
 have hw : wcN n L q = (b + 60) / 60 := by unfold wcN mostN; rw [hb, hM4, hH2, hH, hQ]
 have HQ := Lib.hid hQ
 have HH := Lib.hid hH
 have HH2 := Lib.hid hH2
 have HM4 := Lib.hid hM4
 have HBb := Lib.hid hb
 rw [hw]
 have hP := Product_any B L d q w (by omega) HB.out hq
 rw [← hQ] at hP
 have HP := Lib.hid hP
 have hOf := fun w' => of10 (x := 4 * n) (w := w') (by omega)
 rw [show ((4 * n : Nat) : Int) = 4 * (n : Int) by omega] at hOf
 have HOf := Lib.hid hOf
 clear hQ hH hH2 hM4 hb hw hP hOf
 go_enter Tryz.func169, Tryz.ntmps169
 go_wp2_with fail
 refine HP.out.mono ?_
 rintro e1 w1 ⟨A1, n1, c1, rfl, hn1, hx1, k1⟩
 have HX1 := Lib.hid hx1
 clear hx1
 go_wp2_with fail
 refine (of10 (x := 2) (by omega)).mono ?_
 rintro e2 w2 ⟨A2, n2, c2, rfl, hn2, hx2, k2⟩
 have HX2 := Lib.hid hx2
 clear hx2
 go_wp2_with fail
 refine (div10 HH (by omega) (NX.ext HX1.out k2) HX2.out (by omega) (by omega)).mono ?_
 rintro e3 w3 ⟨A3, n3, c3, A4, n4, c4, rfl, hn3, hx3, k3⟩
 have HX3 := Lib.hid hx3
 clear hx3
 have k13 := k1.trans (k2.trans k3)
 go_wp2_with fail
 refine (HOf.out w3).mono ?_
 rintro e5 w5 ⟨A5, n5, c5, rfl, hn5, hx5, k5⟩
 have HX5 := Lib.hid hx5
 clear hx5
 go_wp2_with fail
 refine (mul10 HH2 (NX.ext HX3.out k5) (NX.ext HX3.out k5) (by omega) (by omega)).mono ?_
 rintro e6 w6 ⟨A6, n6, c6, rfl, hn6, hx6, k6⟩
 have HX6 := Lib.hid hx6
 clear hx6
 go_wp2_with fail
 refine (mul10 HM4 (NX.ext HX5.out k6) HX6.out (by omega) (by omega)).mono ?_
 rintro e7 w7 ⟨A7, n7, c7, rfl, hn7, hx7, k7⟩
 have HX7 := Lib.hid hx7
 clear hx7
 go_wp2_with fail
 refine (bitsX HX7.out (by omega) HBb).mono ?_
 rintro e8 w8 ⟨rfl, k8⟩
 have hbl : b ≤ 100000 := by
  have := bl_nx HX7.out
  rw [← HBb.out] at this
  omega
 have he : ((b : Int) + 1 + 60 - 1) / 60 = (((b + 60) / 60 : Nat) : Int) := by omega
 go_wp2
 try rw [he]
 go_ret
 exact ⟨by first | rfl | rw [he], k13.trans (k5.trans (k6.trans (k7.trans k8)))⟩
set_option maxHeartbeats 4000000 in
theorem quotientOf_any (x n c : Nat) (A : Option Addr) (w : World) (hx : x < 18446744073709551616) :
    Calls Tryz.prog 233 #[.int .u64 (x : Int), .slice A n c] w fun e w' => ∃ A2 n2 c2, e = .returned (.agg #[.bool false, .slice A2 n2 c2, .slice A n c]) ∧ n2 ≤ 1 ∧ NX w' A2 n2 c2 (nw x) ∧ Ext w w' := by
 have k0 : Ext w (w.alloc (.cells #[.bool false, .slice none 0 0, .slice none 0 0] 143)) := (Ext.refl w).alloc _
 have hr0 : RW (w.alloc (.cells #[.bool false, .slice none 0 0, .slice none 0 0] 143)) w.heap.size 143 3 (fun j => if j = 0 then .bool false else .slice none 0 0) := heap_alloc_new _ _
 go_enter Tryz.func233, Tryz.ntmps233
 go_wp2_with fail
 generalize w.alloc (.cells #[.bool false, .slice none 0 0, .slice none 0 0] 143) = V at *
 refine (of10 hx).mono ?_
 rintro e1 w1 ⟨A1, n1, c1, rfl, hn1, hx1, k1⟩
 have r1 := hr0.ext k1
 have c0 := r1.cell (i := 0) (by omega)
 have c1' := r1.cell (i := 1) (by omega)
 have c2 := r1.cell (i := 2) (by omega)
 have f0 := r1.frozen 0
 have f1 := r1.frozen 1
 have f2 := r1.frozen 2
 have s1 := r1.lt
 have HX1 := Lib.hid hx1
 clear hx1
 go_wp2_with fail
 have hs := ((r1.set (show 0 < 3 by omega) (.bool false)).set (show 1 < 3 by omega) (.slice A1 n1 c1)).set (show 2 < 3 by omega) (.slice A n c)
 have d0 := hs.cell (i := 0) (by omega)
 have d1 := hs.cell (i := 1) (by omega)
 have d2 := hs.cell (i := 2) (by omega)
 have hnx : NX (((w1.setCell ⟨w.heap.size, 0, none⟩ (.bool false)).setCell ⟨w.heap.size, 1, none⟩ (.slice A1 n1 c1)).setCell ⟨w.heap.size, 2, none⟩ (.slice A n c)) A1 n1 c1 (nw x) := by
  have g1 := NX.off HX1.out c0 (fun x => by simp) (.bool false)
  have r2 := r1.set (show 0 < 3 by omega) (.bool false)
  have g2 := NX.off g1 (r2.cell (i := 1) (by omega)) (fun x => by simp) (.slice A1 n1 c1)
  have r3 := r2.set (show 1 < 3 by omega) (.slice A1 n1 c1)
  exact NX.off g2 (r3.cell (i := 2) (by omega)) (fun x => by simp) (.slice A n c)
 have k9 := (((k0.trans k1).set (p := ⟨w.heap.size, 0, none⟩) (Nat.le_refl _) (.bool false)).set (p := ⟨w.heap.size, 1, none⟩) (Nat.le_refl _) (.slice A1 n1 c1)).set (p := ⟨w.heap.size, 2, none⟩) (Nat.le_refl _) (.slice A n c)
 generalize ((w1.setCell ⟨w.heap.size, 0, none⟩ (.bool false)).setCell ⟨w.heap.size, 1, none⟩ (.slice A1 n1 c1)).setCell ⟨w.heap.size, 2, none⟩ (.slice A n c) = w9 at *
 simp at d0 d1 d2
 exact bodyPost_ret (v := .agg #[.bool false, .slice A1 n1 c1, .slice A n c]) (by simp [results, Tryz.results233, go_sem, d0, d1, d2]) rfl ⟨A1, n1, c1, rfl, hn1, hnx, k9⟩
def setAll (w : World) (g : Nat) : Nat → List Value → World
 | _, [] => w
 | i, v :: l => setAll (w.setCell ⟨g, i, none⟩ v) g (i + 1) l
theorem RW.setAll {g m : Nat} {t : TypeId} : ∀ (l : List Value) (w : World) (i : Nat) (F : Nat → Value), RW w g t m F → i + l.length ≤ m → RW (Go.Proofs.YtjikdbcjabopnaaGreatDoor.setAll w g i l) g t m (fun j => if i ≤ j ∧ j < i + l.length then l.getD (j - i) (.bool false) else F j)
 | [], w, i, F, h, _ => RW.congr h fun j _ => by rw [if_neg (by simp <;> omega)]
 | v :: l, w, i, F, h, hl => by
  have hl' : i + 1 + l.length ≤ m := by simp at hl; omega
  have ih := RW.setAll l (w.setCell ⟨g, i, none⟩ v) (i + 1) _ (h.set (show i < m by simp at hl; omega) v) hl'
  refine RW.congr ih fun j hj => ?_
  by_cases e : j = i
  ·subst e
   rw [if_neg (by omega), if_pos rfl, if_pos (by simp), Nat.sub_self]
   rfl
  ·by_cases e2 : i + 1 ≤ j ∧ j < i + 1 + l.length
   ·rw [if_pos e2, if_pos (by simp; omega), show j - i = (j - (i + 1)) + 1 by omega]
    rfl
   ·rw [if_neg e2, if_neg e, if_neg (by simp; omega)]
theorem NX.setAll {g m : Nat} {t : TypeId} {A : Option Addr} {n c : Nat} {xs : List Nat} : ∀ (l : List Value) (w : World) (i : Nat) (F : Nat → Value), RW w g t m F → i + l.length ≤ m → (∀ j, i ≤ j → ∀ x : Nat, F j ≠ .int .u64 (x : Int)) → NX w A n c xs → NX (Go.Proofs.YtjikdbcjabopnaaGreatDoor.setAll w g i l) A n c xs
 | [], w, i, F, h, _, _, hx => hx
 | v :: l, w, i, F, h, hl, hF, hx => by
  have hi : i < m := by simp at hl; omega
  refine NX.setAll l (w.setCell ⟨g, i, none⟩ v) (i + 1) _ (h.set hi v) (by simp at hl; omega) (fun j hj x => ?_) (NX.off hx (h.cell hi) (hF i (Nat.le_refl _)) v)
  rw [if_neg (by omega)]
  exact hF j (by omega) x
theorem Ext.setAll {a : World} {g : Nat} (hg : a.heap.size ≤ g) : ∀ (l : List Value) (w : World) (i : Nat), Ext a w → Ext a (Go.Proofs.YtjikdbcjabopnaaGreatDoor.setAll w g i l)
 | [], w, i, h => h
 | v :: l, w, i, h => Ext.setAll hg l _ (i + 1) (h.set (p := ⟨g, i, none⟩) hg v)
def lvlF (R W T1 B1 T2 B2 : Value) (j : Nat) : Value := if j = 0 then R else if j = 1 then W else if j = 2 then .bool false else if j = 3 then T1 else if j = 4 then B1 else if j = 5 then .bool false else if j = 6 then T2 else B2
def LvlPost (w : World) (R W : Value) (L : Nat) (q : Nat → Nat) (plain last : Nat) (e : Ending) (w' : World) : Prop :=
 ∃ (A1 A2 A3 A4 : Option Addr) (n1 c1 n2 c2 n3 c3 n4 c4 : Nat), e = .returned (.agg #[R, W, .bool false, .slice A1 n1 c1, .slice A2 n2 c2, .bool false, .slice A3 n3 c3, .slice A4 n4 c4]) ∧ (n1 ≤ 1 ∧ NX w' A1 n1 c1 (nw 1)) ∧ (n2 ≤ 1 ∧ NX w' A2 n2 c2 (nw last)) ∧ (n3 ≤ 1 ∧ NX w' A3 n3 c3 (nw plain)) ∧ (n4 ≤ 1 + L ∧ NX w' A4 n4 c4 (nw (prodF q L))) ∧ Ext w w'
set_option maxHeartbeats 8000000 in
theorem scaleLevel_any (L d W wn wc plain last : Nat) (B BW : Option Addr) (q : Nat → Nat) (w : World) (hB : FX w B L d q) (hL : L ≤ 24) (hq : Hid (∀ j, j < L → q j < 18446744073709551616)) (hp : plain < 18446744073709551616) (hl : last < 18446744073709551616) :
    Calls Tryz.prog 170 #[.slice B L d, .slice BW wn wc, .int .u64 (plain : Int), .int .u64 (last : Int)] w (LvlPost w (.slice B L d) (.slice BW wn wc) L q plain last) := by
 have HB := Lib.hid hB
 clear hB
 have k0 : Ext w (w.alloc (.cells #[.slice none 0 0, .slice none 0 0, .bool false, .slice none 0 0, .slice none 0 0, .bool false, .slice none 0 0, .slice none 0 0] 145)) := (Ext.refl w).alloc _
 have hr0 : RW (w.alloc (.cells #[.slice none 0 0, .slice none 0 0, .bool false, .slice none 0 0, .slice none 0 0, .bool false, .slice none 0 0, .slice none 0 0] 145)) w.heap.size 145 8 (lvlF (.slice none 0 0) (.slice none 0 0) (.slice none 0 0) (.slice none 0 0) (.slice none 0 0) (.slice none 0 0)) := heap_alloc_new _ _
 go_enter Tryz.func170, Tryz.ntmps170
 go_wp2_with fail
 generalize w.alloc (.cells #[.slice none 0 0, .slice none 0 0, .bool false, .slice none 0 0, .slice none 0 0, .bool false, .slice none 0 0, .slice none 0 0] 145) = V at *
 refine (of10 hl).mono ?_
 rintro e1 w1 ⟨A2, n2, c2, rfl, hn2, hx2, k1⟩
 have HX2 := Lib.hid hx2
 clear hx2
 go_wp2_with fail
 refine (quotientOf_any 1 n2 c2 A2 w1 (by omega)).mono ?_
 rintro e2 w2 ⟨A1, n1, c1, rfl, hn1, hx1, k2⟩
 have HX1 := Lib.hid hx1
 clear hx1
 go_wp2_with fail
 refine (Product_any B L d q w2 (by omega) (HB.out.ext (k0.trans (k1.trans k2))) hq).mono ?_
 rintro e3 w3 ⟨A4, n4, c4, rfl, hn4, hx4, k3⟩
 have HX4 := Lib.hid hx4
 clear hx4
 go_wp2_with fail
 refine (quotientOf_any plain n4 c4 A4 w3 hp).mono ?_
 rintro e4 w4 ⟨A3, n3, c3, rfl, hn3, hx3, k4⟩
 have r1 := hr0.ext (k1.trans (k2.trans (k3.trans k4)))
 have H1 := Lib.hid (NX.ext HX1.out (k3.trans k4))
 have H2 := Lib.hid (NX.ext HX2.out (k2.trans (k3.trans k4)))
 have H3 := Lib.hid hx3
 have H4 := Lib.hid (NX.ext HX4.out k4)
 have HK := Lib.hid (k0.trans (k1.trans (k2.trans (k3.trans k4))))
 clear hx3 k0 k1 k2 k3 k4 HX1 HX2 HX4 hr0
 have g0 := r1.cell (i := 0) (by omega)
 have g1 := r1.cell (i := 1) (by omega)
 have g2 := r1.cell (i := 2) (by omega)
 have g3 := r1.cell (i := 3) (by omega)
 have g4 := r1.cell (i := 4) (by omega)
 have g5 := r1.cell (i := 5) (by omega)
 have g6 := r1.cell (i := 6) (by omega)
 have g7 := r1.cell (i := 7) (by omega)
 have f0 := r1.frozen 0
 have f1 := r1.frozen 1
 have f2 := r1.frozen 2
 have f3 := r1.frozen 3
 have f4 := r1.frozen 4
 have f5 := r1.frozen 5
 have f6 := r1.frozen 6
 have f7 := r1.frozen 7
 have s1 := r1.lt
 go_wp2_with fail
 have hr := RW.setAll [.slice B L d, .slice BW wn wc, .bool false, .slice A1 n1 c1, .slice A2 n2 c2, .bool false, .slice A3 n3 c3, .slice A4 n4 c4] w4 0 _ r1 (by simp)
 have hno : ∀ j, 0 ≤ j → ∀ x : Nat, lvlF (.slice none 0 0) (.slice none 0 0) (.slice none 0 0) (.slice none 0 0) (.slice none 0 0) (.slice none 0 0) j ≠ .int .u64 (x : Int) := fun j _ x => by
  unfold lvlF
  repeat (split; · intro h; cases h)
  intro h; cases h
 have hnx : ∀ {A : Option Addr} {n c : Nat} {xs : List Nat}, NX w4 A n c xs → NX (setAll w4 w.heap.size 0 [.slice B L d, .slice BW wn wc, .bool false, .slice A1 n1 c1, .slice A2 n2 c2, .bool false, .slice A3 n3 c3, .slice A4 n4 c4]) A n c xs := fun hx => NX.setAll _ w4 0 _ r1 (by simp) hno hx
 have hk := Ext.setAll (Nat.le_refl _) [.slice B L d, .slice BW wn wc, .bool false, .slice A1 n1 c1, .slice A2 n2 c2, .bool false, .slice A3 n3 c3, .slice A4 n4 c4] w4 0 HK.out
 have q1 := hnx H1.out
 have q2 := hnx H2.out
 have q3 := hnx H3.out
 have q4 := hnx H4.out
 have e0 := hr.cell (i := 0) (by omega)
 have e1 := hr.cell (i := 1) (by omega)
 have e2 := hr.cell (i := 2) (by omega)
 have e3 := hr.cell (i := 3) (by omega)
 have e4 := hr.cell (i := 4) (by omega)
 have e5 := hr.cell (i := 5) (by omega)
 have e6 := hr.cell (i := 6) (by omega)
 have e7 := hr.cell (i := 7) (by omega)
 simp at e0 e1 e2 e3 e4 e5 e6 e7
 clear hnx hno r1 f0 f1 f2 f3 f4 f5 f6 f7 g0 g1 g2 g3 g4 g5 g6 g7 s1 hr
 have hw9 : (((((((w4.setCell ⟨w.heap.size, 0, none⟩ (.slice B L d)).setCell ⟨w.heap.size, 1, none⟩ (.slice BW wn wc)).setCell ⟨w.heap.size, 2, none⟩ (.bool false)).setCell ⟨w.heap.size, 3, none⟩ (.slice A1 n1 c1)).setCell ⟨w.heap.size, 4, none⟩ (.slice A2 n2 c2)).setCell ⟨w.heap.size, 5, none⟩ (.bool false)).setCell ⟨w.heap.size, 6, none⟩ (.slice A3 n3 c3)).setCell ⟨w.heap.size, 7, none⟩ (.slice A4 n4 c4) = setAll w4 w.heap.size 0 [.slice B L d, .slice BW wn wc, .bool false, .slice A1 n1 c1, .slice A2 n2 c2, .bool false, .slice A3 n3 c3, .slice A4 n4 c4] := rfl
 rw [hw9]
 clear hw9
 generalize setAll w4 w.heap.size 0 [.slice B L d, .slice BW wn wc, .bool false, .slice A1 n1 c1, .slice A2 n2 c2, .bool false, .slice A3 n3 c3, .slice A4 n4 c4] = w9 at *
 exact bodyPost_ret (v := .agg #[.slice B L d, .slice BW wn wc, .bool false, .slice A1 n1 c1, .slice A2 n2 c2, .bool false, .slice A3 n3 c3, .slice A4 n4 c4]) (by simp [results, Tryz.results170, go_sem, e0, e1, e2, e3, e4, e5, e6, e7]) rfl ⟨A1, A2, A3, A4, n1, c1, n2, c2, n3, c3, n4, c4, rfl, ⟨hn1, q1⟩, ⟨hn2, q2⟩, ⟨hn3, q3⟩, ⟨hn4, q4⟩, hk⟩
theorem OnB.setAll {g : Nat} {V : World} : ∀ (l : List Value) (W : World) (i : Nat), OnB g V W → OnB g V (Go.Proofs.YtjikdbcjabopnaaGreatDoor.setAll W g i l)
 | [], W, i, h => h
 | v :: l, W, i, h => OnB.setAll l _ (i + 1) (h.set i v)
section
variable {V W : World} {g : Nat}
theorem sc_at (hr : RW V g 239 5 dr0) {o : Nat} {v : Value} (hc : V.cell? ⟨g, o, none⟩ = some v) : v = dr0 o := by
 have h1 := hc
 rw [cell_of_row V g o _ 239 (0, 0) hr] at h1
 by_cases h : o < 5
 ·simp [h] at h1
  exact h1.symm
 ·simp [h] at h1
theorem sc_far (hr : RW V g 239 5 dr0) {b o : Nat} {v : Value} (hc : V.cell? ⟨b, o, none⟩ = some v) (h1 : v ≠ .int .i64 0) (h2 : v ≠ .int .u64 0) (h3 : v ≠ .slice none 0 0) (h4 : v ≠ .pointer none) : b ≠ g := fun e => by
 subst e
 have := sc_at hr hc
 rcases dr0_is o with h | ⟨_, h⟩ | h | h <;> rw [h] at this
 ·exact h1 this
 ·exact h2 this
 ·exact h3 this
 ·exact h4 this
theorem sc_type (hr : RW V g 239 5 dr0) {x m : Nat} {t : TypeId} {F : Nat → Value} (hx : RW V x t m F) (ht : t ≠ 239) : x ≠ g := RW.ne hx hr ht
theorem FX.onS (hr : RW V g 239 5 dr0) (ho : OnB g V W) {A : Option Addr} {n c : Nat} {f : Nat → Nat} (h : FX V A n c f) (hn : 3 ≤ n) : FX W A n c f := by
 refine ⟨h.room, fun h0 => ?_⟩
 obtain ⟨ad, e, hc⟩ := h.cells h0
 refine ⟨ad, e, fun j hj => on_cell ho (hc j hj) (fun e2 => ?_)⟩
 rw [add_block] at e2
 have h1 := hc 1 (by omega)
 have h2 := hc 2 (by omega)
 have e3 : ∀ k, 0 < k → ad.add k = ⟨g, ad.off + k, none⟩ := fun k hk => by
  unfold Addr.add
  rw [if_neg (by omega)]
  obtain ⟨b, o, s⟩ := ad
  simp at e2
  subst e2
  rfl
 rw [e3 1 (by omega)] at h1
 rw [e3 2 (by omega)] at h2
 have g1 := sc_at hr h1
 have g2 := sc_at hr h2
 rcases dr0_is (ad.off + 1) with h | ⟨i1, h⟩ | h | h <;> rw [h] at g1
 ·injection g1 with g1; cases g1
 ·rcases dr0_is (ad.off + 2) with h | ⟨i2, h⟩ | h | h <;> rw [h] at g2
  ·injection g2 with g2; cases g2
  ·omega
  ·cases g2
  ·cases g2
 ·cases g1
 ·cases g1
theorem Tb.onS (hr : RW V g 239 5 dr0) (ho : OnB g V W) {p n q : Nat} {a e : Nat → Nat} {gp ge : Nat} (h : Tb V V.heap.size p n q a e gp ge) (hn : 1 ≤ n) : Tb W W.heap.size p n q a e gp ge := by
 have np : p ≠ g := sc_far hr h.size (by simp; omega) (by simp) (by simp) (by simp)
 have k : ∀ {x m : Nat} {F : Nat → Value}, RW V x 229 m F → RW W x 229 m F := fun hx => ho.rw_ hx (sc_type hr hx (by decide))
 have hs := ho.size
 exact ⟨Nat.lt_of_lt_of_le h.hp hs, Nat.lt_of_lt_of_le h.hgp hs, Nat.lt_of_lt_of_le h.hge hs, on_cell ho h.size np, on_cell ho h.prime np, on_cell ho h.powers np, on_cell ho h.ends np, k h.pw, k h.en⟩
theorem Table.onS (hr : RW V g 239 5 dr0) (ho : OnB g V W) {p n q k r v : Nat} (h : Table V p n q k r v) : Table W p n q k r v := by
 obtain ⟨a, e, gp, ge, h1, h2, h3⟩ := h.ex
 exact ⟨a, e, gp, ge, h1.onS hr ho (by rw [h2.nk]; exact Nat.two_pow_pos _), h2, h3⟩
theorem Tab.onS (hr : RW V g 239 5 dr0) (ho : OnB g V W) {p n q : Nat} {a e : Nat → Nat} (h : Tab V p n q a e) : Tab W p n q a e := by
 refine ⟨h.n0, h.n1, h.q0, h.q1, h.nk, h.al, h.el, ?_, fun hq => ?_⟩
 ·obtain ⟨gp, ge, ht⟩ := h.tb
  exact ⟨gp, ge, ht.onS hr ho (by have := h.n0; omega)⟩
 ·obtain ⟨k, r, v', ht⟩ := h.root hq
  exact ⟨k, r, v', ht.onS hr ho⟩
theorem Rg.onS (hr : RW V g 239 5 dr0) (ho : OnB g V W) {r n L : Nat} {q p : Nat → Nat} {a e : Nat → Nat → Nat} (h : Rg V r n L q p a e) : Rg W r n L q p a e := by
 have np : r ≠ g := sc_far hr h.size (by have := h.n0; simp; omega) (by simp) (by simp) (by simp)
 obtain ⟨gf, h1, h2⟩ := h.ex
 exact ⟨h.l0, h.l1, h.n0, h.n1, h.ql, on_cell ho h.size np, ⟨gf, on_cell ho h1 np, ho.rw_ h2 (sc_type hr h2 (by decide))⟩, fun j hj => (h.tab j hj).onS hr ho⟩
theorem Bt.onS (hr : RW V g 239 5 dr0) (ho : OnB g V W) {p n T k r v : Nat} (h : Bt V p n T k r v) : Bt W p n T k r v := by
 obtain ⟨g', t, h0, h1, h2, h3, h4, h5⟩ := h.ex
 have np : p ≠ g := sc_far hr h1 (by simp) (by simp) (by simp) (by simp)
 exact ⟨g', t, on_cell ho h0 np, on_cell ho h1 np, on_cell ho h2 np, on_cell ho h3 np, ho.rw_ h4 (sc_type hr h4 (by decide)), h5.onS hr ho⟩
theorem PM.onS (hr : RW V g 239 5 dr0) (ho : OnB g V W) {G L n : Nat} {As : Nat → Option Addr} {cs : Nat → Nat} {F : Nat → Nat → Nat} (h : PM V G L n As cs F) (hn : 3 ≤ n) : PM W G L n As cs F :=
 ⟨ho.rw_ h.row (sc_type hr h.row (by decide)), fun j hj => (h.lists j hj).onS hr ho hn⟩
end
theorem sc_lay {w V : World} {g : Nat} (hr : RW V g 239 5 dr0) (hE : Ext w V) (hg : w.heap.size ≤ g) (a0 a1 a2 a3 a4 : Value) :
    ∃ W, (((((V.setCell ⟨g, 0, none⟩ a0).setCell ⟨g, 1, none⟩ a1).setCell ⟨g, 2, none⟩ a2).setCell ⟨g, 3, none⟩ a3).setCell ⟨g, 4, none⟩ a4) = W ∧ W.cell? ⟨g, 0, none⟩ = some a0 ∧ W.cell? ⟨g, 1, none⟩ = some a1 ∧ W.cell? ⟨g, 2, none⟩ = some a2 ∧ W.cell? ⟨g, 3, none⟩ = some a3 ∧ W.cell? ⟨g, 4, none⟩ = some a4 ∧ Ext w W ∧ OnB g V W := by
 have h1 := RW.setAll [a0, a1, a2, a3, a4] V 0 dr0 hr (by simp)
 exact ⟨setAll V g 0 [a0, a1, a2, a3, a4], rfl, h1.cell (i := 0) (by omega), h1.cell (i := 1) (by omega), h1.cell (i := 2) (by omega), h1.cell (i := 3) (by omega), h1.cell (i := 4) (by omega), Ext.setAll hg _ V 0 hE, OnB.setAll _ V 0 (OnB.refl g V)⟩
set_option maxHeartbeats 4000000 in
theorem scheme_any {n T L c : Nat} {Wd : Int} {A : Option Addr} {q : Nat → Nat} (w : World) (hP : Hid (PA w (n : Int) T A L c Wd q)) (hL : L ≤ 100) (hN : n ≤ 32) (hT : Tabs w) (hok : Hid (ParP (n : Int) T L q Wd)) :
    Calls Tryz.prog 186 #[.agg #[.int .i64 (n : Int), .int .u64 (T : Int), .slice A L c, .int .i64 Wd]] w fun ee w' => ∃ (r : Nat) (p : Nat → Nat) (a e : Nat → Nat → Nat), ee = .returned (.tuple #[.agg #[.int .i64 (n : Int), .int .u64 (T : Int), .slice A L c, .int .i64 Wd, .pointer (some ⟨r, 0, none⟩)], .int .i64 0]) ∧ Rg w' r n L q p a e ∧ Ext w w' := by
 have HT := Lib.hid hT
 clear hT
 have hn0 := hP.out.n0
 have hn1 := hP.out.n1
 have ht1 := hP.out.t1
 have k0 : Ext w ((w.alloc (.cells #[.int .i64 (n : Int), .int .u64 (T : Int), .slice A L c, .int .i64 Wd] 25)).alloc (.cells #[.int .i64 0, .int .u64 0, .slice none 0 0, .int .i64 0, .pointer none] 239)) := ((Ext.refl w).alloc _).alloc _
 have ka : Ext (w.alloc (.cells #[.int .i64 (n : Int), .int .u64 (T : Int), .slice A L c, .int .i64 Wd] 25)) ((w.alloc (.cells #[.int .i64 (n : Int), .int .u64 (T : Int), .slice A L c, .int .i64 Wd] 25)).alloc (.cells #[.int .i64 0, .int .u64 0, .slice none 0 0, .int .i64 0, .pointer none] 239)) := (Ext.refl _).alloc _
 obtain ⟨x0, x1, x2, x3⟩ := four_at w (.int .i64 (n : Int)) (.int .u64 (T : Int)) (.slice A L c) (.int .i64 Wd) 25
 have hr : RW ((w.alloc (.cells #[.int .i64 (n : Int), .int .u64 (T : Int), .slice A L c, .int .i64 Wd] 25)).alloc (.cells #[.int .i64 0, .int .u64 0, .slice none 0 0, .int .i64 0, .pointer none] 239)) (w.heap.size + 1) 239 5 dr0 := by
  have : RW ((w.alloc (.cells #[.int .i64 (n : Int), .int .u64 (T : Int), .slice A L c, .int .i64 Wd] 25)).alloc (.cells #[.int .i64 0, .int .u64 0, .slice none 0 0, .int .i64 0, .pointer none] 239)) (w.alloc (.cells #[.int .i64 (n : Int), .int .u64 (T : Int), .slice A L c, .int .i64 Wd] 25)).heap.size 239 5 dr0 := heap_alloc_new _ _
  rwa [show (w.alloc (.cells #[.int .i64 (n : Int), .int .u64 (T : Int), .slice A L c, .int .i64 Wd] 25)).heap.size = w.heap.size + 1 by simp] at this
 replace x0 := cell_ext ka x0
 replace x1 := cell_ext ka x1
 replace x2 := cell_ext ka x2
 replace x3 := cell_ext ka x3
 clear ka
 obtain ⟨hrow, hn8, hL1, hL8⟩ := par_rowY hok.out (by omega)
 have HROW := Lib.hid hrow
 clear hrow
 go_enter Tryz.func186, Tryz.ntmps186
 go_wp2_with fail
 generalize ((w.alloc (.cells #[.int .i64 (n : Int), .int .u64 (T : Int), .slice A L c, .int .i64 Wd] 25)).alloc (.cells #[.int .i64 0, .int .u64 0, .slice none 0 0, .int .i64 0, .pointer none] 239)) = V0 at *
 refine (checkZ (z := 0) (hP.out.ext k0) (by omega) (HT.out.ext k0) (Lib.hid (.inl ⟨hok.out, rfl⟩))).mono ?_
 rintro ee V ⟨rfl, k1⟩
 replace x0 := cell_ext k1 x0
 replace x1 := cell_ext k1 x1
 replace x2 := cell_ext k1 x2
 replace x3 := cell_ext k1 x3
 replace hr := hr.ext k1
 replace k0 := k0.trans k1
 clear k1
 go_wp2_with fail
 refine (ringNew_any (n : Int) A L c q V (by omega) (by omega) (by omega) (hP.out.fx.ext k0) (Lib.hid fun j hj => hP.out.words j hj) (HT.out.ext k0)).mono ?_
 rintro ee V1 (⟨h, _⟩ | ⟨_, r, p, a, e, rfl, hrg, k1⟩)
 ·exact absurd HROW.out h
 rw [Int.toNat_natCast] at hrg
 have HRG := Lib.hid hrg
 replace x0 := cell_ext k1 x0
 replace x1 := cell_ext k1 x1
 replace x2 := cell_ext k1 x2
 replace x3 := cell_ext k1 x3
 replace hr := hr.ext k1
 replace k0 := k0.trans k1
 clear k1 hrg
 have HR := Lib.hid hr
 have c0 := hr.cell (i := 0) (by omega)
 have c1 := hr.cell (i := 1) (by omega)
 have c2 := hr.cell (i := 2) (by omega)
 have c3 := hr.cell (i := 3) (by omega)
 have c4 := hr.cell (i := 4) (by omega)
 have f0 := hr.frozen 0
 have f1 := hr.frozen 1
 have f2 := hr.frozen 2
 have f3 := hr.frozen 3
 have f4 := hr.frozen 4
 have hsz := hr.lt
 have HLAY := Lib.hid (sc_lay hr k0 (Nat.le_succ _) (.int .i64 (n : Int)) (.int .u64 (T : Int)) (.slice A L c) (.int .i64 Wd) (.pointer (some ⟨r, 0, none⟩)))
 clear hr
 go_wp2_with fail
 obtain ⟨W, hW, d0, d1, d2, d3, d4, hE, hO⟩ := HLAY.out
 rw [hW]
 clear hW c0 c1 c2 c3 c4 f0 f1 f2 f3 f4
 have g1 := HRG.out.onS HR.out hO
 exact bodyPost_ret (v := .tuple #[.agg #[.int .i64 (n : Int), .int .u64 (T : Int), .slice A L c, .int .i64 Wd, .pointer (some ⟨r, 0, none⟩)], .int .i64 0]) (by simp [results, Tryz.results186, go_sem, d0, d1, d2, d3, d4]) rfl ⟨r, p, a, e, rfl, g1, hE⟩
theorem bl_lt : ∀ k v : Nat, Go.bitLen v ≤ k → v < 2 ^ k
 | 0, v, h => by
  rcases Nat.eq_zero_or_pos v with rfl | hv
  ·exact Nat.one_pos
  ·rw [bits_half hv] at h; omega
 | k + 1, v, h => by
  rcases Nat.eq_zero_or_pos v with rfl | hv
  ·exact Nat.two_pow_pos _
  ·rw [bits_half hv] at h
   have := bl_lt k (v / 2) (by omega)
   rw [Nat.pow_succ]; omega
theorem bl_mono {v w : Nat} (h : v ≤ w) : Go.bitLen v ≤ Go.bitLen w := bl_le _ _ (Nat.lt_of_le_of_lt h (bl_lt _ w (Nat.le_refl _)))
theorem prod_mono {q : Nat → Nat} {k L : Nat} (hq : ∀ j, j < L → 0 < q j) (h : k ≤ L) : prodF q k ≤ prodF q L := by
 induction L with
 | zero => rw [show k = 0 by omega]; exact Nat.le_refl _
 | succ L ih =>
  rcases Nat.lt_or_eq_of_le h with g | g
  ·have h1 := ih (fun j hj => hq j (by omega)) (by omega)
   have h2 := hq L (by omega)
   rw [prodF]
   have : 1 * prodF q L ≤ q L * prodF q L := Nat.mul_le_mul_right _ h2
   omega
  ·rw [g]; exact Nat.le_refl _
theorem wc_mono {q : Nat → Nat} {n k L : Nat} (hq : ∀ j, j < L → 0 < q j) (h : k ≤ L) : wcN n k q ≤ wcN n L q := by
 have h1 := prod_mono hq h
 have h2 : prodF q k / 2 ≤ prodF q L / 2 := Nat.div_le_div_right h1
 have h3 : mostN n k q ≤ mostN n L q := Nat.mul_le_mul_left _ (Nat.mul_le_mul h2 h2)
 have h4 := bl_mono h3
 unfold wcN
 omega
theorem wc_one (n L : Nat) (q : Nat → Nat) : 1 ≤ wcN n L q := by unfold wcN; omega
theorem wc_few {q : Nat → Nat} {n L : Nat} (hn : n ≤ 32) (h : Go.bitLen (prodF q L) ≤ 420) : wcN n L q ≤ 15 := by
 obtain ⟨k, hk⟩ : ∃ k, k = 419 := ⟨_, rfl⟩
 have h1 := bl_lt (k + 1) _ (show Go.bitLen (prodF q L) ≤ k + 1 by omega)
 have h2 : prodF q L / 2 < 2 ^ k := by rw [Nat.pow_succ] at h1; omega
 have h6 : mostN n L q < 2 ^ (7 + k + k) := by
  unfold mostN
  generalize prodF q L / 2 = H at *
  rw [Nat.pow_add, Nat.pow_add]
  generalize 2 ^ k = P at *
  have h3 : H * H < P * P := Nat.mul_lt_mul_of_lt_of_le h2 (Nat.le_of_lt h2) (by omega)
  have h4 : 4 * n * (H * H) ≤ 128 * (H * H) := Nat.mul_le_mul_right _ (by omega)
  have h5 : 2 ^ 7 * P * P = 128 * (P * P) := by rw [Nat.mul_assoc]
  rw [h5]
  omega
 have h7 := bl_le _ _ h6
 unfold wcN
 omega
theorem info_level : (Tryz.prog.info? 145).map (fun i => (i.zero, i.size, i.bytes)) = some (some (.agg #[.slice none 0 0, .slice none 0 0, .bool false, .slice none 0 0, .slice none 0 0, .bool false, .slice none 0 0, .slice none 0 0]), 8, 160) := by kernel_rfl
def zeroL (j : Nat) : Value := lvlF (.slice none 0 0) (.slice none 0 0) (.slice none 0 0) (.slice none 0 0) (.slice none 0 0) (.slice none 0 0) j
def newLevel (c : Nat) : Array Value := ((List.range (c * 8)).map fun i => zeroL (i % 8)).toArray
theorem newLevel_rw (w : World) (c : Nat) : RW (w.alloc (.cells (newLevel c) 145)) w.heap.size 145 (c * 8) (fun i => zeroL (i % 8)) := heap_alloc_new w _
theorem make_level (c : Nat) (hc : c ≤ 100000) (w : World) :
    (Instr.makeSlice 138 (.int .i64 (c : Int)) (.int .i64 (c : Int))).run Tryz.prog w = .ok (.slice (some ⟨w.heap.size, 0, none⟩) c c) (w.alloc (.cells (newLevel c) 145)) := by
 obtain ⟨i0, hi, hz0, hz1, hz2⟩ := info_parts info_level
 have hr := run_make (P := Tryz.prog) w 138 145 i0 (.agg #[.slice none 0 0, .slice none 0 0, .bool false, .slice none 0 0, .slice none 0 0, .bool false, .slice none 0 0, .slice none 0 0]) Tryz.underlying138 hi hz0 .i64 .i64 (c : Int) (c : Int) (by omega) (by omega) (by rw [hz2]; omega) (by omega)
 rw [hz1] at hr
 simp only [Int.toNat_natCast] at hr
 rw [hr]
 have e : madeCells (Value.agg #[.slice none 0 0, .slice none 0 0, .bool false, .slice none 0 0, .slice none 0 0, .bool false, .slice none 0 0, .slice none 0 0]).cells (c * 8) = newLevel c := by
  apply Array.toList_inj.1
  unfold newLevel madeCells zeroL lvlF
  apply List.ext_getElem?
  intro j
  by_cases hj : j < c * 8
  ·rcases (show j % 8 = 0 ∨ j % 8 = 1 ∨ j % 8 = 2 ∨ j % 8 = 3 ∨ j % 8 = 4 ∨ j % 8 = 5 ∨ j % 8 = 6 ∨ j % 8 = 7 by omega) with h | h | h | h | h | h | h | h <;> simp [hj, Value.cells, h]
  ·simp [hj]
 rw [e]
def LvlOk (w : World) (R W : Value) (L : Nat) (q : Nat → Nat) (plain last : Nat) (v : Nat → Value) : Prop :=
 ∃ (A1 A2 A3 A4 : Option Addr) (n1 c1 n2 c2 n3 c3 n4 c4 : Nat), (∀ j, j < 8 → v j = lvlF R W (.slice A1 n1 c1) (.slice A2 n2 c2) (.slice A3 n3 c3) (.slice A4 n4 c4) j) ∧ (n1 ≤ 1 ∧ NX w A1 n1 c1 (nw 1)) ∧ (n2 ≤ 1 ∧ NX w A2 n2 c2 (nw last)) ∧ (n3 ≤ 1 ∧ NX w A3 n3 c3 (nw plain)) ∧ (n4 ≤ 1 + L ∧ NX w A4 n4 c4 (nw (prodF q L)))
theorem LvlOk.map {w w' : World} {R W : Value} {L : Nat} {q : Nat → Nat} {plain last : Nat} {v : Nat → Value} (h : LvlOk w R W L q plain last v) (k : ∀ {A : Option Addr} {n c : Nat} {xs : List Nat}, NX w A n c xs → NX w' A n c xs) : LvlOk w' R W L q plain last v := by
 obtain ⟨A1, A2, A3, A4, n1, c1, n2, c2, n3, c3, n4, c4, h0, h1, h2, h3, h4⟩ := h
 exact ⟨A1, A2, A3, A4, n1, c1, n2, c2, n3, c3, n4, c4, h0, ⟨h1.1, k h1.2⟩, ⟨h2.1, k h2.2⟩, ⟨h3.1, k h3.2⟩, h4.1, k h4.2⟩
theorem zeroL_no (j x : Nat) : zeroL j ≠ .int .u64 (x : Int) := by
 unfold zeroL lvlF
 repeat (split; · intro h; cases h)
 intro h; cases h
theorem lvl_get (R W T1 B1 T2 B2 : Value) {j : Nat} (hj : j < 8) : [R, W, .bool false, T1, B1, .bool false, T2, B2].getD j (.bool false) = lvlF R W T1 B1 T2 B2 j := by
 rcases (show j = 0 ∨ j = 1 ∨ j = 2 ∨ j = 3 ∨ j = 4 ∨ j = 5 ∨ j = 6 ∨ j = 7 by omega) with rfl | rfl | rfl | rfl | rfl | rfl | rfl | rfl <;> rfl
def LvsK (w : World) (g L k n T : Nat) (q : Nat → Nat) (Ar Aw : Option Addr) (cr cw : Nat) : Prop :=
 ∃ v : Nat → Nat → Value, RW w g 145 (L * 8) (fun i => if i < k * 8 then v (i / 8) (i % 8) else zeroL (i % 8)) ∧ ∀ j, j < k → LvlOk w (.slice Ar (j + 1) cr) (.slice Aw (wcN n (j + 1) q) cw) (j + 1) q T (q j) (v j)
theorem LvsK.ext {w w' : World} {g L k n T : Nat} {q : Nat → Nat} {Ar Aw : Option Addr} {cr cw : Nat} (h : LvsK w g L k n T q Ar Aw cr cw) (e : Ext w w') : LvsK w' g L k n T q Ar Aw cr cw := by
 obtain ⟨v, h1, h2⟩ := h
 exact ⟨v, h1.ext e, fun j hj => (h2 j hj).map fun hx => NX.ext hx e⟩
theorem LvsK.put {w : World} {g L k n T : Nat} {q : Nat → Nat} {Ar Aw A1 A2 A3 A4 : Option Addr} {cr cw n1 c1 n2 c2 n3 c3 n4 c4 : Nat} (h : LvsK w g L k n T q Ar Aw cr cw) (hk : k < L)
    (h1 : n1 ≤ 1 ∧ NX w A1 n1 c1 (nw 1)) (h2 : n2 ≤ 1 ∧ NX w A2 n2 c2 (nw (q k))) (h3 : n3 ≤ 1 ∧ NX w A3 n3 c3 (nw T)) (h4 : n4 ≤ 1 + (k + 1) ∧ NX w A4 n4 c4 (nw (prodF q (k + 1)))) :
    LvsK (setAll w g (k * 8) [.slice Ar (k + 1) cr, .slice Aw (wcN n (k + 1) q) cw, .bool false, .slice A1 n1 c1, .slice A2 n2 c2, .bool false, .slice A3 n3 c3, .slice A4 n4 c4]) g L (k + 1) n T q Ar Aw cr cw := by
 obtain ⟨v, hr, hv⟩ := h
 have hF : ∀ j, k * 8 ≤ j → ∀ x : Nat, (if j < k * 8 then v (j / 8) (j % 8) else zeroL (j % 8)) ≠ .int .u64 (x : Int) := fun j hj x => by
  rw [if_neg (by omega)]; exact zeroL_no _ x
 have hnx : ∀ {A : Option Addr} {n' c' : Nat} {xs : List Nat}, NX w A n' c' xs → NX (setAll w g (k * 8) [.slice Ar (k + 1) cr, .slice Aw (wcN n (k + 1) q) cw, .bool false, .slice A1 n1 c1, .slice A2 n2 c2, .bool false, .slice A3 n3 c3, .slice A4 n4 c4]) A n' c' xs := fun hx => NX.setAll _ w (k * 8) _ hr (by simp; omega) hF hx
 refine ⟨fun j => if j = k then lvlF (.slice Ar (k + 1) cr) (.slice Aw (wcN n (k + 1) q) cw) (.slice A1 n1 c1) (.slice A2 n2 c2) (.slice A3 n3 c3) (.slice A4 n4 c4) else v j, ?_, fun j hj => ?_⟩
 ·refine (RW.setAll _ w (k * 8) _ hr (by simp; omega)).congr fun i hi => ?_
  by_cases e : k * 8 ≤ i ∧ i < k * 8 + 8
  ·dsimp only
   rw [if_pos (by simpa using e), if_pos (show i < (k + 1) * 8 by omega), show i / 8 = k by omega, if_pos rfl, lvl_get _ _ _ _ _ _ (show i - k * 8 < 8 by omega), show i % 8 = i - k * 8 by omega]
  ·rw [if_neg (by simpa using e)]
   by_cases e2 : i < k * 8
   ·dsimp only
    rw [if_pos e2, if_pos (show i < (k + 1) * 8 by omega), if_neg (show ¬ i / 8 = k by omega)]
   ·rw [if_neg e2, if_neg (show ¬ i < (k + 1) * 8 by omega)]
 ·by_cases e : j = k
  ·subst e
   dsimp only
   rw [if_pos rfl]
   exact ⟨A1, A2, A3, A4, n1, c1, n2, c2, n3, c3, n4, c4, fun _ _ => rfl, ⟨h1.1, hnx h1.2⟩, ⟨h2.1, hnx h2.2⟩, ⟨h3.1, hnx h3.2⟩, h4.1, hnx h4.2⟩
  ·dsimp only
   rw [if_neg e]
   exact (hv j (by omega)).map hnx
theorem LvsK.cells {w : World} {g L k n T : Nat} {q : Nat → Nat} {Ar Aw : Option Addr} {cr cw : Nat} (h : LvsK w g L k n T q Ar Aw cr cw) (hk : k < L) : g < w.heap.size ∧ ∀ j, j < 8 → w.cell? ⟨g, k * 8 + j, none⟩ = some (zeroL j) ∧ w.frozen? ⟨g, k * 8 + j, none⟩ = false := by
 obtain ⟨v, hr, hv⟩ := h
 refine ⟨hr.lt, fun j hj => ⟨?_, hr.frozen _⟩⟩
 rw [hr.cell (by omega), if_neg (by omega), show (k * 8 + j) % 8 = j by omega]
set_option maxHeartbeats 8000000 in
theorem levelsOf_any {n T L c : Nat} {Wd : Int} {A : Option Addr} {q : Nat → Nat} {w : World} (hX : FX w A L c q) (hL0 : 0 < L) (hL : L ≤ 8) (hn : StepW (2 * n)) (hTl : T < 18446744073709551616) (hq : Hid (∀ j, j < L → 0 < q j ∧ q j < 18446744073709551616)) (hbits : Hid (Go.bitLen (prodF q L) ≤ 420)) (hT : Tabs w) :
    Calls Tryz.prog 108 #[.agg #[.int .i64 (n : Int), .int .u64 (T : Int), .slice A L c, .int .i64 Wd]] w fun ee w' => ∃ (g : Nat) (Ar Aw : Option Addr) (cr cw : Nat), ee = .returned (.slice (some ⟨g, 0, none⟩) L L) ∧ LvsK w' g L L n T q Ar Aw cr cw ∧ FX w' Ar L cr q ∧ FX w' Aw (wcN n L q) cw (fun i => ((wideL (2 * n)).take (wcN n L q)).getD i 0) ∧ Ext w w' := by
 have HX := Lib.hid hX
 have HT := Lib.hid hT
 obtain ⟨ad, hA, _⟩ := hX.cells hL0
 subst hA
 have hn32 : n ≤ 32 := by rcases hn with h | h | h <;> omega
 have hn8 : 8 ≤ n := by rcases hn with h | h | h <;> omega
 have HN := Lib.hid hn
 have HQ := Lib.hid (show ∀ j, j < L → q j < 18446744073709551616 from fun j hj => (hq.out j hj).2)
 have hwc1 := wc_one n L q
 have hwc15 := wc_few hn32 hbits.out
 obtain ⟨C, hC⟩ : ∃ C, C = wcN n L q := ⟨_, rfl⟩
 rw [← hC] at hwc1 hwc15
 have HC := Lib.hid hC
 have kV : Ext w (w.alloc (.cells #[.int .i64 (n : Int), .int .u64 (T : Int), .slice (some ad) L c, .int .i64 Wd] 25)) := (Ext.refl w).alloc _
 obtain ⟨x0, x1, x2, x3⟩ := four_at w (.int .i64 (n : Int)) (.int .u64 (T : Int)) (.slice (some ad) L c) (.int .i64 Wd) 25
 clear hX hT hn hC
 go_enter Tryz.func108, Tryz.ntmps108
 go_wp2_with fail
 generalize w.alloc (.cells #[.int .i64 (n : Int), .int .u64 (T : Int), .slice (some ad) L c, .int .i64 Wd] 25) = V0 at *
 refine (clone_any ad L c q V0 (HX.out.ext kV) (by omega) HQ).mono ?_
 rintro e V ⟨A2, c2, rfl, hx2, k1⟩
 have HX2 := Lib.hid hx2
 clear hx2
 replace x0 := cell_ext k1 x0
 replace x1 := cell_ext k1 x1
 replace kV := kV.trans k1
 clear k1 x2 x3
 have w1 : IntKind.i64.wrap (2 * (n : Int)) = 2 * (n : Int) := by rw [IntKind.wrap_i64]; omega
 have w2 : IntKind.u64.wrap (2 * (n : Int)) = 2 * (n : Int) := by rw [IntKind.wrap_u64]; omega
 have hs2 : ∀ w', Tabs w' → Calls Tryz.prog 168 #[.int .i64 61, .int .u64 (2 * (n : Int)), .int .i64 (C : Int)] w' fun e w2 => ∃ A n' cp, e = .returned (.tuple #[.slice A n' cp, .int .i64 0]) ∧ NX w2 A n' cp ((wideL (2 * n)).take C) ∧ Ext w' w2 := fun w' h => by
  have := searchW (w := w') HN.out hwc1 (by omega) h
  rwa [show ((2 * n : Nat) : Int) = 2 * (n : Int) by omega] at this
 have HS := Lib.hid hs2
 have hw2 : ∀ w', Ext V w' → Calls Tryz.prog 169 #[.int .i64 (n : Int), .slice A2 L c2] w' fun e w2 => e = .returned (.int .i64 (C : Int)) ∧ Ext w' w2 := fun w' k => by
  rw [HC.out]; exact wideCount_any n L c2 A2 q w' (HX2.out.ext k) (by omega) (by omega) HQ
 have HW := Lib.hid hw2
 clear hs2 hw2
 have kk : Ext V V := Ext.refl V
 go_wp2_with fail
 go_region_held3 (fun w' => w'.cell? ⟨w.heap.size, 0, none⟩ = some (.int .i64 (n : Int))) (go_keep)
  (first
   | (go_at_call 168; refine (HS.out _ (HT.out.ext (kV.trans (by first | exact kk | exact Ext.drew kk)))).mono ?_; rintro e5 w5 ⟨A5, n5, c5, rfl, hx5, k5⟩; replace kk : Ext V w5 := (by first | exact Ext.trans kk k5 | exact Ext.trans (Ext.drew kk) k5); have d0 := cell_ext kk x0)
   | (go_at_call 169; refine (HW.out _ (by first | exact kk | exact Ext.drew kk)).mono ?_; rintro e4 w4 ⟨rfl, k4⟩; replace kk : Ext V w4 := (by first | exact Ext.trans kk k4 | exact Ext.trans (Ext.drew kk) k4); have d0 := cell_ext kk x0)
   | fail)
 all_goals
  have hl5 : n5 = C := by
   have h1 := hx5.len
   have h2 := wideL_len HN.out
   rw [List.length_take, h2] at h1
   omega
  subst hl5
  have HFW := Lib.hid (fx_of_rd hx5)
  have hroom := (fx_of_rd hx5).room
  have hroom2 := HX2.out.room
  have kw5 := kV.trans kk
  replace x0 := cell_ext kk x0
  replace x1 := cell_ext kk x1
  have HX5 := Lib.hid (HX2.out.ext kk)
  have hmk := make_level L (by omega)
  clear hx5 kk d0 k4 k5 HS HW HX2
  go_wp2_with fail
  clear hmk
  have ka : Ext w5 (w5.alloc (.cells (newLevel L) 145)) := (Ext.refl w5).alloc _
  have hlv : LvsK (w5.alloc (.cells (newLevel L) 145)) w5.heap.size L 0 n T q A2 A5 c2 c5 := ⟨fun _ _ => .bool false, (newLevel_rw w5 L).congr fun i _ => by rw [if_neg (by omega)], fun j hj => by omega⟩
  have kwa := kw5.trans ka
  obtain ⟨g, hg⟩ : ∃ g, g = w5.heap.size := ⟨_, rfl⟩
  have hgw : w.heap.size ≤ g := by rw [hg]; exact kw5.size
  have hg5 : w5.heap.size ≤ g := by omega
  rw [← hg] at hlv ⊢
  clear hg
  generalize w5.alloc (.cells (newLevel L) 145) = V6 at *
  go_loopw [30] (fun iv wr => ∃ k : Nat, k ≤ L ∧ iv = .int .i64 (k : Int) ∧ LvsK wr g L k n T q A2 A5 c2 c5 ∧ Ext w5 wr) (fun iv _ => L - (intOf iv).toNat)
  case atStart => exact ⟨0, by omega, rfl, hlv, ka⟩
  case round =>
   obtain ⟨k, hk, rfl, hlk, kr⟩ := hrel
   clear hlv ka kwa
   by_cases hlt : k < L
   ·obtain ⟨adr, hA2, hcr⟩ := (HX5.out.ext kr).cells (by omega)
    have hcell := hcr k hlt
    clear hcr
    subst hA2
    have y0 := cell_ext kr x0
    have y1 := cell_ext kr x1
    have i0 : (0 : Int) ≤ (k : Int) := by omega
    have i1 : (k : Int) < (L : Int) := by omega
    have i2 : (0 : Int) ≤ (k : Int) + 1 := by omega
    have i3 : (k : Int) + 1 ≤ (c2 : Int) := by omega
    obtain ⟨Qk, hQk⟩ : ∃ Qk, Qk = q k := ⟨_, rfl⟩
    have hQl : Qk < 18446744073709551616 := by rw [hQk]; exact (hq.out k hlt).2
    rw [← hQk] at hcell
    have HQK := Lib.hid hQk
    clear hQk
    obtain ⟨D, hD⟩ : ∃ D, D = wcN n (k + 1) q := ⟨_, rfl⟩
    have hDC : D ≤ n5 := by rw [hD, HC.out]; exact wc_mono (fun j hj => (hq.out j hj).1) hlt
    have HD := Lib.hid hD
    clear hD
    have j0 : (0 : Int) ≤ (D : Int) := by omega
    have j1 : (D : Int) ≤ (c5 : Int) := by omega
    have hwk : ∀ w', Ext wr w' → Calls Tryz.prog 169 #[.int .i64 (n : Int), .slice (some adr) (k + 1) c2] w' fun e w2 => e = .returned (.int .i64 (D : Int)) ∧ Ext w' w2 := fun w' h => by
     rw [HD.out]; exact wideCount_any n (k + 1) c2 (some adr) q w' (((HX5.out.ext kr).ext h).cut hlt) (by omega) (by omega) (Lib.hid fun j hj => (hq.out j (by omega)).2)
    have HWK := Lib.hid hwk
    have hlo : ∀ w', Ext wr w' → Calls Tryz.prog 170 #[.slice (some adr) (k + 1) c2, .slice A5 D c5, .int .u64 (T : Int), .int .u64 (Qk : Int)] w' (LvlPost w' (.slice (some adr) (k + 1) c2) (.slice A5 D c5) (k + 1) q T Qk) := fun w' h => scaleLevel_any (k + 1) c2 0 D c5 T Qk (some adr) A5 q w' (((HX5.out.ext kr).ext h).cut hlt) (by omega) (Lib.hid fun j hj => (hq.out j (by omega)).2) hTl hQl
    have HLO := Lib.hid hlo
    clear hwk hlo
    obtain ⟨hgs, hgc⟩ := hlk.cells hlt
    have HGC := Lib.hid (show ∀ w', Ext wr w' → g < w'.heap.size ∧ w'.cell? ⟨g, k * 8, none⟩ = some (.slice none 0 0) ∧ w'.cell? ⟨g, k * 8 + 1, none⟩ = some (.slice none 0 0) ∧ w'.cell? ⟨g, k * 8 + 2, none⟩ = some (.bool false) ∧ w'.cell? ⟨g, k * 8 + 3, none⟩ = some (.slice none 0 0) ∧ w'.cell? ⟨g, k * 8 + 4, none⟩ = some (.slice none 0 0) ∧ w'.cell? ⟨g, k * 8 + 5, none⟩ = some (.bool false) ∧ w'.cell? ⟨g, k * 8 + 6, none⟩ = some (.slice none 0 0) ∧ w'.cell? ⟨g, k * 8 + 7, none⟩ = some (.slice none 0 0) ∧ w'.frozen? ⟨g, k * 8, none⟩ = false ∧ w'.frozen? ⟨g, k * 8 + 1, none⟩ = false ∧ w'.frozen? ⟨g, k * 8 + 2, none⟩ = false ∧ w'.frozen? ⟨g, k * 8 + 3, none⟩ = false ∧ w'.frozen? ⟨g, k * 8 + 4, none⟩ = false ∧ w'.frozen? ⟨g, k * 8 + 5, none⟩ = false ∧ w'.frozen? ⟨g, k * 8 + 6, none⟩ = false ∧ w'.frozen? ⟨g, k * 8 + 7, none⟩ = false from fun w' h => by
     obtain ⟨h1, h2⟩ := (hlk.ext h).cells hlt
     exact ⟨h1, (h2 0 (by omega)).1, (h2 1 (by omega)).1, (h2 2 (by omega)).1, (h2 3 (by omega)).1, (h2 4 (by omega)).1, (h2 5 (by omega)).1, (h2 6 (by omega)).1, (h2 7 (by omega)).1, (h2 0 (by omega)).2, (h2 1 (by omega)).2, (h2 2 (by omega)).2, (h2 3 (by omega)).2, (h2 4 (by omega)).2, (h2 5 (by omega)).2, (h2 6 (by omega)).2, (h2 7 (by omega)).2⟩)
    have HLK := Lib.hid hlk
    have hne1 : ¬ (g = w.heap.size) := by have := World.block_lt_of_cell? _ _ x0; simp at this; omega
    have ne1 : (g = w.heap.size) = False := by simp; exact hne1
    have ne2 : (w.heap.size = g) = False := by simp; exact fun e => hne1 e.symm
    have km : Ext wr wr := Ext.refl wr
    clear hgs hgc hlk hne1
    go_wp2_with fail
    go_region_held3 (fun w' => w'.cell? ⟨w.heap.size, 0, none⟩ = some (.int .i64 (n : Int)) ∧ w'.cell? ⟨w.heap.size, 1, none⟩ = some (.int .u64 (T : Int))) (go_keep)
     (first
      | (go_at_call 170; refine (HLO.out _ (by first | exact km | exact Ext.drew km)).mono ?_; rintro e9 w9 ⟨B1, B2, B3, B4, m1, e1, m2, e2, m3, e3, m4, e4, rfl, hb1, hb2, hb3, hb4, k9⟩; replace km : Ext wr w9 := (by first | exact Ext.trans km k9 | exact Ext.trans (Ext.drew km) k9); have d0 := cell_ext km y0; have d1 := cell_ext km y1; obtain ⟨s9, p0, p1, p2, p3, p4, p5, p6, p7, f0, f1, f2, f3, f4, f5, f6, f7⟩ := HGC.out _ km)
      | (go_at_call 169; refine (HWK.out _ (by first | exact km | exact Ext.drew km)).mono ?_; rintro e8 w8 ⟨rfl, k8⟩; replace km : Ext wr w8 := (by first | exact Ext.trans km k8 | exact Ext.trans (Ext.drew km) k8); have d0 := cell_ext km y0; have d1 := cell_ext km y1)
      | fail)
    all_goals
     have hput := LvsK.put (HLK.out.ext km) hlt hb1 (by rw [← HQK.out]; exact hb2) hb3 hb4
     rw [← HD.out] at hput
     have k6 := Ext.setAll hg5 [.slice (some adr) (k + 1) c2, .slice A5 D c5, .bool false, .slice B1 m1 e1, .slice B2 m2 e2, .bool false, .slice B3 m3 e3, .slice B4 m4 e4] w9 (k * 8) (kr.trans km)
     have hw : ((((((((w9.setCell ⟨g, k * 8, none⟩ (.slice (some adr) (k + 1) c2)).setCell ⟨g, k * 8 + 1, none⟩ (.slice A5 D c5)).setCell ⟨g, k * 8 + 2, none⟩ (.bool false)).setCell ⟨g, k * 8 + 3, none⟩ (.slice B1 m1 e1)).setCell ⟨g, k * 8 + 4, none⟩ (.slice B2 m2 e2)).setCell ⟨g, k * 8 + 5, none⟩ (.bool false)).setCell ⟨g, k * 8 + 6, none⟩ (.slice B3 m3 e3)).setCell ⟨g, k * 8 + 7, none⟩ (.slice B4 m4 e4)) = setAll w9 g (k * 8) [.slice (some adr) (k + 1) c2, .slice A5 D c5, .bool false, .slice B1 m1 e1, .slice B2 m2 e2, .bool false, .slice B3 m3 e3, .slice B4 m4 e4] := rfl
     rw [hw]
     rename_i hhe
     clear hhe hw
     generalize setAll w9 g (k * 8) [.slice (some adr) (k + 1) c2, .slice A5 D c5, .bool false, .slice B1 m1 e1, .slice B2 m2 e2, .bool false, .slice B3 m3 e3, .slice B4 m4 e4] = w6 at *
     clear p0 p1 p2 p3 p4 p5 p6 p7 f0 f1 f2 f3 f4 f5 f6 f7 s9 d0 d1 HLO HWK HGC
     go_wp2_with fail
     exact ⟨⟨k + 1, by omega, by go_num, hput, k6⟩, by simp [intOf]; omega⟩
   ·have hkL : k = L := by omega
    subst hkL
    have HLK := Lib.hid hlk
    clear hlk
    go_wp2_with fail
    go_ret
    exact ⟨g, A2, A5, c2, c5, rfl, HLK.out, HX5.out.ext kr, by rw [← HC.out]; exact HFW.out.ext kr, kw5.trans kr⟩
theorem filt_isS {b q x : Nat} : ∀ k, x ∈ filt b q k → isS x = true
 | 0, h => by cases h
 | k + 1, h => by
  rw [filt] at h
  rcases List.mem_append.1 h with h | h
  ·exact filt_isS k h
  ·by_cases e : isS (num b q k) = true
   ·rw [if_pos e] at h
    rw [List.mem_singleton.1 h]
    exact e
   ·rw [if_neg e] at h
    cases h
theorem wide_mod16 : ∀ x ∈ wideL16, x < 2305843009213693952 ∧ x % 16 = 1 := by decide
theorem wide_mod32 : ∀ x ∈ wideL32, x < 2305843009213693952 ∧ x % 32 = 1 := by decide
theorem wide_mod64 : ∀ x ∈ wideL64, x < 2305843009213693952 ∧ x % 64 = 1 := by decide
theorem wide_fit {n x : Nat} (hn : StepW (2 * n)) (hx : x ∈ wideL (2 * n)) : FitP (n : Int) x := by
 have hi : isS x = true := by
  have h := hx
  rw [← wide_all hn] at h
  exact filt_isS _ h
 have hs : stepS (2 * n) = true := by rcases hn with h | h | h <;> rw [h] <;> decide +kernel
 have h2 : x < 2305843009213693952 ∧ x % (2 * n) = 1 := by
  rcases hn with h | h | h <;> rw [h] at hx ⊢
  ·exact wide_mod16 x hx
  ·exact wide_mod32 x hx
  ·exact wide_mod64 x hx
 have h3 : ((n : Int)).toNat = n := Int.toNat_natCast n
 unfold FitP
 rw [h3]
 exact ⟨by rcases hn with h | h | h <;> omega, h2.1, hs, h2.2, hi⟩
theorem wide_nodup {b : Nat} (hb : StepW b) : (wideL b).Nodup := by
 rcases hb with rfl | rfl | rfl <;> decide
theorem getD_at {l : List Nat} {i : Nat} (h : i < l.length) : l.getD i 0 = l[i] := by
 rw [List.getD_eq_getElem?_getD, List.getElem?_eq_getElem h, Option.getD_some]
theorem wide_row {n c : Nat} (hn : StepW (2 * n)) (hc0 : 1 ≤ c) (hc : c ≤ 16) : RowP (n : Int) c (fun i => ((wideL (2 * n)).take c).getD i 0) := by
 have hl := wideL_len hn
 have hlt : ((wideL (2 * n)).take c).length = c := by rw [List.length_take, hl]; omega
 have hnd : ((wideL (2 * n)).take c).Nodup := (wide_nodup hn).sublist (List.take_sublist _ _)
 refine ⟨by omega, by omega, fun j hj => ⟨?_, fun i hi => ?_⟩⟩
 ·have hj' : j < ((wideL (2 * n)).take c).length := by omega
  dsimp only
  rw [getD_at hj']
  exact wide_fit hn (List.mem_of_mem_take (List.getElem_mem hj'))
 ·have hj' : j < ((wideL (2 * n)).take c).length := by omega
  have hi' : i < ((wideL (2 * n)).take c).length := by omega
  dsimp only
  rw [getD_at hj', getD_at hi']
  exact (List.pairwise_iff_getElem.1 hnd) i j hi' hj' hi
theorem step_three : ∀ n, n < 33 → 8 ≤ n → stepS n = true → n = 8 ∨ n = 16 ∨ n = 32 := by decide +kernel
theorem par_row {n T L : Nat} {q : Nat → Nat} {Wd : Int} (h : ParP (n : Int) T L q Wd) (hn : n ≤ 32) : RowP (n : Int) L q ∧ StepW (2 * n) ∧ L ≤ 8 ∧ 0 < L ∧ Go.bitLen (prodF q L) ≤ 420 ∧ ∀ j, j < L → 0 < q j ∧ q j < 18446744073709551616 := by
 have h3 : ((n : Int)).toNat = n := Int.toNat_natCast n
 have hs : SizeP (n : Int) := h 0 (by omega)
 have hc : CountP L := h 3 (by omega)
 have hp : PrsP ((n : Int)).toNat T L q := h 4 (by omega)
 have hb : BitsP (n : Int) (prodF q L) := h 5 (by omega)
 rw [h3] at hp
 have hs2 : stepS n = true := by have := hs.2.2; rwa [h3] at this
 have hn8 : 8 ≤ n := by have := hs.1; omega
 have hst : stepS (2 * n) = true := by rw [step_two n (by omega) (by omega)]; exact hs2
 have h8 := step_three n (by omega) hn8 hs2
 have hq1 : ∀ j, j < L → 0 < q j := fun j hj => by
  have := (hp j hj).2.2.2.1
  rcases Nat.eq_zero_or_pos (q j) with e | e
  ·rw [e, Nat.zero_mod] at this; omega
  ·exact e
 refine ⟨⟨by have := hc.1; omega, by have := hc.2; omega, fun j hj => ⟨?_, (hp j hj).2.2.1⟩⟩, by unfold StepW; omega, hc.2, hc.1, ?_, fun j hj => ⟨hq1 j hj, by have := (hp j hj).1; omega⟩⟩
 ·unfold FitP
  rw [h3]
  exact ⟨by omega, by have := (hp j hj).1; omega, hst, (hp j hj).2.2.2.1, (hp j hj).2.2.2.2⟩
 ·have hr : rowS (n : Int) = 420 := by rcases h8 with rfl | rfl | rfl <;> decide
  unfold BitsP at hb
  rwa [hr] at hb
structure Sc (w : World) (s n T L : Nat) (q : Nat → Nat) : Prop where
 step : StepW (2 * n)
 row : RowP (n : Int) L q
 l8 : L ≤ 8
 bits : Go.bitLen (prodF q L) ≤ 420
 ex : ∃ (r x g : Nat) (p p' : Nat → Nat) (a e a' e' : Nat → Nat → Nat) (Ar Aw : Option Addr) (cr cw : Nat), w.cell? ⟨s, 0, none⟩ = some (.pointer (some ⟨r, 0, none⟩)) ∧ w.cell? ⟨s, 1, none⟩ = some (.pointer (some ⟨x, 0, none⟩)) ∧ w.cell? ⟨s, 2, none⟩ = some (.slice (some ⟨g, 0, none⟩) L L) ∧ Rg w r n L q p a e ∧ Rg w x n (wcN n L q) (fun i => ((wideL (2 * n)).take (wcN n L q)).getD i 0) p' a' e' ∧ LvsK w g L L n T q Ar Aw cr cw ∧ FX w Ar L cr q ∧ FX w Aw (wcN n L q) cw (fun i => ((wideL (2 * n)).take (wcN n L q)).getD i 0)
theorem Sc.ext {w w' : World} {s n T L : Nat} {q : Nat → Nat} (h : Sc w s n T L q) (k : Ext w w') : Sc w' s n T L q := by
 obtain ⟨r, x, g, p, p', a, e, a', e', Ar, Aw, cr, cw, h1, h2, h3, h4, h5, h6, h7, h8⟩ := h.ex
 exact ⟨h.step, h.row, h.l8, h.bits, r, x, g, p, p', a, e, a', e', Ar, Aw, cr, cw, cell_ext k h1, cell_ext k h2, cell_ext k h3, h4.ext k, h5.ext k, h6.ext k, h7.ext k, h8.ext k⟩
theorem LvsK.at {w : World} {g L k n T m : Nat} {q : Nat → Nat} {Ar Aw : Option Addr} {cr cw : Nat} (h : LvsK w g L k n T q Ar Aw cr cw) (hm : m < k) (hk : k ≤ L) : ∃ (A1 A2 A3 A4 : Option Addr) (n1 c1 n2 c2 n3 c3 n4 c4 : Nat), (∀ j, j < 8 → w.cell? ⟨g, m * 8 + j, none⟩ = some (lvlF (.slice Ar (m + 1) cr) (.slice Aw (wcN n (m + 1) q) cw) (.slice A1 n1 c1) (.slice A2 n2 c2) (.slice A3 n3 c3) (.slice A4 n4 c4) j)) ∧ (n1 ≤ 1 ∧ NX w A1 n1 c1 (nw 1)) ∧ (n2 ≤ 1 ∧ NX w A2 n2 c2 (nw (q m))) ∧ (n3 ≤ 1 ∧ NX w A3 n3 c3 (nw T)) ∧ (n4 ≤ 1 + (m + 1) ∧ NX w A4 n4 c4 (nw (prodF q (m + 1)))) := by
 obtain ⟨v, hr, hv⟩ := h
 obtain ⟨A1, A2, A3, A4, n1, c1, n2, c2, n3, c3, n4, c4, h0, h1, h2, h3, h4⟩ := hv m hm
 refine ⟨A1, A2, A3, A4, n1, c1, n2, c2, n3, c3, n4, c4, fun j hj => ?_, h1, h2, h3, h4⟩
 rw [hr.cell (by omega), if_pos (by omega), show (m * 8 + j) / 8 = m by omega, show (m * 8 + j) % 8 = j by omega, h0 j hj]
set_option maxHeartbeats 8000000 in
theorem scaleNew_any {n T L c : Nat} {Wd : Int} {A : Option Addr} {q : Nat → Nat} {w : World} (hP : Hid (PA w (n : Int) T A L c Wd q)) (hok : Hid (ParP (n : Int) T L q Wd)) (hn : n ≤ 32) (hT : Tabs w) :
    Calls Tryz.prog 46 #[.agg #[.int .i64 (n : Int), .int .u64 (T : Int), .slice A L c, .int .i64 Wd]] w fun ee w' => ∃ s : Nat, ee = .returned (.tuple #[.pointer (some ⟨s, 0, none⟩), .int .i64 0]) ∧ Sc w' s n T L q ∧ Ext w w' := by
 have HT := Lib.hid hT
 obtain ⟨hrow, hstep, hL8, hL0, hbits, hwords⟩ := par_row hok.out hn
 have HROW := Lib.hid hrow
 have HSTEP := Lib.hid hstep
 have HBITS := Lib.hid hbits
 have HWORDS := Lib.hid hwords
 have ht1 := hP.out.t1
 have hwc1 := wc_one n L q
 have hwc15 := wc_few hn hbits
 obtain ⟨C, hC⟩ : ∃ C, C = wcN n L q := ⟨_, rfl⟩
 rw [← hC] at hwc1 hwc15
 have HC := Lib.hid hC
 clear hC hT hrow hstep hbits hwords
 obtain ⟨m, rfl⟩ : ∃ m, L = m + 1 := ⟨L - 1, by omega⟩
 have kV : Ext w (w.alloc (.cells #[.int .i64 (n : Int), .int .u64 (T : Int), .slice A (m + 1) c, .int .i64 Wd] 25)) := (Ext.refl w).alloc _
 obtain ⟨x0, x1, x2, x3⟩ := four_at w (.int .i64 (n : Int)) (.int .u64 (T : Int)) (.slice A (m + 1) c) (.int .i64 Wd) 25
 go_enter Tryz.func46, Tryz.ntmps46
 go_wp2_with fail
 generalize w.alloc (.cells #[.int .i64 (n : Int), .int .u64 (T : Int), .slice A (m + 1) c, .int .i64 Wd] 25) = V0 at *
 refine (checkZ (z := 0) (hP.out.ext kV) (by omega) (HT.out.ext kV) (Lib.hid (.inl ⟨hok.out, rfl⟩))).mono ?_
 rintro e V ⟨rfl, k1⟩
 replace x0 := cell_ext k1 x0
 replace x1 := cell_ext k1 x1
 replace x2 := cell_ext k1 x2
 replace x3 := cell_ext k1 x3
 replace kV := kV.trans k1
 clear k1
 go_wp2_with fail
 refine (levelsOf_any (hP.out.fx.ext kV) hL0 hL8 HSTEP.out ht1 HWORDS HBITS (HT.out.ext kV)).mono ?_
 rintro e V1 ⟨g, Ar, Aw, cr, cw, rfl, hlv, hfr, hfw, k1⟩
 replace x0 := cell_ext k1 x0
 replace x1 := cell_ext k1 x1
 replace x2 := cell_ext k1 x2
 replace x3 := cell_ext k1 x3
 replace kV := kV.trans k1
 have HLV := Lib.hid hlv
 have HFR := Lib.hid hfr
 have HFW := Lib.hid hfw
 clear k1 hlv hfr hfw
 go_wp2_with fail
 refine (top_any (n : Int) (T : Int) Wd A (m + 1) c V1 (by omega)).mono ?_
 rintro e V2 ⟨rfl, k2⟩
 replace x0 := cell_ext k2 x0
 replace x2 := cell_ext k2 x2
 replace kV := kV.trans k2
 have HLV := Lib.hid (HLV.out.ext k2)
 have HFR := Lib.hid (HFR.out.ext k2)
 have HFW := Lib.hid (HFW.out.ext k2)
 clear x1 x3 k2
 obtain ⟨A1, A2, A3, A4, n1, c1, n2, c2, n3, c3, n4, c4, hcs, _⟩ := HLV.out.at (m := m) (by omega) (Nat.le_refl _)
 rw [← HC.out] at hcs
 have l0 : V2.cell? ⟨g, m * 8, none⟩ = some (.slice Ar (m + 1) cr) := hcs 0 (by omega)
 have l1 : V2.cell? ⟨g, m * 8 + 1, none⟩ = some (.slice Aw C cw) := hcs 1 (by omega)
 have l2 : V2.cell? ⟨g, m * 8 + 2, none⟩ = some (.bool false) := hcs 2 (by omega)
 have l3 : V2.cell? ⟨g, m * 8 + 3, none⟩ = some (.slice A1 n1 c1) := hcs 3 (by omega)
 have l4 : V2.cell? ⟨g, m * 8 + 4, none⟩ = some (.slice A2 n2 c2) := hcs 4 (by omega)
 have l5 : V2.cell? ⟨g, m * 8 + 5, none⟩ = some (.bool false) := hcs 5 (by omega)
 have l6 : V2.cell? ⟨g, m * 8 + 6, none⟩ = some (.slice A3 n3 c3) := hcs 6 (by omega)
 have l7 : V2.cell? ⟨g, m * 8 + 7, none⟩ = some (.slice A4 n4 c4) := hcs 7 (by omega)
 clear hcs
 have i0 : (0 : Int) ≤ (m : Int) := by omega
 have i1 : (m : Int) < ((m + 1 : Nat) : Int) := by omega
 have ka : Ext V2 (V2.alloc (.cells #[.slice Ar (m + 1) cr, .slice Aw C cw, .bool false, .slice A1 n1 c1, .slice A2 n2 c2, .bool false, .slice A3 n3 c3, .slice A4 n4 c4] 145)) := (Ext.refl V2).alloc _
 have y0 := cell_ext ka x0
 have y2 := cell_ext ka x2
 have z0 : (V2.alloc (.cells #[.slice Ar (m + 1) cr, .slice Aw C cw, .bool false, .slice A1 n1 c1, .slice A2 n2 c2, .bool false, .slice A3 n3 c3, .slice A4 n4 c4] 145)).cell? ⟨V2.heap.size, 0, none⟩ = some (.slice Ar (m + 1) cr) := by simp
 have z1 : (V2.alloc (.cells #[.slice Ar (m + 1) cr, .slice Aw C cw, .bool false, .slice A1 n1 c1, .slice A2 n2 c2, .bool false, .slice A3 n3 c3, .slice A4 n4 c4] 145)).cell? ⟨V2.heap.size, 1, none⟩ = some (.slice Aw C cw) := by simp
 go_wp2_with fail
 have hX1 := HFR.out.ext ka
 have hX2 := HFW.out.ext ka
 rw [← HC.out] at hX2
 have HX2 := Lib.hid hX2
 have HLV := Lib.hid (HLV.out.ext ka)
 have HFR := Lib.hid hX1
 have kA := kV.trans ka
 clear ka hX1 hX2 l0 l1 l2 l3 l4 l5 l6 l7 x0 x2
 have nn : ((n : Int)).toNat = n := Int.toNat_natCast n
 obtain ⟨gt, hgt⟩ : ∃ gt, gt = V2.heap.size := ⟨_, rfl⟩
 rw [← hgt] at z0 z1 ⊢
 clear hgt kV
 generalize V2.alloc (.cells #[.slice Ar (m + 1) cr, .slice Aw C cw, .bool false, .slice A1 n1 c1, .slice A2 n2 c2, .bool false, .slice A3 n3 c3, .slice A4 n4 c4] 145) = V3 at *
 refine (ringNew_any (n : Int) Ar (m + 1) cr q V3 (by omega) (by omega) (by omega) HFR.out (Lib.hid fun j hj => (HWORDS.out j hj).2) (HT.out.ext kA)).mono ?_
 rintro e V4 (⟨hno, _⟩ | ⟨_, r, p, a, e, rfl, hrg, k4⟩)
 ·exact absurd HROW.out hno
 rw [nn] at hrg
 have HRG := Lib.hid hrg
 clear hrg z0
 replace y0 := cell_ext k4 y0
 replace z1 := cell_ext k4 z1
 go_wp2_with fail
 have HROW2 := Lib.hid (wide_row (c := C) HSTEP.out hwc1 (by omega))
 refine (ringNew_any (n : Int) Aw C cw _ V4 (by omega) (by omega) (by omega) (HX2.out.ext k4) (Lib.hid fun j hj => Nat.lt_trans (HROW2.out.2.2 j hj).1.2.1 (by decide)) (HT.out.ext (kA.trans k4))).mono ?_
 rintro e5 V5 (⟨hno, _⟩ | ⟨_, r5, p5, a5, e5, rfl, hrg5, k5⟩)
 ·exact absurd HROW2.out hno
 rw [nn] at hrg5
 have HRG5 := Lib.hid hrg5
 clear hrg5 y0 y2 z1
 go_wp2_with fail
 go_ret2
 have kb : Ext V5 (V5.alloc (.cells #[.pointer (some ⟨r, 0, none⟩), .pointer (some ⟨r5, 0, none⟩), .slice (some ⟨g, 0, none⟩) (m + 1) (m + 1)] 149)) := (Ext.refl V5).alloc _
 have k35 := (k4.trans k5).trans kb
 have hx2 := HX2.out.ext k35
 have hrg5 := HRG5.out.ext kb
 rw [HC.out] at hx2 hrg5
 exact ⟨V5.heap.size, rfl, ⟨HSTEP.out, HROW.out, hL8, HBITS.out, ⟨r, r5, g, p, p5, a, e, a5, e5, Ar, Aw, cr, cw, by simp, by simp, by simp, HRG.out.ext (k5.trans kb), hrg5, HLV.out.ext k35, HFR.out.ext k35, hx2⟩⟩, kA.trans k35⟩
theorem RowP.cut {n : Int} {L m : Nat} {q : Nat → Nat} (h : RowP n L q) (h0 : 0 < m) (hm : m ≤ L) : RowP n m q := ⟨h0, by have := h.2.1; omega, fun j hj => h.2.2 j (by omega)⟩
theorem sNone_any {w : World} {s n T L : Nat} {q : Nat → Nat} (h : Hid (Sc w s n T L q)) : Calls Tryz.prog 114 #[.pointer (some ⟨s, 0, none⟩)] w fun e w' => e = .returned (.bool false) ∧ w = w' := by
 have h0 := h.out.row.1
 have hb : ((L : Int) == 0) = false := by simp; omega
 obtain ⟨r, x, g, p, p', a, e, a', e', Ar, Aw, cr, cw, _, _, x2, _⟩ := h.out.ex
 go_enter Tryz.func114, Tryz.ntmps114
 go_wp2
 go_ret
 exact ⟨rfl, rfl⟩
theorem Ring_any {s n T M : Nat} {q : Nat → Nat} {w : World} (hS : Hid (Sc w s n T M q)) :
    Calls Tryz.prog 49 #[.pointer (some ⟨s, 0, none⟩)] w fun ee w' => ∃ (r : Nat) (p : Nat → Nat) (a e : Nat → Nat → Nat), ee = .returned (.pointer (some ⟨r, 0, none⟩)) ∧ Rg w' r n M q p a e ∧ Ext w w' := by
 obtain ⟨r, x, g, p, p', a, e, a', e', Ar, Aw, cr, cw, x0, x1, x2, hrg, _⟩ := hS.out.ex
 obtain ⟨gf, hg1, hg2⟩ := hrg.ex
 have hsz := hrg.size
 have HRG := Lib.hid hrg
 have HFR := Lib.hid hg2
 clear hrg hg2 x1 x2
 go_enter Tryz.func49, Tryz.ntmps49
 go_wp2_with fail
 refine (sNone_any hS).mono ?_
 rintro ee w0 ⟨rfl, rfl⟩
 go_wp2_with fail
 have kb : Ext w (w.alloc (.cells #[.int .i64 (n : Int), .slice (some ⟨gf, 0, none⟩) M M] 161)) := (Ext.refl w).alloc _
 go_ret
 have h5 := HRG.out.ext kb
 exact ⟨w.heap.size, p, a, e, rfl, ⟨h5.l0, h5.l1, h5.n0, h5.n1, h5.ql, by simp, ⟨gf, by simp, RW.ext HFR.out kb⟩, h5.tab⟩, kb⟩
end Go.Proofs.YtjikdbcjabopnaaGreatDoor
