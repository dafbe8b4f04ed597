import Derived.Test.YtopbibfpjgjalaaGreatDoorZ17
import Derived.Deep.RegionHeld3
namespace Go.Proofs.YtopbibfpjgjalaaGreatDoor
open Go.RowKit
set_option linter.unusedVariables false
set_option maxRecDepth 100000
def zj9 (w : World) (N : Nat) (b : Bool) (ys : List Nat) (e : Ending) (w' : World) : Prop :=
 ∃ A n c, e = .returned (.agg #[.bool b, .slice A n c]) ∧ n ≤ N ∧ NR w' w'.heap.size A n c ys ∧ Below w.heap.size w w'
theorem Rd.alloc {k : IntKind} {b : Nat} {w : World} {B : Nat} {A : Option Addr} {n c : Nat} {xs : List Nat} (h : Rd k b w B A n c xs) (hB : B ≤ w.heap.size) (o : Obj) : Rd k b (w.alloc o) B A n c xs := h.keep fun p hp => World.cell?_alloc_lt w o p (by omega)
theorem Rd.drew {k : IntKind} {b : Nat} {w : World} {A : Option Addr} {n c : Nat} {xs : List Nat} (h : Rd k b w w.heap.size A n c xs) : Rd k b w.drew w.drew.heap.size A n c xs := ⟨h.len, h.room, h.lt, h.cells⟩
theorem zch (A : Option Addr) (n c : Nat) (b : Bool) (ys : List Nat) (w : World) (h : NR w w.heap.size A n c ys) :
    Calls Tryz.prog 190 #[.bool b, .slice A n c] w (zj9 w n (b && decide (0 < n)) ys) := by
 cases b
 ·go_enter Tryz.func190, Tryz.ntmps190
  go_wp2
  refine bodyPost_ret (v := .agg #[.bool false, .slice A n c]) (by simp [results, Tryz.results190, go_sem]) rfl ?_
  exact ⟨A, n, c, rfl, Nat.le_refl _, by simpa using (h.alloc (Nat.le_refl _) _).more (Nat.le_succ _), (Below.refl _ _).alloc (Nat.le_refl _) _⟩
 ·by_cases hn : 0 < n
  ·have H := Lib.hid (show (true && decide (0 < n)) = true by simpa using hn)
   go_enter Tryz.func190, Tryz.ntmps190
   go_wp2
   refine bodyPost_ret (v := .agg #[.bool true, .slice A n c]) (by simp [results, Tryz.results190, go_sem]) rfl ?_
   rw [H.out]
   exact ⟨A, n, c, rfl, Nat.le_refl _, by simpa using (h.alloc (Nat.le_refl _) _).more (Nat.le_succ _), (Below.refl _ _).alloc (Nat.le_refl _) _⟩
  ·have H := Lib.hid (show (true && decide (0 < n)) = false by simpa using hn)
   obtain rfl : n = 0 := by omega
   go_enter Tryz.func190, Tryz.ntmps190
   go_wp2
   refine bodyPost_ret (v := .agg #[.bool false, .slice A 0 c]) (by simp [results, Tryz.results190, go_sem]) rfl ?_
   rw [H.out]
   exact ⟨A, 0, c, rfl, Nat.le_refl _, by simpa using (h.alloc (Nat.le_refl _) _).more (Nat.le_succ _), (Below.refl _ _).alloc (Nat.le_refl _) _⟩
structure Box2 (w W : World) (b b' : Bool) (s s' : Value) : Prop where
 below : Below w.heap.size w W
 size : w.heap.size + 2 ≤ W.heap.size
 a0 : W.cell? ⟨w.heap.size, 0, none⟩ = some (.bool b)
 a1 : W.cell? ⟨w.heap.size, 1, none⟩ = some s
 b0 : W.cell? ⟨w.heap.size + 1, 0, none⟩ = some (.bool b')
 b1 : W.cell? ⟨w.heap.size + 1, 1, none⟩ = some s'
 free : ∀ o, W.frozen? ⟨w.heap.size, o, none⟩ = false ∧ W.frozen? ⟨w.heap.size + 1, o, none⟩ = false
structure Box3 (w W : World) (b b' : Bool) (s s' r0 r1 : Value) : Prop extends Box2 w W b b' s s' where
 size3 : W.heap.size = w.heap.size + 3
 r0 : W.cell? ⟨w.heap.size + 2, 0, none⟩ = some r0
 r1 : W.cell? ⟨w.heap.size + 2, 1, none⟩ = some r1
 f0 : W.frozen? ⟨w.heap.size + 2, 0, none⟩ = false
 f1 : W.frozen? ⟨w.heap.size + 2, 1, none⟩ = false
theorem box3 (w : World) (b b' : Bool) (s s' r0 r1 : Value) (t : TypeId) : Box3 w (((w.alloc (.cells #[.bool b, s] t)).alloc (.cells #[.bool b', s'] t)).alloc (.cells #[r0, r1] t)) b b' s s' r0 r1 := by
 refine ⟨⟨(((Below.refl _ _).alloc (Nat.le_refl _) _).alloc (by simp) _).alloc (by simp; omega) _, by simp, ?_, ?_, ?_, ?_, ?_⟩, by simp, ?_, ?_, ?_, ?_⟩ <;> simp [go_sem]
theorem Box2.keep {w W W' : World} {b b' : Bool} {s s' : Value} (h : Box2 w W b b' s s') (hb : Below W.heap.size W W') : Box2 w W' b b' s s' := by
 have := h.size
 have z := hb.size
 exact ⟨h.below.trans (hb.mono (by omega)), by omega, (hb.cell (p := ⟨w.heap.size, 0, none⟩) (show w.heap.size < _ by omega)).trans h.a0, (hb.cell (p := ⟨w.heap.size, 1, none⟩) (show w.heap.size < _ by omega)).trans h.a1, (hb.cell (p := ⟨w.heap.size + 1, 0, none⟩) (show w.heap.size + 1 < _ by omega)).trans h.b0, (hb.cell (p := ⟨w.heap.size + 1, 1, none⟩) (show w.heap.size + 1 < _ by omega)).trans h.b1, fun o => ⟨(hb.frozen (p := ⟨w.heap.size, o, none⟩) (show w.heap.size < _ by omega)).trans (h.free o).1, (hb.frozen (p := ⟨w.heap.size + 1, o, none⟩) (show w.heap.size + 1 < _ by omega)).trans (h.free o).2⟩⟩
theorem Box2.drew {w W : World} {b b' : Bool} {s s' : Value} (h : Box2 w W b b' s s') : Box2 w W.drew b b' s s' := ⟨h.below.drew, h.size, h.a0, h.a1, h.b0, h.b1, h.free⟩
theorem zap {W W' : World} {g o : Nat} {v : Value} (hb : Below W.heap.size W W') (hg : g < W.heap.size) (h : W.cell? ⟨g, o, none⟩ = some v) : W'.cell? ⟨g, o, none⟩ = some v := (hb.cell (p := ⟨g, o, none⟩) hg).trans h
theorem zau {W W' : World} {g o : Nat} (hb : Below W.heap.size W W') (hg : g < W.heap.size) (h : W.frozen? ⟨g, o, none⟩ = false) : W'.frozen? ⟨g, o, none⟩ = false := (hb.frozen (p := ⟨g, o, none⟩) hg).trans h
theorem Rd.aside {k : IntKind} {b : Nat} {w : World} {B : Nat} {A : Option Addr} {n c : Nat} {xs : List Nat} (h : Rd k b w B A n c xs) {p : Addr} {v : Value} (hp : w.cell? p = some v) (hv : ∀ x : Int, v ≠ .int k x) (u : Value) : Rd k b (w.setCell p u) B A n c xs := by
 refine ⟨h.len, h.room, h.lt, fun hn => ?_⟩
 obtain ⟨ad, rfl, hb, hc⟩ := h.cells hn
 refine ⟨ad, rfl, hb, fun j x hx => ?_⟩
 rw [World.cell?_setCell_other w p _ u (fun e => ?_)]
 ·exact hc j x hx
 ·have := hc j x hx
  first | (rw [e] at this; rw [hp] at this; exact hv _ (Option.some.inj this)) | (rw [← e] at this; rw [hp] at this; exact hv _ (Option.some.inj this))
theorem zc1 {w : World} {A : Option Addr} {n c g : Nat} {xs : List Nat} {b0 b1 : Bool} {A0 : Option Addr} {n0 c0 : Nat} {s : Value} (h : NR w w.heap.size A n c xs) (h0 : w.cell? ⟨g, 0, none⟩ = some (.bool b0)) (h1 : w.cell? ⟨g, 1, none⟩ = some (.slice A0 n0 c0)) :
    NR ((w.setCell ⟨g, 0, none⟩ (.bool b1)).setCell ⟨g, 1, none⟩ s) ((w.setCell ⟨g, 0, none⟩ (.bool b1)).setCell ⟨g, 1, none⟩ s).heap.size A n c xs := by
 have e : ((w.setCell ⟨g, 0, none⟩ (.bool b1)).setCell ⟨g, 1, none⟩ s).heap.size = w.heap.size := by simp [World.setCell]
 rw [e]
 refine (h.aside h0 (fun _ => by simp) _).aside (v := .slice A0 n0 c0) ?_ (fun _ => by simp) _
 rw [World.cell?_setCell_other _ _ _ _ (by simp)]
 exact h1
theorem zcy {w : World} {B : Nat} {A : Option Addr} {n c V : Nat} (h : NR w B A n c (nw V)) : decide (0 < n) = decide (0 < V) := by
 have hl := h.len
 rcases Nat.eq_zero_or_pos V with h0 | h0
 ·subst h0
  have : n = 0 := hl.symm
  subst this
  rfl
 ·have h1 : 0 < (nw V).length := (zl5 za1 V h0).1
  rw [hl] at h1
  rw [decide_eq_true h0, decide_eq_true h1]
theorem zcc {w : World} {g : Nat} {x y : Value} (h0 : w.cell? ⟨g, 0, none⟩ = some x) (h1 : w.cell? ⟨g, 1, none⟩ = some y) (u v : Value) :
    ((w.setCell ⟨g, 0, none⟩ u).setCell ⟨g, 1, none⟩ v).cell? ⟨g, 0, none⟩ = some u ∧ ((w.setCell ⟨g, 0, none⟩ u).setCell ⟨g, 1, none⟩ v).cell? ⟨g, 1, none⟩ = some v := by
 have e : (w.setCell ⟨g, 0, none⟩ u).cell? ⟨g, 1, none⟩ = some y := by rw [World.cell?_setCell_other _ _ _ _ (by simp)]; exact h1
 exact ⟨by rw [World.cell?_setCell_other _ _ _ _ (by simp)]; exact World.cell?_setCell_same _ _ _ h0, World.cell?_setCell_same _ _ _ e⟩
set_option maxHeartbeats 1000000 in
theorem zo8 (A A' : Option Addr) (n n' c c' : Nat) (b b' : Bool) (xs ys : List Nat) (w : World) (h : NR w w.heap.size A n c xs) (h' : NR w w.heap.size A' n' c' ys) (hn : n ≤ 1000) (hn' : n' ≤ 1000) :
    Calls Tryz.prog 116 #[.agg #[.bool b, .slice A n c], .agg #[.bool b', .slice A' n' c']] w (zj9 w (n + n') ((b != b') && decide (0 < nv xs * nv ys)) (nw (nv xs * nv ys))) := by
 have hx := box3 w b b' (.slice A n c) (.slice A' n' c') (.bool false) (.slice none 0 0) 144
 have HX := Lib.hid hx
 clear hx
 go_enter Tryz.func116, Tryz.ntmps116
 go_wp2
 generalize ((w.alloc (Obj.cells #[Value.bool b, Value.slice A n c] 144)).alloc (Obj.cells #[Value.bool b', Value.slice A' n' c'] 144)).alloc (Obj.cells #[Value.bool false, Value.slice none 0 0] 144) = W at *
 have HB := HX.out.toBox2
 obtain ⟨⟨xb, xs0, a0, a1, b0, b1, fr⟩, x3, r0, r1, f0, f1⟩ := HX.out
 have X3 := Lib.hid x3
 have hR := (h.below xb).more (show w.heap.size ≤ W.heap.size by omega)
 have hR' := (h'.below xb).more (show w.heap.size ≤ W.heap.size by omega)
 have hz3 : w.heap.size + 3 ≤ W.heap.size := by omega
 have ne1 : ¬ (w.heap.size + 1 + 1 = w.heap.size) := by omega
 have ne2 : ¬ (w.heap.size = w.heap.size + 1 + 1) := by omega
 clear x3
 go_region_held3 (fun w' => w'.cell? ⟨w.heap.size, 0, none⟩ = some (.bool b) ∧ w'.cell? ⟨w.heap.size + 1, 0, none⟩ = some (.bool b') ∧ w'.cell? ⟨w.heap.size, 1, none⟩ = some (.slice A n c) ∧ w'.cell? ⟨w.heap.size + 1, 1, none⟩ = some (.slice A' n' c')) (go_keep)
  (first
   | (go_at_call 191; refine (znp A A' n n' c c' xs ys W.drew hR.drew hR'.drew (by omega) (by omega)).mono ?_; rintro e w1 ⟨A2, n2, c2, rfl, hn2, hr2, hb2⟩; obtain ⟨_, _, _, _, _, _, _⟩ := HB.drew.keep hb2; have hs2 : W.heap.size ≤ w1.heap.size := hb2.size)
   | (go_at_call 190; refine (zch A2 n2 c2 _ _ _ hr2).mono ?_; rintro e w2 ⟨A3, n3, c3, rfl, hn3, hr3, hb3⟩; obtain ⟨_, _, _, _, _, _, _⟩ := (HB.drew.keep hb2).keep hb3; have hs3 := hb3.size; have r0' := zap hb3 (by omega) (zap hb2 (show w.heap.size + 2 < W.heap.size by omega) r0); have r1' := zap hb3 (by omega) (zap hb2 (show w.heap.size + 2 < W.heap.size by omega) r1); have f0' := zau hb3 (by omega) (zau hb2 (show w.heap.size + 2 < W.heap.size by omega) f0); have f1' := zau hb3 (by omega) (zau hb2 (show w.heap.size + 2 < W.heap.size by omega) f1)))
 go_wp2
 have r0'' : w2.cell? ⟨w.heap.size + 1 + 1, 0, none⟩ = some (.bool false) := r0'
 have r1'' : w2.cell? ⟨w.heap.size + 1 + 1, 1, none⟩ = some (.slice none 0 0) := r1'
 obtain ⟨z0, z1⟩ := zcc r0'' r1'' (.bool ((!b == b') && decide (0 < n2))) (.slice A3 n3 c3)
 refine bodyPost_ret (v := .agg #[.bool ((!b == b') && decide (0 < n2)), .slice A3 n3 c3]) (by simp [results, Tryz.results116, go_sem, z0, z1]) rfl ?_
 refine ⟨A3, n3, c3, ?_, by omega, zc1 hr3 r0' r1', ?_⟩
 ·rw [zcy hr2]; rfl
 ·exact ((xb.trans ((Below.drew (Below.refl _ W)).trans (hb2.mono (show W.heap.size ≤ W.drew.heap.size from Nat.le_refl _)) |>.mono (by omega))).trans (hb3.mono (by omega))).setCell (by simp; omega) _ |>.setCell (by simp; omega) _
def iv (b : Bool) (X : Nat) : Int := if b then -(X : Int) else X
def IntZ (w : World) (N : Nat) (z : Int) (e : Ending) (w' : World) : Prop := zj9 w N (decide (z < 0)) (nw z.natAbs) e w'
theorem z0s {b b' : Bool} {X Y : Nat} : ((b != b') && decide (0 < X * Y)) = decide (iv b X * iv b' Y < 0) ∧ X * Y = (iv b X * iv b' Y).natAbs := by
 have e : ((X * Y : Nat) : Int) = (X : Int) * Y := by simp
 cases b <;> cases b' <;> simp [iv, Int.neg_mul, Int.mul_neg] <;> rw [← e] <;> omega
theorem zov (A A' : Option Addr) (n n' c c' : Nat) (b b' : Bool) (xs ys : List Nat) (w : World) (h : NR w w.heap.size A n c xs) (h' : NR w w.heap.size A' n' c' ys) (hn : n ≤ 1000) (hn' : n' ≤ 1000) :
    Calls Tryz.prog 116 #[.agg #[.bool b, .slice A n c], .agg #[.bool b', .slice A' n' c']] w (IntZ w (n + n') (iv b (nv xs) * iv b' (nv ys))) := by
 have := zo8 A A' n n' c c' b b' xs ys w h h' hn hn'
 obtain ⟨e1, e2⟩ := z0s (b := b) (b' := b') (X := nv xs) (Y := nv ys)
 rw [e1] at this
 unfold IntZ
 rw [← e2]
 exact this
def nearZ (b : Bool) (X Y : Nat) : Int := (2 * iv b X + Y) / (2 * Y)
theorem zsq {b : Bool} {X Y : Nat} (hY : 0 < Y) (h : Y < X % Y + X % Y ∨ (X % Y + X % Y = Y ∧ b = false)) : nearZ b X Y = iv b (X / Y + 1) := by
 have e := Nat.mod_add_div X Y
 have hr := Nat.mod_lt X hY
 generalize X % Y = r at *
 generalize X / Y = q at *
 unfold nearZ
 have e' : (X : Int) = r + Y * q := by rw [← e]; simp
 cases b
 ·simp only [iv, Bool.false_eq_true, if_false]
  rw [e', show (2 * ((r : Int) + Y * q) + Y) = (2 * r - Y) + (2 * Y) * (q + 1) by rw [Int.mul_add, Int.mul_add, Int.mul_assoc]; omega, Int.add_mul_ediv_left _ _ (by omega), Int.ediv_eq_zero_of_lt (by omega) (by omega)]
  omega
 ·simp only [iv, if_true]
  have h1 : Y < r + r := by rcases h with h | h; exact h; simp at h
  rw [e', show (2 * -((r : Int) + Y * q) + Y) = (3 * Y - 2 * r) + (2 * Y) * -(q + 1) by rw [Int.mul_neg, Int.mul_neg, Int.mul_add, Int.mul_add, Int.mul_assoc]; omega, Int.add_mul_ediv_left _ _ (by omega), Int.ediv_eq_zero_of_lt (by omega) (by omega)]
  omega
theorem zj6 {b : Bool} {X Y : Nat} (hY : 0 < Y) (h : X % Y + X % Y < Y ∨ (X % Y + X % Y = Y ∧ b = true)) : nearZ b X Y = iv b (X / Y) := by
 have e := Nat.mod_add_div X Y
 have hr := Nat.mod_lt X hY
 generalize X % Y = r at *
 generalize X / Y = q at *
 unfold nearZ
 have e' : (X : Int) = r + Y * q := by rw [← e]; simp
 cases b
 ·simp only [iv, Bool.false_eq_true, if_false]
  have h1 : r + r < Y := by rcases h with h | h; exact h; simp at h
  rw [e', show (2 * ((r : Int) + Y * q) + Y) = (2 * r + Y) + (2 * Y) * q by rw [Int.mul_add, Int.mul_assoc]; omega, Int.add_mul_ediv_left _ _ (by omega), Int.ediv_eq_zero_of_lt (by omega) (by omega)]
  omega
 ·simp only [iv, if_true]
  rw [e', show (2 * -((r : Int) + Y * q) + Y) = (Y - 2 * r) + (2 * Y) * -q by rw [Int.mul_neg, Int.mul_neg, Int.mul_add, Int.mul_assoc]; omega, Int.add_mul_ediv_left _ _ (by omega), Int.ediv_eq_zero_of_lt (by omega) (by omega)]
  omega
theorem zic {b : Bool} {V : Nat} : (b && decide (0 < V)) = decide (iv b V < 0) ∧ V = (iv b V).natAbs := by
 cases b <;> simp [iv]
def zwr (w : World) (N : Nat) (b : Bool) (X Y : Nat) (e : Ending) (w' : World) : Prop :=
 (Y = 0 ∧ e = .returned (.tuple #[.agg #[.bool false, .slice none 0 0], .int .i64 1]) ∧ Below w.heap.size w w') ∨
 (0 < Y ∧ ∃ A n c, e = .returned (.tuple #[.agg #[.bool (decide (nearZ b X Y < 0)), .slice A n c], .int .i64 0]) ∧ n ≤ N ∧ NR w' w'.heap.size A n c (nw (nearZ b X Y).natAbs) ∧ Below w.heap.size w w')
structure Box1 (w W : World) (b : Bool) (s : Value) : Prop where
 below : Below w.heap.size w W
 size : W.heap.size = w.heap.size + 2
 a0 : W.cell? ⟨w.heap.size, 0, none⟩ = some (.bool b)
 a1 : W.cell? ⟨w.heap.size, 1, none⟩ = some s
 r0 : W.cell? ⟨w.heap.size + 1, 0, none⟩ = some (.bool false)
 r1 : W.cell? ⟨w.heap.size + 1, 1, none⟩ = some (.slice none 0 0)
 f0 : W.frozen? ⟨w.heap.size + 1, 0, none⟩ = false
 f1 : W.frozen? ⟨w.heap.size + 1, 1, none⟩ = false
theorem box1 (w : World) (b : Bool) (s : Value) (t : TypeId) : Box1 w ((w.alloc (.cells #[.bool b, s] t)).alloc (.cells #[.bool false, .slice none 0 0] t)) b s := by
 refine ⟨((Below.refl _ _).alloc (Nat.le_refl _) _).alloc (by simp) _, by simp, ?_, ?_, ?_, ?_, ?_, ?_⟩ <;> simp [go_sem]
set_option maxHeartbeats 4000000 in
theorem zui (A A' : Option Addr) (n n' c c' : Nat) (b : Bool) (xs ys : List Nat) (w : World) (h : NR w w.heap.size A n c xs) (h' : NR w w.heap.size A' n' c' ys) (hn : n ≤ 1000) (hn' : n' ≤ 1000) :
    Calls Tryz.prog 115 #[.agg #[.bool b, .slice A n c], .slice A' n' c'] w (zwr w (n + 4) b (nv xs) (nv ys)) := by
 have HX := Lib.hid (box1 w b (.slice A n c) 144)
 go_enter Tryz.func115, Tryz.ntmps115
 go_wp2_with fail
 generalize (w.alloc (Obj.cells #[Value.bool b, Value.slice A n c] 144)).alloc (Obj.cells #[Value.bool false, Value.slice none 0 0] 144) = W at *
 obtain ⟨xb, x3, a0, a1, r0, r1, f0, f1⟩ := HX.out
 have X3 := Lib.hid x3
 have hz : w.heap.size + 2 ≤ W.heap.size := by omega
 clear x3
 have hRa := (h.below xb).more (show w.heap.size ≤ W.heap.size by omega)
 have hRb := (h'.below xb).more (show w.heap.size ≤ W.heap.size by omega)
 refine (zsj A A' n n' c c' xs ys W hRa hRb (by omega) (by omega)).mono ?_
 rintro e w1 (⟨hY, rfl, hb1⟩ | ⟨hY, A1, n1, c1, A2, n2, c2, rfl, hn1, hn2, hr1, hr2, hb1⟩)
 ·have HY := Lib.hid hY
  clear hY
  have r0' := zap hb1 (show w.heap.size + 1 < _ by omega) r0
  have r1' := zap hb1 (show w.heap.size + 1 < _ by omega) r1
  have f0' := zau hb1 (show w.heap.size + 1 < _ by omega) f0
  have f1' := zau hb1 (show w.heap.size + 1 < _ by omega) f1
  obtain ⟨z0, z1⟩ := zcc r0' r1' (.bool false) (.slice none 0 0)
  go_wp2
  refine bodyPost_ret (v := .tuple #[.agg #[.bool false, .slice none 0 0], .int .i64 1]) (by simp [results, Tryz.results115, go_sem, z0, z1]) rfl ?_
  exact .inl ⟨HY.out, rfl, ((xb.trans (hb1.mono (by omega))).setCell (by simp) _).setCell (by simp) _⟩
 ·have hbW1 := hb1
  have hs1 := hb1.size
  go_wp2_with fail
  refine (zc5 _ _ _ _ _ _ _ _ w1 hr2 hr2 (by omega) (by omega)).mono ?_
  rw [nv_nw]
  rintro e w2 ⟨A4, n4, c4, rfl, hn4, hr4, hb4⟩
  have hbW2 := hbW1.trans (hb4.mono hbW1.size)
  have hrb2 := (hRb.below (hbW2.mono (Nat.le_refl _))).more hbW2.size
  go_wp2_with fail
  refine (zkf _ _ _ _ _ _ _ _ ys w2 hr4 hrb2 (by omega) (by omega)).mono ?_
  rw [nv_nw]
  rintro e w' ⟨rfl, q, rfl⟩
  have a0q : w2.cell? ⟨w.heap.size, 0, none⟩ = some (.bool b) := zap hbW2 (by omega) a0
  have hs2 := hbW2.size
  rcases Nat.lt_trichotomy (nv xs % nv ys + nv xs % nv ys) (nv ys) with hc | hc | hc
  ·have HN := Lib.hid (zj6 (b := b) (X := nv xs) hY (.inl hc))
   have HE := Lib.hid (zfv hc)
   rw [HE.out]
   clear hc
   go_wp2_with fail
   have hr1q : NR (w2.drewN q) (w2.drewN q).heap.size A1 n1 c1 (nw (nv xs / nv ys)) := ((hr1.below hb4).more hb4.size).drewN q
   refine (zch A1 n1 c1 b _ (w2.drewN q) hr1q).mono ?_
   rintro e w5 ⟨A6, n6, c6, rfl, hn6, hr6, hb6⟩
   have HBW := Lib.hid (hbW2.trans (((za4 (Below.refl _ _) q).trans hb6).mono hbW2.size))
   have hs5 := HBW.out.size
   have HNR := Lib.hid hr1
   have r0' := zap HBW.out (show w.heap.size + 1 < _ by omega) r0
   have r1' := zap HBW.out (show w.heap.size + 1 < _ by omega) r1
   have f0' := zau HBW.out (show w.heap.size + 1 < _ by omega) f0
   have f1' := zau HBW.out (show w.heap.size + 1 < _ by omega) f1
   obtain ⟨z0, z1⟩ := zcc r0' r1' (.bool (b && decide (0 < n1))) (.slice A6 n6 c6)
   go_wp2
   refine bodyPost_ret (v := .tuple #[.agg #[.bool (b && decide (0 < n1)), .slice A6 n6 c6], .int .i64 0]) (by simp [results, Tryz.results115, go_sem, z0, z1]) rfl ?_
   obtain ⟨i1, i2⟩ := zic (b := b) (V := nv xs / nv ys)
   refine .inr ⟨hY, A6, n6, c6, ?_, by omega, ?_, ((xb.trans (HBW.out.mono (by omega))).setCell (by simp) _).setCell (by simp) _⟩
   ·rw [HN.out, ← i1, zcy HNR.out]
   ·rw [HN.out, ← i2]; exact zc1 hr6 r0' r1'
  ·have HE := Lib.hid (zls hc)
   rw [HE.out]
   by_cases hbf : b = false
   ·have HN := Lib.hid (zsq (b := b) (X := nv xs) hY (.inr ⟨hc, hbf⟩))
    have nb : (!b) = true := by simp [hbf]
    clear hc hbf
    go_wp2_with fail
    refine (zi4 1 (w2.drewN q) (by omega)).mono ?_
    rintro e w3 ⟨A5, n5, c5, rfl, hn5, hr5, hb5⟩
    have hb5' : Below w2.heap.size w2 w3 := (za4 (Below.refl _ _) q).trans hb5
    have hbW3 := hbW2.trans (hb5'.mono hbW2.size)
    have hr1' := ((hr1.below hb4).more hb4.size).below hb5' |>.more hb5'.size
    go_wp2_with fail
    refine (zc5 _ _ _ _ _ _ _ _ w3 hr1' hr5 (by omega) (by omega)).mono ?_
    rw [nv_nw, nv_nw]
    rintro e w4 ⟨A7, n7, c7, rfl, hn7, hr7, hb7⟩
    have hbW4 := hbW3.trans (hb7.mono hbW3.size)
    have hs3 := hbW3.size
    have hs4 := hbW4.size
    have a04 : w4.cell? ⟨w.heap.size, 0, none⟩ = some (.bool b) := zap hbW4 (by omega) a0
    go_wp2_with fail
    refine (zch A7 n7 c7 b _ w4 hr7).mono ?_
    rintro e w5 ⟨A6, n6, c6, rfl, hn6, hr6, hb6⟩
    have HBW := Lib.hid (hbW4.trans (hb6.mono hbW4.size))
    have hs5 := HBW.out.size
    have HNR := Lib.hid hr7
    have r0' := zap HBW.out (show w.heap.size + 1 < _ by omega) r0
    have r1' := zap HBW.out (show w.heap.size + 1 < _ by omega) r1
    have f0' := zau HBW.out (show w.heap.size + 1 < _ by omega) f0
    have f1' := zau HBW.out (show w.heap.size + 1 < _ by omega) f1
    obtain ⟨z0, z1⟩ := zcc r0' r1' (.bool (b && decide (0 < n7))) (.slice A6 n6 c6)
    go_wp2
    refine bodyPost_ret (v := .tuple #[.agg #[.bool (b && decide (0 < n7)), .slice A6 n6 c6], .int .i64 0]) (by simp [results, Tryz.results115, go_sem, z0, z1]) rfl ?_
    obtain ⟨i1, i2⟩ := zic (b := b) (V := nv xs / nv ys + 1)
    refine .inr ⟨hY, A6, n6, c6, ?_, by omega, ?_, ((xb.trans (HBW.out.mono (by omega))).setCell (by simp) _).setCell (by simp) _⟩
    ·rw [HN.out, ← i1, zcy HNR.out]
    ·rw [HN.out, ← i2]; exact zc1 hr6 r0' r1'
   ·have HN := Lib.hid (zj6 (b := b) (X := nv xs) hY (.inr ⟨hc, by simpa using hbf⟩))
    have nb : (!b) = false := by simpa using hbf
    clear hc hbf
    go_wp2_with fail
    have hr1q : NR (w2.drewN q) (w2.drewN q).heap.size A1 n1 c1 (nw (nv xs / nv ys)) := ((hr1.below hb4).more hb4.size).drewN q
    refine (zch A1 n1 c1 b _ (w2.drewN q) hr1q).mono ?_
    rintro e w5 ⟨A6, n6, c6, rfl, hn6, hr6, hb6⟩
    have HBW := Lib.hid (hbW2.trans (((za4 (Below.refl _ _) q).trans hb6).mono hbW2.size))
    have hs5 := HBW.out.size
    have HNR := Lib.hid hr1
    have r0' := zap HBW.out (show w.heap.size + 1 < _ by omega) r0
    have r1' := zap HBW.out (show w.heap.size + 1 < _ by omega) r1
    have f0' := zau HBW.out (show w.heap.size + 1 < _ by omega) f0
    have f1' := zau HBW.out (show w.heap.size + 1 < _ by omega) f1
    obtain ⟨z0, z1⟩ := zcc r0' r1' (.bool (b && decide (0 < n1))) (.slice A6 n6 c6)
    go_wp2
    refine bodyPost_ret (v := .tuple #[.agg #[.bool (b && decide (0 < n1)), .slice A6 n6 c6], .int .i64 0]) (by simp [results, Tryz.results115, go_sem, z0, z1]) rfl ?_
    obtain ⟨i1, i2⟩ := zic (b := b) (V := nv xs / nv ys)
    refine .inr ⟨hY, A6, n6, c6, ?_, by omega, ?_, ((xb.trans (HBW.out.mono (by omega))).setCell (by simp) _).setCell (by simp) _⟩
    ·rw [HN.out, ← i1, zcy HNR.out]
    ·rw [HN.out, ← i2]; exact zc1 hr6 r0' r1'
  ·have HN := Lib.hid (zsq (b := b) (X := nv xs) hY (.inl hc))
   have HE := Lib.hid (zh7 hc)
   rw [HE.out]
   clear hc
   go_wp2_with fail
   refine (zi4 1 (w2.drewN q) (by omega)).mono ?_
   rintro e w3 ⟨A5, n5, c5, rfl, hn5, hr5, hb5⟩
   have hb5' : Below w2.heap.size w2 w3 := (za4 (Below.refl _ _) q).trans hb5
   have hbW3 := hbW2.trans (hb5'.mono hbW2.size)
   have hr1' := ((hr1.below hb4).more hb4.size).below hb5' |>.more hb5'.size
   go_wp2_with fail
   refine (zc5 _ _ _ _ _ _ _ _ w3 hr1' hr5 (by omega) (by omega)).mono ?_
   rw [nv_nw, nv_nw]
   rintro e w4 ⟨A7, n7, c7, rfl, hn7, hr7, hb7⟩
   have hbW4 := hbW3.trans (hb7.mono hbW3.size)
   have hs3 := hbW3.size
   have hs4 := hbW4.size
   have a04 : w4.cell? ⟨w.heap.size, 0, none⟩ = some (.bool b) := zap hbW4 (by omega) a0
   go_wp2_with fail
   refine (zch A7 n7 c7 b _ w4 hr7).mono ?_
   rintro e w5 ⟨A6, n6, c6, rfl, hn6, hr6, hb6⟩
   have HBW := Lib.hid (hbW4.trans (hb6.mono hbW4.size))
   have hs5 := HBW.out.size
   have HNR := Lib.hid hr7
   have r0' := zap HBW.out (show w.heap.size + 1 < _ by omega) r0
   have r1' := zap HBW.out (show w.heap.size + 1 < _ by omega) r1
   have f0' := zau HBW.out (show w.heap.size + 1 < _ by omega) f0
   have f1' := zau HBW.out (show w.heap.size + 1 < _ by omega) f1
   obtain ⟨z0, z1⟩ := zcc r0' r1' (.bool (b && decide (0 < n7))) (.slice A6 n6 c6)
   go_wp2
   refine bodyPost_ret (v := .tuple #[.agg #[.bool (b && decide (0 < n7)), .slice A6 n6 c6], .int .i64 0]) (by simp [results, Tryz.results115, go_sem, z0, z1]) rfl ?_
   obtain ⟨i1, i2⟩ := zic (b := b) (V := nv xs / nv ys + 1)
   refine .inr ⟨hY, A6, n6, c6, ?_, by omega, ?_, ((xb.trans (HBW.out.mono (by omega))).setCell (by simp) _).setCell (by simp) _⟩
   ·rw [HN.out, ← i1, zcy HNR.out]
   ·rw [HN.out, ← i2]; exact zc1 hr6 r0' r1'
def ExtN (a b : World) : Prop := Below a.heap.size a b
theorem ExtN.refl (a : World) : ExtN a a := Below.refl _ _
theorem ExtN.drewN {a b : World} (h : ExtN a b) (n : Nat) : ExtN a (b.drewN n) := za4 h n
def NXN (w : World) (A : Option Addr) (n c : Nat) (xs : List Nat) : Prop := NR w w.heap.size A n c xs
theorem addX {A A' : Option Addr} {n n' c c' : Nat} {xs ys : List Nat} {w : World} (h : NXN w A n c xs) (h' : NXN w A' n' c' ys) (hn : n ≤ 1000) (hn' : n' ≤ 1000) :
    Calls Tryz.prog 189 #[.slice A n c, .slice A' n' c'] w fun e w' => ∃ A2 n2 c2, e = .returned (.slice A2 n2 c2) ∧ n2 ≤ n + n' + 1 ∧ NXN w' A2 n2 c2 (nw (nv xs + nv ys)) ∧ ExtN w w' := zc5 A A' n n' c c' xs ys w h h' (by omega) (by omega)
theorem divX {A A' : Option Addr} {n n' c c' : Nat} {xs ys : List Nat} {w : World} (h : NXN w A n c xs) (h' : NXN w A' n' c' ys) (hn : n ≤ 1000) (hn' : n' ≤ 1000) :
    Calls Tryz.prog 188 #[.slice A n c, .slice A' n' c'] w (zmt w (n + 1) (nv xs) (nv ys)) := zsj A A' n n' c c' xs ys w h h' (by omega) (by omega)
theorem subX {A A' : Option Addr} {n n' c c' : Nat} {xs ys : List Nat} {w : World} (h : NXN w A n c xs) (h' : NXN w A' n' c' ys) (hn : n ≤ 100000) (hn' : n' ≤ 100000) :
    Calls Tryz.prog 267 #[.slice A n c, .slice A' n' c'] w (zs1 w n (nv xs) (nv ys)) := zk1 A A' n n' c c' xs ys w h h' (by omega) (by omega)
theorem cmpX {A A' : Option Addr} {n n' c c' : Nat} {xs ys : List Nat} {w : World} (h : NXN w A n c xs) (h' : NXN w A' n' c' ys) (hn : n ≤ 100000) (hn' : n' ≤ 100000) :
    Calls Tryz.prog 111 #[.slice A n c, .slice A' n' c'] w fun e w' => e = .returned (.int .i64 (cmpS (nv xs) (nv ys))) ∧ ExtN w w' := (zkf A A' n n' c c' _ xs ys w h h' (by omega) (by omega)).mono fun e w' ⟨he, q, hw⟩ => ⟨he, by rw [hw]; exact (ExtN.refl w).drewN q⟩
end Go.Proofs.YtopbibfpjgjalaaGreatDoor
