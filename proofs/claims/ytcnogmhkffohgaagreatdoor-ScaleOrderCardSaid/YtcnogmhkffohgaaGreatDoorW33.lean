/-
  What signed, Near, Sum and Times of package nat, and SameInt of the reference, answer for all whole numbers.
-/
import Derived.Test.YtcnogmhkffohgaaGreatDoorW19
import Derived.Deep.RegionHeld3
import Derived.Test.YtcnogmhkffohgaaGreatDoorW17
import Derived.Deep.QuietTactic
import Derived.BigQuiet
namespace Go.Proofs.YtcnogmhkffohgaaGreatDoor
open Go.RowKit
set_option linter.unusedVariables false
set_option maxRecDepth 100000

/-- What a call answers that makes a whole number: whether it is below 0, and its size, in new memory. -/
def IntPost (w : World) (N : Nat) (b : Bool) (ys : List Nat) (e : Ending) (w' : World) : Prop :=
  ∃ A n c, e = .returned (.agg #[.bool b, .slice A n c]) ∧ n ≤ N ∧ NR w' w'.heap.size A n c ys ∧ Below w.heap.size w w'
theorem bcell {W w1 : World} (hb : Below W.heap.size W w1) : (∀ b o, b < W.heap.size → w1.cell? ⟨b, o, none⟩ = W.cell? ⟨b, o, none⟩) ∧ (∀ b o, b < W.heap.size → w1.frozen? ⟨b, o, none⟩ = W.frozen? ⟨b, o, none⟩) :=
  ⟨fun b o h => hb.cell (p := ⟨b, o, none⟩) h, fun b o h => hb.frozen (p := ⟨b, o, none⟩) h⟩
theorem Rd.alloc {k : IntKind} {b : Nat} {w : World} {B : Nat} {A : Option Addr} {n c : Nat} {xs : List Nat} (h : Rd k b w B A n c xs) (hB : B ≤ w.heap.size) (o : Obj) : Rd k b (w.alloc o) B A n c xs := h.keep fun p hp => World.cell?_alloc_lt w o p (by omega)

theorem Rd.drew {k : IntKind} {b : Nat} {w : World} {A : Option Addr} {n c : Nat} {xs : List Nat} (h : Rd k b w w.heap.size A n c xs) : Rd k b w.drew w.drew.heap.size A n c xs := ⟨h.len, h.room, h.lt, h.cells⟩
theorem signed_any (A : Option Addr) (n c : Nat) (b : Bool) (ys : List Nat) (w : World) (h : NR w w.heap.size A n c ys) :
    Calls Tryz.prog 90 #[.bool b, .slice A n c] w (IntPost w n (b && decide (0 < n)) ys) := by
  cases b
  · go_enter Tryz.func90, Tryz.ntmps90
    go_wp2
    refine bodyPost_ret (v := .agg #[.bool false, .slice A n c]) (by simp [results, Tryz.results90, go_sem]) rfl ?_
    exact ⟨A, n, c, rfl, Nat.le_refl _, by simpa using (h.alloc (Nat.le_refl _) _).more (Nat.le_succ _), (Below.refl _ _).alloc (Nat.le_refl _) _⟩
  · by_cases hn : 0 < n
    · have H := Lib.hid (show (true && decide (0 < n)) = true by simpa using hn)
      go_enter Tryz.func90, Tryz.ntmps90
      go_wp2
      refine bodyPost_ret (v := .agg #[.bool true, .slice A n c]) (by simp [results, Tryz.results90, go_sem]) rfl ?_
      rw [H.out]
      exact ⟨A, n, c, rfl, Nat.le_refl _, by simpa using (h.alloc (Nat.le_refl _) _).more (Nat.le_succ _), (Below.refl _ _).alloc (Nat.le_refl _) _⟩
    · have H := Lib.hid (show (true && decide (0 < n)) = false by simpa using hn)
      obtain rfl : n = 0 := by omega
      go_enter Tryz.func90, Tryz.ntmps90
      go_wp2
      refine bodyPost_ret (v := .agg #[.bool false, .slice A 0 c]) (by simp [results, Tryz.results90, go_sem]) rfl ?_
      rw [H.out]
      exact ⟨A, 0, c, rfl, Nat.le_refl _, by simpa using (h.alloc (Nat.le_refl _) _).more (Nat.le_succ _), (Below.refl _ _).alloc (Nat.le_refl _) _⟩

/-- Two whole numbers that were handed in, each in a block of its own. -/
structure Box2 (w W : World) (b b' : Bool) (s s' : Value) : Prop where
  below : Below w.heap.size w W
  size : w.heap.size + 2 ≤ W.heap.size
  a0 : W.cell? ⟨w.heap.size, 0, none⟩ = some (.bool b)
  a1 : W.cell? ⟨w.heap.size, 1, none⟩ = some s
  b0 : W.cell? ⟨w.heap.size + 1, 0, none⟩ = some (.bool b')
  b1 : W.cell? ⟨w.heap.size + 1, 1, none⟩ = some s'
  free : ∀ o, W.frozen? ⟨w.heap.size, o, none⟩ = false ∧ W.frozen? ⟨w.heap.size + 1, o, none⟩ = false
/-- And a block for the answer behind them. -/
structure Box3 (w W : World) (b b' : Bool) (s s' r0 r1 : Value) : Prop extends Box2 w W b b' s s' where
  size3 : W.heap.size = w.heap.size + 3
  r0 : W.cell? ⟨w.heap.size + 2, 0, none⟩ = some r0
  r1 : W.cell? ⟨w.heap.size + 2, 1, none⟩ = some r1
  f0 : W.frozen? ⟨w.heap.size + 2, 0, none⟩ = false
  f1 : W.frozen? ⟨w.heap.size + 2, 1, none⟩ = false
theorem box2 (w : World) (b b' : Bool) (s s' : Value) (t : TypeId) : Box2 w ((w.alloc (.cells #[.bool b, s] t)).alloc (.cells #[.bool b', s'] t)) b b' s s' := by
  refine ⟨((Below.refl _ _).alloc (Nat.le_refl _) _).alloc (by simp) _, by simp, ?_, ?_, ?_, ?_, ?_⟩ <;> simp [go_sem]
theorem box3 (w : World) (b b' : Bool) (s s' r0 r1 : Value) (t : TypeId) : Box3 w (((w.alloc (.cells #[.bool b, s] t)).alloc (.cells #[.bool b', s'] t)).alloc (.cells #[r0, r1] t)) b b' s s' r0 r1 := by
  refine ⟨⟨(((Below.refl _ _).alloc (Nat.le_refl _) _).alloc (by simp) _).alloc (by simp; omega) _, by simp, ?_, ?_, ?_, ?_, ?_⟩, by simp, ?_, ?_, ?_, ?_⟩ <;> simp [go_sem]

theorem Box2.keep {w W W' : World} {b b' : Bool} {s s' : Value} (h : Box2 w W b b' s s') (hb : Below W.heap.size W W') : Box2 w W' b b' s s' := by
  have := h.size
  have z := hb.size
  exact ⟨h.below.trans (hb.mono (by omega)), by omega, (hb.cell (p := ⟨w.heap.size, 0, none⟩) (show w.heap.size < _ by omega)).trans h.a0, (hb.cell (p := ⟨w.heap.size, 1, none⟩) (show w.heap.size < _ by omega)).trans h.a1, (hb.cell (p := ⟨w.heap.size + 1, 0, none⟩) (show w.heap.size + 1 < _ by omega)).trans h.b0, (hb.cell (p := ⟨w.heap.size + 1, 1, none⟩) (show w.heap.size + 1 < _ by omega)).trans h.b1, fun o => ⟨(hb.frozen (p := ⟨w.heap.size, o, none⟩) (show w.heap.size < _ by omega)).trans (h.free o).1, (hb.frozen (p := ⟨w.heap.size + 1, o, none⟩) (show w.heap.size + 1 < _ by omega)).trans (h.free o).2⟩⟩
theorem Box2.drew {w W : World} {b b' : Bool} {s s' : Value} (h : Box2 w W b b' s s') : Box2 w W.drew b b' s s' := ⟨h.below.drew, h.size, h.a0, h.a1, h.b0, h.b1, h.free⟩
/-- A cell of a block that was there stays. -/
theorem kept_cellN {W W' : World} {g o : Nat} {v : Value} (hb : Below W.heap.size W W') (hg : g < W.heap.size) (h : W.cell? ⟨g, o, none⟩ = some v) : W'.cell? ⟨g, o, none⟩ = some v := (hb.cell (p := ⟨g, o, none⟩) hg).trans h
theorem kept_freeN {W W' : World} {g o : Nat} (hb : Below W.heap.size W W') (hg : g < W.heap.size) (h : W.frozen? ⟨g, o, none⟩ = false) : W'.frozen? ⟨g, o, none⟩ = false := (hb.frozen (p := ⟨g, o, none⟩) hg).trans h
/-- Words stay where a cell is written that holds none. -/
theorem Rd.aside {k : IntKind} {b : Nat} {w : World} {B : Nat} {A : Option Addr} {n c : Nat} {xs : List Nat} (h : Rd k b w B A n c xs) {p : Addr} {v : Value} (hp : w.cell? p = some v) (hv : ∀ x : Int, v ≠ .int k x) (u : Value) : Rd k b (w.setCell p u) B A n c xs := by
  refine ⟨h.len, h.room, h.lt, fun hn => ?_⟩
  obtain ⟨ad, rfl, hb, hc⟩ := h.cells hn
  refine ⟨ad, rfl, hb, fun j x hx => ?_⟩
  rw [World.cell?_setCell_other w p _ u (fun e => ?_)]
  · exact hc j x hx
  · have := hc j x hx
    first | (rw [e] at this; rw [hp] at this; exact hv _ (Option.some.inj this)) | (rw [← e] at this; rw [hp] at this; exact hv _ (Option.some.inj this))
theorem rd_answer {w : World} {A : Option Addr} {n c g : Nat} {xs : List Nat} {b0 b1 : Bool} {A0 : Option Addr} {n0 c0 : Nat} {s : Value} (h : NR w w.heap.size A n c xs) (h0 : w.cell? ⟨g, 0, none⟩ = some (.bool b0)) (h1 : w.cell? ⟨g, 1, none⟩ = some (.slice A0 n0 c0)) :
    NR ((w.setCell ⟨g, 0, none⟩ (.bool b1)).setCell ⟨g, 1, none⟩ s) ((w.setCell ⟨g, 0, none⟩ (.bool b1)).setCell ⟨g, 1, none⟩ s).heap.size A n c xs := by
  have e : ((w.setCell ⟨g, 0, none⟩ (.bool b1)).setCell ⟨g, 1, none⟩ s).heap.size = w.heap.size := by simp [World.setCell]
  rw [e]
  refine (h.aside h0 (fun _ => by simp) _).aside (v := .slice A0 n0 c0) ?_ (fun _ => by simp) _
  rw [World.cell?_setCell_other _ _ _ _ (by simp)]
  exact h1
/-- A number has words just if it isn't 0. -/
theorem pos_words {w : World} {B : Nat} {A : Option Addr} {n c V : Nat} (h : NR w B A n c (nw V)) : decide (0 < n) = decide (0 < V) := by
  have hl := h.len
  rcases Nat.eq_zero_or_pos V with h0 | h0
  · subst h0
    have : n = 0 := hl.symm
    subst this
    rfl
  · have h1 : 0 < (nw V).length := (dg_len W64_two V h0).1
    rw [hl] at h1
    rw [decide_eq_true h0, decide_eq_true h1]
theorem ans_cells {w : World} {g : Nat} {x y : Value} (h0 : w.cell? ⟨g, 0, none⟩ = some x) (h1 : w.cell? ⟨g, 1, none⟩ = some y) (u v : Value) :
    ((w.setCell ⟨g, 0, none⟩ u).setCell ⟨g, 1, none⟩ v).cell? ⟨g, 0, none⟩ = some u ∧ ((w.setCell ⟨g, 0, none⟩ u).setCell ⟨g, 1, none⟩ v).cell? ⟨g, 1, none⟩ = some v := by
  have e : (w.setCell ⟨g, 0, none⟩ u).cell? ⟨g, 1, none⟩ = some y := by rw [World.cell?_setCell_other _ _ _ _ (by simp)]; exact h1
  exact ⟨by rw [World.cell?_setCell_other _ _ _ _ (by simp)]; exact World.cell?_setCell_same _ _ _ h0, World.cell?_setCell_same _ _ _ e⟩
set_option maxHeartbeats 1000000 in
theorem times_anyN (A A' : Option Addr) (n n' c c' : Nat) (b b' : Bool) (xs ys : List Nat) (w : World) (h : NR w w.heap.size A n c xs) (h' : NR w w.heap.size A' n' c' ys) (hn : n ≤ 1000) (hn' : n' ≤ 1000) :
    Calls Tryz.prog 52 #[.agg #[.bool b, .slice A n c], .agg #[.bool b', .slice A' n' c']] w (IntPost w (n + n') ((b != b') && decide (0 < nv xs * nv ys)) (nw (nv xs * nv ys))) := by
  have hx := box3 w b b' (.slice A n c) (.slice A' n' c') (.bool false) (.slice none 0 0) 54
  have HX := Lib.hid hx
  clear hx
  go_enter Tryz.func52, Tryz.ntmps52
  go_wp2
  generalize ((w.alloc (Obj.cells #[Value.bool b, Value.slice A n c] 54)).alloc (Obj.cells #[Value.bool b', Value.slice A' n' c'] 54)).alloc (Obj.cells #[Value.bool false, Value.slice none 0 0] 54) = W at *
  have HB := HX.out.toBox2
  obtain ⟨⟨xb, xs0, a0, a1, b0, b1, fr⟩, x3, r0, r1, f0, f1⟩ := HX.out
  have X3 := Lib.hid x3
  have hR := (h.below xb).more (show w.heap.size ≤ W.heap.size by omega)
  have hR' := (h'.below xb).more (show w.heap.size ≤ W.heap.size by omega)
  have hz3 : w.heap.size + 3 ≤ W.heap.size := by omega
  have ne1 : ¬ (w.heap.size + 1 + 1 = w.heap.size) := by omega
  have ne2 : ¬ (w.heap.size = w.heap.size + 1 + 1) := by omega
  clear x3
  go_region_held3 (fun w' => w'.cell? ⟨w.heap.size, 0, none⟩ = some (.bool b) ∧ w'.cell? ⟨w.heap.size + 1, 0, none⟩ = some (.bool b') ∧ w'.cell? ⟨w.heap.size, 1, none⟩ = some (.slice A n c) ∧ w'.cell? ⟨w.heap.size + 1, 1, none⟩ = some (.slice A' n' c')) (go_keep)
    (first
      | (go_at_call 72; refine (natMul_any A A' n n' c c' xs ys W.drew hR.drew hR'.drew (by omega) (by omega)).mono ?_; rintro e w1 ⟨A2, n2, c2, rfl, hn2, hr2, hb2⟩; obtain ⟨_, _, _, _, _, _, _⟩ := HB.drew.keep hb2; have hs2 : W.heap.size ≤ w1.heap.size := hb2.size)
      | (go_at_call 90; refine (signed_any A2 n2 c2 _ _ _ hr2).mono ?_; rintro e w2 ⟨A3, n3, c3, rfl, hn3, hr3, hb3⟩; obtain ⟨_, _, _, _, _, _, _⟩ := (HB.drew.keep hb2).keep hb3; have hs3 := hb3.size; have r0' := kept_cellN hb3 (by omega) (kept_cellN hb2 (show w.heap.size + 2 < W.heap.size by omega) r0); have r1' := kept_cellN hb3 (by omega) (kept_cellN hb2 (show w.heap.size + 2 < W.heap.size by omega) r1); have f0' := kept_freeN hb3 (by omega) (kept_freeN hb2 (show w.heap.size + 2 < W.heap.size by omega) f0); have f1' := kept_freeN hb3 (by omega) (kept_freeN hb2 (show w.heap.size + 2 < W.heap.size by omega) f1)))
  go_wp2
  have r0'' : w2.cell? ⟨w.heap.size + 1 + 1, 0, none⟩ = some (.bool false) := r0'
  have r1'' : w2.cell? ⟨w.heap.size + 1 + 1, 1, none⟩ = some (.slice none 0 0) := r1'
  obtain ⟨z0, z1⟩ := ans_cells r0'' r1'' (.bool ((!b == b') && decide (0 < n2))) (.slice A3 n3 c3)
  refine bodyPost_ret (v := .agg #[.bool ((!b == b') && decide (0 < n2)), .slice A3 n3 c3]) (by simp [results, Tryz.results52, go_sem, z0, z1]) rfl ?_
  refine ⟨A3, n3, c3, ?_, by omega, rd_answer hr3 r0' r1', ?_⟩
  · rw [pos_words hr2]; rfl
  · exact ((xb.trans ((Below.drew (Below.refl _ W)).trans (hb2.mono (show W.heap.size ≤ W.drew.heap.size from Nat.le_refl _)) |>.mono (by omega))).trans (hb3.mono (by omega))).setCell (by simp; omega) _ |>.setCell (by simp; omega) _
end Go.Proofs.YtcnogmhkffohgaaGreatDoor

/-
  What Sum and Times of package nat answer for all whole numbers, as whole numbers.
-/
namespace Go.Proofs.YtcnogmhkffohgaaGreatDoor
open Go.RowKit
set_option linter.unusedVariables false
set_option maxRecDepth 100000

/-- A whole number by whether it is below 0, and its size. -/
def iv (b : Bool) (X : Nat) : Int := if b then -(X : Int) else X
/-- What a call answers that makes a whole number. -/
def IntZ (w : World) (N : Nat) (z : Int) (e : Ending) (w' : World) : Prop := IntPost w N (decide (z < 0)) (nw z.natAbs) e w'
theorem iv_same {b : Bool} {X Y : Nat} : (b && decide (0 < X + Y)) = decide (iv b X + iv b Y < 0) ∧ X + Y = (iv b X + iv b Y).natAbs := by
  cases b <;> simp [iv] <;> omega
theorem iv_ge {b b' : Bool} {X Y : Nat} (hb : b ≠ b') (h : Y ≤ X) : (b && decide (0 < X - Y)) = decide (iv b X + iv b' Y < 0) ∧ X - Y = (iv b X + iv b' Y).natAbs := by
  cases b <;> cases b' <;> simp [iv] at hb ⊢ <;> omega
theorem iv_lt {b b' : Bool} {X Y : Nat} (hb : b ≠ b') (h : X < Y) : (b' && decide (0 < Y - X)) = decide (iv b X + iv b' Y < 0) ∧ Y - X = (iv b X + iv b' Y).natAbs := by
  cases b <;> cases b' <;> simp [iv] at hb ⊢ <;> omega
theorem iv_mul {b b' : Bool} {X Y : Nat} : ((b != b') && decide (0 < X * Y)) = decide (iv b X * iv b' Y < 0) ∧ X * Y = (iv b X * iv b' Y).natAbs := by
  have e : ((X * Y : Nat) : Int) = (X : Int) * Y := by simp
  cases b <;> cases b' <;> simp [iv, Int.neg_mul, Int.mul_neg] <;> rw [← e] <;> omega

theorem timesZ_any (A A' : Option Addr) (n n' c c' : Nat) (b b' : Bool) (xs ys : List Nat) (w : World) (h : NR w w.heap.size A n c xs) (h' : NR w w.heap.size A' n' c' ys) (hn : n ≤ 1000) (hn' : n' ≤ 1000) :
    Calls Tryz.prog 52 #[.agg #[.bool b, .slice A n c], .agg #[.bool b', .slice A' n' c']] w (IntZ w (n + n') (iv b (nv xs) * iv b' (nv ys))) := by
  have := times_anyN A A' n n' c c' b b' xs ys w h h' hn hn'
  obtain ⟨e1, e2⟩ := iv_mul (b := b) (b' := b') (X := nv xs) (Y := nv ys)
  rw [e1] at this
  unfold IntZ
  rw [← e2]
  exact this

theorem Box3.drewN {w W : World} {b b' : Bool} {s s' r0 r1 : Value} (h : Box3 w W b b' s s' r0 r1) (q : Nat) : Box3 w (W.drewN q) b b' s s' r0 r1 :=
  ⟨⟨below_drewNN h.below q, h.size, h.a0, h.a1, h.b0, h.b1, h.free⟩, h.size3, h.r0, h.r1, h.f0, h.f1⟩
theorem set_farN {w : World} {p q : Addr} {u : Value} (h : p ≠ q) : (w.setCell p u).cell? q = w.cell? q := World.cell?_setCell_other _ _ _ _ h
theorem set_free {w : World} {p q : Addr} {u : Value} : (w.setCell p u).frozen? q = w.frozen? q := by simp
/-- The two numbers exchanged. -/
def swapped (w W : World) (b b' : Bool) (s s' : Value) : World :=
  (((W.setCell ⟨w.heap.size, 0, none⟩ (.bool b')).setCell ⟨w.heap.size, 1, none⟩ s').setCell ⟨w.heap.size + 1, 0, none⟩ (.bool b)).setCell ⟨w.heap.size + 1, 1, none⟩ s

theorem Box3.swap {w W : World} {b b' : Bool} {A A' : Option Addr} {n n' c c' : Nat} {r0 r1 : Value} (h : Box3 w W b b' (.slice A n c) (.slice A' n' c') r0 r1) :
    Box3 w (swapped w W b b' (.slice A n c) (.slice A' n' c')) b' b (.slice A' n' c') (.slice A n c) r0 r1 := by
  have hs := h.size
  have e : (swapped w W b b' (.slice A n c) (.slice A' n' c')).heap.size = W.heap.size := by simp [swapped, World.setCell]
  have ne1 : ¬ (w.heap.size + 1 = w.heap.size) := by omega
  have ne2 : ¬ (w.heap.size = w.heap.size + 1) := by omega
  have ne3 : ¬ (w.heap.size = w.heap.size + 2) := by omega
  refine ⟨⟨(((h.below.setCell (by simp) _).setCell (by simp) _).setCell (by simp) _).setCell (by simp) _, by rw [e]; exact hs, ?_, ?_, ?_, ?_, ?_⟩, by rw [e]; exact h.size3, ?_, ?_, ?_, ?_⟩
  all_goals unfold swapped
  · rw [set_farN (by simp), set_farN (by simp), set_farN (by simp)]; exact World.cell?_setCell_same _ _ _ h.a0
  · rw [set_farN (by simp), set_farN (by simp)]; exact World.cell?_setCell_same _ _ _ (by rw [set_farN (by simp)]; exact h.a1)
  · rw [set_farN (by simp)]; exact World.cell?_setCell_same _ _ _ (by rw [set_farN (by simp), set_farN (by simp)]; exact h.b0)
  · exact World.cell?_setCell_same _ _ _ (by rw [set_farN (by simp), set_farN (by simp), set_farN (by simp)]; exact h.b1)
  · intro o
    simp only [set_free]
    exact h.free o
  · rw [set_farN (by simp), set_farN (by simp), set_farN (by simp), set_farN (by simp)]; exact h.r0
  · rw [set_farN (by simp), set_farN (by simp), set_farN (by simp), set_farN (by simp)]; exact h.r1
  · simp only [set_free]; exact h.f0
  · simp only [set_free]; exact h.f1
theorem Rd.swap {w W : World} {b b' : Bool} {A A' : Option Addr} {n n' c c' : Nat} {r0 r1 : Value} (h : Box3 w W b b' (.slice A n c) (.slice A' n' c') r0 r1) {B : Nat} {A2 : Option Addr} {n2 c2 : Nat} {xs : List Nat} (hr : NR W B A2 n2 c2 xs) :
    NR (swapped w W b b' (.slice A n c) (.slice A' n' c')) B A2 n2 c2 xs := by
  have ne2 : ¬ (w.heap.size = w.heap.size + 1) := by omega
  unfold swapped
  refine (((hr.aside h.a0 (fun _ => by simp) _).aside (v := .slice A n c) ?_ (fun _ => by simp) _).aside (v := .bool b') ?_ (fun _ => by simp) _).aside (v := .slice A' n' c') ?_ (fun _ => by simp) _
  · rw [set_farN (by simp)]; exact h.a1
  · rw [set_farN (by simp), set_farN (by simp)]; exact h.b0
  · rw [set_farN (by simp), set_farN (by simp), set_farN (by simp)]; exact h.b1
theorem less_trim {A A' : Option Addr} {m m' X Y : Nat} {w : World} (h : NR w w.heap.size A m m (nw X)) (h' : NR w w.heap.size A' m' m' (nw Y)) (hm : m ≤ 1000000) (hv : Y ≤ X) :
    Calls Tryz.prog 150 #[.slice A m m, .slice A' m' m'] w (NatPost w m (nw (X - Y))) := by
  have hle : m' ≤ m := by
    rw [← h.len, ← h'.len]
    rcases Nat.lt_or_ge (nw X).length (nw Y).length with h0 | h0
    · have := dg_len_lt W64_two h0
      omega
    · exact h0
  have := less_any A A' m m' m m' (nw X) (nw Y) w h h' hm hle (by rw [nv_nw, nv_nw]; exact hv)
  rwa [nv_nw, nv_nw] at this

end Go.Proofs.YtcnogmhkffohgaaGreatDoor

/-
  What Near of package nat answers for all whole numbers and naturals.
-/
namespace Go.Proofs.YtcnogmhkffohgaaGreatDoor
open Go.RowKit
set_option linter.unusedVariables false
set_option maxRecDepth 100000

/-- The nearest whole number to a quotient, a half goes to the greater one. -/
def nearZ (b : Bool) (X Y : Nat) : Int := (2 * iv b X + Y) / (2 * Y)
theorem near_up {b : Bool} {X Y : Nat} (hY : 0 < Y) (h : Y < X % Y + X % Y ∨ (X % Y + X % Y = Y ∧ b = false)) : nearZ b X Y = iv b (X / Y + 1) := by
  have e := Nat.mod_add_div X Y
  have hr := Nat.mod_lt X hY
  generalize X % Y = r at *
  generalize X / Y = q at *
  unfold nearZ
  have e' : (X : Int) = r + Y * q := by rw [← e]; simp
  cases b
  · simp only [iv, Bool.false_eq_true, if_false]
    rw [e', show (2 * ((r : Int) + Y * q) + Y) = (2 * r - Y) + (2 * Y) * (q + 1) by rw [Int.mul_add, Int.mul_add, Int.mul_assoc]; omega, Int.add_mul_ediv_left _ _ (by omega), Int.ediv_eq_zero_of_lt (by omega) (by omega)]
    omega
  · simp only [iv, if_true]
    have h1 : Y < r + r := by rcases h with h | h; exact h; simp at h
    rw [e', show (2 * -((r : Int) + Y * q) + Y) = (3 * Y - 2 * r) + (2 * Y) * -(q + 1) by rw [Int.mul_neg, Int.mul_neg, Int.mul_add, Int.mul_add, Int.mul_assoc]; omega, Int.add_mul_ediv_left _ _ (by omega), Int.ediv_eq_zero_of_lt (by omega) (by omega)]
    omega
theorem near_down {b : Bool} {X Y : Nat} (hY : 0 < Y) (h : X % Y + X % Y < Y ∨ (X % Y + X % Y = Y ∧ b = true)) : nearZ b X Y = iv b (X / Y) := by
  have e := Nat.mod_add_div X Y
  have hr := Nat.mod_lt X hY
  generalize X % Y = r at *
  generalize X / Y = q at *
  unfold nearZ
  have e' : (X : Int) = r + Y * q := by rw [← e]; simp
  cases b
  · simp only [iv, Bool.false_eq_true, if_false]
    have h1 : r + r < Y := by rcases h with h | h; exact h; simp at h
    rw [e', show (2 * ((r : Int) + Y * q) + Y) = (2 * r + Y) + (2 * Y) * q by rw [Int.mul_add, Int.mul_assoc]; omega, Int.add_mul_ediv_left _ _ (by omega), Int.ediv_eq_zero_of_lt (by omega) (by omega)]
    omega
  · simp only [iv, if_true]
    rw [e', show (2 * -((r : Int) + Y * q) + Y) = (Y - 2 * r) + (2 * Y) * -q by rw [Int.mul_neg, Int.mul_neg, Int.mul_add, Int.mul_assoc]; omega, Int.add_mul_ediv_left _ _ (by omega), Int.ediv_eq_zero_of_lt (by omega) (by omega)]
    omega
theorem iv_flag {b : Bool} {V : Nat} : (b && decide (0 < V)) = decide (iv b V < 0) ∧ V = (iv b V).natAbs := by
  cases b <;> simp [iv]

/-- What Near answers. -/
def NearPost (w : World) (N : Nat) (b : Bool) (X Y : Nat) (e : Ending) (w' : World) : Prop :=
  (Y = 0 ∧ e = .returned (.tuple #[.agg #[.bool false, .slice none 0 0], .int .i64 1]) ∧ Below w.heap.size w w') ∨
  (0 < Y ∧ ∃ A n c, e = .returned (.tuple #[.agg #[.bool (decide (nearZ b X Y < 0)), .slice A n c], .int .i64 0]) ∧ n ≤ N ∧ NR w' w'.heap.size A n c (nw (nearZ b X Y).natAbs) ∧ Below w.heap.size w w')
/-- A whole number that was handed in, and a block for the answer. -/
structure Box1 (w W : World) (b : Bool) (s : Value) : Prop where
  below : Below w.heap.size w W
  size : W.heap.size = w.heap.size + 2
  a0 : W.cell? ⟨w.heap.size, 0, none⟩ = some (.bool b)
  a1 : W.cell? ⟨w.heap.size, 1, none⟩ = some s
  r0 : W.cell? ⟨w.heap.size + 1, 0, none⟩ = some (.bool false)
  r1 : W.cell? ⟨w.heap.size + 1, 1, none⟩ = some (.slice none 0 0)
  f0 : W.frozen? ⟨w.heap.size + 1, 0, none⟩ = false
  f1 : W.frozen? ⟨w.heap.size + 1, 1, none⟩ = false
theorem box1 (w : World) (b : Bool) (s : Value) (t : TypeId) : Box1 w ((w.alloc (.cells #[.bool b, s] t)).alloc (.cells #[.bool false, .slice none 0 0] t)) b s := by
  refine ⟨((Below.refl _ _).alloc (Nat.le_refl _) _).alloc (by simp) _, by simp, ?_, ?_, ?_, ?_, ?_, ?_⟩ <;> simp [go_sem]

set_option maxHeartbeats 4000000 in
theorem near_any (A A' : Option Addr) (n n' c c' : Nat) (b : Bool) (xs ys : List Nat) (w : World) (h : NR w w.heap.size A n c xs) (h' : NR w w.heap.size A' n' c' ys) (hn : n ≤ 1000) (hn' : n' ≤ 1000) :
    Calls Tryz.prog 51 #[.agg #[.bool b, .slice A n c], .slice A' n' c'] w (NearPost w (n + 4) b (nv xs) (nv ys)) := by
  have HX := Lib.hid (box1 w b (.slice A n c) 54)
  go_enter Tryz.func51, Tryz.ntmps51
  go_wp2_with fail
  generalize (w.alloc (Obj.cells #[Value.bool b, Value.slice A n c] 54)).alloc (Obj.cells #[Value.bool false, Value.slice none 0 0] 54) = W at *
  obtain ⟨xb, x3, a0, a1, r0, r1, f0, f1⟩ := HX.out
  have X3 := Lib.hid x3
  have hz : w.heap.size + 2 ≤ W.heap.size := by omega
  clear x3
  have hRa := (h.below xb).more (show w.heap.size ≤ W.heap.size by omega)
  have hRb := (h'.below xb).more (show w.heap.size ≤ W.heap.size by omega)
  refine (div_any A A' n n' c c' xs ys W hRa hRb (by omega) (by omega)).mono ?_
  rintro e w1 (⟨hY, rfl, hb1⟩ | ⟨hY, A1, n1, c1, A2, n2, c2, rfl, hn1, hn2, hr1, hr2, hb1⟩)
  · have HY := Lib.hid hY
    clear hY
    have r0' := kept_cellN hb1 (show w.heap.size + 1 < _ by omega) r0
    have r1' := kept_cellN hb1 (show w.heap.size + 1 < _ by omega) r1
    have f0' := kept_freeN hb1 (show w.heap.size + 1 < _ by omega) f0
    have f1' := kept_freeN hb1 (show w.heap.size + 1 < _ by omega) f1
    obtain ⟨z0, z1⟩ := ans_cells r0' r1' (.bool false) (.slice none 0 0)
    go_wp2
    refine bodyPost_ret (v := .tuple #[.agg #[.bool false, .slice none 0 0], .int .i64 1]) (by simp [results, Tryz.results51, go_sem, z0, z1]) rfl ?_
    exact .inl ⟨HY.out, rfl, ((xb.trans (hb1.mono (by omega))).setCell (by simp) _).setCell (by simp) _⟩
  · have hbW1 := hb1
    have hs1 := hb1.size
    go_wp2_with fail
    refine (natAdd_any _ _ _ _ _ _ _ _ w1 hr2 hr2 (by omega) (by omega)).mono ?_
    rw [nv_nw]
    rintro e w2 ⟨A4, n4, c4, rfl, hn4, hr4, hb4⟩
    have hbW2 := hbW1.trans (hb4.mono hbW1.size)
    have hrb2 := (hRb.below (hbW2.mono (Nat.le_refl _))).more hbW2.size
    go_wp2_with fail
    refine (cmp_any _ _ _ _ _ _ _ _ ys w2 hr4 hrb2 (by omega) (by omega)).mono ?_
    rw [nv_nw]
    rintro e w' ⟨rfl, q, rfl⟩
    have a0q : w2.cell? ⟨w.heap.size, 0, none⟩ = some (.bool b) := kept_cellN hbW2 (by omega) a0
    have hs2 := hbW2.size
    rcases Nat.lt_trichotomy (nv xs % nv ys + nv xs % nv ys) (nv ys) with hc | hc | hc
    · have HN := Lib.hid (near_down (b := b) (X := nv xs) hY (.inl hc))
      have HE := Lib.hid (cmpS_lt hc)
      rw [HE.out]
      clear hc
      go_wp2_with fail
      have hr1q : NR (w2.drewN q) (w2.drewN q).heap.size A1 n1 c1 (nw (nv xs / nv ys)) := ((hr1.below hb4).more hb4.size).drewN q
      refine (signed_any A1 n1 c1 b _ (w2.drewN q) hr1q).mono ?_
      rintro e w5 ⟨A6, n6, c6, rfl, hn6, hr6, hb6⟩
      have HBW := Lib.hid (hbW2.trans (((below_drewNN (Below.refl _ _) q).trans hb6).mono hbW2.size))
      have hs5 := HBW.out.size
      have HNR := Lib.hid hr1
      have r0' := kept_cellN HBW.out (show w.heap.size + 1 < _ by omega) r0
      have r1' := kept_cellN HBW.out (show w.heap.size + 1 < _ by omega) r1
      have f0' := kept_freeN HBW.out (show w.heap.size + 1 < _ by omega) f0
      have f1' := kept_freeN HBW.out (show w.heap.size + 1 < _ by omega) f1
      obtain ⟨z0, z1⟩ := ans_cells r0' r1' (.bool (b && decide (0 < n1))) (.slice A6 n6 c6)
      go_wp2
      refine bodyPost_ret (v := .tuple #[.agg #[.bool (b && decide (0 < n1)), .slice A6 n6 c6], .int .i64 0]) (by simp [results, Tryz.results51, go_sem, z0, z1]) rfl ?_
      obtain ⟨i1, i2⟩ := iv_flag (b := b) (V := nv xs / nv ys)
      refine .inr ⟨hY, A6, n6, c6, ?_, by omega, ?_, ((xb.trans (HBW.out.mono (by omega))).setCell (by simp) _).setCell (by simp) _⟩
      · rw [HN.out, ← i1, pos_words HNR.out]
      · rw [HN.out, ← i2]; exact rd_answer hr6 r0' r1'
    · have HE := Lib.hid (cmpS_eq hc)
      rw [HE.out]
      by_cases hbf : b = false
      · have HN := Lib.hid (near_up (b := b) (X := nv xs) hY (.inr ⟨hc, hbf⟩))
        have nb : (!b) = true := by simp [hbf]
        clear hc hbf
        go_wp2_with fail
        refine (natOf_any 1 (w2.drewN q) (by omega)).mono ?_
        rintro e w3 ⟨A5, n5, c5, rfl, hn5, hr5, hb5⟩
        have hb5' : Below w2.heap.size w2 w3 := (below_drewNN (Below.refl _ _) q).trans hb5
        have hbW3 := hbW2.trans (hb5'.mono hbW2.size)
        have hr1' := ((hr1.below hb4).more hb4.size).below hb5' |>.more hb5'.size
        go_wp2_with fail
        refine (natAdd_any _ _ _ _ _ _ _ _ w3 hr1' hr5 (by omega) (by omega)).mono ?_
        rw [nv_nw, nv_nw]
        rintro e w4 ⟨A7, n7, c7, rfl, hn7, hr7, hb7⟩
        have hbW4 := hbW3.trans (hb7.mono hbW3.size)
        have hs3 := hbW3.size
        have hs4 := hbW4.size
        have a04 : w4.cell? ⟨w.heap.size, 0, none⟩ = some (.bool b) := kept_cellN hbW4 (by omega) a0
        go_wp2_with fail
        refine (signed_any A7 n7 c7 b _ w4 hr7).mono ?_
        rintro e w5 ⟨A6, n6, c6, rfl, hn6, hr6, hb6⟩
        have HBW := Lib.hid (hbW4.trans (hb6.mono hbW4.size))
        have hs5 := HBW.out.size
        have HNR := Lib.hid hr7
        have r0' := kept_cellN HBW.out (show w.heap.size + 1 < _ by omega) r0
        have r1' := kept_cellN HBW.out (show w.heap.size + 1 < _ by omega) r1
        have f0' := kept_freeN HBW.out (show w.heap.size + 1 < _ by omega) f0
        have f1' := kept_freeN HBW.out (show w.heap.size + 1 < _ by omega) f1
        obtain ⟨z0, z1⟩ := ans_cells r0' r1' (.bool (b && decide (0 < n7))) (.slice A6 n6 c6)
        go_wp2
        refine bodyPost_ret (v := .tuple #[.agg #[.bool (b && decide (0 < n7)), .slice A6 n6 c6], .int .i64 0]) (by simp [results, Tryz.results51, go_sem, z0, z1]) rfl ?_
        obtain ⟨i1, i2⟩ := iv_flag (b := b) (V := nv xs / nv ys + 1)
        refine .inr ⟨hY, A6, n6, c6, ?_, by omega, ?_, ((xb.trans (HBW.out.mono (by omega))).setCell (by simp) _).setCell (by simp) _⟩
        · rw [HN.out, ← i1, pos_words HNR.out]
        · rw [HN.out, ← i2]; exact rd_answer hr6 r0' r1'
      · have HN := Lib.hid (near_down (b := b) (X := nv xs) hY (.inr ⟨hc, by simpa using hbf⟩))
        have nb : (!b) = false := by simpa using hbf
        clear hc hbf
        go_wp2_with fail
        have hr1q : NR (w2.drewN q) (w2.drewN q).heap.size A1 n1 c1 (nw (nv xs / nv ys)) := ((hr1.below hb4).more hb4.size).drewN q
        refine (signed_any A1 n1 c1 b _ (w2.drewN q) hr1q).mono ?_
        rintro e w5 ⟨A6, n6, c6, rfl, hn6, hr6, hb6⟩
        have HBW := Lib.hid (hbW2.trans (((below_drewNN (Below.refl _ _) q).trans hb6).mono hbW2.size))
        have hs5 := HBW.out.size
        have HNR := Lib.hid hr1
        have r0' := kept_cellN HBW.out (show w.heap.size + 1 < _ by omega) r0
        have r1' := kept_cellN HBW.out (show w.heap.size + 1 < _ by omega) r1
        have f0' := kept_freeN HBW.out (show w.heap.size + 1 < _ by omega) f0
        have f1' := kept_freeN HBW.out (show w.heap.size + 1 < _ by omega) f1
        obtain ⟨z0, z1⟩ := ans_cells r0' r1' (.bool (b && decide (0 < n1))) (.slice A6 n6 c6)
        go_wp2
        refine bodyPost_ret (v := .tuple #[.agg #[.bool (b && decide (0 < n1)), .slice A6 n6 c6], .int .i64 0]) (by simp [results, Tryz.results51, go_sem, z0, z1]) rfl ?_
        obtain ⟨i1, i2⟩ := iv_flag (b := b) (V := nv xs / nv ys)
        refine .inr ⟨hY, A6, n6, c6, ?_, by omega, ?_, ((xb.trans (HBW.out.mono (by omega))).setCell (by simp) _).setCell (by simp) _⟩
        · rw [HN.out, ← i1, pos_words HNR.out]
        · rw [HN.out, ← i2]; exact rd_answer hr6 r0' r1'
    · have HN := Lib.hid (near_up (b := b) (X := nv xs) hY (.inl hc))
      have HE := Lib.hid (cmpS_gt hc)
      rw [HE.out]
      clear hc
      go_wp2_with fail
      refine (natOf_any 1 (w2.drewN q) (by omega)).mono ?_
      rintro e w3 ⟨A5, n5, c5, rfl, hn5, hr5, hb5⟩
      have hb5' : Below w2.heap.size w2 w3 := (below_drewNN (Below.refl _ _) q).trans hb5
      have hbW3 := hbW2.trans (hb5'.mono hbW2.size)
      have hr1' := ((hr1.below hb4).more hb4.size).below hb5' |>.more hb5'.size
      go_wp2_with fail
      refine (natAdd_any _ _ _ _ _ _ _ _ w3 hr1' hr5 (by omega) (by omega)).mono ?_
      rw [nv_nw, nv_nw]
      rintro e w4 ⟨A7, n7, c7, rfl, hn7, hr7, hb7⟩
      have hbW4 := hbW3.trans (hb7.mono hbW3.size)
      have hs3 := hbW3.size
      have hs4 := hbW4.size
      have a04 : w4.cell? ⟨w.heap.size, 0, none⟩ = some (.bool b) := kept_cellN hbW4 (by omega) a0
      go_wp2_with fail
      refine (signed_any A7 n7 c7 b _ w4 hr7).mono ?_
      rintro e w5 ⟨A6, n6, c6, rfl, hn6, hr6, hb6⟩
      have HBW := Lib.hid (hbW4.trans (hb6.mono hbW4.size))
      have hs5 := HBW.out.size
      have HNR := Lib.hid hr7
      have r0' := kept_cellN HBW.out (show w.heap.size + 1 < _ by omega) r0
      have r1' := kept_cellN HBW.out (show w.heap.size + 1 < _ by omega) r1
      have f0' := kept_freeN HBW.out (show w.heap.size + 1 < _ by omega) f0
      have f1' := kept_freeN HBW.out (show w.heap.size + 1 < _ by omega) f1
      obtain ⟨z0, z1⟩ := ans_cells r0' r1' (.bool (b && decide (0 < n7))) (.slice A6 n6 c6)
      go_wp2
      refine bodyPost_ret (v := .tuple #[.agg #[.bool (b && decide (0 < n7)), .slice A6 n6 c6], .int .i64 0]) (by simp [results, Tryz.results51, go_sem, z0, z1]) rfl ?_
      obtain ⟨i1, i2⟩ := iv_flag (b := b) (V := nv xs / nv ys + 1)
      refine .inr ⟨hY, A6, n6, c6, ?_, by omega, ?_, ((xb.trans (HBW.out.mono (by omega))).setCell (by simp) _).setCell (by simp) _⟩
      · rw [HN.out, ← i1, pos_words HNR.out]
      · rw [HN.out, ← i2]; exact rd_answer hr6 r0' r1'
end Go.Proofs.YtcnogmhkffohgaaGreatDoor

/-
  Worlds that only grow: what was there reads as it did. And that the calls of layer 2 whose answers the document fixes answer so.
-/
namespace Go.Proofs.YtcnogmhkffohgaaGreatDoor
open Go.RowKit
set_option linter.unusedVariables false
set_option maxRecDepth 100000

/-- From a to b memory has only grown. -/
def ExtN (a b : World) : Prop := Below a.heap.size a b
theorem ExtN.refl (a : World) : ExtN a a := Below.refl _ _
theorem ExtN.trans {a b c : World} (h : ExtN a b) (k : ExtN b c) : ExtN a c := Below.trans h (Below.mono k h.size)
theorem ExtN.alloc {a b : World} (h : ExtN a b) (o : Obj) : ExtN a (b.alloc o) := h.trans (Below.alloc (Below.refl _ _) (Nat.le_refl _) o)
theorem ExtN.drewN {a b : World} (h : ExtN a b) (n : Nat) : ExtN a (b.drewN n) := below_drewNN h n
/-- A natural's words, wherever they lie. -/
def NXN (w : World) (A : Option Addr) (n c : Nat) (xs : List Nat) : Prop := NR w w.heap.size A n c xs
theorem NXN.ext {a b : World} {A : Option Addr} {n c : Nat} {xs : List Nat} (h : NXN a A n c xs) (k : ExtN a b) : NXN b A n c xs := (Rd.below h k).more k.size
theorem NXN.one (w : World) (g : Nat) (hg : g = w.heap.size) (z : Int) (x : Nat) (hz : z = x) (hx : x < 18446744073709551616) : NXN (w.alloc (.cells #[.int .u64 z] 22)) (some ⟨g, 0, none⟩) 1 1 [x] := by
  subst hz hg
  refine ⟨rfl, Nat.le_refl _, fun z hz => by rw [List.mem_singleton.1 hz, W64_eq]; exact hx, fun _ => ⟨_, rfl, by simp, fun j z hz => ?_⟩⟩
  match j, hz with
  | 0, hz => simp at hz; subst hz; simp [Addr.add]
theorem NXN.two (w : World) (g : Nat) (hg : g = w.heap.size) (z z' : Int) (x y : Nat) (hz : z = x) (hz' : z' = y) (hx : x < 18446744073709551616) (hy : y < 18446744073709551616) : NXN (w.alloc (.cells #[.int .u64 z, .int .u64 z'] 22)) (some ⟨g, 0, none⟩) 2 2 [x, y] := by
  subst hz hz' hg
  refine ⟨rfl, Nat.le_refl _, fun z hz => ?_, fun _ => ⟨_, rfl, by simp, fun j z hz => ?_⟩⟩
  · rw [W64_eq]
    rcases List.mem_cons.1 hz with rfl | hz
    · exact hx
    · rw [List.mem_singleton.1 hz]; exact hy
  · match j, hz with
    | 0, hz => simp at hz; subst hz; simp [Addr.add]
    | 1, hz => simp at hz; subst hz; simp [Addr.add]
theorem nv_one (x : Nat) : nv [x] = x := by show vl W64 [x] = x; simp [vl]
theorem nv_two (x y : Nat) : nv [x, y] = x + 18446744073709551616 * y := by show vl W64 [x, y] = _; simp [vl, W64_eq]
theorem nw_one {x : Nat} (h0 : 0 < x) (hx : x < 18446744073709551616) : nw x = [x] := by
  have := dg_unique W64_two [x] (fun z hz => by rw [List.mem_singleton.1 hz, W64_eq]; exact hx) (.inr (by simp; omega))
  rw [show vl W64 [x] = x from nv_one x] at this
  exact this.symm
theorem nw_two {x y : Nat} (h0 : 0 < y) (hx : x < 18446744073709551616) (hy : y < 18446744073709551616) : nw (x + 18446744073709551616 * y) = [x, y] := by
  have := dg_unique W64_two [x, y] (fun z hz => by
    rw [W64_eq]
    rcases List.mem_cons.1 hz with rfl | hz
    · exact hx
    · rw [List.mem_singleton.1 hz]; exact hy) (.inr (by simp; omega))
  rw [show vl W64 [x, y] = _ from nv_two x y] at this
  exact this.symm

/-- The calls over naturals, in these words. -/
theorem addX {A A' : Option Addr} {n n' c c' : Nat} {xs ys : List Nat} {w : World} (h : NXN w A n c xs) (h' : NXN w A' n' c' ys) (hn : n ≤ 1000) (hn' : n' ≤ 1000) :
    Calls Tryz.prog 89 #[.slice A n c, .slice A' n' c'] w fun e w' => ∃ A2 n2 c2, e = .returned (.slice A2 n2 c2) ∧ n2 ≤ n + n' + 1 ∧ NXN w' A2 n2 c2 (nw (nv xs + nv ys)) ∧ ExtN w w' := natAdd_any A A' n n' c c' xs ys w h h' (by omega) (by omega)
theorem mulX {A A' : Option Addr} {n n' c c' : Nat} {xs ys : List Nat} {w : World} (h : NXN w A n c xs) (h' : NXN w A' n' c' ys) (hn : n ≤ 1000) (hn' : n' ≤ 1000) :
    Calls Tryz.prog 72 #[.slice A n c, .slice A' n' c'] w fun e w' => ∃ A2 n2 c2, e = .returned (.slice A2 n2 c2) ∧ n2 ≤ n + n' ∧ NXN w' A2 n2 c2 (nw (nv xs * nv ys)) ∧ ExtN w w' := natMul_any A A' n n' c c' xs ys w h h' (by omega) (by omega)
theorem divX {A A' : Option Addr} {n n' c c' : Nat} {xs ys : List Nat} {w : World} (h : NXN w A n c xs) (h' : NXN w A' n' c' ys) (hn : n ≤ 1000) (hn' : n' ≤ 1000) :
    Calls Tryz.prog 69 #[.slice A n c, .slice A' n' c'] w (DivPostN w (n + 1) (nv xs) (nv ys)) := div_any A A' n n' c c' xs ys w h h' (by omega) (by omega)
theorem subX {A A' : Option Addr} {n n' c c' : Nat} {xs ys : List Nat} {w : World} (h : NXN w A n c xs) (h' : NXN w A' n' c' ys) (hn : n ≤ 100000) (hn' : n' ≤ 100000) :
    Calls Tryz.prog 139 #[.slice A n c, .slice A' n' c'] w (SubPost w n (nv xs) (nv ys)) := sub_nat_any A A' n n' c c' xs ys w h h' (by omega) (by omega)
theorem cmpX {A A' : Option Addr} {n n' c c' : Nat} {xs ys : List Nat} {w : World} (h : NXN w A n c xs) (h' : NXN w A' n' c' ys) (hn : n ≤ 100000) (hn' : n' ≤ 100000) :
    Calls Tryz.prog 88 #[.slice A n c, .slice A' n' c'] w fun e w' => e = .returned (.int .i64 (cmpS (nv xs) (nv ys))) ∧ ExtN w w' := (cmp_any A A' n n' c c' _ xs ys w h h' (by omega) (by omega)).mono fun e w' ⟨he, q, hw⟩ => ⟨he, by rw [hw]; exact (ExtN.refl w).drewN q⟩
theorem nearX {A A' : Option Addr} {n n' c c' : Nat} {b : Bool} {xs ys : List Nat} {w : World} (h : NXN w A n c xs) (h' : NXN w A' n' c' ys) (hn : n ≤ 1000) (hn' : n' ≤ 1000) :
    Calls Tryz.prog 51 #[.agg #[.bool b, .slice A n c], .slice A' n' c'] w (NearPost w (n + 4) b (nv xs) (nv ys)) := near_any A A' n n' c c' b xs ys w h h' hn hn'

theorem fix1 : nw (nv [18446744073709551615] + nv [1]) = [0, 1] := by
  rw [nv_one, nv_one, show 18446744073709551615 + 1 = 0 + 18446744073709551616 * 1 by omega]
  exact nw_two (by omega) (by omega) (by omega)
theorem fix2 : nw (nv [0, 1] / nv [10]) = [1844674407370955161] := by
  rw [nv_one, nv_two, show (0 + 18446744073709551616 * 1) / 10 = 1844674407370955161 by omega]
  exact nw_one (by omega) (by omega)
theorem fix3 : nw (nv [0, 1] % nv [10]) = [6] := by
  rw [nv_one, nv_two, show (0 + 18446744073709551616 * 1) % 10 = 6 by omega]
  exact nw_one (by omega) (by omega)
theorem fix4 : nearZ true (nv [3]) (nv [2]) = -1 := by rw [nv_one, nv_one]; decide
theorem fix5 : nearZ false (nv [3]) (nv [2]) = 2 := by rw [nv_one, nv_one]; decide
theorem fix6 : nw (-1 : Int).natAbs = [1] := by
  rw [show (-1 : Int).natAbs = 1 by omega]
  exact nw_one (by omega) (by omega)
theorem fix7 : nw (2 : Int).natAbs = [2] := by
  rw [show (2 : Int).natAbs = 2 by omega]
  exact nw_one (by omega) (by omega)

end Go.Proofs.YtcnogmhkffohgaaGreatDoor

/-
  What the small calls of the reference of layer 2 on digits answer: trim, at, compare, Digits.
-/
namespace Go.Proofs.YtcnogmhkffohgaaGreatDoor
open Go.RowKit
set_option linter.unusedVariables false
set_option maxRecDepth 100000

def i64s (zs : List Nat) : List Value := zs.map fun (z : Nat) => Value.int .i64 (z : Int)
theorem i64s_snoc (zs : List Nat) (z : Nat) : i64s zs ++ [Value.int .i64 (z : Int)] = i64s (zs ++ [z]) := by simp [i64s]
theorem info_int : (Tryz.prog.info? 3).map (fun i => (i.zero, i.size, i.bytes)) = some (some (.int .i64 0), 1, 8) := by kernel_rfl
/-- A row of digits that a call is making, from block B on. -/
def IRow (B : Nat) (w0 w : World) (v : Value) (n : Nat) (zs : List Nat) : Prop := w.ownsRow B 3 1 v n (i64s zs) ∧ Below B w0 w ∧ (∀ x ∈ zs, x < 65536)
theorem IRow.nil (w : World) : IRow w.heap.size w w (.slice none 0 0) 0 [] := ⟨World.ownsRow_nil _ _ _ _, Below.refl _ _, by simp⟩
theorem IRow.len {B : Nat} {w0 w : World} {v : Value} {n : Nat} {zs : List Nat} (h : IRow B w0 w v n zs) : zs.length = n := by
  have := h.1.1
  simpa [i64s] using this
theorem IRow.push {B : Nat} {w0 w w1 : World} {v v' : Value} {n : Nat} {zs : List Nat} {z : Nat} {o : Obj} (h : IRow B w0 w v n zs) (hB : B ≤ w.heap.size) (hz : z < 65536)
    (h1 : w1.ownsRow B 3 1 v' (n + 1) (i64s zs ++ [Value.int .i64 (z : Int)])) (hg : (w.alloc o).grownBy w1 v.ownBlock) : IRow B w0 w1 v' (n + 1) (zs ++ [z]) := by
  rw [i64s_snoc] at h1
  exact ⟨h1, (h.2.1.alloc hB o).grown hg (by simp; omega) (fun k e => (h.1.lt k e).1), snoc_lt h.2.2 hz⟩
theorem IRow.rd {B : Nat} {w0 w : World} {v : Value} {n : Nat} {zs : List Nat} (h : IRow B w0 w v n zs) : ∃ A c, v = .slice A n c ∧ DR w w.heap.size A n c zs ∧ (∀ ad, A = some ad → B ≤ ad.block) := by
  have hlen := h.len
  rcases h.1.2 with ⟨rfl, rfl⟩ | ⟨g, cap, cur, rfl, hg, hh, hle, _⟩
  · exact ⟨none, 0, rfl, ⟨hlen, Nat.le_refl _, h.2.2, fun h => absurd h (by omega)⟩, fun ad e => by cases e⟩
  · refine ⟨_, cap, rfl, ⟨hlen, hle, h.2.2, fun _ => ⟨⟨g, 0, none⟩, rfl, (Array.getElem?_eq_some_iff.1 hh).1, fun j x hx => ?_⟩⟩, fun ad e => ?_⟩
    · exact h.1.cells (g := g) rfl j _ (by simp [i64s, hx])
    · injection e with e; subst e; exact hg
theorem d_two : 2 ≤ 65536 := by omega
/-- What a call answers that makes digits. -/
def DigPost (w : World) (N : Nat) (ys : List Nat) (e : Ending) (w' : World) : Prop :=
  ∃ A n c, e = .returned (.slice A n c) ∧ n ≤ N ∧ DR w' w'.heap.size A n c ys ∧ Below w.heap.size w w' ∧ (∀ ad, A = some ad → w.heap.size ≤ ad.block)
def DTrimPost (A : Option Addr) (n B : Nat) (xs : List Nat) (w : World) (e : Ending) (w' : World) : Prop := ∃ m c, m ≤ n ∧ e = .returned (.slice A m c) ∧ w = w' ∧ DR w B A m c (dg 65536 (vl 65536 xs))

theorem dtrim_is {A : Option Addr} {n c B m : Nat} {xs : List Nat} {w : World} (h : DR w B A n c xs) (hm : m ≤ n) (hz : ∀ (j x : Nat), m ≤ j → xs[j]? = some x → x = 0) (hl : m = 0 ∨ xs[m - 1]? ≠ some 0) : DR w B A m c (dg 65536 (vl 65536 xs)) := by
  have e := take_dg d_two xs m h.lt (by rw [h.len]; exact hm) hz hl
  rw [← e]
  have := h.take_ hm
  exact ⟨this.len, Nat.le_trans hm h.room, this.lt, this.cells⟩
/-- A slice's length. -/
def lenOf : Value → Nat | .slice _ m _ => m | _ => 0
theorem trim_any (A : Option Addr) (n c B : Nat) (xs : List Nat) (w : World) (h : DR w B A n c xs) (hn : n ≤ 1000000) :
    Calls Tryz.prog 58 #[.slice A n c] w (DTrimPost A n B xs w) := by
  have hroom := h.room
  go_enter Tryz.func58, Tryz.ntmps58
  go_wp2
  go_loop [0] (fun s => ∃ m : Nat, m ≤ n ∧ s = .slice A m c ∧ Hid (∀ (j x : Nat), m ≤ j → xs[j]? = some x → x = 0)) (fun s => lenOf s)
  case atStart => exact ⟨n, Nat.le_refl _, rfl, Lib.hid (fun j x hj hx => by have := (List.getElem?_eq_some_iff.1 hx).1; have := h.len; omega)⟩
  case round =>
    obtain ⟨m, hm, rfl, hz⟩ := hrel
    by_cases hm0 : m = 0
    · subst hm0
      go_wp2
      go_ret
      exact ⟨0, c, hm, rfl, rfl, dtrim_is h hm hz.out (.inl rfl)⟩
    · obtain ⟨ad, x, rfl, hb, hxb, hx, hc⟩ := h.at_ (show m - 1 < n by omega)
      have HX := Lib.hid hx
      clear hx
      by_cases hx0 : x = 0
      · subst hx0
        go_wp2
        refine ⟨⟨m - 1, by omega, by go_num, Lib.hid fun j x hj hx => ?_⟩, by simp [lenOf]; omega⟩
        by_cases hjm : j = m - 1
        · subst hjm; rw [HX.out] at hx; exact (Option.some.inj hx).symm
        · exact hz.out j x (by omega) hx
      · have hxb : ((x : Int) == 0) = false := by simpa using hx0
        go_wp2
        go_ret
        exact ⟨m, c, hm, rfl, rfl, dtrim_is h hm hz.out (.inr (by rw [HX.out]; simpa using hx0))⟩

theorem at_any (A : Option Addr) (n c B i : Nat) (xs : List Nat) (w : World) (h : DR w B A n c xs) (hn : n ≤ 1000000) (hi : i ≤ 1000001) :
    Calls Tryz.prog 95 #[.slice A n c, .int .i64 (i : Int)] w fun e w' => e = .returned (.int .i64 ((xs[i]?.getD 0 : Nat) : Int)) ∧ w = w' := by
  by_cases hlt : i < n
  · obtain ⟨ad, x, rfl, hb, hxb, hx, hc⟩ := h.at_ hlt
    have HX := Lib.hid hx
    clear hx
    go_enter Tryz.func95, Tryz.ntmps95
    go_wp2
    go_ret
    exact ⟨congrArg Ending.returned (i64_eq (by rw [HX.out]; rfl)), rfl⟩
  · have H := Lib.hid (List.getElem?_eq_none (l := xs) (i := i) (by rw [h.len]; omega))
    go_enter Tryz.func95, Tryz.ntmps95
    go_wp2
    go_ret
    exact ⟨congrArg Ending.returned (i64_eq (by rw [H.out]; rfl)), rfl⟩

end Go.Proofs.YtcnogmhkffohgaaGreatDoor

/-
  What Digits, From, plus and less of the reference of layer 2 answer.
-/
namespace Go.Proofs.YtcnogmhkffohgaaGreatDoor
open Go.RowKit
set_option linter.unusedVariables false
set_option maxRecDepth 100000

theorem dig_int {x i : Nat} : wrap64 (((x : Int) / 2 ^ (16 * i)).tmod 65536) = ((x / 65536 ^ i % 65536 : Nat) : Int) := by
  rw [two_pow_cast, pow_16, ← Int.natCast_ediv, Int.tmod_eq_emod_of_nonneg (Int.natCast_nonneg _)]
  have : x / 65536 ^ i % 65536 < 65536 := Nat.mod_lt _ (by omega)
  rw [show ((x / 65536 ^ i : Nat) : Int) % 65536 = ((x / 65536 ^ i % 65536 : Nat) : Int) from (Int.natCast_emod _ _).symm]
  generalize x / 65536 ^ i % 65536 = q at *
  unfold wrap64
  omega

set_option maxHeartbeats 2000000 in
theorem digits_any (A : Option Addr) (n c : Nat) (xs : List Nat) (w : World) (h : NR w w.heap.size A n c xs) (hn : n ≤ 10000) :
    Calls Tryz.prog 34 #[.slice A n c] w (DigPost w (4 * n) (dg 65536 (nv xs))) := by
  obtain ⟨i0, hi, hz0, hz1, hz2⟩ := info_parts info_int
  go_enter Tryz.func34, Tryz.ntmps34
  go_wp2
  go_loopw [3, 9] (fun s i wr => ∃ (k : Nat) (zs : List Nat), k ≤ n ∧ i = .int .i64 k ∧ IRow w.heap.size w wr s (4 * k) zs ∧ DigInv xs k 0 0 zs) (fun _ i _ => n - (intOf i).toNat)
  case atStart => exact ⟨0, [], by omega, rfl, IRow.nil w, digInv_zero 0⟩
  case round =>
    obtain ⟨k, zs, hk, rfl, hrow, hinv⟩ := hrel
    by_cases hlt : k < n
    · obtain ⟨ad, x, rfl, hb, hxb, hx, hc⟩ := (h.below hrow.2.1).at_ hlt
      rw [W64_eq] at hxb
      have HX := Lib.hid hx
      clear hx
      have hinv0 : DigInv xs k 0 x zs := ⟨hinv.1, by rw [hinv.2]; simp [Nat.mod_one]⟩
      go_wp2
      go_loopw [3, 6] (fun s i wr => ∃ (j : Nat) (zs : List Nat), j ≤ 4 ∧ i = .int .i64 j ∧ IRow w.heap.size w wr s (4 * k + j) zs ∧ DigInv xs k j x zs) (fun _ i _ => 4 - (intOf i).toNat)
      case atStart => exact ⟨0, zs, by omega, rfl, hrow, hinv0⟩
      case round =>
        obtain ⟨j, zs, hj, rfl, hrow, hinv⟩ := hrel
        have hsz := hrow.2.1.size
        by_cases hj4 : j < 4
        · have HI := Lib.hid (dig_int (x := x) (i := j))
          have hdl : x / 65536 ^ j % 65536 < 65536 := Nat.mod_lt _ (by omega)
          go_wp2_with (at_builtin; go_loud (rw [HI.out]; refine wpList_append_own _ rfl _ _ 83 rfl w.heap.size 3 i0 (.int .i64 0) 1 8 Tryz.underlying83 hi hz0 hz1 hz2 rfl (by decide) _ _ _ rfl (hrow.1.alloc _) ⟨_, 0, none⟩ 1 1 [.int .i64 (x / 65536 ^ j % 65536 : Nat)] rfl rfl one_cell one_int (by unfold maxLen; omega) (by omega) (by simp; omega) ?_; intro v2 w2 hown2 hgrow2 _))
          exact ⟨⟨j + 1, _, by omega, by go_num, hrow.push hsz hdl hown2 hgrow2, hinv.step⟩, by simp [intOf]; omega⟩
        · obtain rfl : j = 4 := by omega
          go_wp2
          exact ⟨⟨k + 1, zs, by omega, by go_num, hrow, hinv.word HX.out hxb 0⟩, by simp [intOf]; omega⟩
    · obtain rfl : k = n := by omega
      have V := Lib.hid (hinv.done (by rw [h.len]; exact Nat.le_refl _))
      obtain ⟨A2, c2, rfl, hr2, hfr⟩ := hrow.rd
      go_wp2_with fail
      refine (trim_any _ _ _ _ zs _ hr2 (by omega)).mono ?_
      rintro e w' ⟨m, c3, hm, rfl, rfl, hr3⟩
      rw [V.out] at hr3
      go_wp2
      go_ret
      exact ⟨A2, m, c3, rfl, hm, hr3, hrow.2.1, hfr⟩
end Go.Proofs.YtcnogmhkffohgaaGreatDoor

/-
  What From of the reference of layer 2 answers: digits as words.
-/
namespace Go.Proofs.YtcnogmhkffohgaaGreatDoor
open Go.RowKit
set_option linter.unusedVariables false
set_option maxRecDepth 100000

/-- A row of words that a call is making, from nothing on. -/
def URowN (B : Nat) (w0 w : World) (v : Value) (n : Nat) (zs : List Nat) : Prop := w.ownsRow B 22 1 v n (u64s zs) ∧ Below B w0 w ∧ (∀ x ∈ zs, x < W64)
theorem URowN.nil (w : World) : URowN w.heap.size w w (.slice none 0 0) 0 [] := ⟨World.ownsRow_nil _ _ _ _, Below.refl _ _, by simp⟩
theorem URowN.push {B : Nat} {w0 w w1 : World} {v v' : Value} {n : Nat} {zs : List Nat} {z : Nat} {o : Obj} (h : URowN B w0 w v n zs) (hB : B ≤ w.heap.size) (hz : z < W64)
    (h1 : w1.ownsRow B 22 1 v' (n + 1) (u64s zs ++ [Value.int .u64 (z : Int)])) (hg : (w.alloc o).grownBy w1 v.ownBlock) : URowN B w0 w1 v' (n + 1) (zs ++ [z]) := by
  rw [u64s_snoc] at h1
  exact ⟨h1, (h.2.1.alloc hB o).grown hg (by simp; omega) (fun k e => (h.1.lt k e).1), snoc_lt h.2.2 hz⟩

/-- The digits from j on, of the four that make word k. -/
def seg (ds : List Nat) (k j : Nat) : Nat := vl 65536 ((ds.drop (4 * k + j)).take (4 - j))
theorem seg_four (ds : List Nat) (k : Nat) : seg ds k 4 = 0 := by simp [seg, vl_nil]
theorem seg_step (ds : List Nat) {k j : Nat} (hj : j < 4) : seg ds k j = ds[4 * k + j]?.getD 0 + 65536 * seg ds k (j + 1) := by
  unfold seg
  rw [show 4 - j = (4 - (j + 1)) + 1 by omega, vl_seg]
  rfl
theorem seg_bound {ds : List Nat} (h : ∀ x ∈ ds, x < 65536) {k j : Nat} (hj : j < 4) : seg ds k (j + 1) < 281474976710656 := by
  have h2 : 65536 ^ (4 - (j + 1)) ≤ 65536 ^ 3 := Nat.pow_le_pow_right (by omega) (by omega)
  have h1 := seg_lt h (4 * k + (j + 1)) (4 - (j + 1))
  have h3 : 65536 ^ 3 = 281474976710656 := by decide
  unfold seg
  omega
theorem seg_zero (ds : List Nat) (k : Nat) : seg ds k 0 = vl 65536 ((ds.drop (4 * k)).take 4) := rfl

set_option maxHeartbeats 1000000 in
theorem from_any (A : Option Addr) (n c : Nat) (zs : List Nat) (w : World) (h : DR w w.heap.size A n c zs) (hn : n ≤ 100000) :
    Calls Tryz.prog 59 #[.slice A n c] w (NatPost w n (nw (vl 65536 zs))) := by
  obtain ⟨i0, hi, hz0, hz1, hz2⟩ := info_parts info_u64N
  go_enter Tryz.func59, Tryz.ntmps59
  go_wp2_with fail
  refine (trim_any _ _ _ _ zs _ h (by omega)).mono ?_
  rintro e w' ⟨m, c3, hm, rfl, rfl, hr⟩
  generalize hV : vl 65536 zs = V at *
  generalize hds : dg 65536 V = ds at *
  have HDS := Lib.hid hds
  clear hds hV
  go_wp2
  go_loopw [3, 4] (fun s i wr => ∃ (k : Nat) (ws : List Nat), (k = 0 ∨ 4 * (k - 1) < m) ∧ i = .int .i64 (4 * k : Nat) ∧ URowN w.heap.size w wr s k ws ∧ FromInv ds k ws) (fun _ i _ => (m + 4) - (intOf i).toNat)
  case atStart => exact ⟨0, [], .inl rfl, rfl, URowN.nil w, fromInv_zero⟩
  case round =>
    obtain ⟨k, ws, hk, rfl, hrow, hinv⟩ := hrel
    have hsz := hrow.2.1.size
    by_cases hlt : 4 * k < m
    · have hr1 := hr.below hrow.2.1
      go_wp2
      go_loop [5, 6] (fun s i => ∃ (j : Nat), j ≤ 4 ∧ i = .int .i64 ((j : Int) - 1) ∧ s = .int .u64 ((seg ds k j : Nat) : Int)) (fun _ i => (intOf i + 1).toNat)
      case atStart => exact ⟨4, by omega, rfl, by rw [seg_four]; rfl⟩
      case round =>
        obtain ⟨j, hj, rfl, rfl⟩ := hrel
        by_cases hj0 : j = 0
        · subst hj0
          have HS := Lib.hid (seg_zero ds k)
          have hb := seg_lt hr.lt (4 * k) 4
          rw [← W64_pow, ← seg_zero] at hb
          go_wp2_with (at_builtin; go_loud (refine wpList_append_own _ rfl _ _ 49 rfl w.heap.size 22 i0 (.int .u64 0) 1 8 Tryz.underlying49 hi hz0 hz1 hz2 rfl (by decide) _ _ _ rfl (hrow.1.alloc _) ⟨_, 0, none⟩ 1 1 [.int .u64 (seg ds k 0 : Nat)] rfl rfl one_cell one_int (by unfold maxLen; omega) (by omega) (by simp; omega) ?_; intro v2 w2 hown2 hgrow2 _))
          refine ⟨⟨k + 1, _, .inr (by omega), by go_num, hrow.push hsz hb hown2 hgrow2, ?_⟩, by simp [intOf]; omega⟩
          rw [HS.out]
          exact hinv.step (by rw [hr.len]; exact hlt) hr.lt
        · obtain ⟨i, rfl⟩ : ∃ i, j = i + 1 := ⟨j - 1, by omega⟩
          rw [show (((i + 1 : Nat) : Int) - 1) = (i : Int) by omega]
          have HS := Lib.hid (seg_step ds (k := k) (j := i) (by omega))
          have hb := seg_bound hr.lt (k := k) (j := i) (by omega)
          generalize seg ds k (i + 1) = q at *
          by_cases hin : 4 * k + i < m
          · obtain ⟨ad, x, rfl, hb2, hxb, hx, hc⟩ := hr1.at_ hin
            have e : seg ds k i = q * 65536 + x := by rw [HS.out, hx, Option.getD_some]; omega
            have E := Lib.hid e
            clear hx e
            go_wp2
            exact ⟨⟨i, by omega, by go_num, by rw [E.out]; go_num⟩, by simp [intOf] <;> omega⟩
          · have e : seg ds k i = q * 65536 := by rw [HS.out, List.getElem?_eq_none (by rw [hr.len]; omega), Option.getD_none]; omega
            have E := Lib.hid e
            clear e
            go_wp2
            exact ⟨⟨i, by omega, by go_num, by rw [E.out]; go_num⟩, by simp [intOf] <;> omega⟩
    · have V := Lib.hid (hinv.done (by rw [hr.len]; omega) (by rw [hr.len]; exact hk) HDS.out.symm)
      obtain ⟨A2, c2, rfl, hr2⟩ := rd_of_own hrow.1 hrow.2.2
      rw [V.out] at hr2
      go_wp2
      go_ret
      exact ⟨A2, k, c2, rfl, by omega, hr2, hrow.2.1⟩
end Go.Proofs.YtcnogmhkffohgaaGreatDoor

/-
  What plus and less of the reference of layer 2 answer: sums and differences of digits.
-/
namespace Go.Proofs.YtcnogmhkffohgaaGreatDoor
open Go.RowKit
set_option linter.unusedVariables false
set_option maxRecDepth 100000

theorem IRow.drewN {B : Nat} {w0 w : World} {v : Value} {n : Nat} {zs : List Nat} (h : IRow B w0 w v n zs) (m : Nat) : IRow B w0 (w.drewN m) v n zs :=
  ⟨⟨h.1.1, h.1.2⟩, ⟨h.2.1.os, h.2.1.tape, h.2.1.output, h.2.1.size, h.2.1.block⟩, h.2.2⟩

end Go.Proofs.YtcnogmhkffohgaaGreatDoor

/-
  What less of the reference of layer 2 answers: differences of digits.
-/
namespace Go.Proofs.YtcnogmhkffohgaaGreatDoor
open Go.RowKit
set_option linter.unusedVariables false
set_option maxRecDepth 100000

theorem at_q (A : Option Addr) (n c B i : Nat) (xs : List Nat) (w : World) (q : Nat) (h : DR w B A n c xs) (hn : n ≤ 1000000) (hi : i ≤ 1000001) :
    Calls Tryz.prog 95 #[.slice A n c, .int .i64 (i : Int)] (w.drewN q) fun e w'' => e = .returned (.int .i64 ((xs[i]?.getD 0 : Nat) : Int)) ∧ ∃ m, w'' = w.drewN m :=
  (at_any A n c B i xs (w.drewN q) (h.drewN q) hn hi).mono fun e w' hh => ⟨hh.1, q, hh.2.symm⟩

end Go.Proofs.YtcnogmhkffohgaaGreatDoor

/-
  What Cmp, Add, Sub and Of of the reference of layer 2 answer.
-/
namespace Go.Proofs.YtcnogmhkffohgaaGreatDoor
open Go.RowKit
set_option linter.unusedVariables false
set_option maxRecDepth 100000

/-- Digits, wherever they lie. -/
def DX (w : World) (A : Option Addr) (n c : Nat) (zs : List Nat) : Prop := DR w w.heap.size A n c zs
theorem DX.ext {a b : World} {A : Option Addr} {n c : Nat} {xs : List Nat} (h : DX a A n c xs) (k : ExtN a b) : DX b A n c xs := (Rd.below h k).more k.size
theorem digX {A : Option Addr} {n c : Nat} {xs : List Nat} {w : World} (h : NXN w A n c xs) (hn : n ≤ 10000) :
    Calls Tryz.prog 34 #[.slice A n c] w fun e w' => ∃ A2 n2 c2, e = .returned (.slice A2 n2 c2) ∧ n2 ≤ 4 * n ∧ DX w' A2 n2 c2 (dg 65536 (nv xs)) ∧ ExtN w w' := (digits_any A n c xs w h hn).mono fun e w' ⟨A2, n2, c2, a1, a2, a3, a4, _⟩ => ⟨A2, n2, c2, a1, a2, a3, a4⟩
theorem fromX {A : Option Addr} {n c : Nat} {zs : List Nat} {w : World} (h : DX w A n c zs) (hn : n ≤ 100000) :
    Calls Tryz.prog 59 #[.slice A n c] w fun e w' => ∃ A2 n2 c2, e = .returned (.slice A2 n2 c2) ∧ n2 ≤ n ∧ NXN w' A2 n2 c2 (nw (vl 65536 zs)) ∧ ExtN w w' := from_any A n c zs w h hn
end Go.Proofs.YtcnogmhkffohgaaGreatDoor

/-
  What times of the reference of layer 2 answers: products of digits.
-/
namespace Go.Proofs.YtcnogmhkffohgaaGreatDoor
open Go.RowKit
set_option linter.unusedVariables false
set_option maxRecDepth 100000

/-- Block g holds the digits zs, and nothing else; none of it is frozen. -/
def Dk (w : World) (g : Nat) (zs : List Nat) : Prop := w.heap[g]? = some (.cells (i64s zs).toArray 3 (0, 0))
theorem Dk.lt {w : World} {g : Nat} {zs : List Nat} (h : Dk w g zs) : g < w.heap.size := (Array.getElem?_eq_some_iff.1 h).1
theorem Dk.frozen {w : World} {g : Nat} {zs : List Nat} (h : Dk w g zs) (i : Nat) : w.frozen? ⟨g, i, none⟩ = false := by
  unfold Dk at h
  simp [World.frozen?, h]
theorem Dk.cell {w : World} {g : Nat} {zs : List Nat} (h : Dk w g zs) {i x : Nat} (hx : zs[i]? = some x) : w.cell? ⟨g, i, none⟩ = some (.int .i64 (x : Int)) := by
  have hl := (List.getElem?_eq_some_iff.1 hx).1
  rw [cell_of_row w g i _ 3 (0, 0) h]
  have e := (List.getElem?_eq_some_iff.1 hx).2
  simp [i64s, hl, e]
theorem Dk.set_ {w : World} {g : Nat} {zs : List Nat} (h : Dk w g zs) {i : Nat} (hi : i < zs.length) (v : Nat) : Dk (w.setCell ⟨g, i, none⟩ (.int .i64 (v : Int))) g (zs.set i v) := by
  unfold Dk at h ⊢
  simp [World.setCell, Array.getElem?_modify, h]
  simp [i64s, List.map_set]
theorem Dk.keep {w w' : World} {g : Nat} {zs : List Nat} (h : Dk w g zs) (hg : w'.heap[g]? = w.heap[g]?) : Dk w' g zs := hg.trans h
theorem Dk.rd {w : World} {g n : Nat} {zs : List Nat} (h : Dk w g zs) (hlt : ∀ x ∈ zs, x < 65536) (hn : zs.length = n) : DR w w.heap.size (some ⟨g, 0, none⟩) n n zs := by
  refine ⟨hn, Nat.le_refl _, hlt, fun _ => ⟨_, rfl, h.lt, fun j x hx => ?_⟩⟩
  rw [Addr.add_lit, Nat.zero_add]
  exact h.cell hx
theorem made_i64 (n : Nat) : (madeCells (Value.int .i64 0).cells (n * 1)).toList = i64s (List.replicate n 0) := by
  rw [Nat.mul_one]
  refine (toList_madeCells_one (Value.int .i64 0) n).trans ?_
  simp [i64s]
theorem make_digits (n : Nat) (z : Int) (hz : z = n) (hc : n ≤ 1000000) (w : World) :
    (Instr.makeSlice 83 (.int .i64 z) (.int .i64 z)).run Tryz.prog w = .ok (.slice (some ⟨w.heap.size, 0, none⟩) n n) (w.alloc (.cells (i64s (List.replicate n 0)).toArray 3)) := by
  subst hz
  obtain ⟨i0, hi, hz0, hz1, hz2⟩ := info_parts info_int
  have hr := run_make (P := Tryz.prog) w 83 3 i0 (.int .i64 0) Tryz.underlying83 hi hz0 .i64 .i64 (n : Int) (n : Int) (by omega) (by omega) (by rw [hz2]; omega) (by omega)
  rw [hz1] at hr
  simp only [Int.toNat_natCast] at hr
  rw [hr]
  have e : madeCells (Value.int .i64 0).cells (n * 1) = (i64s (List.replicate n 0)).toArray := by
    apply Array.toList_inj.1
    rw [made_i64]
  rw [e]
theorem vl_rep (b n : Nat) : vl b (List.replicate n 0) = 0 := vl_zeros fun j x hx => by
  by_cases hj : j < n
  · have e : (List.replicate n 0)[j]? = some 0 := by simp [hj]
    rw [e] at hx
    exact (Option.some.inj hx).symm
  · rw [List.getElem?_eq_none (by simp; omega)] at hx
    cases hx

/-- A product so far: the first k digits of xs times Y, and as many noughts behind it as are still to come. -/
def MulD (xs : List Nat) (Y lb k : Nat) (ps : List Nat) : Prop := ps.length = lb + k ∧ (∀ x ∈ ps, x < 65536) ∧ vl 65536 ps = vl 65536 (xs.take k) * Y
theorem mulD_zero {xs : List Nat} {Y lb : Nat} : MulD xs Y lb 0 (List.replicate lb 0) := by
  refine ⟨by simp, fun x hx => by rw [List.eq_of_mem_replicate hx]; omega, ?_⟩
  rw [vl_rep, List.take_zero, vl_nil, Nat.zero_mul]
theorem MulD.step {xs ps ns ys : List Nat} {lb k j x : Nat} (h : MulD xs (vl 65536 ys) lb k ps) (hx : xs[k]? = some x) (hy : ys.length = lb) (t : TimesInv 65536 (ps.drop k ++ [0]) ys x j ns 0) (hj : lb ≤ j) (hj2 : j ≤ lb + 1) :
    MulD xs (vl 65536 ys) lb (k + 1) (ps.take k ++ (ns ++ (ps.drop k ++ [0]).drop j)) := by
  obtain ⟨h1, h2, h3⟩ := h
  obtain ⟨t1, t2, _, t4⟩ := t
  have l : (ps.take k).length = k := by rw [List.length_take]; omega
  have lq : (ps.drop k ++ [0]).length = lb + 1 := by simp; omega
  have hq : ∀ z ∈ ps.drop k ++ [0], z < 65536 := snoc_lt (fun z hz => h2 z (List.mem_of_mem_drop hz)) (by omega)
  have vq : vl 65536 (ps.drop k ++ [0]) = vl 65536 (ps.drop k) := by rw [vl_snoc, Nat.mul_zero, Nat.add_zero]
  rw [Nat.mul_zero, Nat.add_zero, List.take_of_length_le (l := ys) (by omega)] at t4
  refine ⟨by rw [List.length_append, l, List.length_append, t1, List.length_drop, lq]; omega, fun z hz => ?_, ?_⟩
  · rcases List.mem_append.1 hz with hz | hz
    · exact h2 z (List.mem_of_mem_take hz)
    · rcases List.mem_append.1 hz with hz | hz
      · exact t2 z hz
      · exact hq z (List.mem_of_mem_drop hz)
  · have e0 : vl 65536 ps = vl 65536 (ps.take k) + 65536 ^ k * vl 65536 (ps.drop k) := by
      conv => lhs; rw [← List.take_append_drop k ps, vl_append, l]
    have e1 : vl 65536 (ps.drop k ++ [0]) = vl 65536 ((ps.drop k ++ [0]).take j) + 65536 ^ j * vl 65536 ((ps.drop k ++ [0]).drop j) := by
      conv => lhs; rw [← List.take_append_drop j (ps.drop k ++ [0]), vl_append, List.length_take, lq, Nat.min_eq_left hj2]
    have e2 : vl 65536 (ns ++ (ps.drop k ++ [0]).drop j) = vl 65536 (ps.drop k) + x * vl 65536 ys := by
      rw [vl_append, t1, t4, ← vq, e1]; omega
    rw [vl_append, l, e2, Nat.mul_add, ← Nat.add_assoc, ← e0, h3, vl_take_next, hx, Option.getD_some, Nat.add_mul, Nat.mul_assoc]
end Go.Proofs.YtcnogmhkffohgaaGreatDoor

/-
  The reference's times walked.
-/
namespace Go.Proofs.YtcnogmhkffohgaaGreatDoor
open Go.RowKit
set_option linter.unusedVariables false
set_option maxRecDepth 100000

theorem Rd.cell_ {k : IntKind} {b : Nat} {w : World} {B : Nat} {ad : Addr} {n c : Nat} {xs : List Nat} (h : Rd k b w B (some ad) n c xs) {i x : Nat} (hx : xs[i]? = some x) : w.cell? (ad.add i) = some (.int k (x : Int)) := by
  have hl := (List.getElem?_eq_some_iff.1 hx).1
  obtain ⟨ad', e, _, hc⟩ := h.cells (by have := h.len; omega)
  injection e with e
  subst e
  exact hc i x hx
theorem below_set {B : Nat} {w0 w : World} {g i : Nat} (h : Below B w0 w) (hg : B ≤ g) (hB : B ≤ w.heap.size) (v : Value) : Below B w0 (w.setCell ⟨g, i, none⟩ v) := below_only h (only_set v) hB hg

set_option maxHeartbeats 4000000 in
theorem times_dg_any (A A' : Option Addr) (n n' c c' : Nat) (xs ys : List Nat) (w : World) (h : DR w w.heap.size A n c xs) (h' : DR w w.heap.size A' n' c' ys) (hn : n ≤ 10000) (hn' : n' ≤ 10000) :
    Calls Tryz.prog 60 #[.slice A n c, .slice A' n' c'] w (DigPost w (n + n' + 1) (dg 65536 (vl 65536 xs * vl 65536 ys))) := by
  have hmk := make_digits (n + n' + 1) ((n : Int) + n' + 1) (by omega) (by omega)
  go_enter Tryz.func60, Tryz.ntmps60
  go_wp2
  go_loopw [18] (fun i wr => ∃ (k : Nat) (ps : List Nat), k ≤ n ∧ i = .int .i64 k ∧ Dk wr w.heap.size (ps ++ List.replicate (n - k + 1) 0) ∧ Below w.heap.size w wr ∧ MulD xs (vl 65536 ys) n' k ps) (fun i _ => n - (intOf i).toNat)
  case atStart =>
    refine ⟨0, List.replicate n' 0, by omega, rfl, ?_, (Below.refl _ _).alloc (Nat.le_refl _) _, mulD_zero⟩
    rw [List.replicate_append_replicate, show n' + (n - 0 + 1) = n + n' + 1 by omega]
    exact heap_alloc_new w _
  case round =>
    obtain ⟨k, ps, hk, rfl, hb, hbl, hinv⟩ := hrel
    by_cases hlt : k < n
    · obtain ⟨ad, x, rfl, hbk, hxb, hx, hc⟩ := (h.below hbl).at_ hlt
      have HX := Lib.hid hx
      have HP := Lib.hid hinv.1
      have HPL := Lib.hid hinv.2.1
      obtain ⟨qs, hqs⟩ : ∃ qs, qs = ps.drop k ++ [0] := ⟨_, rfl⟩
      have hql : qs.length = n' + 1 := by rw [hqs]; simp; have := HP.out; omega
      have hqb : ∀ z ∈ qs, z < 65536 := by rw [hqs]; exact snoc_lt (fun z hz => HPL.out z (List.mem_of_mem_drop hz)) (by omega)
      have hb0 : Dk wr w.heap.size (ps.take k ++ [] ++ qs.drop 0 ++ List.replicate (n - k) 0) := by
        have : ps ++ List.replicate (n - k + 1) 0 = ps.take k ++ [] ++ qs.drop 0 ++ List.replicate (n - k) 0 := by
          rw [hqs, List.drop_zero, List.append_nil, ← List.append_assoc, List.take_append_drop, List.append_assoc, List.replicate_succ]
          rfl
        rw [← this]; exact hb
      have HQ := Lib.hid hqs
      have HQL := Lib.hid hql
      have HTL := Lib.hid (show (ps.take k).length = k by rw [List.length_take]; have := HP.out; omega)
      clear hqs hql hx hb hc
      go_wp2
      go_loopw [7, 8] (fun q i wr => ∃ (j Q : Nat) (ns : List Nat), (j ≤ n' ∨ (j = n' + 1 ∧ Q = 0)) ∧ i = .int .i64 j ∧ q = .int .i64 (Q : Int) ∧ Dk wr w.heap.size (ps.take k ++ ns ++ qs.drop j ++ List.replicate (n - k) 0) ∧ Below w.heap.size w wr ∧ TimesInv 65536 qs ys x j ns Q) (fun _ i _ => n' + 1 - (intOf i).toNat)
      case atStart => exact ⟨0, 0, [], .inl (by omega), rfl, rfl, hb0, hbl, timesInv_zero (by omega)⟩
      case round =>
        obtain ⟨j, Q, ns, hj, rfl, rfl, hb, hbl, hti⟩ := hrel
        have hQ := hti.2.2.1
        by_cases hgo : j < n' ∨ 0 < Q
        · have hj2 : j ≤ n' := by omega
          have hc := (h.below hbl).cell_ HX.out
          have hr' := h'.below hbl
          obtain ⟨p, hp1, hp2⟩ := drop_next (show j < qs.length by rw [HQL.out]; omega)
          have hpb := hqb p (List.mem_of_getElem? hp1)
          rw [hp2] at hb
          have hb' : Dk wr w.heap.size (ps.take k ++ ns ++ p :: (qs.drop (j + 1) ++ List.replicate (n - k) 0)) := by simpa using hb
          have hlen : k + j = (ps.take k).length + ns.length := by rw [HTL.out, hti.1]
          have hcell := hb'.cell (get_mid (p := p) (post := qs.drop (j + 1) ++ List.replicate (n - k) 0) hlen)
          have hfz := hb'.frozen (k + j)
          have hset : ∀ (v : Nat) (m : Nat), Dk ((wr.drewN m).setCell ⟨w.heap.size, k + j, none⟩ (.int .i64 (v : Int))) w.heap.size (ps.take k ++ (ns ++ [v]) ++ qs.drop (j + 1) ++ List.replicate (n - k) 0) := fun v m => by
            have := Dk.set_ (w := wr.drewN m) hb' (i := k + j) (by simp only [List.length_append, List.length_cons]; omega) v
            rw [set_mid hlen] at this
            simpa using this
          have hgs : ∀ (m : Nat) (v : Value), Below w.heap.size w ((wr.drewN m).setCell ⟨w.heap.size, k + j, none⟩ v) := fun m v => below_set (below_drewNN hbl m) (Nat.le_refl _) hbl.size v
          have HS := Lib.hid hset
          have HG := Lib.hid hgs
          clear hlen hset hgs hb hb' hp2
          have hy := getD_lt (b := 65536) (by omega) h'.lt j
          have hxy : x * ys[j]?.getD 0 ≤ 65535 * 65535 := Nat.mul_le_mul (by omega) (by omega)
          have z2 : j < n' ∨ ys[j]?.getD 0 = 0 := by
            by_cases g : j < n'
            · exact .inl g
            · exact .inr (by rw [List.getElem?_eq_none (by rw [h'.len]; omega)]; rfl)
          have z3 : j < n' ∨ p = 0 := by
            by_cases g : j < n'
            · exact .inl g
            · refine .inr ?_
              have hjn : j = n' := by omega
              rw [HQ.out, List.getElem?_append_right (by rw [List.length_drop, HP.out]; omega), List.length_drop, HP.out, show j - (n' + k - k) = 0 by omega] at hp1
              exact (Option.some.inj hp1).symm
          have HN := Lib.hid (fun z Q' => hti.step (z := z) (Q' := Q'))
          have P1 := Lib.hid hp1
          clear hp1
          have hn2 : n' ≤ 1000000 := by omega
          have hk2 : j ≤ 1000001 := by omega
          have hP : ys[j]?.getD 0 * x = x * ys[j]?.getD 0 := Nat.mul_comm _ _
          have HY := Lib.hid (show ∀ z Q' : Nat, z + 65536 * Q' = Q + p + x * ys[j]?.getD 0 → z < 65536 → Q' < 65536 → TimesInv 65536 qs ys x (j + 1) (ns ++ [z]) Q' from fun z Q' e1 e2 e3 => HN.out z Q' (by rw [P1.out, Option.getD_some, hP]; omega) e2 e3)
          have hm : ((x : Int) * ((ys[j]?.getD 0 : Nat) : Int)) = ((x * ys[j]?.getD 0 : Nat) : Int) := (Int.natCast_mul _ _).symm
          have hm0 : (0 : Int) ≤ (x : Int) * ((ys[j]?.getD 0 : Nat) : Int) := by rw [hm]; omega
          have hm1 : (x : Int) * ((ys[j]?.getD 0 : Nat) : Int) ≤ 4294836225 := by rw [hm]; omega
          have HM := Lib.hid hm
          have z4 : j < n' ∨ x * ys[j]?.getD 0 = 0 := by
            rcases z2 with g | g
            · exact .inl g
            · exact .inr (by rw [g, Nat.mul_zero])
          clear hm hP HN P1 z2
          have e1 : (0 : Int) ≤ (k : Int) + j := by omega
          have e2 : (k : Int) + j < (n : Int) + n' + 1 := by omega
          have e3 : (0 : Int) ≤ k := by omega
          have e4 : (k : Int) < n := by omega
          rcases (show j < n' ∨ (¬ j < n' ∧ 0 < Q) by omega) with g | ⟨g, g2⟩
          all_goals
            go_wp2_with fail
            go_quiet ((go_at_call 95; exact at_q _ _ _ _ j ys _ _ hr' hn2 hk2))
            rw [HM.out]
            clear hm0 hm1 HM
            generalize x * ys[j]?.getD 0 = t at *
            obtain ⟨s, hs⟩ : ∃ s, s = Q + p + t := ⟨_, rfl⟩
            rw [show ((Q : Int) + p + (t : Nat)) = (s : Int) by omega]
            have HF := Lib.hid (HY.out (s % 65536) (s / 65536) (by omega) (by omega) (by omega))
            have hfin : j + 1 ≤ n' ∨ (j + 1 = n' + 1 ∧ s / 65536 = 0) := by omega
            have hsb : s ≤ 5000000000 := by omega
            have HFIN := Lib.hid hfin
            clear hs hfin
            go_wp2
            exact ⟨⟨j + 1, s / 65536, _, HFIN.out, by go_num, by go_num, HS.out _ _, HG.out _ _, HF.out⟩, by simp [intOf] <;> omega⟩
        · have hQ0 : Q = 0 := by omega
          subst hQ0
          have hdj : n' ≤ j := by omega
          have HI := Lib.hid (hinv.step HX.out h'.len (by rw [← HQ.out]; exact hti) hdj (by omega))
          have hbe : Dk wr w.heap.size (ps.take k ++ (ns ++ (ps.drop k ++ [0]).drop j) ++ List.replicate (n - (k + 1) + 1) 0) := by
            rw [show n - (k + 1) + 1 = n - k by omega, ← HQ.out]
            simpa using hb
          go_wp2
          exact ⟨⟨k + 1, _, by omega, by go_num, hbe, hbl, HI.out⟩, by simp [intOf] <;> omega⟩
    · obtain rfl : k = n := by omega
      have hv := hinv.2.2
      rw [List.take_of_length_le (by rw [h.len]; exact Nat.le_refl _)] at hv
      have hz : vl 65536 (ps ++ List.replicate (k - k + 1) 0) = vl 65536 xs * vl 65536 ys := by rw [vl_append, vl_rep, Nat.mul_zero, Nat.add_zero, hv]
      have HZ := Lib.hid hz
      have hl2 : (ps ++ List.replicate (k - k + 1) 0).length = k + n' + 1 := by simp [hinv.1]; omega
      have hrd := hb.rd (n := k + n' + 1) (fun z hz => by
        rcases List.mem_append.1 hz with hz | hz
        · exact hinv.2.1 z hz
        · rw [List.eq_of_mem_replicate hz]; omega) hl2
      clear hv hz hl2
      go_wp2_with fail
      refine (trim_any _ _ _ _ _ _ hrd (by omega)).mono ?_
      rintro e w' ⟨m, c3, hm, rfl, rfl, hr3⟩
      rw [HZ.out] at hr3
      go_wp2
      go_ret
      exact ⟨_, m, c3, rfl, by omega, hr3, hbl, fun ad e => by injection e with e; subst e; exact Nat.le_refl _⟩
end Go.Proofs.YtcnogmhkffohgaaGreatDoor
