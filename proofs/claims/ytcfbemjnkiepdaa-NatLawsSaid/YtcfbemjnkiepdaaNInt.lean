/-
  What signed, Near, Sum and Times of package nat, and SameInt of the reference, answer for all whole numbers.
-/
import Derived.Test.YtcfbemjnkiepdaaNMore
import Derived.Deep.RegionHeld3
namespace Go.Proofs.Ytcfbemjnkiepdaa
open Go.RowKit
set_option linter.unusedVariables false

/-- What a call answers that makes a whole number: whether it is below 0, and its size, in new memory. -/
def IntPost (w : World) (N : Nat) (b : Bool) (ys : List Nat) (e : Ending) (w' : World) : Prop :=
  ∃ A n c, e = .returned (.agg #[.bool b, .slice A n c]) ∧ n ≤ N ∧ NR w' w'.heap.size A n c ys ∧ Below w.heap.size w w'
theorem bcell {W w1 : World} (hb : Below W.heap.size W w1) : (∀ b o, b < W.heap.size → w1.cell? ⟨b, o, none⟩ = W.cell? ⟨b, o, none⟩) ∧ (∀ b o, b < W.heap.size → w1.frozen? ⟨b, o, none⟩ = W.frozen? ⟨b, o, none⟩) :=
  ⟨fun b o h => hb.cell (p := ⟨b, o, none⟩) h, fun b o h => hb.frozen (p := ⟨b, o, none⟩) h⟩
theorem Rd.alloc {k : IntKind} {b : Nat} {w : World} {B : Nat} {A : Option Addr} {n c : Nat} {xs : List Nat} (h : Rd k b w B A n c xs) (hB : B ≤ w.heap.size) (o : Obj) : Rd k b (w.alloc o) B A n c xs := h.keep fun p hp => World.cell?_alloc_lt w o p (by omega)

theorem Rd.drew {k : IntKind} {b : Nat} {w : World} {A : Option Addr} {n c : Nat} {xs : List Nat} (h : Rd k b w w.heap.size A n c xs) : Rd k b w.drew w.drew.heap.size A n c xs := ⟨h.len, h.room, h.lt, h.cells⟩
theorem signed_any (A : Option Addr) (n c : Nat) (b : Bool) (ys : List Nat) (w : World) (h : NR w w.heap.size A n c ys) :
    Calls Try.prog 80 #[.bool b, .slice A n c] w (IntPost w n (b && decide (0 < n)) ys) := by
  cases b
  · go_enter Try.func80, Try.ntmps80
    go_wp2
    refine bodyPost_ret (v := .agg #[.bool false, .slice A n c]) (by simp [results, Try.results80, go_sem]) rfl ?_
    exact ⟨A, n, c, rfl, Nat.le_refl _, by simpa using (h.alloc (Nat.le_refl _) _).more (Nat.le_succ _), (Below.refl _ _).alloc (Nat.le_refl _) _⟩
  · by_cases hn : 0 < n
    · have H := Lib.hid (show (true && decide (0 < n)) = true by simpa using hn)
      go_enter Try.func80, Try.ntmps80
      go_wp2
      refine bodyPost_ret (v := .agg #[.bool true, .slice A n c]) (by simp [results, Try.results80, go_sem]) rfl ?_
      rw [H.out]
      exact ⟨A, n, c, rfl, Nat.le_refl _, by simpa using (h.alloc (Nat.le_refl _) _).more (Nat.le_succ _), (Below.refl _ _).alloc (Nat.le_refl _) _⟩
    · have H := Lib.hid (show (true && decide (0 < n)) = false by simpa using hn)
      obtain rfl : n = 0 := by omega
      go_enter Try.func80, Try.ntmps80
      go_wp2
      refine bodyPost_ret (v := .agg #[.bool false, .slice A 0 c]) (by simp [results, Try.results80, go_sem]) rfl ?_
      rw [H.out]
      exact ⟨A, 0, c, rfl, Nat.le_refl _, by simpa using (h.alloc (Nat.le_refl _) _).more (Nat.le_succ _), (Below.refl _ _).alloc (Nat.le_refl _) _⟩

/-- Two whole numbers that were handed in, each in a block of its own. -/
structure Box2 (w W : World) (b b' : Bool) (s s' : Value) : Prop where
  below : Below w.heap.size w W
  size : w.heap.size + 2 ≤ W.heap.size
  a0 : W.cell? ⟨w.heap.size, 0, none⟩ = some (.bool b)
  a1 : W.cell? ⟨w.heap.size, 1, none⟩ = some s
  b0 : W.cell? ⟨w.heap.size + 1, 0, none⟩ = some (.bool b')
  b1 : W.cell? ⟨w.heap.size + 1, 1, none⟩ = some s'
  free : ∀ o, W.frozen? ⟨w.heap.size, o, none⟩ = false ∧ W.frozen? ⟨w.heap.size + 1, o, none⟩ = false
/-- And a block for the answer behind them. -/
structure Box3 (w W : World) (b b' : Bool) (s s' r0 r1 : Value) : Prop extends Box2 w W b b' s s' where
  size3 : W.heap.size = w.heap.size + 3
  r0 : W.cell? ⟨w.heap.size + 2, 0, none⟩ = some r0
  r1 : W.cell? ⟨w.heap.size + 2, 1, none⟩ = some r1
  f0 : W.frozen? ⟨w.heap.size + 2, 0, none⟩ = false
  f1 : W.frozen? ⟨w.heap.size + 2, 1, none⟩ = false
theorem box2 (w : World) (b b' : Bool) (s s' : Value) (t : TypeId) : Box2 w ((w.alloc (.cells #[.bool b, s] t)).alloc (.cells #[.bool b', s'] t)) b b' s s' := by
  refine ⟨((Below.refl _ _).alloc (Nat.le_refl _) _).alloc (by simp) _, by simp, ?_, ?_, ?_, ?_, ?_⟩ <;> simp [go_sem]
theorem box3 (w : World) (b b' : Bool) (s s' r0 r1 : Value) (t : TypeId) : Box3 w (((w.alloc (.cells #[.bool b, s] t)).alloc (.cells #[.bool b', s'] t)).alloc (.cells #[r0, r1] t)) b b' s s' r0 r1 := by
  refine ⟨⟨(((Below.refl _ _).alloc (Nat.le_refl _) _).alloc (by simp) _).alloc (by simp; omega) _, by simp, ?_, ?_, ?_, ?_, ?_⟩, by simp, ?_, ?_, ?_, ?_⟩ <;> simp [go_sem]

theorem Box2.keep {w W W' : World} {b b' : Bool} {s s' : Value} (h : Box2 w W b b' s s') (hb : Below W.heap.size W W') : Box2 w W' b b' s s' := by
  have := h.size
  have z := hb.size
  exact ⟨h.below.trans (hb.mono (by omega)), by omega, (hb.cell (p := ⟨w.heap.size, 0, none⟩) (show w.heap.size < _ by omega)).trans h.a0, (hb.cell (p := ⟨w.heap.size, 1, none⟩) (show w.heap.size < _ by omega)).trans h.a1, (hb.cell (p := ⟨w.heap.size + 1, 0, none⟩) (show w.heap.size + 1 < _ by omega)).trans h.b0, (hb.cell (p := ⟨w.heap.size + 1, 1, none⟩) (show w.heap.size + 1 < _ by omega)).trans h.b1, fun o => ⟨(hb.frozen (p := ⟨w.heap.size, o, none⟩) (show w.heap.size < _ by omega)).trans (h.free o).1, (hb.frozen (p := ⟨w.heap.size + 1, o, none⟩) (show w.heap.size + 1 < _ by omega)).trans (h.free o).2⟩⟩
theorem Box2.drew {w W : World} {b b' : Bool} {s s' : Value} (h : Box2 w W b b' s s') : Box2 w W.drew b b' s s' := ⟨h.below.drew, h.size, h.a0, h.a1, h.b0, h.b1, h.free⟩
/-- A cell of a block that was there stays. -/
theorem kept_cell {W W' : World} {g o : Nat} {v : Value} (hb : Below W.heap.size W W') (hg : g < W.heap.size) (h : W.cell? ⟨g, o, none⟩ = some v) : W'.cell? ⟨g, o, none⟩ = some v := (hb.cell (p := ⟨g, o, none⟩) hg).trans h
theorem kept_free {W W' : World} {g o : Nat} (hb : Below W.heap.size W W') (hg : g < W.heap.size) (h : W.frozen? ⟨g, o, none⟩ = false) : W'.frozen? ⟨g, o, none⟩ = false := (hb.frozen (p := ⟨g, o, none⟩) hg).trans h
/-- Words stay where a cell is written that holds none. -/
theorem Rd.aside {k : IntKind} {b : Nat} {w : World} {B : Nat} {A : Option Addr} {n c : Nat} {xs : List Nat} (h : Rd k b w B A n c xs) {p : Addr} {v : Value} (hp : w.cell? p = some v) (hv : ∀ x : Int, v ≠ .int k x) (u : Value) : Rd k b (w.setCell p u) B A n c xs := by
  refine ⟨h.len, h.room, h.lt, fun hn => ?_⟩
  obtain ⟨ad, rfl, hb, hc⟩ := h.cells hn
  refine ⟨ad, rfl, hb, fun j x hx => ?_⟩
  rw [World.cell?_setCell_other w p _ u (fun e => ?_)]
  · exact hc j x hx
  · have := hc j x hx
    first | (rw [e] at this; rw [hp] at this; exact hv _ (Option.some.inj this)) | (rw [← e] at this; rw [hp] at this; exact hv _ (Option.some.inj this))
theorem rd_answer {w : World} {A : Option Addr} {n c g : Nat} {xs : List Nat} {b0 b1 : Bool} {A0 : Option Addr} {n0 c0 : Nat} {s : Value} (h : NR w w.heap.size A n c xs) (h0 : w.cell? ⟨g, 0, none⟩ = some (.bool b0)) (h1 : w.cell? ⟨g, 1, none⟩ = some (.slice A0 n0 c0)) :
    NR ((w.setCell ⟨g, 0, none⟩ (.bool b1)).setCell ⟨g, 1, none⟩ s) ((w.setCell ⟨g, 0, none⟩ (.bool b1)).setCell ⟨g, 1, none⟩ s).heap.size A n c xs := by
  have e : ((w.setCell ⟨g, 0, none⟩ (.bool b1)).setCell ⟨g, 1, none⟩ s).heap.size = w.heap.size := by simp [World.setCell]
  rw [e]
  refine (h.aside h0 (fun _ => by simp) _).aside (v := .slice A0 n0 c0) ?_ (fun _ => by simp) _
  rw [World.cell?_setCell_other _ _ _ _ (by simp)]
  exact h1
/-- A number has words just if it isn't 0. -/
theorem pos_words {w : World} {B : Nat} {A : Option Addr} {n c V : Nat} (h : NR w B A n c (nw V)) : decide (0 < n) = decide (0 < V) := by
  have hl := h.len
  rcases Nat.eq_zero_or_pos V with h0 | h0
  · subst h0
    have : n = 0 := hl.symm
    subst this
    rfl
  · have h1 : 0 < (nw V).length := (dg_len W64_two V h0).1
    rw [hl] at h1
    rw [decide_eq_true h0, decide_eq_true h1]
theorem ans_cells {w : World} {g : Nat} {x y : Value} (h0 : w.cell? ⟨g, 0, none⟩ = some x) (h1 : w.cell? ⟨g, 1, none⟩ = some y) (u v : Value) :
    ((w.setCell ⟨g, 0, none⟩ u).setCell ⟨g, 1, none⟩ v).cell? ⟨g, 0, none⟩ = some u ∧ ((w.setCell ⟨g, 0, none⟩ u).setCell ⟨g, 1, none⟩ v).cell? ⟨g, 1, none⟩ = some v := by
  have e : (w.setCell ⟨g, 0, none⟩ u).cell? ⟨g, 1, none⟩ = some y := by rw [World.cell?_setCell_other _ _ _ _ (by simp)]; exact h1
  exact ⟨by rw [World.cell?_setCell_other _ _ _ _ (by simp)]; exact World.cell?_setCell_same _ _ _ h0, World.cell?_setCell_same _ _ _ e⟩
theorem sameInt_any (A A' : Option Addr) (n n' c c' : Nat) (b b' : Bool) (xs ys : List Nat) (w : World) (h : NR w w.heap.size A n c xs) (h' : NR w w.heap.size A' n' c' ys) (hn : n ≤ 1000000) (hn' : n' ≤ 1000000) :
    Calls Try.prog 52 #[.agg #[.bool b, .slice A n c], .agg #[.bool b', .slice A' n' c']] w fun e w' => e = .returned (.bool (decide (b = b' ∧ xs = ys))) ∧ Below w.heap.size w w' := by
  have hx := box2 w b b' (.slice A n c) (.slice A' n' c') 52
  by_cases hb : b = b'
  · subst hb
    have H := Lib.hid (show decide (b = b ∧ xs = ys) = decide (xs = ys) by simp)
    have hbb : (b == b) = true := by simp
    have HX := Lib.hid hx
    clear hx
    go_enter Try.func52, Try.ntmps52
    go_wp2_with fail
    refine (same_any _ _ _ _ _ _ _ xs ys _ (h.below HX.out.below) (h'.below HX.out.below) hn hn').mono ?_
    rintro e w' ⟨rfl, q, rfl⟩
    go_wp2
    go_ret
    exact ⟨by rw [H.out]; rfl, below_drewN HX.out.below q⟩
  · have H := Lib.hid (show decide (b = b' ∧ xs = ys) = false by simp [hb])
    have hbb : (b == b') = false := by simpa using hb
    have HX := Lib.hid hx
    clear hx hb
    go_enter Try.func52, Try.ntmps52
    go_wp2
    go_ret
    exact ⟨by rw [H.out]; rfl, HX.out.below⟩

set_option maxHeartbeats 1000000 in
theorem times_any (A A' : Option Addr) (n n' c c' : Nat) (b b' : Bool) (xs ys : List Nat) (w : World) (h : NR w w.heap.size A n c xs) (h' : NR w w.heap.size A' n' c' ys) (hn : n ≤ 1000) (hn' : n' ≤ 1000) :
    Calls Try.prog 55 #[.agg #[.bool b, .slice A n c], .agg #[.bool b', .slice A' n' c']] w (IntPost w (n + n') ((b != b') && decide (0 < nv xs * nv ys)) (nw (nv xs * nv ys))) := by
  have hx := box3 w b b' (.slice A n c) (.slice A' n' c') (.bool false) (.slice none 0 0) 52
  have HX := Lib.hid hx
  clear hx
  go_enter Try.func55, Try.ntmps55
  go_wp2
  generalize ((w.alloc (Obj.cells #[Value.bool b, Value.slice A n c] 52)).alloc (Obj.cells #[Value.bool b', Value.slice A' n' c'] 52)).alloc (Obj.cells #[Value.bool false, Value.slice none 0 0] 52) = W at *
  have HB := HX.out.toBox2
  obtain ⟨⟨xb, xs0, a0, a1, b0, b1, fr⟩, x3, r0, r1, f0, f1⟩ := HX.out
  have X3 := Lib.hid x3
  have hR := (h.below xb).more (show w.heap.size ≤ W.heap.size by omega)
  have hR' := (h'.below xb).more (show w.heap.size ≤ W.heap.size by omega)
  have hz3 : w.heap.size + 3 ≤ W.heap.size := by omega
  have ne1 : ¬ (w.heap.size + 1 + 1 = w.heap.size) := by omega
  have ne2 : ¬ (w.heap.size = w.heap.size + 1 + 1) := by omega
  clear x3
  go_region_held3 (fun w' => w'.cell? ⟨w.heap.size, 0, none⟩ = some (.bool b) ∧ w'.cell? ⟨w.heap.size + 1, 0, none⟩ = some (.bool b') ∧ w'.cell? ⟨w.heap.size, 1, none⟩ = some (.slice A n c) ∧ w'.cell? ⟨w.heap.size + 1, 1, none⟩ = some (.slice A' n' c')) (go_keep)
    (first
      | (go_at_call 42; refine (natMul_any A A' n n' c c' xs ys W.drew hR.drew hR'.drew (by omega) (by omega)).mono ?_; rintro e w1 ⟨A2, n2, c2, rfl, hn2, hr2, hb2⟩; obtain ⟨_, _, _, _, _, _, _⟩ := HB.drew.keep hb2; have hs2 : W.heap.size ≤ w1.heap.size := hb2.size)
      | (go_at_call 80; refine (signed_any A2 n2 c2 _ _ _ hr2).mono ?_; rintro e w2 ⟨A3, n3, c3, rfl, hn3, hr3, hb3⟩; obtain ⟨_, _, _, _, _, _, _⟩ := (HB.drew.keep hb2).keep hb3; have hs3 := hb3.size; have r0' := kept_cell hb3 (by omega) (kept_cell hb2 (show w.heap.size + 2 < W.heap.size by omega) r0); have r1' := kept_cell hb3 (by omega) (kept_cell hb2 (show w.heap.size + 2 < W.heap.size by omega) r1); have f0' := kept_free hb3 (by omega) (kept_free hb2 (show w.heap.size + 2 < W.heap.size by omega) f0); have f1' := kept_free hb3 (by omega) (kept_free hb2 (show w.heap.size + 2 < W.heap.size by omega) f1)))
  go_wp2
  have r0'' : w2.cell? ⟨w.heap.size + 1 + 1, 0, none⟩ = some (.bool false) := r0'
  have r1'' : w2.cell? ⟨w.heap.size + 1 + 1, 1, none⟩ = some (.slice none 0 0) := r1'
  obtain ⟨z0, z1⟩ := ans_cells r0'' r1'' (.bool ((!b == b') && decide (0 < n2))) (.slice A3 n3 c3)
  refine bodyPost_ret (v := .agg #[.bool ((!b == b') && decide (0 < n2)), .slice A3 n3 c3]) (by simp [results, Try.results55, go_sem, z0, z1]) rfl ?_
  refine ⟨A3, n3, c3, ?_, by omega, rd_answer hr3 r0' r1', ?_⟩
  · rw [pos_words hr2]; rfl
  · exact ((xb.trans ((Below.drew (Below.refl _ W)).trans (hb2.mono (show W.heap.size ≤ W.drew.heap.size from Nat.le_refl _)) |>.mono (by omega))).trans (hb3.mono (by omega))).setCell (by simp; omega) _ |>.setCell (by simp; omega) _
end Go.Proofs.Ytcfbemjnkiepdaa
