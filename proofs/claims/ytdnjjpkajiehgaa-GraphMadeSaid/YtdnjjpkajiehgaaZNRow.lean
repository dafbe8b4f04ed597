/-
  Rows of words that a call writes in place: a block of which every cell is known, and what a store makes of it.
-/
import Derived.Test.YtdnjjpkajiehgaaZNRead
import Derived.Test.YtdnjjpkajiehgaaZ2
import Derived.Laws.Rows
namespace Go.Proofs.Ytdnjjpkajiehgaa
open Go.RowKit
set_option maxRecDepth 100000

/-- Block g holds the words zs, and behind them the values sp; none of it is frozen. -/
def Bk (w : World) (g : Nat) (zs : List Nat) (sp : List Value) : Prop := w.heap[g]? = some (.cells (u64s zs ++ sp).toArray 131 (0, 0))
theorem u64s_append (xs ys : List Nat) : u64s (xs ++ ys) = u64s xs ++ u64s ys := by simp [u64s]
theorem u64s_length (xs : List Nat) : (u64s xs).length = xs.length := by simp [u64s]
theorem Bk.lt {w : World} {g : Nat} {zs : List Nat} {sp : List Value} (h : Bk w g zs sp) : g < w.heap.size := (Array.getElem?_eq_some_iff.1 h).1
theorem Bk.frozen {w : World} {g : Nat} {zs : List Nat} {sp : List Value} (h : Bk w g zs sp) (i : Nat) : w.frozen? ⟨g, i, none⟩ = false := by
  unfold Bk at h
  simp [World.frozen?, h]
theorem Bk.cell {w : World} {g : Nat} {zs : List Nat} {sp : List Value} (h : Bk w g zs sp) {i x : Nat} (hx : zs[i]? = some x) : w.cell? ⟨g, i, none⟩ = some (.int .u64 (x : Int)) := by
  have hl := (List.getElem?_eq_some_iff.1 hx).1
  rw [cell_of_row w g i _ 131 (0, 0) h]
  have e := (List.getElem?_eq_some_iff.1 hx).2
  simp [List.getElem?_append, u64s, hl, e]
theorem Bk.drewN {w : World} {g : Nat} {zs : List Nat} {sp : List Value} (h : Bk w g zs sp) (n : Nat) : Bk (w.drewN n) g zs sp := h
theorem Bk.set_ {w : World} {g : Nat} {zs : List Nat} {sp : List Value} (h : Bk w g zs sp) {i : Nat} (hi : i < zs.length) (v : Nat) : Bk (w.setCell ⟨g, i, none⟩ (.int .u64 (v : Int))) g (zs.set i v) sp := by
  unfold Bk at h ⊢
  simp [World.setCell, Array.getElem?_modify, h]
  simp [u64s, hi, List.map_set]
theorem set_mid {pre ns post : List Nat} {p v i : Nat} (hi : i = pre.length + ns.length) : (pre ++ ns ++ p :: post).set i v = pre ++ (ns ++ [v]) ++ post := by
  subst hi
  rw [List.set_append_right _ _ (by simp)]
  simp
theorem get_mid {pre ns post : List Nat} {p i : Nat} (hi : i = pre.length + ns.length) : (pre ++ ns ++ p :: post)[i]? = some p := by
  subst hi
  rw [List.getElem?_append_right (by simp)]
  simp
/-- A block of which nothing is written stays. -/
theorem Bk.keep {w w' : World} {g : Nat} {zs : List Nat} {sp : List Value} (h : Bk w g zs sp) (hg : w'.heap[g]? = w.heap[g]?) : Bk w' g zs sp := hg.trans h
theorem only_set {w : World} {g i : Nat} (v : Value) : w.grownBy (w.setCell ⟨g, i, none⟩ v) (some g) :=
  ⟨rfl, rfl, rfl, by simp [World.setCell], fun k _ hne => Below.heap_setCell _ _ _ _ (fun e => hne (by rw [e]))⟩
theorem only_trans {a b c : World} {row : Option Nat} (h : a.grownBy b row) (k : b.grownBy c row) : a.grownBy c row :=
  ⟨k.os.trans h.os, k.tape.trans h.tape, k.output.trans h.output, Nat.le_trans h.size k.size, fun i hi hne => (k.block i (Nat.lt_of_lt_of_le hi h.size) hne).trans (h.block i hi hne)⟩
theorem only_drewN {a w : World} {row : Option Nat} (h : a.grownBy w row) (n : Nat) : a.grownBy (w.drewN n) row := ⟨h.os, h.tape, h.output, h.size, h.block⟩
/-- What lies outside the one row that is written reads as it did. -/
theorem Rd.only {k : IntKind} {b : Nat} {w w' : World} {B g : Nat} {A : Option Addr} {n c : Nat} {xs : List Nat} (h : Rd k b w B A n c xs) (hg : w.grownBy w' (some g)) (hB : B ≤ w.heap.size) (hne : 0 < n → ∀ ad, A = some ad → ad.block ≠ g) : Rd k b w' B A n c xs := by
  refine ⟨h.len, h.room, h.lt, fun hn => ?_⟩
  obtain ⟨ad, rfl, hb, hc⟩ := h.cells hn
  refine ⟨ad, rfl, hb, fun j x hx => (World.cell?_of_block ?_).trans (hc j x hx)⟩
  have hbl : (ad.add j).block = ad.block := by unfold Addr.add; split <;> rfl
  rw [hbl]
  exact hg.block _ (by omega) (fun e => hne hn ad rfl (by injection e))
theorem Bk.of_row {B : Nat} {w0 w : World} {g cap k : Nat} {zs : List Nat} (h : Row B w0 w g cap k zs) : ∃ sp, sp.length + k = cap ∧ Bk w g zs sp := by
  rcases h.1.2 with ⟨e, _⟩ | ⟨g', cap', cur, e, _, hh, hle, _, hsz, htk⟩
  · injection e with e1 e2; cases e1
  · injection e with e1 e2 e3
    injection e1 with e1
    injection e1 with e1
    subst e1 e3
    refine ⟨cur.toList.drop k, by simp; omega, ?_⟩
    unfold Bk
    rw [hh, ← htk, Nat.mul_one, List.take_append_drop]
theorem Bk.row {B : Nat} {w0 w : World} {g cap k : Nat} {zs : List Nat} {sp : List Value} (h : Bk w g zs sp) (hb : Below B w0 w) (hg : B ≤ g) (hz : zs.length = k) (hs : sp.length + k = cap) (hc : cap ≤ maxLen) : Row B w0 w g cap k zs := by
  refine ⟨⟨by rw [u64s_length]; omega, .inr ⟨g, cap, _, rfl, hg, h, by omega, hc, by simp [u64s_length]; omega, ?_⟩⟩, hb⟩
  rw [List.take_append_of_le_length (by rw [u64s_length]; omega), List.take_of_length_le (by rw [u64s_length]; omega)]
theorem below_only {B : Nat} {w0 w w' : World} {g : Nat} (hb : Below B w0 w) (hg : w.grownBy w' (some g)) (hB : B ≤ w.heap.size) (h : B ≤ g) : Below B w0 w' :=
  hb.grown hg hB (fun k e => by injection e with e; omega)
theorem Bk.rd {w : World} {g n c : Nat} {zs : List Nat} {sp : List Value} (h : Bk w g zs sp) (hlt : ∀ x ∈ zs, x < W64) (hn : zs.length = n) (hc : n ≤ c) : NR w w.heap.size (some ⟨g, 0, none⟩) n c zs := by
  refine ⟨hn, hc, hlt, fun _ => ⟨_, rfl, h.lt, fun j x hx => ?_⟩⟩
  rw [Addr.add_lit, Nat.zero_add]
  exact h.cell hx
theorem Bk.other {w w' : World} {g g' : Nat} {zs : List Nat} {sp : List Value} (h : Bk w g zs sp) (hg : w.grownBy w' (some g')) (hne : g ≠ g') : Bk w' g zs sp :=
  h.keep (hg.block g h.lt (fun e => hne (by injection e)))
theorem Bk.below {w w' : World} {g B : Nat} {zs : List Nat} {sp : List Value} (h : Bk w g zs sp) (hb : Below B w w') (hg : g < B) : Bk w' g zs sp := h.keep (hb.block g hg)
theorem made_u64 (n : Nat) : (madeCells (Value.int .u64 0).cells (n * 1)).toList = u64s (List.replicate n 0) := by
  rw [Nat.mul_one]
  refine (toList_madeCells_one (Value.int .u64 0) n).trans ?_
  simp [u64s]
/-- A row that was just made holds noughts. -/
theorem bk_made {w : World} {B g n : Nat} (h : w.ownsRow B 131 1 (.slice (some ⟨g, 0, none⟩) n n) n (madeCells (Value.int .u64 0).cells (n * 1)).toList) : ∃ sp, sp.length + n = n ∧ Bk w g (List.replicate n 0) sp := by
  rw [made_u64] at h
  exact Bk.of_row (w0 := w) (B := B) ⟨h, Below.refl _ _⟩
end Go.Proofs.Ytdnjjpkajiehgaa
