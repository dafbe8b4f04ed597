/-
  Rows of words that a call writes in place: a block of which every cell is known, and what a store makes of it.
-/
import Derived.Test.YtjeipbahddhfgaaNRead
import Derived.Test.YtjeipbahddhfgaaNMath2
import Derived.Laws.Rows
namespace Go.Proofs.Ytjeipbahddhfgaa
open Go.RowKit
set_option maxRecDepth 100000

theorem u64s_append (xs ys : List Nat) : u64s (xs ++ ys) = u64s xs ++ u64s ys := by simp [u64s]
theorem u64s_length (xs : List Nat) : (u64s xs).length = xs.length := by simp [u64s]
theorem set_mid {pre ns post : List Nat} {p v i : Nat} (hi : i = pre.length + ns.length) : (pre ++ ns ++ p :: post).set i v = pre ++ (ns ++ [v]) ++ post := by
  subst hi
  rw [List.set_append_right _ _ (by simp)]
  simp
theorem get_mid {pre ns post : List Nat} {p i : Nat} (hi : i = pre.length + ns.length) : (pre ++ ns ++ p :: post)[i]? = some p := by
  subst hi
  rw [List.getElem?_append_right (by simp)]
  simp
theorem only_set {w : World} {g i : Nat} (v : Value) : w.grownBy (w.setCell ⟨g, i, none⟩ v) (some g) :=
  ⟨rfl, rfl, rfl, by simp [World.setCell], fun k _ hne => Below.heap_setCell _ _ _ _ (fun e => hne (by rw [e]))⟩
theorem only_trans {a b c : World} {row : Option Nat} (h : a.grownBy b row) (k : b.grownBy c row) : a.grownBy c row :=
  ⟨k.os.trans h.os, k.tape.trans h.tape, k.output.trans h.output, Nat.le_trans h.size k.size, fun i hi hne => (k.block i (Nat.lt_of_lt_of_le hi h.size) hne).trans (h.block i hi hne)⟩
theorem only_drewN {a w : World} {row : Option Nat} (h : a.grownBy w row) (n : Nat) : a.grownBy (w.drewN n) row := ⟨h.os, h.tape, h.output, h.size, h.block⟩
/-- What lies outside the one row that is written reads as it did. -/
theorem Rd.only {k : IntKind} {b : Nat} {w w' : World} {B g : Nat} {A : Option Addr} {n c : Nat} {xs : List Nat} (h : Rd k b w B A n c xs) (hg : w.grownBy w' (some g)) (hB : B ≤ w.heap.size) (hne : 0 < n → ∀ ad, A = some ad → ad.block ≠ g) : Rd k b w' B A n c xs := by
  refine ⟨h.len, h.room, h.lt, fun hn => ?_⟩
  obtain ⟨ad, rfl, hb, hc⟩ := h.cells hn
  refine ⟨ad, rfl, hb, fun j x hx => (World.cell?_of_block ?_).trans (hc j x hx)⟩
  have hbl : (ad.add j).block = ad.block := by unfold Addr.add; split <;> rfl
  rw [hbl]
  exact hg.block _ (by omega) (fun e => hne hn ad rfl (by injection e))
theorem below_only {B : Nat} {w0 w w' : World} {g : Nat} (hb : Below B w0 w) (hg : w.grownBy w' (some g)) (hB : B ≤ w.heap.size) (h : B ≤ g) : Below B w0 w' :=
  hb.grown hg hB (fun k e => by injection e with e; omega)
theorem made_u64 (n : Nat) : (madeCells (Value.int .u64 0).cells (n * 1)).toList = u64s (List.replicate n 0) := by
  rw [Nat.mul_one]
  refine (toList_madeCells_one (Value.int .u64 0) n).trans ?_
  simp [u64s]
end Go.Proofs.Ytjeipbahddhfgaa
