/-
  Worlds that only grow: what was there reads as it did.
-/
import Derived.Test.YtdnjjpkajiehgaaNRow
import Derived.Test.YtdnjjpkajiehgaaWMore
namespace Go.Proofs.Ytdnjjpkajiehgaa
open Go.RowKit
set_option linter.unusedVariables false
set_option maxRecDepth 100000

theorem below_drewN {B : Nat} {a w : World} (h : Below B a w) (n : Nat) : Below B a (w.drewN n) := ⟨h.os, h.tape, h.output, h.size, h.block⟩
/-- From a to b memory has only grown. -/
def Ext (a b : World) : Prop := Below a.heap.size a b
theorem Ext.refl (a : World) : Ext a a := Below.refl _ _
theorem Ext.trans {a b c : World} (h : Ext a b) (k : Ext b c) : Ext a c := Below.trans h (Below.mono k h.size)
theorem Ext.alloc {a b : World} (h : Ext a b) (o : Obj) : Ext a (b.alloc o) := h.trans (Below.alloc (Below.refl _ _) (Nat.le_refl _) o)
theorem Ext.drewN {a b : World} (h : Ext a b) (n : Nat) : Ext a (b.drewN n) := below_drewN h n
theorem Ext.drew {a b : World} (h : Ext a b) : Ext a b.drew := Below.drew h
theorem Ext.set {a b : World} (h : Ext a b) {p : Addr} (hp : a.heap.size ≤ p.block) (v : Value) : Ext a (b.setCell p v) := Below.setCell h hp v
/-- A cell of a block that was there stays. -/
theorem kept_cell {W W' : World} {g o : Nat} {v : Value} (hb : Ext W W') (hg : g < W.heap.size) (h : W.cell? ⟨g, o, none⟩ = some v) : W'.cell? ⟨g, o, none⟩ = some v := (hb.cell (p := ⟨g, o, none⟩) hg).trans h
theorem kept_free {W W' : World} {g o : Nat} (hb : Ext W W') (hg : g < W.heap.size) (h : W.frozen? ⟨g, o, none⟩ = false) : W'.frozen? ⟨g, o, none⟩ = false := (hb.frozen (p := ⟨g, o, none⟩) hg).trans h
theorem cell_ext {a b : World} (k : Ext a b) {p : Addr} {v : Value} (h : a.cell? p = some v) : b.cell? p = some v := (Below.cell k (World.block_lt_of_cell? _ _ h)).trans h
/-- A list of words, wherever it lies. -/
def NX (w : World) (A : Option Addr) (n c : Nat) (xs : List Nat) : Prop := NR w w.heap.size A n c xs
theorem NX.ext {a b : World} {A : Option Addr} {n c : Nat} {xs : List Nat} (h : NX a A n c xs) (k : Ext a b) : NX b A n c xs := (Rd.below h k).more k.size
theorem set_far {w : World} {p q : Addr} {u : Value} (h : p ≠ q) : (w.setCell p u).cell? q = w.cell? q := World.cell?_setCell_other _ _ _ _ h
end Go.Proofs.Ytdnjjpkajiehgaa
