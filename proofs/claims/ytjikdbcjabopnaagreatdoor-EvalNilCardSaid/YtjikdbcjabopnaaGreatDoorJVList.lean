import Derived.Test.YtjikdbcjabopnaaGreatDoorJVTape
import Derived.Lib.SliceRun
namespace Go.Proofs.YtjikdbcjabopnaaGreatDoor
open Go.RowKit
set_option linter.unusedVariables false
set_option maxRecDepth 100000
def IW (w : World) (g : Nat) (zs : List Int) : Prop := w.heap[g]? = some (.cells (zs.map (Value.int .i64)).toArray 2 (0, 0))
section
variable {w w' : World} {g : Nat} {zs : List Int}
theorem IW.lt (h : IW w g zs) : g < w.heap.size := (Array.getElem?_eq_some_iff.1 h).1
theorem IW.cell (h : IW w g zs) {i : Nat} {z : Int} (hz : zs[i]? = some z) : w.cell? ⟨g, i, none⟩ = some (.int .i64 z) := by
 rw [cell_of_row w g i _ _ (0, 0) h]
 simp [hz]
theorem IW.frozen (h : IW w g zs) (i : Nat) : w.frozen? ⟨g, i, none⟩ = false := by
 unfold IW at h
 simp [World.frozen?, h]
theorem IW.ext (h : IW w g zs) (k : Ext w w') : IW w' g zs := (k.block g h.lt).trans h
theorem IW.set (h : IW w g zs) (i : Nat) (z : Int) : IW (w.setCell ⟨g, i, none⟩ (.int .i64 z)) g (zs.set i z) := by
 unfold IW at h ⊢
 simp [World.setCell, Array.getElem?_modify, h, List.map_set]
theorem IW.aside (h : IW w g zs) {a : Addr} {z : Int} (ha : w.cell? a = some (.int .u64 z)) : a.block ≠ g := by
 intro e
 subst e
 unfold IW at h
 unfold World.cell? at ha
 rw [h] at ha
 simp only at ha
 split at ha
 ·cases ha
 ·simp at ha
theorem NX.far {A : Option Addr} {n c : Nat} {xs : List Nat} (hX : NX w A n c xs) (h : IW w g zs) (i : Nat) (v : Value) : NX (w.setCell ⟨g, i, none⟩ v) A n c xs := by
 refine ⟨hX.len, hX.room, hX.lt, fun hn => ?_⟩
 obtain ⟨ad, rfl, hb, hc⟩ := hX.cells hn
 refine ⟨ad, rfl, by simpa using hb, fun j x hx => ?_⟩
 have h1 := hc j x hx
 rw [set_far]
 ·exact h1
 ·intro e
  exact h.aside h1 (by rw [← e])
end
structure LX (w : World) (A : Option Addr) (n c : Nat) (zs : List Int) : Prop where
 len : zs.length = n
 room : n ≤ c
 cells : 0 < n → ∃ ad, A = some ad ∧ ∀ (j : Nat) (z : Int), zs[j]? = some z → w.cell? (ad.add j) = some (.int .i64 z)
theorem LX.ext {w w' : World} {A : Option Addr} {n c : Nat} {zs : List Int} (h : LX w A n c zs) (k : Ext w w') : LX w' A n c zs :=
 ⟨h.len, h.room, fun hn => by
  obtain ⟨ad, e, hc⟩ := h.cells hn
  exact ⟨ad, e, fun j z hz => cell_ext k (hc j z hz)⟩⟩
theorem LX.none_ (w : World) (A : Option Addr) (c : Nat) : LX w A 0 c [] := ⟨rfl, Nat.zero_le _, fun h => absurd h (by omega)⟩
theorem info_i64V : (Tryz.prog.info? 2).map (fun i => (i.zero, i.size, i.bytes)) = some (some (.int .i64 0), 1, 8) := by kernel_rfl
def newJ (n : Nat) : Array Value := ((List.replicate n (0 : Int)).map (Value.int .i64)).toArray
theorem make_i64V (c : Nat) (hc : c ≤ 1000000) (w : World) :
    (Instr.makeSlice 75 (.int .i64 (c : Int)) (.int .i64 (c : Int))).run Tryz.prog w = .ok (.slice (some ⟨w.heap.size, 0, none⟩) c c) (w.alloc (.cells (newJ c) 2)) := by
 obtain ⟨i0, hi, hz0, hz1, hz2⟩ := info_parts info_i64V
 have hr := run_make (P := Tryz.prog) w 75 2 i0 (.int .i64 0) Tryz.underlying75 hi hz0 .i64 .i64 (c : Int) (c : Int) (by omega) (by omega) (by rw [hz2]; omega) (by omega)
 rw [hz1] at hr
 simp only [Int.toNat_natCast] at hr
 rw [hr]
 have e : madeCells (Value.int .i64 0).cells (c * 1) = newJ c := by
  apply Array.toList_inj.1
  rw [Nat.mul_one]
  refine (toList_madeCells_one (Value.int .i64 0) c).trans ?_
  simp [newJ]
 rw [e]
end Go.Proofs.YtjikdbcjabopnaaGreatDoor
