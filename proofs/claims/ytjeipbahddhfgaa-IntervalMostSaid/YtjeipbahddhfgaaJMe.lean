/-
  A graph's nodes in memory; the block of shapes that Check fills.
-/
import Derived.Test.YtjeipbahddhfgaaJAh
import Derived.Test.YtjeipbahddhfgaaVTape
namespace Go.Proofs.Ytjeipbahddhfgaa
open Go.RowKit
set_option linter.unusedVariables false
set_option maxRecDepth 100000

/-- A row of cells in block g. -/
def RJ (w : World) (g : Nat) (t : TypeId) (n : Nat) (F : Nat → Value) : Prop := w.heap[g]? = some (.cells ((List.range n).map F).toArray t (0, 0))
section
variable {w w' : World} {g n : Nat} {t : TypeId} {F G : Nat → Value}
theorem RJ.lt (h : RJ w g t n F) : g < w.heap.size := (Array.getElem?_eq_some_iff.1 h).1
theorem RJ.cell (h : RJ w g t n F) {i : Nat} (hi : i < n) : w.cell? ⟨g, i, none⟩ = some (F i) := by
  unfold RJ at h
  simp [World.cell?, h, hi]
theorem RJ.frozen (h : RJ w g t n F) (i : Nat) : w.frozen? ⟨g, i, none⟩ = false := by
  unfold RJ at h
  simp [World.frozen?, h]
theorem RJ.keep (h : RJ w g t n F) (hg : w'.heap[g]? = w.heap[g]?) : RJ w' g t n F := hg.trans h
theorem RJ.ext (h : RJ w g t n F) (k : Ext w w') : RJ w' g t n F := h.keep (k.block g h.lt)
theorem RJ.set (h : RJ w g t n F) {i : Nat} (hi : i < n) (v : Value) : RJ (w.setCell ⟨g, i, none⟩ v) g t n (fun j => if j = i then v else F j) := by
  unfold RJ at h ⊢
  simp only [World.setCell, Array.getElem?_modify, h]
  simp only [if_true, Option.map_some, List.setIfInBounds_toArray]
  have e : (List.map F (List.range n)).set i v = List.map (fun j => if j = i then v else F j) (List.range n) := by
    apply List.ext_getElem?
    intro j
    rw [List.getElem?_set, List.getElem?_map, List.getElem?_map]
    by_cases hj : j < n
    · by_cases hij : i = j
      · subst hij; simp [hj]
      · have : ¬ j = i := fun e => hij e.symm
        simp [hj, hij, this]
    · by_cases hij : i = j
      · omega
      · simp [hj, hij]
  rw [← e]
  rfl
theorem RJ.new (w : World) (t : TypeId) (n : Nat) (F : Nat → Value) : RJ (w.alloc (.cells ((List.range n).map F).toArray t)) w.heap.size t n F := heap_alloc_new w _
end
/-- A graph's nodes. -/
structure GX (w : World) (A : Option Addr) (c : Nat) (nodes : List Nd) : Prop where
  room : nodes.length ≤ c
  cells : 0 < nodes.length → ∃ ad, A = some ad ∧ ∀ (j : Nat) (x : Nd), nodes[j]? = some x → ∃ As Ad Ab cs cd cb, NdX w x As Ad Ab cs cd cb ∧
    (∀ (f : Nat) (v : Value), [Value.int .i64 x.k, .int .i64 x.a, .int .i64 x.b, .slice As x.sh.length cs, .int .i64 x.lo, .int .i64 x.hi, .int .i64 x.sz, .slice Ad x.da.length cd, .slice Ab x.bi.length cb][f]? = some v → w.cell? ((ad.add (j * 9)).add f) = some v)
theorem GX.ext {w w' : World} {A : Option Addr} {c : Nat} {nodes : List Nd} (h : GX w A c nodes) (k : Ext w w') : GX w' A c nodes :=
  ⟨h.room, fun hn => by
    obtain ⟨ad, e, hc⟩ := h.cells hn
    exact ⟨ad, e, fun j x hx => by
      obtain ⟨As, Ad, Ab, cs, cd, cb, h1, h2⟩ := hc j x hx
      exact ⟨As, Ad, Ab, cs, cd, cb, h1.ext k, fun f v hv => cell_ext k (h2 f v hv)⟩⟩⟩
/-- The nodes one behind the other. -/
def chkR : List Nd → List (List Int) → Except Nat (List (List Int))
  | [], shs => .ok shs
  | x :: r, shs => match nodeR x shs with | .error n => .error n | .ok s => chkR r (shs ++ [s])
/-- What Check answers. -/
def checkR (nodes : List Nd) (out : Int) : Except Nat (List (List Int)) :=
  if nodes.length = 0 ∨ 24 < nodes.length ∨ out < 0 ∨ (nodes.length : Int) ≤ out then .error 3 else chkR nodes []
theorem info_shJ : (Try.prog.info? 38).map (fun i => (i.zero, i.size, i.bytes)) = some (some (.slice none 0 0), 1, 24) := by kernel_rfl
theorem make_ssJ (c : Nat) (hc : c ≤ 1000) (w : World) :
    (Instr.makeSlice 31 (.int .i64 (c : Int)) (.int .i64 (c : Int))).run Try.prog w = .ok (.slice (some ⟨w.heap.size, 0, none⟩) c c) (w.alloc (.cells ((List.range c).map fun _ => Value.slice none 0 0).toArray 38)) := by
  obtain ⟨i0, hi, hz0, hz1, hz2⟩ := info_partsJ info_shJ
  have hr := run_make (P := Try.prog) w 31 38 i0 (.slice none 0 0) Try.underlying31 hi hz0 .i64 .i64 (c : Int) (c : Int) (by omega) (by omega) (by rw [hz2]; omega) (by omega)
  rw [hz1] at hr
  simp only [Int.toNat_natCast] at hr
  rw [hr]
  have e : madeCells (Value.slice none 0 0).cells (c * 1) = ((List.range c).map fun _ => Value.slice none 0 0).toArray := by
    unfold madeCells
    apply Array.toList_inj.1
    apply List.ext_getElem?
    intro j
    by_cases hj : j < c
    · simp [hj, Value.cells, Nat.mod_one]
    · simp [hj]
  rw [e]
theorem nine_at (w : World) (a0 a1 a2 a3 a4 a5 a6 a7 a8 : Value) (t : TypeId) : (w.alloc (.cells #[a0, a1, a2, a3, a4, a5, a6, a7, a8] t)).cell? ⟨w.heap.size, 0, none⟩ = some a0 ∧ (w.alloc (.cells #[a0, a1, a2, a3, a4, a5, a6, a7, a8] t)).cell? ⟨w.heap.size, 1, none⟩ = some a1 ∧ (w.alloc (.cells #[a0, a1, a2, a3, a4, a5, a6, a7, a8] t)).cell? ⟨w.heap.size, 2, none⟩ = some a2 ∧ (w.alloc (.cells #[a0, a1, a2, a3, a4, a5, a6, a7, a8] t)).cell? ⟨w.heap.size, 3, none⟩ = some a3 ∧ (w.alloc (.cells #[a0, a1, a2, a3, a4, a5, a6, a7, a8] t)).cell? ⟨w.heap.size, 4, none⟩ = some a4 ∧ (w.alloc (.cells #[a0, a1, a2, a3, a4, a5, a6, a7, a8] t)).cell? ⟨w.heap.size, 5, none⟩ = some a5 ∧ (w.alloc (.cells #[a0, a1, a2, a3, a4, a5, a6, a7, a8] t)).cell? ⟨w.heap.size, 6, none⟩ = some a6 ∧ (w.alloc (.cells #[a0, a1, a2, a3, a4, a5, a6, a7, a8] t)).cell? ⟨w.heap.size, 7, none⟩ = some a7 ∧ (w.alloc (.cells #[a0, a1, a2, a3, a4, a5, a6, a7, a8] t)).cell? ⟨w.heap.size, 8, none⟩ = some a8 := by
  refine ⟨?_, ?_, ?_, ?_, ?_, ?_, ?_, ?_, ?_⟩ <;> simp
end Go.Proofs.Ytjeipbahddhfgaa
