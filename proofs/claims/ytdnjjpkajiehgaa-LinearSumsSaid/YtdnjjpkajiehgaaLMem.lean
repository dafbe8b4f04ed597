/-
  Rows of cells that a call makes and fills, told by a function of the place.
-/
import Derived.Test.YtdnjjpkajiehgaaJLst
import Derived.Test.YtdnjjpkajiehgaaVTape
import Derived.Deep.QuietTactic
import Derived.Deep.RegionHeld3
namespace Go.Proofs.Ytdnjjpkajiehgaa
open Go.RowKit
set_option linter.unusedVariables false
set_option maxRecDepth 100000

/-- Block g holds n cells, as F tells. -/
def RL (w : World) (g : Nat) (t : TypeId) (n : Nat) (F : Nat → Value) : Prop := w.heap[g]? = some (.cells ((List.range n).map F).toArray t (0, 0))
section
variable {w w' : World} {g n : Nat} {t : TypeId} {F G : Nat → Value}
theorem RL.lt (h : RL w g t n F) : g < w.heap.size := (Array.getElem?_eq_some_iff.1 h).1
theorem RL.cell (h : RL w g t n F) {i : Nat} (hi : i < n) : w.cell? ⟨g, i, none⟩ = some (F i) := by
  unfold RL at h
  simp [World.cell?, h, hi]
theorem RL.frozen (h : RL w g t n F) (i : Nat) : w.frozen? ⟨g, i, none⟩ = false := by
  unfold RL at h
  simp [World.frozen?, h]
theorem RL.keep (h : RL w g t n F) (hg : w'.heap[g]? = w.heap[g]?) : RL w' g t n F := hg.trans h
theorem RL.ext (h : RL w g t n F) (k : Ext w w') : RL w' g t n F := h.keep (k.block g h.lt)
theorem RL.on {p : Nat} (h : RL w g t n F) (k : On p w w') (hne : g ≠ p) : RL w' g t n F := h.keep (k.block g h.lt (fun e => hne (by injection e)))
theorem RL.congr (h : RL w g t n F) (e : ∀ i, i < n → F i = G i) : RL w g t n G := by
  have : (List.range n).map F = (List.range n).map G := List.map_congr_left fun i hi => e i (List.mem_range.1 hi)
  unfold RL at h ⊢
  rw [← this]; exact h
theorem RL.set (h : RL w g t n F) {i : Nat} (hi : i < n) (v : Value) : RL (w.setCell ⟨g, i, none⟩ v) g t n (fun j => if j = i then v else F j) := by
  unfold RL at h ⊢
  simp only [World.setCell, Array.getElem?_modify, h]
  simp only [if_true, Option.map_some, List.setIfInBounds_toArray]
  have e : (List.map F (List.range n)).set i v = List.map (fun j => if j = i then v else F j) (List.range n) := by
    apply List.ext_getElem?
    intro j
    rw [List.getElem?_set, List.getElem?_map, List.getElem?_map]
    by_cases hj : j < n
    · by_cases hij : i = j
      · subst hij; simp [hj]
      · have : ¬ j = i := fun e => hij e.symm
        simp [hj, hij, this]
    · by_cases hij : i = j
      · omega
      · simp [hj, hij]
  rw [← e]
  rfl
theorem RL.new (w : World) (t : TypeId) (n : Nat) (F : Nat → Value) : RL (w.alloc (.cells ((List.range n).map F).toArray t)) w.heap.size t n F := heap_alloc_new w _
end
/-- A row of numbers. -/
def IL (w : World) (g n : Nat) (f : Nat → Int) : Prop := RL w g 3 n (fun i => .int .i64 (f i))
theorem IL.zx {w : World} {g n : Nat} {f : Nat → Int} (h : IL w g n f) : ZX w (some ⟨g, 0, none⟩) n n ((List.range n).map f) :=
  ⟨by simp, Nat.le_refl _, fun _ => ⟨_, rfl, fun j z hz => by
    rw [Addr.add_lit, Nat.zero_add]
    have hj : j < n := by have := (List.getElem?_eq_some_iff.1 hz).1; simpa using this
    rw [List.getElem?_map, List.getElem?_range hj] at hz
    injection hz with hz
    rw [← hz]
    exact RL.cell h hj⟩⟩
theorem IL.set {w : World} {g n : Nat} {f : Nat → Int} (h : IL w g n f) {i : Nat} (hi : i < n) (v : Int) : IL (w.setCell ⟨g, i, none⟩ (.int .i64 v)) g n (fun j => if j = i then v else f j) :=
  (RL.set h hi _).congr fun j _ => by by_cases e : j = i <;> simp [e]
theorem IL.congr {w : World} {g n : Nat} {f f' : Nat → Int} (h : IL w g n f) (e : ∀ i, i < n → f i = f' i) : IL w g n f' := RL.congr h fun i hi => by rw [e i hi]
theorem made_map (z : Value) (hz : z.cells = #[z]) (c : Nat) : madeCells z.cells (c * 1) = ((List.range c).map fun _ => z).toArray := by
  unfold madeCells
  rw [hz]
  apply Array.toList_inj.1
  apply List.ext_getElem?
  intro j
  by_cases hj : j < c
  · simp [hj, Nat.mod_one]
  · simp [hj]
theorem make_intL (c : Nat) (hc : c ≤ 100000) (w : World) :
    (Instr.makeSlice 38 (.int .i64 (c : Int)) (.int .i64 (c : Int))).run Try.prog w = .ok (.slice (some ⟨w.heap.size, 0, none⟩) c c) (w.alloc (.cells ((List.range c).map fun _ => Value.int .i64 0).toArray 3)) := by
  obtain ⟨i0, hi, hz0, hz1, hz2⟩ := info_partsJ info_intJ
  have hr := run_make (P := Try.prog) w 38 3 i0 (.int .i64 0) Try.underlying38 hi hz0 .i64 .i64 (c : Int) (c : Int) (by omega) (by omega) (by rw [hz2]; omega) (by omega)
  rw [hz1] at hr
  simp only [Int.toNat_natCast] at hr
  rw [hr, made_map _ rfl]
theorem info_rowsL : (Try.prog.info? 38).map (fun i => (i.zero, i.size, i.bytes)) = some (some (.slice none 0 0), 1, 24) := by kernel_rfl
theorem make_rowsL (c : Nat) (hc : c ≤ 100000) (w : World) :
    (Instr.makeSlice 31 (.int .i64 (c : Int)) (.int .i64 (c : Int))).run Try.prog w = .ok (.slice (some ⟨w.heap.size, 0, none⟩) c c) (w.alloc (.cells ((List.range c).map fun _ => Value.slice none 0 0).toArray 38)) := by
  obtain ⟨i0, hi, hz0, hz1, hz2⟩ := info_partsJ info_rowsL
  have hr := run_make (P := Try.prog) w 31 38 i0 (.slice none 0 0) Try.underlying31 hi hz0 .i64 .i64 (c : Int) (c : Int) (by omega) (by omega) (by rw [hz2]; omega) (by omega)
  rw [hz1] at hr
  simp only [Int.toNat_natCast] at hr
  rw [hr, made_map _ rfl]
theorem info_boolL : (Try.prog.info? 4).map (fun i => (i.zero, i.size, i.bytes)) = some (some (.bool false), 1, 1) := by kernel_rfl
theorem make_boolL (c : Nat) (hc : c ≤ 100000) (w : World) :
    (Instr.makeSlice 105 (.int .i64 (c : Int)) (.int .i64 (c : Int))).run Try.prog w = .ok (.slice (some ⟨w.heap.size, 0, none⟩) c c) (w.alloc (.cells ((List.range c).map fun _ => Value.bool false).toArray 4)) := by
  obtain ⟨i0, hi, hz0, hz1, hz2⟩ := info_partsJ info_boolL
  have hr := run_make (P := Try.prog) w 105 4 i0 (.bool false) Try.underlying105 hi hz0 .i64 .i64 (c : Int) (c : Int) (by omega) (by omega) (by rw [hz2]; omega) (by omega)
  rw [hz1] at hr
  simp only [Int.toNat_natCast] at hr
  rw [hr, made_map _ rfl]
/-- A slice's cells in a block of their own are cells of the slice. -/
theorem add_own (g j : Nat) : (⟨g, 0, none⟩ : Addr).add j = ⟨g, j, none⟩ := by rw [Addr.add_lit, Nat.zero_add]
end Go.Proofs.Ytdnjjpkajiehgaa
