/-
  What times of the reference of layer 2 answers: products of digits.
-/
import Derived.Test.YtcfbemjnkiepdaaRWrap
namespace Go.Proofs.Ytcfbemjnkiepdaa
open Go.RowKit
set_option linter.unusedVariables false

/-- Block g holds the digits zs, and nothing else; none of it is frozen. -/
def Dk (w : World) (g : Nat) (zs : List Nat) : Prop := w.heap[g]? = some (.cells (i64s zs).toArray 3 (0, 0))
theorem Dk.lt {w : World} {g : Nat} {zs : List Nat} (h : Dk w g zs) : g < w.heap.size := (Array.getElem?_eq_some_iff.1 h).1
theorem Dk.frozen {w : World} {g : Nat} {zs : List Nat} (h : Dk w g zs) (i : Nat) : w.frozen? ⟨g, i, none⟩ = false := by
  unfold Dk at h
  simp [World.frozen?, h]
theorem Dk.cell {w : World} {g : Nat} {zs : List Nat} (h : Dk w g zs) {i x : Nat} (hx : zs[i]? = some x) : w.cell? ⟨g, i, none⟩ = some (.int .i64 (x : Int)) := by
  have hl := (List.getElem?_eq_some_iff.1 hx).1
  rw [cell_of_row w g i _ 3 (0, 0) h]
  have e := (List.getElem?_eq_some_iff.1 hx).2
  simp [i64s, hl, e]
theorem Dk.set_ {w : World} {g : Nat} {zs : List Nat} (h : Dk w g zs) {i : Nat} (hi : i < zs.length) (v : Nat) : Dk (w.setCell ⟨g, i, none⟩ (.int .i64 (v : Int))) g (zs.set i v) := by
  unfold Dk at h ⊢
  simp [World.setCell, Array.getElem?_modify, h]
  simp [i64s, List.map_set]
theorem Dk.keep {w w' : World} {g : Nat} {zs : List Nat} (h : Dk w g zs) (hg : w'.heap[g]? = w.heap[g]?) : Dk w' g zs := hg.trans h
theorem Dk.rd {w : World} {g n : Nat} {zs : List Nat} (h : Dk w g zs) (hlt : ∀ x ∈ zs, x < 65536) (hn : zs.length = n) : DR w w.heap.size (some ⟨g, 0, none⟩) n n zs := by
  refine ⟨hn, Nat.le_refl _, hlt, fun _ => ⟨_, rfl, h.lt, fun j x hx => ?_⟩⟩
  rw [Addr.add_lit, Nat.zero_add]
  exact h.cell hx
theorem made_i64 (n : Nat) : (madeCells (Value.int .i64 0).cells (n * 1)).toList = i64s (List.replicate n 0) := by
  rw [Nat.mul_one]
  refine (toList_madeCells_one (Value.int .i64 0) n).trans ?_
  simp [i64s]
theorem make_digits (n : Nat) (z : Int) (hz : z = n) (hc : n ≤ 1000000) (w : World) :
    (Instr.makeSlice 63 (.int .i64 z) (.int .i64 z)).run Try.prog w = .ok (.slice (some ⟨w.heap.size, 0, none⟩) n n) (w.alloc (.cells (i64s (List.replicate n 0)).toArray 3)) := by
  subst hz
  obtain ⟨i0, hi, hz0, hz1, hz2⟩ := info_parts info_int
  have hr := run_make (P := Try.prog) w 63 3 i0 (.int .i64 0) Try.underlying63 hi hz0 .i64 .i64 (n : Int) (n : Int) (by omega) (by omega) (by rw [hz2]; omega) (by omega)
  rw [hz1] at hr
  simp only [Int.toNat_natCast] at hr
  rw [hr]
  have e : madeCells (Value.int .i64 0).cells (n * 1) = (i64s (List.replicate n 0)).toArray := by
    apply Array.toList_inj.1
    rw [made_i64]
  rw [e]
theorem vl_rep (b n : Nat) : vl b (List.replicate n 0) = 0 := vl_zeros fun j x hx => by
  by_cases hj : j < n
  · have e : (List.replicate n 0)[j]? = some 0 := by simp [hj]
    rw [e] at hx
    exact (Option.some.inj hx).symm
  · rw [List.getElem?_eq_none (by simp; omega)] at hx
    cases hx

/-- A product so far: the first k digits of xs times Y, and as many noughts behind it as are still to come. -/
def MulD (xs : List Nat) (Y lb k : Nat) (ps : List Nat) : Prop := ps.length = lb + k ∧ (∀ x ∈ ps, x < 65536) ∧ vl 65536 ps = vl 65536 (xs.take k) * Y
theorem mulD_zero {xs : List Nat} {Y lb : Nat} : MulD xs Y lb 0 (List.replicate lb 0) := by
  refine ⟨by simp, fun x hx => by rw [List.eq_of_mem_replicate hx]; omega, ?_⟩
  rw [vl_rep, List.take_zero, vl_nil, Nat.zero_mul]
theorem MulD.step {xs ps ns ys : List Nat} {lb k j x : Nat} (h : MulD xs (vl 65536 ys) lb k ps) (hx : xs[k]? = some x) (hy : ys.length = lb) (t : TimesInv 65536 (ps.drop k ++ [0]) ys x j ns 0) (hj : lb ≤ j) (hj2 : j ≤ lb + 1) :
    MulD xs (vl 65536 ys) lb (k + 1) (ps.take k ++ (ns ++ (ps.drop k ++ [0]).drop j)) := by
  obtain ⟨h1, h2, h3⟩ := h
  obtain ⟨t1, t2, _, t4⟩ := t
  have l : (ps.take k).length = k := by rw [List.length_take]; omega
  have lq : (ps.drop k ++ [0]).length = lb + 1 := by simp; omega
  have hq : ∀ z ∈ ps.drop k ++ [0], z < 65536 := snoc_lt (fun z hz => h2 z (List.mem_of_mem_drop hz)) (by omega)
  have vq : vl 65536 (ps.drop k ++ [0]) = vl 65536 (ps.drop k) := by rw [vl_snoc, Nat.mul_zero, Nat.add_zero]
  rw [Nat.mul_zero, Nat.add_zero, List.take_of_length_le (l := ys) (by omega)] at t4
  refine ⟨by rw [List.length_append, l, List.length_append, t1, List.length_drop, lq]; omega, fun z hz => ?_, ?_⟩
  · rcases List.mem_append.1 hz with hz | hz
    · exact h2 z (List.mem_of_mem_take hz)
    · rcases List.mem_append.1 hz with hz | hz
      · exact t2 z hz
      · exact hq z (List.mem_of_mem_drop hz)
  · have e0 : vl 65536 ps = vl 65536 (ps.take k) + 65536 ^ k * vl 65536 (ps.drop k) := by
      conv => lhs; rw [← List.take_append_drop k ps, vl_append, l]
    have e1 : vl 65536 (ps.drop k ++ [0]) = vl 65536 ((ps.drop k ++ [0]).take j) + 65536 ^ j * vl 65536 ((ps.drop k ++ [0]).drop j) := by
      conv => lhs; rw [← List.take_append_drop j (ps.drop k ++ [0]), vl_append, List.length_take, lq, Nat.min_eq_left hj2]
    have e2 : vl 65536 (ns ++ (ps.drop k ++ [0]).drop j) = vl 65536 (ps.drop k) + x * vl 65536 ys := by
      rw [vl_append, t1, t4, ← vq, e1]; omega
    rw [vl_append, l, e2, Nat.mul_add, ← Nat.add_assoc, ← e0, h3, vl_take_next, hx, Option.getD_some, Nat.add_mul, Nat.mul_assoc]
end Go.Proofs.Ytcfbemjnkiepdaa
