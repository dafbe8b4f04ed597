import Derived.Test.YtjikdbcjabopnaaGreatDoorJ13
import Derived.StillTailTactics
import Derived.BigRegion
namespace Go.Proofs.YtjikdbcjabopnaaGreatDoor
open Go.RowKit
set_option linter.unusedVariables false
set_option maxRecDepth 100000
theorem info_fac : (Tryz.prog.info? 229).map (fun i => (i.zero, i.size, i.bytes)) = some (some (.agg #[.int .u64 0, .int .u64 0]), 2, 16) := by kernel_rfl
def newFac (c : Nat) : Array Value := ((List.range (c * 2)).map fun _ => Value.int .u64 0).toArray
theorem newFac_rw (w : World) (c : Nat) : RW (w.alloc (.cells (newFac c) 229)) w.heap.size 229 (c * 2) (fun _ => .int .u64 0) := heap_alloc_new w _
theorem make_fac (c : Nat) (hc : c ≤ 1000000) (w : World) :
    (Instr.makeSlice 224 (.int .i64 (c : Int)) (.int .i64 (c : Int))).run Tryz.prog w = .ok (.slice (some ⟨w.heap.size, 0, none⟩) c c) (w.alloc (.cells (newFac c) 229)) := by
 obtain ⟨i0, hi, hz0, hz1, hz2⟩ := info_parts info_fac
 have hr := run_make (P := Tryz.prog) w 224 229 i0 (.agg #[.int .u64 0, .int .u64 0]) Tryz.underlying224 hi hz0 .i64 .i64 (c : Int) (c : Int) (by omega) (by omega) (by rw [hz2]; omega) (by omega)
 rw [hz1] at hr
 simp only [Int.toNat_natCast] at hr
 rw [hr]
 have e : madeCells (Value.agg #[.int .u64 0, .int .u64 0]).cells (c * 2) = newFac c := by
  apply Array.toList_inj.1
  unfold newFac madeCells
  apply List.ext_getElem?
  intro j
  by_cases hj : j < c * 2
  ·rcases (show j % 2 = 0 ∨ j % 2 = 1 by omega) with h | h <;> simp [hj, Value.cells, h]
  ·simp [hj]
 rw [e]
def facUp (q : Nat) (b : Nat → Nat) (k i : Nat) : Value := if i < k * 2 then facF q b i else .int .u64 0
theorem facUp_step (q : Nat) (b : Nat → Nat) (k i : Nat) :
    (if i = k * 2 + 1 then Value.int .u64 (shr (b k) q : Int) else if i = k * 2 then .int .u64 (b k : Int) else facUp q b k i) = facUp q b (k + 1) i := by
 unfold facUp
 by_cases h1 : i = k * 2 + 1
 ·subst h1; rw [if_pos rfl, if_pos (by omega), facF, if_neg (by omega), show (k * 2 + 1) / 2 = k by omega]
 ·rw [if_neg h1]
  by_cases h2 : i = k * 2
  ·subst h2; rw [if_pos rfl, if_pos (by omega), facF, if_pos (by omega), Nat.mul_div_cancel _ (by omega)]
  ·rw [if_neg h2]
   by_cases h3 : i < k * 2
   ·rw [if_pos h3, if_pos (by omega)]
   ·rw [if_neg h3, if_neg (by omega)]
set_option maxHeartbeats 1000000 in
theorem progression_any (f r q c : Nat) (w : World) (hq : q ≤ 2305843009213693952) (hf : f < q) (hr : r < q) (hc : c ≤ 100000) :
    Calls Tryz.prog 173 #[.int .u64 (f : Int), .int .u64 (r : Int), .int .u64 (q : Int), .int .i64 (c : Int)] w fun e w' => e = .returned (.slice (some ⟨w.heap.size, 0, none⟩) c c) ∧ FC w' w.heap.size c q (fun i => f * r ^ i % q) ∧ Ext w w' := by
 have hmk := make_fac c (by omega)
 go_enter Tryz.func173, Tryz.ntmps173
 go_wp2
 go_loopw [0, 15] (fun x i wr => ∃ k : Nat, k ≤ c ∧ i = .int .i64 (k : Int) ∧ x = .int .u64 ((f * r ^ k % q : Nat) : Int) ∧ RW wr w.heap.size 229 (c * 2) (facUp q (fun i => f * r ^ i % q) k) ∧ Ext w wr) (fun _ i _ => c - (intOf i).toNat)
 case atStart => exact ⟨0, by omega, rfl, by rw [Nat.pow_zero, Nat.mul_one, Nat.mod_eq_of_lt hf], (newFac_rw w c).congr fun i _ => by unfold facUp; rw [if_neg (by omega)], (Ext.refl w).alloc _⟩
 case round =>
  obtain ⟨k, hk, rfl, rfl, hrw, kr⟩ := hrel
  have hsz := hrw.lt
  by_cases hlt : k < c
  ·have hb := Nat.mod_lt (f * r ^ k) (show 0 < q by omega)
   have HN := Lib.hid (show f * r ^ k % q * r % q = f * r ^ (k + 1) % q by rw [Nat.mod_mul_mod, Nat.mul_assoc, ← Nat.pow_succ])
   have HV := Lib.hid (show (fun i => f * r ^ i % q) k = f * r ^ k % q from rfl)
   generalize (fun i => f * r ^ i % q) = b at *
   generalize f * r ^ k % q = x at *
   go_wp2_with fail
   refine (factorOf_any x q _ hb (by omega)).mono ?_
   rintro e w1 ⟨rfl, k1⟩
   have h1 := hrw.ext k1
   have c0 := h1.cell (i := k * 2) (by omega)
   have c1 := h1.cell (i := k * 2 + 1) (by omega)
   have z0 := h1.frozen (k * 2)
   have z1 := h1.frozen (k * 2 + 1)
   go_wp2_with fail
   have h2 := (h1.set (show k * 2 < c * 2 by omega) (.int .u64 (x : Int))).set (show k * 2 + 1 < c * 2 by omega) (.int .u64 ((shr x q : Nat) : Int))
   have k2 : Ext w ((w1.setCell ⟨w.heap.size, k * 2, none⟩ (.int .u64 (x : Int))).setCell ⟨w.heap.size, k * 2 + 1, none⟩ (.int .u64 ((shr x q : Nat) : Int))) := ((kr.trans k1).set (p := ⟨w.heap.size, k * 2, none⟩) (Nat.le_refl _) _).set (p := ⟨w.heap.size, k * 2 + 1, none⟩) (Nat.le_refl _) _
   generalize (w1.setCell ⟨w.heap.size, k * 2, none⟩ (.int .u64 (x : Int))).setCell ⟨w.heap.size, k * 2 + 1, none⟩ (.int .u64 ((shr x q : Nat) : Int)) = w2 at *
   have h3 : RW w2 w.heap.size 229 (c * 2) (facUp q b (k + 1)) := h2.congr fun i _ => by rw [← facUp_step, HV.out]
   refine (mulN x r q _ (by omega) (by omega) (by omega) (by omega)).mono ?_
   rw [HN.out]
   rintro e w3 ⟨rfl, k3⟩
   go_wp2
   exact ⟨⟨k + 1, by omega, by go_num, rfl, h3.ext k3, k2.trans k3⟩, by simp [intOf] <;> omega⟩
  ·obtain rfl : k = c := by omega
   have hfin : FC wr w.heap.size k q (fun i => f * r ^ i % q) := hrw.congr fun i hi => by unfold facUp; rw [if_pos hi]
   have HF := Lib.hid hfin
   clear hfin hrw
   go_wp2
   go_ret
   exact ⟨rfl, HF.out, kr⟩
end Go.Proofs.YtjikdbcjabopnaaGreatDoor
