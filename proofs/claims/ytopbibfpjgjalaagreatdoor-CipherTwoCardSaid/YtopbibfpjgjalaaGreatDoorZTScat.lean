import Derived.Test.YtopbibfpjgjalaaGreatDoorZ13
import Derived.Test.YtopbibfpjgjalaaGreatDoorZTFft
namespace Go.Proofs.YtopbibfpjgjalaaGreatDoor
open Go.RowKit
set_option linter.unusedVariables false
set_option maxRecDepth 100000
def newU (n : Nat) : Array Value := ((List.range n).map fun _ => Value.int .u64 0).toArray
theorem zei (w : World) (n : Nat) : UW (w.alloc (.cells (newU n) 26)) w.heap.size n (fun _ => 0) := heap_alloc_new w _
theorem zb2 (n : Nat) (hn : n ≤ 1000000) (w : World) :
    (Instr.makeSlice 22 (.int .i64 (n : Int)) (.int .i64 (n : Int))).run Tryz.prog w = .ok (.slice (some ⟨w.heap.size, 0, none⟩) n n) (w.alloc (.cells (newU n) 26)) := by
 obtain ⟨i0, hi, hz0, hz1, hz2⟩ := info_parts zdw
 have hr := run_make (P := Tryz.prog) w 22 26 i0 (.int .u64 0) Tryz.underlying22 hi hz0 .i64 .i64 (n : Int) (n : Int) (by omega) (by omega) (by rw [hz2]; omega) (by omega)
 rw [hz1] at hr
 simp only [Int.toNat_natCast] at hr
 rw [hr]
 have e : madeCells (Value.int .u64 0).cells (n * 1) = newU n := by
  apply Array.toList_inj.1
  unfold newU madeCells
  apply List.ext_getElem?
  intro j
  by_cases hj : j < n
  ·simp [hj, Value.cells, Nat.mod_one]
  ·simp [hj]
 rw [e]
theorem zpf {k : Nat} (h0 : 1 ≤ k) (h1 : k ≤ 9) : Lib.bitLen (2 ^ k - 1) = k := by
 rcases (show k = 1 ∨ k = 2 ∨ k = 3 ∨ k = 4 ∨ k = 5 ∨ k = 6 ∨ k = 7 ∨ k = 8 ∨ k = 9 by omega) with rfl | rfl | rfl | rfl | rfl | rfl | rfl | rfl | rfl <;> decide
theorem zez {k : Nat} (h0 : 1 ≤ k) (h1 : k ≤ 9) : 2 ≤ 2 ^ k ∧ 2 ^ k ≤ 512 := by
 rcases (show k = 1 ∨ k = 2 ∨ k = 3 ∨ k = 4 ∨ k = 5 ∨ k = 6 ∨ k = 7 ∨ k = 8 ∨ k = 9 by omega) with rfl | rfl | rfl | rfl | rfl | rfl | rfl | rfl | rfl <;> decide
def scatF (k : Nat) (f : Nat → Nat) (m i : Nat) : Nat := if rev k i < m then f (rev k i) else 0
theorem znv {k : Nat} (h0 : 1 ≤ k) (h1 : k ≤ 9) (f : Nat → Nat) (m i : Nat) (hm : m < 2 ^ k) (hi : i < 2 ^ k) : (if i = rev k m then f m else scatF k f m i) = scatF k f (m + 1) i := by
 unfold scatF
 by_cases h : i = rev k m
 ·subst h
  rw [if_pos rfl, (zem h0 h1 hm).1, if_pos (by omega)]
 ·rw [if_neg h]
  have : rev k i ≠ m := fun e => h (by rw [← e, (zem h0 h1 hi).1])
  by_cases h2 : rev k i < m
  ·rw [if_pos h2, if_pos (by omega)]
  ·rw [if_neg h2, if_neg (by omega)]
set_option maxHeartbeats 1000000 in
theorem zd4 (A : Option Addr) (n c k : Nat) (f : Nat → Nat) (w : World) (hX : FX w A n c f) (hk : Hid (n = 2 ^ k)) (h0 : 1 ≤ k) (h1 : k ≤ 9) :
    Calls Tryz.prog 280 #[.slice A n c] w fun e w' => e = .returned (.slice (some ⟨w.heap.size, 0, none⟩) n n) ∧ UW w' w.heap.size n (fun i => f (rev k i)) ∧ Ext w w' := by
 have hn := zez h0 h1
 rw [← hk.out] at hn
 obtain ⟨hn0, hn1⟩ := hn
 have hmk := zb2 n (by omega)
 have HL := Lib.hid (show (64 - (Lib.bitLen ((n : Int) - 1).toNat : Int)) = ((64 - k : Nat) : Int) by
  rw [show ((n : Int) - 1).toNat = n - 1 by omega, hk.out, zpf h0 h1]; omega)
 have HR : ∀ i, i < n → revW i / 2 ^ (64 - k) = rev k i := fun i hi => zyo h0 h1 (by rw [← hk.out]; exact hi)
 have hs : 64 - k ≤ 63 := by omega
 obtain ⟨s, hsd⟩ : ∃ s, s = 64 - k := ⟨_, rfl⟩
 rw [← hsd] at HL HR hs
 have HRR := Lib.hid HR
 clear HR hsd
 have hw1 : IntKind.u64.wrap ((n : Int) - 1) = (n : Int) - 1 := by rw [IntKind.wrap_u64]; omega
 go_enter Tryz.func280, Tryz.ntmps280
 go_wp2_with fail
 refine (zcg _ _ (by omega) (by omega)).mono ?_
 rw [HL.out]
 rintro e w1 ⟨rfl, rfl⟩
 go_wp2_with fail
 clear hmk hw1
 go_loopw [17] (fun i wr => ∃ m : Nat, m ≤ n ∧ i = .int .i64 (m : Int) ∧ UW wr w.heap.size n (scatF k f m) ∧ Ext w wr) (fun i _ => n - (intOf i).toNat)
 case atStart => exact ⟨0, by omega, rfl, (zei w n).congr fun i _ => by unfold scatF; rw [if_neg (by omega)], (Ext.refl w).alloc _⟩
 case round =>
  obtain ⟨m, hm, rfl, hu, kr⟩ := hrel
  have hsz := RW.lt hu
  by_cases hlt : m < n
  ·obtain ⟨ad, rfl, hc⟩ := hX.cells (by omega)
   have hcell := cE kr (hc m hlt)
   have hrl := (zem h0 h1 (show m < 2 ^ k by rw [← hk.out]; exact hlt)).2
   rw [← hk.out] at hrl
   have r0 := RW.cell hu hrl
   have z0 := RW.frozen hu (rev k m)
   have HS := Lib.hid (fun i (hi : i < n) => znv h0 h1 f m i (by rw [← hk.out]; exact hlt) (by rw [← hk.out]; exact hi))
   have HRm := HRR.out m hlt
   have hdiv : (revW m : Int) / 2 ^ s = (rev k m : Int) := by
    rw [← HRm, Int.natCast_ediv, Int.natCast_pow]; rfl
   have hrw := z0d m (by omega)
   clear HRm hc
   generalize rev k m = y at *
   have i0 : (0 : Int) ≤ (y : Int) := by omega
   have i1 : (y : Int) < (n : Int) := by omega
   go_wp2_with fail
   refine (zxq m _ (by omega)).mono ?_
   rintro e w2 ⟨rfl, rfl⟩
   generalize revW m = x at *
   go_wp2_with fail
   have hu2 := (hu.set hrl (f m)).congr HS.out
   have kr2 := kr.set (p := ⟨w.heap.size, y, none⟩) (Nat.le_refl _) (.int .u64 (f m : Int))
   exact ⟨⟨m + 1, by omega, by go_num, hu2, kr2⟩, by simp [intOf]; omega⟩
  ·obtain rfl : m = n := by omega
   have hfin := hu.congr (f' := fun i => f (rev k i)) fun i hi => by
    have := (zem h0 h1 (show i < 2 ^ k by rw [← hk.out]; exact hi)).2
    rw [← hk.out] at this
    unfold scatF; rw [if_pos this]
   have HF := Lib.hid hfin
   clear hfin hu
   go_wp2
   go_ret
   exact ⟨rfl, HF.out, kr⟩
end Go.Proofs.YtopbibfpjgjalaaGreatDoor
