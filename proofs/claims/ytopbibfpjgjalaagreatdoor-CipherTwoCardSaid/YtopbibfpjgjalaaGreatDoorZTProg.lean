import Derived.Test.YtopbibfpjgjalaaGreatDoorZ13
import Derived.StillTailTactics
import Derived.BigRegion
namespace Go.Proofs.YtopbibfpjgjalaaGreatDoor
open Go.RowKit
set_option linter.unusedVariables false
set_option maxRecDepth 100000
theorem ztp : (Tryz.prog.info? 278).map (fun i => (i.zero, i.size, i.bytes)) = some (some (.agg #[.int .u64 0, .int .u64 0]), 2, 16) := by kernel_rfl
def zmo (c : Nat) : Array Value := ((List.range (c * 2)).map fun _ => Value.int .u64 0).toArray
theorem zq9 (w : World) (c : Nat) : RW (w.alloc (.cells (zmo c) 278)) w.heap.size 278 (c * 2) (fun _ => .int .u64 0) := heap_alloc_new w _
theorem ztv (c : Nat) (hc : c ≤ 1000000) (w : World) :
    (Instr.makeSlice 274 (.int .i64 (c : Int)) (.int .i64 (c : Int))).run Tryz.prog w = .ok (.slice (some ⟨w.heap.size, 0, none⟩) c c) (w.alloc (.cells (zmo c) 278)) := by
 obtain ⟨i0, hi, hz0, hz1, hz2⟩ := info_parts ztp
 have hr := run_make (P := Tryz.prog) w 274 278 i0 (.agg #[.int .u64 0, .int .u64 0]) Tryz.underlying274 hi hz0 .i64 .i64 (c : Int) (c : Int) (by omega) (by omega) (by rw [hz2]; omega) (by omega)
 rw [hz1] at hr
 simp only [Int.toNat_natCast] at hr
 rw [hr]
 have e : madeCells (Value.agg #[.int .u64 0, .int .u64 0]).cells (c * 2) = zmo c := by
  apply Array.toList_inj.1
  unfold zmo madeCells
  apply List.ext_getElem?
  intro j
  by_cases hj : j < c * 2
  ·rcases (show j % 2 = 0 ∨ j % 2 = 1 by omega) with h | h <;> simp [hj, Value.cells, h]
  ·simp [hj]
 rw [e]
def facUp (q : Nat) (b : Nat → Nat) (k i : Nat) : Value := if i < k * 2 then facF q b i else .int .u64 0
theorem zo9 (q : Nat) (b : Nat → Nat) (k i : Nat) :
    (if i = k * 2 + 1 then Value.int .u64 (shr (b k) q : Int) else if i = k * 2 then .int .u64 (b k : Int) else facUp q b k i) = facUp q b (k + 1) i := by
 unfold facUp
 by_cases h1 : i = k * 2 + 1
 ·subst h1; rw [if_pos rfl, if_pos (by omega), facF, if_neg (by omega), show (k * 2 + 1) / 2 = k by omega]
 ·rw [if_neg h1]
  by_cases h2 : i = k * 2
  ·subst h2; rw [if_pos rfl, if_pos (by omega), facF, if_pos (by omega), Nat.mul_div_cancel _ (by omega)]
  ·rw [if_neg h2]
   by_cases h3 : i < k * 2
   ·rw [if_pos h3, if_pos (by omega)]
   ·rw [if_neg h3, if_neg (by omega)]
set_option maxHeartbeats 1000000 in
theorem zbf (f r q c : Nat) (w : World) (hq : q ≤ 2305843009213693952) (hf : f < q) (hr : r < q) (hc : c ≤ 100000) :
    Calls Tryz.prog 206 #[.int .u64 (f : Int), .int .u64 (r : Int), .int .u64 (q : Int), .int .i64 (c : Int)] w fun e w' => e = .returned (.slice (some ⟨w.heap.size, 0, none⟩) c c) ∧ FC w' w.heap.size c q (fun i => f * r ^ i % q) ∧ Ext w w' := by
 have hmk := ztv c (by omega)
 go_enter Tryz.func206, Tryz.ntmps206
 go_wp2
 go_loopw [0, 15] (fun x i wr => ∃ k : Nat, k ≤ c ∧ i = .int .i64 (k : Int) ∧ x = .int .u64 ((f * r ^ k % q : Nat) : Int) ∧ RW wr w.heap.size 278 (c * 2) (facUp q (fun i => f * r ^ i % q) k) ∧ Ext w wr) (fun _ i _ => c - (intOf i).toNat)
 case atStart => exact ⟨0, by omega, rfl, by rw [Nat.pow_zero, Nat.mul_one, Nat.mod_eq_of_lt hf], (zq9 w c).congr fun i _ => by unfold facUp; rw [if_neg (by omega)], (Ext.refl w).alloc _⟩
 case round =>
  obtain ⟨k, hk, rfl, rfl, hrw, kr⟩ := hrel
  have hsz := hrw.lt
  by_cases hlt : k < c
  ·have hb := Nat.mod_lt (f * r ^ k) (show 0 < q by omega)
   have HN := Lib.hid (show f * r ^ k % q * r % q = f * r ^ (k + 1) % q by rw [Nat.mod_mul_mod, Nat.mul_assoc, ← Nat.pow_succ])
   have HV := Lib.hid (show (fun i => f * r ^ i % q) k = f * r ^ k % q from rfl)
   generalize (fun i => f * r ^ i % q) = b at *
   generalize f * r ^ k % q = x at *
   go_wp2_with fail
   refine (zjo x q _ hb (by omega)).mono ?_
   rintro e w1 ⟨rfl, k1⟩
   have h1 := hrw.ext k1
   have c0 := h1.cell (i := k * 2) (by omega)
   have c1 := h1.cell (i := k * 2 + 1) (by omega)
   have z0 := h1.frozen (k * 2)
   have z1 := h1.frozen (k * 2 + 1)
   go_wp2_with fail
   have h2 := (h1.set (show k * 2 < c * 2 by omega) (.int .u64 (x : Int))).set (show k * 2 + 1 < c * 2 by omega) (.int .u64 ((shr x q : Nat) : Int))
   have k2 : Ext w ((w1.setCell ⟨w.heap.size, k * 2, none⟩ (.int .u64 (x : Int))).setCell ⟨w.heap.size, k * 2 + 1, none⟩ (.int .u64 ((shr x q : Nat) : Int))) := ((kr.trans k1).set (p := ⟨w.heap.size, k * 2, none⟩) (Nat.le_refl _) _).set (p := ⟨w.heap.size, k * 2 + 1, none⟩) (Nat.le_refl _) _
   generalize (w1.setCell ⟨w.heap.size, k * 2, none⟩ (.int .u64 (x : Int))).setCell ⟨w.heap.size, k * 2 + 1, none⟩ (.int .u64 ((shr x q : Nat) : Int)) = w2 at *
   have h3 : RW w2 w.heap.size 278 (c * 2) (facUp q b (k + 1)) := h2.congr fun i _ => by rw [← zo9, HV.out]
   refine (mulN x r q _ (by omega) (by omega) (by omega) (by omega)).mono ?_
   rw [HN.out]
   rintro e w3 ⟨rfl, k3⟩
   go_wp2
   exact ⟨⟨k + 1, by omega, by go_num, rfl, h3.ext k3, k2.trans k3⟩, by simp [intOf] <;> omega⟩
  ·obtain rfl : k = c := by omega
   have hfin : FC wr w.heap.size k q (fun i => f * r ^ i % q) := hrw.congr fun i hi => by unfold facUp; rw [if_pos hi]
   have HF := Lib.hid hfin
   clear hfin hrw
   go_wp2
   go_ret
   exact ⟨rfl, HF.out, kr⟩
theorem znu (B p n q s m : Nat) (a e : Nat → Nat) (gp ge : Nat) (w : World) (hT : Tb w B p n q a e gp ge) (hB : B ≤ w.heap.size) (hn : n ≤ 100000) (hs : s ≤ 100000) (hm : m ≤ 100000) (hi : (2 * m + 1) * s < 2 * n) :
    Calls Tryz.prog 257 #[.pointer (some ⟨p, 0, none⟩), .int .i64 (s : Int), .int .i64 (m : Int)] w fun ee w' => ee = .returned (.agg #[.int .u64 ((a ((2 * m + 1) * s) : Nat) : Int), .int .u64 ((shr (a ((2 * m + 1) * s)) q : Nat) : Int)]) ∧ Ext w w' := by
 have c0 := hT.pw.by_ hi
 have c1 := hT.pw.share hi
 have hcast : (2 * (m : Int) + 1) * (s : Int) = (((2 * m + 1) * s : Nat) : Int) := by simp
 generalize (2 * m + 1) * s = j at *
 have hpl := hT.powers
 have hp : p < w.heap.size := Nat.lt_of_lt_of_le hT.hp hB
 have hgp : gp < w.heap.size := Nat.lt_of_lt_of_le hT.hgp hB
 have f2 : (w.alloc (Obj.cells #[Value.int IntKind.u64 0, Value.int IntKind.u64 0] 278)).cell? ⟨p, 2, none⟩ = some (.slice (some ⟨gp, 0, none⟩) (2 * n) (2 * n)) := cE ((Ext.refl w).alloc _) hpl
 have f0 := cE ((Ext.refl w).alloc (Obj.cells #[Value.int IntKind.u64 0, Value.int IntKind.u64 0] 278)) c0
 have f1 := cE ((Ext.refl w).alloc (Obj.cells #[Value.int IntKind.u64 0, Value.int IntKind.u64 0] 278)) c1
 have e1 : (0 : Int) ≤ (j : Int) := by omega
 have e2 : (j : Int) < 2 * (n : Int) := by omega
 go_enter Tryz.func257, Tryz.ntmps257
 go_wp2
 exact bodyPost_ret (v := .agg #[.int .u64 (a j : Int), .int .u64 (shr (a j) q : Int)]) (by simp [results, Tryz.results257, go_sem]) rfl ⟨rfl, (Ext.refl w).alloc _⟩
set_option maxHeartbeats 4000000 in
theorem zi8 (B p n q s m : Nat) (a e : Nat → Nat) (gp ge : Nat) (w : World) (hT : Tb w B p n q a e gp ge) (hB : B ≤ w.heap.size) (hn0 : 0 < n) (hn : n ≤ 100000) (hs : s ≤ 100000) (hm : m ≤ 100000) (hi : 2 * m * s ≤ 2 * n) :
    Calls Tryz.prog 258 #[.pointer (some ⟨p, 0, none⟩), .int .i64 (s : Int), .int .i64 (m : Int)] w fun ee w' => ee = .returned (.agg #[.int .u64 ((a ((2 * n - 2 * m * s) % (2 * n)) : Nat) : Int), .int .u64 ((shr (a ((2 * n - 2 * m * s) % (2 * n))) q : Nat) : Int)]) ∧ Ext w w' := by
 have hj : (2 * n - 2 * m * s) % (2 * n) < 2 * n := Nat.mod_lt _ (by omega)
 have c0 := hT.pw.by_ hj
 have c1 := hT.pw.share hj
 have ea : IntKind.i64.wrap (2 * (m : Int)) = 2 * (m : Int) := by rw [IntKind.wrap_i64]; omega
 have hk : 2 * (m : Int) * (s : Int) = ((2 * m * s : Nat) : Int) := by simp
 obtain ⟨k, hkk⟩ : ∃ k, k = 2 * m * s := ⟨_, rfl⟩
 rw [← hkk] at hk hi hj c0 c1 ⊢
 clear hkk
 have eb : IntKind.i64.wrap (2 * (m : Int) * (s : Int)) = (k : Int) := by rw [hk, IntKind.wrap_i64]; omega
 have ec : IntKind.i64.wrap (2 * (n : Int) - (k : Int)) = ((2 * n - k : Nat) : Int) := by rw [IntKind.wrap_i64]; omega
 have ed : ((2 * n - k : Nat) : Int).tmod (2 * (n : Int)) = (((2 * n - k) % (2 * n) : Nat) : Int) := by
  rw [Int.tmod_eq_emod_of_nonneg (by omega), Int.natCast_emod]; simp
 have ee : IntKind.i64.wrap (((2 * n - k) % (2 * n) : Nat) : Int) = (((2 * n - k) % (2 * n) : Nat) : Int) := by rw [IntKind.wrap_i64]; omega
 have ez : (2 * (n : Int) == 0) = false := by simp; omega
 have ez2 : ¬ (2 * (n : Int) = 0) := by omega
 generalize hjj : (2 * n - k) % (2 * n) = j at *
 clear hjj hk
 have hpl := hT.powers
 have hp : p < w.heap.size := Nat.lt_of_lt_of_le hT.hp hB
 have hgp : gp < w.heap.size := Nat.lt_of_lt_of_le hT.hgp hB
 have e1 : (0 : Int) ≤ (j : Int) := by omega
 have e2 : (j : Int) < 2 * (n : Int) := by omega
 go_enter Tryz.func258, Tryz.ntmps258
 go_wp2
 have f2 := cE ((Ext.refl w).alloc (Obj.cells #[Value.int IntKind.u64 0, Value.int IntKind.u64 0] 278)) hpl
 have f0 := cE ((Ext.refl w).alloc (Obj.cells #[Value.int IntKind.u64 0, Value.int IntKind.u64 0] 278)) c0
 have f1 := cE ((Ext.refl w).alloc (Obj.cells #[Value.int IntKind.u64 0, Value.int IntKind.u64 0] 278)) c1
 have kV : Ext w (w.alloc (Obj.cells #[Value.int IntKind.u64 0, Value.int IntKind.u64 0] 278)) := (Ext.refl w).alloc _
 have r0 : (w.alloc (Obj.cells #[Value.int IntKind.u64 0, Value.int IntKind.u64 0] 278)).cell? ⟨w.heap.size, 0, none⟩ = some (.int .u64 0) := by simp
 have r1 : (w.alloc (Obj.cells #[Value.int IntKind.u64 0, Value.int IntKind.u64 0] 278)).cell? ⟨w.heap.size, 1, none⟩ = some (.int .u64 0) := by simp
 have z0 : (w.alloc (Obj.cells #[Value.int IntKind.u64 0, Value.int IntKind.u64 0] 278)).frozen? ⟨w.heap.size, 0, none⟩ = false := by simp
 have z1 : (w.alloc (Obj.cells #[Value.int IntKind.u64 0, Value.int IntKind.u64 0] 278)).frozen? ⟨w.heap.size, 1, none⟩ = false := by simp
 clear c0 c1 hpl
 generalize w.alloc (Obj.cells #[Value.int IntKind.u64 0, Value.int IntKind.u64 0] 278) = V at *
 go_still_tail 22, (by kernel_rfl)
 change wpList _ _ _ _ _ V.drew
 have f2 : V.drew.cell? ⟨p, 2, none⟩ = _ := f2
 have f0 : V.drew.cell? ⟨gp, j * 2, none⟩ = _ := f0
 have f1 : V.drew.cell? ⟨gp, j * 2 + 1, none⟩ = _ := f1
 have r0 : V.drew.cell? ⟨w.heap.size, 0, none⟩ = _ := r0
 have r1 : V.drew.cell? ⟨w.heap.size, 1, none⟩ = _ := r1
 have z0 : V.drew.frozen? ⟨w.heap.size, 0, none⟩ = _ := z0
 have z1 : V.drew.frozen? ⟨w.heap.size, 1, none⟩ = _ := z1
 have kV : Ext w V.drew := kV.drew
 generalize V.drew = V2 at *
 go_wp2
 exact bodyPost_ret (v := .agg #[.int .u64 (a j : Int), .int .u64 (shr (a j) q : Int)]) (by simp [results, Tryz.results258, go_sem, r0, r1]) rfl ⟨rfl, (kV.set (p := ⟨w.heap.size, 0, none⟩) (Nat.le_refl _) _).set (p := ⟨w.heap.size, 1, none⟩) (Nat.le_refl _) _⟩
end Go.Proofs.YtopbibfpjgjalaaGreatDoor
