import Derived.Test.YtopbibfpjgjalaaGreatDoorZ41
import Derived.Deep.AppendSrc
import Derived.Deep.RegionLawGrows
namespace Go.Proofs.YtopbibfpjgjalaaGreatDoor
open Go.RowKit
set_option linter.unusedVariables false
set_option maxRecDepth 100000
theorem FX.nxC {w : World} {A : Option Addr} {n c : Nat} {f : Nat → Nat} (h : FX w A n c f) (hf : ∀ i, i < n → f i < 18446744073709551616) : NX w A n c ((List.range n).map f) :=
 ⟨by simp, h.room, fun x hx => by
  obtain ⟨i, hi, rfl⟩ := List.mem_map.1 hx
  rw [zad]
  exact hf i (List.mem_range.1 hi), fun h0 => by
  obtain ⟨ad, e, hc⟩ := h.cells h0
  refine ⟨ad, e, ?_, fun j x hj => ?_⟩
  ·have := World.block_lt_of_cell? _ _ (hc 0 h0)
   rwa [zbi] at this
  ·obtain ⟨hl, e2⟩ := List.getElem?_eq_some_iff.1 hj
   have hl2 : j < n := by simpa using hl
   have e3 : f j = x := by simpa using e2
   rw [← e3]
   exact hc j hl2⟩
set_option maxHeartbeats 1000000 in
theorem zkk {ops : Array Oper} {o : Oper} {a : Act} {w : World} {K : Act → World → Prop} {Q : Exit → Act → World → Prop} {E : Prop} (hg : o.guard = none) (s x : Operand) (hop : o.op = Op.call { callee := Callee.builtin Builtin.append, args := #[s, x], argTypes := #[22, 22] })
    (b y : Nat) (hb : w.cell? ⟨b, 0, none⟩ = some (.int .u64 (y : Int))) (hy : y < 18446744073709551616) (hs : a.eval s = .slice (some ⟨b, 0, none⟩) 1 1) (A : Option Addr) (n c : Nat) (xs : List Nat) (hX : NX w A n c xs) (hx : a.eval x = .slice A n c) (hn : n ≤ 100000)
    (hK : ∀ A2 c2 w', NX w' A2 (n + 1) c2 (y :: xs) → Ext w w' → K (a.put o.dst (.slice A2 (n + 1) c2)) w') :
    if Region.wanted o (yielded ops a.tmps) = true then Oper.wp Tryz.prog o a w K Q else E := by
 obtain ⟨i0, hi, hz0, hz1, hz2⟩ := info_parts zdw
 have hlt : ∀ z ∈ y :: xs, z < W64 := fun z hz => by
  rcases List.mem_cons.1 hz with e | e
  ·rw [e, zad]; exact hy
  ·exact hX.lt z e
 by_cases h0 : n = 0
 ·subst h0
  have hx0 : xs = [] := List.eq_nil_of_length_eq_zero hX.len
  subst hx0
  have hw : Region.wanted o (yielded ops a.tmps) = true := by simp [Region.wanted, hg]
  rw [if_pos hw]
  have hS : Src Tryz.prog i0.size 22 (.slice A 0 c) 0 [] w := by
   cases A with
   | none => exact Src.ofNil w Tryz.underlying22 c
   | some ad => exact Src.ofSlice w Tryz.underlying22 ad 0 c [] (by simp) (fun j u h => by simp at h) (fun u h => by cases h)
  have hrun := run_append_room_src (P := Tryz.prog) w 22 22 o.type 26 i0 Tryz.underlying22 hi b 0 1 1 (.slice A 0 c) 0 [] hS (by omega) (fun j h => absurd h (by simp)) (fun j h => absurd h (by simp))
  have hw2 : w.setCells b (0 + 1 * i0.size) [] = w := rfl
  rw [hw2] at hrun
  unfold Oper.wp
  simp [execOp, hop, resolve, invoke, builtin, hs, hx, hrun, Result.andThen]
  refine hK (some ⟨b, 0, none⟩) 1 w ⟨rfl, Nat.le_refl _, hlt, fun _ => ⟨_, rfl, World.block_lt_of_cell? _ _ hb, fun j z hz => ?_⟩⟩ (Ext.refl w)
  match j, hz with
  | 0, hz => simp at hz; subst hz; simpa [Addr.add] using hb
 ·obtain ⟨ad, rfl, _, hc⟩ := hX.cells (by omega)
  refine step_append_grows hg s x 22 hop 26 i0 (.int .u64 0) 1 8 Tryz.underlying22 hi hz0 hz1 hz2 rfl (by decide) (some ⟨b, 0, none⟩) 1 1 [.int .u64 (y : Int)] hs (fun h => by cases h) rfl (fun b' e j u h => ?_) ad n c (u64s xs) hx (by rw [za8, hX.len]; omega) (fun j u hu => ?_) zhi (by omega) (by unfold maxLen; omega) (by omega) ?_
  ·injection e with e
   subst e
   match j, h with
   | 0, h => simp at h; subst h; simpa [Addr.add] using hb
  ·unfold u64s at hu
   rw [List.getElem?_map] at hu
   obtain ⟨z, hz, rfl⟩ := Option.map_eq_some_iff.1 hu
   exact hc j z hz
  ·intro v' w' hown hgr
   obtain ⟨A2, c2, rfl, hr2⟩ := zc2 (zs := y :: xs) (n := n + 1) (by simpa [u64s, Nat.add_comm] using hown) hlt
   exact hK A2 c2 w' hr2 (Below.grown (Ext.refl w) hgr (Nat.le_refl _) (fun k e => by cases e))
end Go.Proofs.YtopbibfpjgjalaaGreatDoor
