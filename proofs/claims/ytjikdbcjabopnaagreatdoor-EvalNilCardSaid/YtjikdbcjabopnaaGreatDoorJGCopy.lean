import Derived.Test.YtjikdbcjabopnaaGreatDoorJ25
import Derived.Test.YtjikdbcjabopnaaGreatDoorJTShifts
import Derived.Deep.Upon
import Derived.Lib.SliceRun
namespace Go.Proofs.YtjikdbcjabopnaaGreatDoor
open Go.RowKit
set_option linter.unusedVariables false
set_option maxRecDepth 100000
theorem own_emptyU (w0 : World) : (w0.alloc (.cells #[] 22)).ownsRow w0.heap.size 22 1 (.slice (some ⟨w0.heap.size, 0, none⟩) 0 0) 0 (u64s []) :=
 ⟨rfl, .inr ⟨w0.heap.size, 0, #[], rfl, Nat.le_refl _, (show (w0.heap.push (.cells #[] 22))[w0.heap.size]? = _ by simp), Nat.le_refl _, Nat.zero_le _, rfl, rfl⟩⟩
theorem getD_range {n i : Nat} {f : Nat → Nat} (hi : i < n) : ((List.range n).map f).getD i 0 = f i := by
 rw [List.getD_eq_getElem?_getD, List.getElem?_map, List.getElem?_range hi]; rfl
theorem wpList_copyU {w0 : World} {ops : Array Oper} {rest : List Oper} {o : Oper} {a : Act} {Q : Exit → Act → World → Prop} (hgd : o.guard = none) (s x : Operand)
    (ho : o.op = .call { callee := .builtin .append, args := #[s, x], argTypes := #[23, 23] })
    (g : Nat) (hg : g = w0.heap.size) (A : Option Addr) (n c : Nat) (f : Nat → Nat) (hs : a.eval s = .slice (some ⟨g, 0, none⟩) 0 0) (hx : a.eval x = .slice A n c) (hX : FX w0 A n c f) (hf : ∀ i, i < n → f i < 18446744073709551616) (hn : n ≤ 1000)
    (h : ∀ A2 c2 w', FX w' A2 n c2 f → Ext w0 w' → wpList Tryz.prog ops Q rest (a.put o.dst (.slice A2 n c2)) w') : wpList Tryz.prog ops Q (o :: rest) a (w0.alloc (.cells #[] 22)) := by
 obtain ⟨i0, hi, hz0, hz1, hz2⟩ := info_parts info_u64
 subst hg
 have hX' : FX (w0.alloc (.cells #[] 22)) A n c f := hX.ext ((Ext.refl w0).alloc _)
 rcases A with _ | ad
 ·have hn0 : n = 0 := by
     rcases Nat.eq_zero_or_pos n with h0 | h0
     ·exact h0
     ·obtain ⟨ad, e, _⟩ := hX.cells h0
      cases e
  subst hn0
  refine wpList_plain hgd fun K hK => ?_
  have hrun := run_append_nothing (P := Tryz.prog) (w0.alloc (.cells #[] 22)) 23 23 o.type 22 i0 Tryz.underlying23 hi (some ⟨w0.heap.size, 0, none⟩) 0 0 (Nat.le_refl _) (.slice none 0 c) (Src.ofNil _ Tryz.underlying23 c)
  unfold Oper.wp
  simp [execOp, ho, resolve, invoke, builtin, hs, hx, hrun, Result.andThen]
  exact hK _ _ (h _ _ _ ⟨Nat.zero_le _, fun h => absurd h (by omega)⟩ ((Ext.refl w0).alloc _))
 ·refine wpList_append_own _ hgd s x 23 ho w0.heap.size 22 i0 (.int .u64 0) 1 8 Tryz.underlying23 hi hz0 hz1 hz2 rfl (by decide) _ _ _ hs (own_emptyU w0) ad n c (u64s ((List.range n).map f)) hx (by rw [u64s_length]; simp) (fun j u hu => ?_) u64s_one (by unfold maxLen; omega) (by omega) (by simp) ?_
  ·unfold u64s at hu
   rw [List.getElem?_map, List.getElem?_map] at hu
   by_cases hj : j < n
   ·rw [List.getElem?_range hj] at hu
    simp only [Option.map_some, Option.some.injEq] at hu
    obtain ⟨ad', e, hc⟩ := hX'.cells (by omega)
    injection e with e
    subst e
    rw [← hu]
    exact hc j hj
   ·rw [List.getElem?_eq_none (by simp; omega)] at hu
    cases hu
  ·intro v2 w2 hown2 hgrow2 _
   obtain ⟨A2, c2, rfl, hr2⟩ := rd_of_own (zs := (List.range n).map f) (n := n) (by simpa [u64s] using hown2) (fun x hx => by
    obtain ⟨j, hj, rfl⟩ := List.mem_map.1 hx
    rw [W64_eq]; exact hf j (List.mem_range.1 hj))
   refine h A2 c2 w2 ((fx_of_rd hr2).congr fun i hi => getD_range hi) ?_
   refine Below.grown ((Ext.refl w0).alloc _) hgrow2 (by simp) (fun k e => ?_)
   simp [Value.ownBlock] at e
   omega
set_option maxHeartbeats 1000000 in
theorem clone_any (ad : Addr) (n c : Nat) (f : Nat → Nat) (w : World) (hX : FX w (some ad) n c f) (hn : n ≤ 1000) (hf : Hid (∀ i, i < n → f i < 18446744073709551616)) :
    Calls Tryz.prog 48 #[.slice (some ad) n c] w fun ee w' => ∃ (A2 : Option Addr) (c2 : Nat), ee = .returned (.slice A2 n c2) ∧ FX w' A2 n c2 f ∧ Ext w w' := by
 have HX := Lib.hid hX
 clear hX
 have heq := Lib.run_eql_slice_nil (P := Tryz.prog) w 23 22 (some ad) n c 0 0 Tryz.underlying23
 go_enter Tryz.func48, Tryz.ntmps48
 go_wp2_with (at_builtin; go_loud (refine wpList_copyU rfl _ _ rfl w.heap.size rfl (some ad) n c f rfl rfl HX.out hf.out hn ?_; intro A2 c2 w2 hx2 k2))
 clear heq
 go_ret
 exact ⟨A2, c2, rfl, hx2, k2⟩
end Go.Proofs.YtjikdbcjabopnaaGreatDoor
