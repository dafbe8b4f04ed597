/-
  A natural copied by append to an empty one.
-/
import Derived.Test.YtcfbemjnkiepdaaNExt
import Derived.Deep.Upon
namespace Go.Proofs.Ytcfbemjnkiepdaa
open Go.RowKit
set_option linter.unusedVariables false

theorem own_empty (w0 : World) : (w0.alloc (.cells #[] 22)).ownsRow w0.heap.size 22 1 (.slice (some ⟨w0.heap.size, 0, none⟩) 0 0) 0 (u64s []) :=
  ⟨rfl, .inr ⟨w0.heap.size, 0, #[], rfl, Nat.le_refl _, (show (w0.heap.push (.cells #[] 22))[w0.heap.size]? = _ by simp), Nat.le_refl _, Nat.zero_le _, rfl, rfl⟩⟩

theorem wpList_copy {w0 : World} {ops : Array Oper} {rest : List Oper} {o : Oper} {a : Act} {Q : Exit → Act → World → Prop} (hgd : o.guard = none) (s x : Operand)
    (ho : o.op = .call { callee := .builtin .append, args := #[s, x], argTypes := #[37, 37] })
    (g : Nat) (hg : g = w0.heap.size) (A : Option Addr) (n c : Nat) (xs : List Nat) (hs : a.eval s = .slice (some ⟨g, 0, none⟩) 0 0) (hx : a.eval x = .slice A n c) (hX : NX w0 A n c xs) (hn : n ≤ 1000)
    (h : ∀ A2 c2 w', NX w' A2 n c2 xs → Ext w0 w' → wpList Try.prog ops Q rest (a.put o.dst (.slice A2 n c2)) w') : wpList Try.prog ops Q (o :: rest) a (w0.alloc (.cells #[] 22)) := by
  obtain ⟨i0, hi, hz0, hz1, hz2⟩ := info_parts info_u64
  subst hg
  have hX' : NX (w0.alloc (.cells #[] 22)) A n c xs := hX.ext ((Ext.refl w0).alloc _)
  rcases A with _ | ad
  · have hn0 : n = 0 := by
      rcases Nat.eq_zero_or_pos n with h0 | h0
      · exact h0
      · obtain ⟨ad, e, _⟩ := hX.cells h0
        cases e
    subst hn0
    refine wpList_plain hgd fun K hK => ?_
    have hrun := run_append_nothing (P := Try.prog) (w0.alloc (.cells #[] 22)) 37 37 o.type 22 i0 Try.underlying37 hi (some ⟨w0.heap.size, 0, none⟩) 0 0 (Nat.le_refl _) (.slice none 0 c) (Src.ofNil _ Try.underlying37 c)
    unfold Oper.wp
    simp [execOp, ho, resolve, invoke, builtin, hs, hx, hrun, Result.andThen]
    refine hK _ _ (h _ _ _ ?_ ((Ext.refl w0).alloc _))
    rw [hX.eq_nil rfl]
    exact Rd.none_ _ _ _ _ _ _
  · refine wpList_append_own _ hgd s x 37 ho w0.heap.size 22 i0 (.int .u64 0) 1 8 Try.underlying37 hi hz0 hz1 hz2 rfl (by decide) _ _ _ hs (own_empty w0) ad n c (u64s xs) hx (by rw [u64s_length, hX.len]; omega) (fun j u hu => ?_) u64s_one (by unfold maxLen; omega) (by omega) (by simp) ?_
    · unfold u64s at hu
      rw [List.getElem?_map] at hu
      obtain ⟨z, hz, rfl⟩ := Option.map_eq_some_iff.1 hu
      have hl := (List.getElem?_eq_some_iff.1 hz).1
      obtain ⟨ad', e, _, hc⟩ := hX'.cells (by have := hX.len; omega)
      injection e with e
      subst e
      exact hc j z hz
    · intro v2 w2 hown2 hgrow2 _
      obtain ⟨A2, c2, rfl, hr2⟩ := rd_of_own (zs := xs) (n := n) (by simpa [u64s] using hown2) hX.lt
      refine h A2 c2 w2 hr2 ?_
      refine Below.grown ((Ext.refl w0).alloc _) hgrow2 (by simp) (fun k e => ?_)
      simp [Value.ownBlock] at e
      omega
/-- Two naturals of the same words are the same. -/
theorem sameEq {A A' : Option Addr} {n n' c c' : Nat} {xs : List Nat} {w : World} (h : NX w A n c xs) (h' : NX w A' n' c' xs) (hn : n ≤ 100000) (hn' : n' ≤ 100000) :
    Calls Try.prog 35 #[.slice A n c, .slice A' n' c'] w fun e w' => e = .returned (.bool true) ∧ Ext w w' :=
  (sameX h h' hn hn').mono fun e w' hh => ⟨by rw [hh.1, decide_eq_true rfl], hh.2⟩
end Go.Proofs.Ytcfbemjnkiepdaa
