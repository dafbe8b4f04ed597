/-
  What Clone, New and Left answer.
-/
import Derived.Test.YthaljhmdhchiaaaVTape
import Derived.Lib.SliceRun
namespace Go.Proofs.Ythaljhmdhchiaaa
open Go.RowKit
set_option linter.unusedVariables false
set_option maxRecDepth 100000

theorem info_u64V : (Try.prog.info? 23).map (fun i => (i.zero, i.size, i.bytes)) = some (some (.int .u64 0), 1, 8) := by kernel_rfl
theorem own_noneV (w0 : World) : (w0.alloc (.cells #[] 23)).ownsRow w0.heap.size 23 1 (.slice (some ⟨w0.heap.size, 0, none⟩) 0 0) 0 (u64s []) :=
  ⟨rfl, .inr ⟨w0.heap.size, 0, #[], rfl, Nat.le_refl _, (show (w0.heap.push (.cells #[] 23))[w0.heap.size]? = _ by simp), Nat.le_refl _, Nat.zero_le _, rfl, rfl⟩⟩
theorem wpList_clone {w0 : World} {ops : Array Oper} {rest : List Oper} {o : Oper} {a : Act} {Q : Exit → Act → World → Prop} (hgd : o.guard = none) (s x : Operand)
    (ho : o.op = .call { callee := .builtin .append, args := #[s, x], argTypes := #[22, 22] })
    (g : Nat) (hg : g = w0.heap.size) (ad : Addr) (n c : Nat) (xs : List Nat) (hs : a.eval s = .slice (some ⟨g, 0, none⟩) 0 0) (hx : a.eval x = .slice (some ad) n c) (hX : NX w0 (some ad) n c xs) (hn : n ≤ 100000)
    (h : ∀ A2 c2 w', NX w' A2 n c2 xs → Ext w0 w' → wpList Try.prog ops Q rest (a.put o.dst (.slice A2 n c2)) w') : wpList Try.prog ops Q (o :: rest) a (w0.alloc (.cells #[] 23)) := by
  obtain ⟨i0, hi, hz0, hz1, hz2⟩ := info_parts info_u64V
  subst hg
  have hX' : NX (w0.alloc (.cells #[] 23)) (some ad) n c xs := hX.ext ((Ext.refl w0).alloc _)
  refine wpList_append_own _ hgd s x 22 ho w0.heap.size 23 i0 (.int .u64 0) 1 8 Try.underlying22 hi hz0 hz1 hz2 rfl (by decide) _ _ _ hs (own_noneV w0) ad n c (u64s xs) hx (by rw [u64s_length, hX.len]; omega) (fun j u hu => ?_) u64s_one (by unfold maxLen; omega) (by omega) (by simp) ?_
  · unfold u64s at hu
    rw [List.getElem?_map] at hu
    obtain ⟨z, hz, rfl⟩ := Option.map_eq_some_iff.1 hu
    have hl := (List.getElem?_eq_some_iff.1 hz).1
    obtain ⟨ad', e, _, hc⟩ := hX'.cells (by have := hX.len; omega)
    injection e with e
    subst e
    exact hc j z hz
  · intro v2 w2 hown2 hgrow2 _
    obtain ⟨A2, c2, rfl, hr2⟩ := rd_of_own (zs := xs) (n := n) (by simpa [u64s] using hown2) hX.lt
    refine h A2 c2 w2 hr2 ?_
    refine Below.grown ((Ext.refl w0).alloc _) hgrow2 (by simp) (fun k e => ?_)
    simp [Value.ownBlock] at e
    omega
theorem cloneV_any (A : Option Addr) (n c : Nat) (xs : List Nat) (w : World) (hX : Hid (NX w A n c xs)) (hn : n ≤ 100000) :
    Calls Try.prog 16 #[.slice A n c] w fun e w' => ∃ A2 c2, e = .returned (.slice A2 n c2) ∧ Hid (NX w' A2 n c2 xs) ∧ Hid (Ext w w') := by
  rcases A with _ | ad
  · obtain rfl : n = 0 := by
      rcases Nat.eq_zero_or_pos n with h0 | h0
      · exact h0
      · obtain ⟨ad, e, _⟩ := hX.out.cells h0
        cases e
    have HN := Lib.hid (hX.out.eq_nil rfl)
    have heq := Lib.run_eql_slice_nil (P := Try.prog) w 22 23 none 0 c 0 0 Try.underlying22
    go_enter Try.func16, Try.ntmps16
    go_wp2
    go_ret
    exact ⟨none, 0, rfl, Lib.hid (by rw [HN.out]; exact Rd.none_ _ _ _ _ _ _), Lib.hid (Ext.refl _)⟩
  · have heq := Lib.run_eql_slice_nil (P := Try.prog) w 22 23 (some ad) n c 0 0 Try.underlying22
    go_enter Try.func16, Try.ntmps16
    go_wp2_with (at_builtin; refine wpList_clone rfl _ _ rfl w.heap.size rfl ad n c xs rfl rfl hX.out hn ?_; intro A2 c2 w2 h1 h2; have H1 := Lib.hid h1; have H2 := Lib.hid h2; clear h1 h2)
    go_ret
    exact ⟨A2, c2, rfl, H1, H2⟩
theorem new_tape (A : Option Addr) (n c : Nat) (xs : List Nat) (w : World) (hX : Hid (NX w A n c xs)) (hn : n ≤ 100000) :
    Calls Try.prog 7 #[.slice A n c] w fun e w' => ∃ p, e = .returned (.pointer (some ⟨p, 0, none⟩)) ∧ w.heap.size ≤ p ∧ Hid (Tp w' p xs) ∧ Hid (Ext w w') := by
  go_enter Try.func7, Try.ntmps7
  go_wp2_with fail
  refine (cloneV_any A n c xs w hX hn).mono ?_
  rintro e w1 ⟨A2, c2, rfl, h1, h2⟩
  go_wp2
  go_ret
  refine ⟨w1.heap.size, rfl, h2.out.size, Lib.hid ⟨A2, c2, ?_, ?_⟩, Lib.hid (h2.out.alloc _)⟩
  · rw [h1.out.len]; exact heap_alloc_new _ _
  · rw [h1.out.len]; exact h1.out.ext ((Ext.refl _).alloc _)
theorem left_any (p : Nat) (l : List Nat) (w : World) (hT : Hid (Tp w p l)) (hl : l.length ≤ 100000) :
    Calls Try.prog 11 #[.pointer (some ⟨p, 0, none⟩)] w fun e w' => e = .returned (.int .i64 (l.length : Int)) ∧ w = w' := by
  obtain ⟨A, c, h1, h2⟩ := hT.out
  have c0 := h1.cell
  clear h1 h2
  go_enter Try.func11, Try.ntmps11
  go_wp2
  go_ret
  exact ⟨rfl, rfl⟩
theorem left_nil (w : World) :
    Calls Try.prog 11 #[.pointer none] w fun e w' => e = .returned (.int .i64 0) ∧ w = w' := by
  go_enter Try.func11, Try.ntmps11
  go_wp2
  go_ret
  exact ⟨rfl, rfl⟩
end Go.Proofs.Ythaljhmdhchiaaa
