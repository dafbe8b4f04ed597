/-
  What plus and less of the reference of layer 2 answer: sums and differences of digits.
-/
import Derived.Test.YtcfbemjnkiepdaaRFrom
namespace Go.Proofs.Ytcfbemjnkiepdaa
open Go.RowKit
set_option linter.unusedVariables false

theorem IRow.drewN {B : Nat} {w0 w : World} {v : Value} {n : Nat} {zs : List Nat} (h : IRow B w0 w v n zs) (m : Nat) : IRow B w0 (w.drewN m) v n zs :=
  ⟨⟨h.1.1, h.1.2⟩, ⟨h.2.1.os, h.2.1.tape, h.2.1.output, h.2.1.size, h.2.1.block⟩, h.2.2⟩

set_option maxHeartbeats 1000000 in
theorem plus_any (A A' : Option Addr) (n n' c c' : Nat) (xs ys : List Nat) (w : World) (h : DR w w.heap.size A n c xs) (h' : DR w w.heap.size A' n' c' ys) (hn : n ≤ 100000) (hn' : n' ≤ 100000) :
    Calls Try.prog 68 #[.slice A n c, .slice A' n' c'] w (DigPost w (n + n' + 1) (dg 65536 (vl 65536 xs + vl 65536 ys))) := by
  obtain ⟨i0, hi, hz0, hz1, hz2⟩ := info_parts info_int
  obtain ⟨mx, m1, m2, m3⟩ : ∃ mx, n ≤ mx ∧ n' ≤ mx ∧ mx ≤ n + n' := ⟨max n n', by omega, by omega, by omega⟩
  go_enter Try.func68, Try.ntmps68
  go_wp2
  go_loopw [5, 6, 7] (fun s b i wr => ∃ (k : Nat) (zs : List Nat) (C : Nat), (k ≤ mx ∨ (k = mx + 1 ∧ C = 0)) ∧ i = .int .i64 k ∧ b = .int .i64 (C : Int) ∧ IRow w.heap.size w wr s k zs ∧ AddInv 65536 xs ys k zs C) (fun _ _ i _ => mx + 1 - (intOf i).toNat)
  case atStart => exact ⟨0, [], 0, .inl (by omega), rfl, rfl, IRow.nil w, addInv_zero⟩
  case round =>
    obtain ⟨k, zs, C, hk, rfl, rfl, hrow, hinv⟩ := hrel
    have hC := hinv.2.2.1
    have hsz := hrow.2.1.size
    have hr := h.below hrow.2.1
    have hr' := h'.below hrow.2.1
    by_cases hgo : k < n ∨ k < n' ∨ 0 < C
    · have hx := getD_lt (b := 65536) (by omega) h.lt k
      have hy := getD_lt (b := 65536) (by omega) h'.lt k
      have HN := Lib.hid (hinv.step (z := (C + xs[k]?.getD 0 + ys[k]?.getD 0) % 65536) (C' := (C + xs[k]?.getD 0 + ys[k]?.getD 0) / 65536) (by omega) (by omega) (by omega))
      have hk2 : k ≤ mx := by omega
      have z1 : k < n ∨ xs[k]?.getD 0 = 0 := by
        by_cases g : k < n
        · exact .inl g
        · exact .inr (by rw [List.getElem?_eq_none (by rw [h.len]; omega)]; rfl)
      have z2 : k < n' ∨ ys[k]?.getD 0 = 0 := by
        by_cases g : k < n'
        · exact .inl g
        · exact .inr (by rw [List.getElem?_eq_none (by rw [h'.len]; omega)]; rfl)
      rcases (show k < n ∨ (¬ k < n ∧ k < n') ∨ (¬ k < n ∧ ¬ k < n' ∧ 0 < C) by omega) with g1 | ⟨g1, g2⟩ | ⟨g1, g2, g3⟩
      all_goals
        go_wp2_with fail
        refine (at_any _ _ _ _ k xs _ hr (by omega) (by omega)).mono ?_
        rintro e w' ⟨rfl, rfl⟩
        go_wp2_with fail
        refine (at_any _ _ _ _ k ys _ hr' (by omega) (by omega)).mono ?_
        rintro e w' ⟨rfl, rfl⟩
        have hdl : (C + xs[k]?.getD 0 + ys[k]?.getD 0) % 65536 < 65536 := Nat.mod_lt _ (by omega)
        generalize xs[k]?.getD 0 = x at *
        generalize ys[k]?.getD 0 = y at *
        go_wp2_with (at_builtin; go_loud (refine wpList_append_own _ rfl _ _ 63 rfl w.heap.size 3 i0 (.int .i64 0) 1 8 Try.underlying63 hi hz0 hz1 hz2 rfl (by decide) _ _ _ rfl (hrow.1.alloc _) ⟨_, 0, none⟩ 1 1 [.int .i64 ((C + x + y) % 65536 : Nat)] rfl rfl one_cell one_int (by unfold maxLen; omega) (by omega) (by simp; omega) ?_; intro v2 w2 hown2 hgrow2 _))
        exact ⟨⟨k + 1, _, _, by omega, by go_num, by go_num, hrow.push hsz hdl hown2 hgrow2, HN.out⟩, by simp [intOf] <;> omega⟩
    · have hC0 : C = 0 := by omega
      subst hC0
      have V := Lib.hid (hinv.full (by rw [h.len]; omega) (by rw [h'.len]; omega))
      obtain ⟨A2, c2, rfl, hr2, hfr⟩ := hrow.rd
      go_wp2_with fail
      refine (trim_any _ _ _ _ zs _ hr2 (by omega)).mono ?_
      rintro e w' ⟨m, c3, hm, rfl, rfl, hr3⟩
      rw [show vl 65536 zs = vl 65536 xs + vl 65536 ys from V.out] at hr3
      go_wp2
      go_ret
      exact ⟨A2, m, c3, rfl, by omega, hr3, hrow.2.1, hfr⟩
end Go.Proofs.Ytcfbemjnkiepdaa
