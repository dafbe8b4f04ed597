/-
  What less of the reference of layer 2 answers: differences of digits.
-/
import Derived.Test.YtcfbemjnkiepdaaRPlus
import Derived.Deep.QuietTactic
import Derived.BigQuiet
namespace Go.Proofs.Ytcfbemjnkiepdaa
open Go.RowKit
set_option linter.unusedVariables false

theorem at_q (A : Option Addr) (n c B i : Nat) (xs : List Nat) (w : World) (q : Nat) (h : DR w B A n c xs) (hn : n ≤ 1000000) (hi : i ≤ 1000001) :
    Calls Try.prog 85 #[.slice A n c, .int .i64 (i : Int)] (w.drewN q) fun e w'' => e = .returned (.int .i64 ((xs[i]?.getD 0 : Nat) : Int)) ∧ ∃ m, w'' = w.drewN m :=
  (at_any A n c B i xs (w.drewN q) (h.drewN q) hn hi).mono fun e w' hh => ⟨hh.1, q, hh.2.symm⟩

set_option maxHeartbeats 1000000 in
theorem rless_any (A A' : Option Addr) (n n' c c' : Nat) (xs ys : List Nat) (w : World) (h : DR w w.heap.size A n c xs) (h' : DR w w.heap.size A' n' c' ys) (hn : n ≤ 100000) (hn' : n' ≤ n) (hv : vl 65536 ys ≤ vl 65536 xs) :
    Calls Try.prog 63 #[.slice A n c, .slice A' n' c'] w (DigPost w n (dg 65536 (vl 65536 xs - vl 65536 ys))) := by
  obtain ⟨i0, hi, hz0, hz1, hz2⟩ := info_parts info_int
  have HV := Lib.hid hv
  clear hv
  go_enter Try.func63, Try.ntmps63
  go_wp2
  go_loopw [5, 6, 7] (fun s b i wr => ∃ (k : Nat) (zs : List Nat) (C : Nat), k ≤ n ∧ i = .int .i64 k ∧ b = .int .i64 (C : Int) ∧ IRow w.heap.size w wr s k zs ∧ SubInv 65536 xs ys k zs C) (fun _ _ i _ => n - (intOf i).toNat)
  case atStart => exact ⟨0, [], 0, by omega, rfl, rfl, IRow.nil w, subInv_zero h.lt h'.lt⟩
  case round =>
    obtain ⟨k, zs, C, hk, rfl, rfl, hrow, hinv⟩ := hrel
    have hC := hinv.2.2.1
    have hsz := hrow.2.1.size
    have hr' := h'.below hrow.2.1
    by_cases hlt : k < n
    · obtain ⟨ad, x, rfl, hb, hxb, hx, hc⟩ := (h.below hrow.2.1).at_ hlt
      have hy := getD_lt (b := 65536) (by omega) h'.lt k
      have hstep := fun z C' => hinv.step (x := x) (z := z) (C' := C') hx
      have HS := Lib.hid hstep
      clear hstep hx
      have e1 : (0 : Int) ≤ k := by omega
      have hn2 : n' ≤ 1000000 := by omega
      have hk2 : k ≤ 1000001 := by omega
      have e2 : (k : Int) < n := by omega
      go_wp2_with fail
      go_quiet ((go_at_call 85; exact at_q _ _ _ _ k ys _ _ hr' hn2 hk2))
      generalize ys[k]?.getD 0 = y at *
      have hrq := hrow.drewN nq
      have hszq : w.heap.size ≤ (wr.drewN nq).heap.size := hsz
      generalize wr.drewN nq = wq at *
      by_cases hlo : x < y + C
      · obtain ⟨z, ez⟩ : ∃ z, z = x + 65536 - y - C := ⟨_, rfl⟩
        rw [show ((x : Int) - y - C) = (z : Int) - 65536 by omega]
        have hzl : z < 65536 := by omega
        have HN := Lib.hid (HS.out z 1 (by omega) hzl (by omega))
        have hneg : (z : Int) - 65536 < 0 := by omega
        clear ez
        go_wp2_with (at_builtin; go_loud (refine wpList_append_own _ rfl _ _ 63 rfl w.heap.size 3 i0 (.int .i64 0) 1 8 Try.underlying63 hi hz0 hz1 hz2 rfl (by decide) _ _ _ rfl (hrq.1.alloc _) ⟨_, 0, none⟩ 1 1 [.int .i64 (z : Nat)] rfl rfl one_cell one_int (by unfold maxLen; omega) (by omega) (by simp; omega) ?_; intro v2 w2 hown2 hgrow2 _))
        exact ⟨⟨k + 1, _, 1, by omega, by go_num, rfl, hrq.push hszq hzl hown2 hgrow2, HN.out⟩, by simp [intOf] <;> omega⟩
      · obtain ⟨z, ez⟩ : ∃ z, z = x - y - C := ⟨_, rfl⟩
        rw [show ((x : Int) - y - C) = (z : Int) by omega]
        have hzl : z < 65536 := by omega
        have HN := Lib.hid (HS.out z 0 (by omega) hzl (by omega))
        have hpos : ¬ (z : Int) < 0 := by omega
        clear ez
        go_wp2_with (at_builtin; go_loud (refine wpList_append_own _ rfl _ _ 63 rfl w.heap.size 3 i0 (.int .i64 0) 1 8 Try.underlying63 hi hz0 hz1 hz2 rfl (by decide) _ _ _ rfl (hrq.1.alloc _) ⟨_, 0, none⟩ 1 1 [.int .i64 (z : Nat)] rfl rfl one_cell one_int (by unfold maxLen; omega) (by omega) (by simp; omega) ?_; intro v2 w2 hown2 hgrow2 _))
        exact ⟨⟨k + 1, _, 0, by omega, by go_num, rfl, hrq.push hszq hzl hown2 hgrow2, HN.out⟩, by simp [intOf] <;> omega⟩
    · obtain rfl : k = n := by omega
      obtain ⟨v1, v2⟩ := hinv.done h.len (by rw [h'.len]; exact hn') HV.out
      have V := Lib.hid v1
      clear v1
      obtain ⟨A2, c2, rfl, hr2, hfr⟩ := hrow.rd
      go_wp2_with fail
      refine (trim_any _ _ _ _ zs _ hr2 (by omega)).mono ?_
      rintro e w' ⟨m, c3, hm, rfl, rfl, hr3⟩
      rw [V.out] at hr3
      go_wp2
      go_ret
      exact ⟨A2, m, c3, rfl, by omega, hr3, hrow.2.1, hfr⟩
end Go.Proofs.Ytcfbemjnkiepdaa
