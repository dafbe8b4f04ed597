/-
  What the calls of package nat that make a natural by appending its words answer: less, Add.
-/
import Derived.Test.YtcfbemjnkiepdaaNBase
import Derived.Test.YtcfbemjnkiepdaaNMath2
namespace Go.Proofs.Ytcfbemjnkiepdaa
open Go.RowKit
set_option linter.unusedVariables false

theorem info_u64 : (Try.prog.info? 22).map (fun i => (i.zero, i.size, i.bytes)) = some (some (.int .u64 0), 1, 8) := by kernel_rfl

theorem less_any (A A' : Option Addr) (n n' c c' : Nat) (xs ys : List Nat) (w : World) (h : NR w w.heap.size A n c xs) (h' : NR w w.heap.size A' n' c' ys) (hn : n ≤ 1000000) (hn' : n' ≤ n) (hv : nv ys ≤ nv xs) :
    Calls Try.prog 60 #[.slice A n c, .slice A' n' c'] w (NatPost w n (nw (nv xs - nv ys))) := by
  obtain ⟨i0, hi, hz0, hz1, hz2⟩ := info_parts info_u64
  have HV := Lib.hid hv
  clear hv
  go_enter Try.func60, Try.ntmps60
  go_wp2_with (at_make; refine wpList_make_own _ rfl _ _ 37 rfl w.heap.size 22 i0 (.int .u64 0) 1 Try.underlying37 hi hz0 hz1 _ _ _ n rfl rfl rfl (by rw [hz2]; omega) (by unfold maxLen; omega) (Nat.le_refl _) ?_; intro w1 hown1 hgrow1)
  go_loopw [5, 7, 15] (fun s b i wr => ∃ (k : Nat) (zs : List Nat) (C : Nat), k ≤ n ∧ i = .int .i64 k ∧ s = .slice (some ⟨w.heap.size, 0, none⟩) k n ∧ b = .int .u64 (C : Int) ∧ Row w.heap.size w wr w.heap.size n k zs ∧ SubInv W64 xs ys k zs C) (fun _ _ i _ => n - (intOf i).toNat)
  case atStart => exact ⟨0, [], 0, by omega, rfl, rfl, rfl, Row.start hown1 (Below.refl _ _) hgrow1 (Nat.le_refl _), subInv_zero h.lt h'.lt⟩
  case round =>
    obtain ⟨k, zs, C, hk, rfl, rfl, rfl, hrow, hinv⟩ := hrel
    have hC := hinv.2.2.1
    have hsz := hrow.2.size
    by_cases hlt : k < n
    · obtain ⟨ad, x, rfl, hb, hxb, hx, hc⟩ := (h.below hrow.2).at_ hlt
      have hr' := h'.below hrow.2
      have hy := getD_lt (Nat.lt_of_lt_of_le (by decide) W64_two) h'.lt k
      rw [W64_eq] at hxb hy
      obtain ⟨q1, q2, q3⟩ := sb_eq hxb hy hC
      have HI := Lib.hid (sb_int hxb hy hC)
      have HN := Lib.hid (hinv.step hx (by rw [W64_eq]; exact q1) (by rw [W64_eq]; exact q2) q3)
      clear hx q1
      go_wp2_with fail
      refine (wordAt_any A' n' c' _ k ys _ hr' (by omega) (by omega)).mono ?_
      rintro e w' ⟨rfl, rfl⟩
      go_wp2_with fail
      refine (subWord_any _ _ _ _ (by omega) (by omega) (by omega) (by omega) (by omega) (by omega)).mono ?_
      rw [HI.out.1, HI.out.2]
      rintro e w' ⟨rfl, rfl⟩
      go_wp2_with (at_builtin; refine wpList_append_fits _ rfl _ _ 37 rfl w.heap.size 22 i0 1 Try.underlying37 hi hz1 w.heap.size k n (u64s zs) rfl (hrow.1.alloc _) ⟨_, 0, none⟩ 1 1 [.int .u64 (sbW x (ys[k]?.getD 0) C : Nat)] rfl rfl one_cell one_int (by omega) ?_; intro w2 hown2 hgrow2)
      exact ⟨⟨k + 1, _, _, by omega, by go_num, rfl, rfl, hrow.push hsz hown2 hgrow2, HN.out⟩, by simp [intOf]; omega⟩
    · obtain rfl : k = n := by omega
      obtain ⟨v1, v2⟩ := hinv.done h.len (by rw [h'.len]; exact hn') HV.out
      have hrd := hrow.rd v2
      have V1 := Lib.hid v1
      clear v1
      go_wp2_with fail
      refine (own_any _ _ _ _ zs _ hrd hn).mono ?_
      rintro e w' ⟨A2, m2, c2, hm2, rfl, rfl, hr2⟩
      go_wp2
      go_ret
      refine ⟨A2, m2, c2, rfl, hm2, ?_, hrow.2⟩
      rw [← V1.out]
      exact hr2

set_option maxHeartbeats 1000000 in
theorem natAdd_any (A A' : Option Addr) (n n' c c' : Nat) (xs ys : List Nat) (w : World) (h : NR w w.heap.size A n c xs) (h' : NR w w.heap.size A' n' c' ys) (hn : n ≤ 100000) (hn' : n' ≤ 100000) :
    Calls Try.prog 36 #[.slice A n c, .slice A' n' c'] w (NatPost w (n + n' + 1) (nw (nv xs + nv ys))) := by
  obtain ⟨i0, hi, hz0, hz1, hz2⟩ := info_parts info_u64
  have E1 := Lib.hid (nv_nw (nv xs))
  have E2 := Lib.hid (nv_nw (nv ys))
  go_enter Try.func36, Try.ntmps36
  go_wp2_with fail
  refine (trimmed_any _ _ _ _ xs _ h (by omega)).mono ?_
  rintro e w' ⟨m, hm, rfl, rfl, hr⟩
  go_wp2_with fail
  refine (trimmed_any _ _ _ _ ys _ h' (by omega)).mono ?_
  rintro e w' ⟨m', hm', rfl, rfl, hr'⟩
  have FIN : nv (nw (nv xs)) + nv (nw (nv ys)) = nv xs + nv ys := by rw [E1.out, E2.out]
  have FIN' : nv (nw (nv ys)) + nv (nw (nv xs)) = nv xs + nv ys := by rw [E1.out, E2.out, Nat.add_comm]
  have F1 := Lib.hid FIN
  have F2 := Lib.hid FIN'
  clear FIN FIN' E1 E2
  generalize nw (nv xs) = xs' at *
  generalize nw (nv ys) = ys' at *
  by_cases hs : m < m'
  · skip
    go_wp2_with (at_make; refine wpList_make_own _ rfl _ _ 37 rfl w.heap.size 22 i0 (.int .u64 0) 1 Try.underlying37 hi hz0 hz1 _ _ _ (m' + 1) rfl rfl (by omega) (by rw [hz2]; omega) (by unfold maxLen; omega) (Nat.le_refl _) ?_; intro w1 hown1 hgrow1)
    go_loopw [5, 7, 27] (fun s b i wr => ∃ (k : Nat) (zs : List Nat) (C : Nat), k ≤ m' ∧ i = .int .i64 k ∧ s = .slice (some ⟨w.heap.size, 0, none⟩) k (m' + 1) ∧ b = .int .u64 (C : Int) ∧ Row w.heap.size w wr w.heap.size (m' + 1) k zs ∧ AddInv W64 ys' xs' k zs C) (fun _ _ i _ => m' - (intOf i).toNat)
    case atStart => exact ⟨0, [], 0, by omega, rfl, rfl, rfl, Row.start hown1 (Below.refl _ _) hgrow1 (Nat.le_refl _), addInv_zero⟩
    case round =>
      obtain ⟨k, zs, C, hk, rfl, rfl, rfl, hrow, hinv⟩ := hrel
      have hC := hinv.2.2.1
      have hsz := hrow.2.size
      by_cases hlt : k < m'
      · obtain ⟨ad, x, rfl, hb, hxb, hx, hc⟩ := (hr'.below hrow.2).at_ hlt
        have hr' := hr.below hrow.2
        have hy := getD_lt (Nat.lt_of_lt_of_le (by decide) W64_two) hr.lt k
        rw [W64_eq] at hxb hy
        have q3 : (x + (xs')[k]?.getD 0 + C) / 18446744073709551616 ≤ 1 := by omega
        have HI := Lib.hid (ad_int x ((xs')[k]?.getD 0) C)
        have HN := Lib.hid (hinv.step (z := (x + (xs')[k]?.getD 0 + C) % 18446744073709551616) (C' := (x + (xs')[k]?.getD 0 + C) / 18446744073709551616) (by rw [hx, W64_eq, Option.getD_some]; omega) (by rw [W64_eq]; omega) q3)
        clear hx
        go_wp2_with fail
        refine (wordAt_any _ _ _ _ k (xs') _ hr' (by omega) (by omega)).mono ?_
        rintro e w' ⟨rfl, rfl⟩
        go_wp2_with fail
        refine (addWord_any _ _ _ _ (by omega) (by omega) (by omega) (by omega) (by omega) (by omega)).mono ?_
        rw [HI.out.1, HI.out.2]
        rintro e w' ⟨rfl, rfl⟩
        go_wp2_with (at_builtin; refine wpList_append_fits _ rfl _ _ 37 rfl w.heap.size 22 i0 1 Try.underlying37 hi hz1 w.heap.size k (m' + 1) (u64s zs) rfl (hrow.1.alloc _) ⟨_, 0, none⟩ 1 1 [.int .u64 ((x + (xs')[k]?.getD 0 + C) % 18446744073709551616 : Nat)] rfl rfl one_cell one_int (by omega) ?_; intro w2 hown2 hgrow2)
        exact ⟨⟨k + 1, _, _, by omega, by go_num, rfl, rfl, hrow.push hsz hown2 hgrow2, HN.out⟩, by simp [intOf]; omega⟩
      · obtain rfl : k = m' := by omega
        obtain ⟨v1, v2⟩ := hinv.done (by rw [hr'.len]; exact Nat.le_refl _) (by rw [hr.len]; omega) W64_two
        have V1 := Lib.hid v1
        clear v1
        go_wp2_with (at_builtin; refine wpList_append_fits _ rfl _ _ 37 rfl w.heap.size 22 i0 1 Try.underlying37 hi hz1 w.heap.size k (k + 1) (u64s zs) rfl (hrow.1.alloc _) ⟨_, 0, none⟩ 1 1 [.int .u64 (C : Int)] rfl rfl one_cell one_int (by omega) ?_; intro w2 hown2 hgrow2)
        have hrow2 := hrow.push hsz hown2 hgrow2
        refine (own_any _ _ _ _ (zs ++ [C]) _ (hrow2.rd v2) (by omega)).mono ?_
        rintro e w' ⟨A2, m2, c2, hm2, rfl, rfl, hr2⟩
        go_wp2
        go_ret
        refine ⟨A2, m2, c2, rfl, by omega, ?_, hrow2.2⟩
        rw [← F2.out, ← V1.out]
        exact hr2
  · skip
    go_wp2_with (at_make; refine wpList_make_own _ rfl _ _ 37 rfl w.heap.size 22 i0 (.int .u64 0) 1 Try.underlying37 hi hz0 hz1 _ _ _ (m + 1) rfl rfl (by omega) (by rw [hz2]; omega) (by unfold maxLen; omega) (Nat.le_refl _) ?_; intro w1 hown1 hgrow1)
    go_loopw [5, 7, 27] (fun s b i wr => ∃ (k : Nat) (zs : List Nat) (C : Nat), k ≤ m ∧ i = .int .i64 k ∧ s = .slice (some ⟨w.heap.size, 0, none⟩) k (m + 1) ∧ b = .int .u64 (C : Int) ∧ Row w.heap.size w wr w.heap.size (m + 1) k zs ∧ AddInv W64 xs' ys' k zs C) (fun _ _ i _ => m - (intOf i).toNat)
    case atStart => exact ⟨0, [], 0, by omega, rfl, rfl, rfl, Row.start hown1 (Below.refl _ _) hgrow1 (Nat.le_refl _), addInv_zero⟩
    case round =>
      obtain ⟨k, zs, C, hk, rfl, rfl, rfl, hrow, hinv⟩ := hrel
      have hC := hinv.2.2.1
      have hsz := hrow.2.size
      by_cases hlt : k < m
      · obtain ⟨ad, x, rfl, hb, hxb, hx, hc⟩ := (hr.below hrow.2).at_ hlt
        have hr' := hr'.below hrow.2
        have hy := getD_lt (Nat.lt_of_lt_of_le (by decide) W64_two) hr'.lt k
        rw [W64_eq] at hxb hy
        have q3 : (x + (ys')[k]?.getD 0 + C) / 18446744073709551616 ≤ 1 := by omega
        have HI := Lib.hid (ad_int x ((ys')[k]?.getD 0) C)
        have HN := Lib.hid (hinv.step (z := (x + (ys')[k]?.getD 0 + C) % 18446744073709551616) (C' := (x + (ys')[k]?.getD 0 + C) / 18446744073709551616) (by rw [hx, W64_eq, Option.getD_some]; omega) (by rw [W64_eq]; omega) q3)
        clear hx
        go_wp2_with fail
        refine (wordAt_any _ _ _ _ k (ys') _ hr' (by omega) (by omega)).mono ?_
        rintro e w' ⟨rfl, rfl⟩
        go_wp2_with fail
        refine (addWord_any _ _ _ _ (by omega) (by omega) (by omega) (by omega) (by omega) (by omega)).mono ?_
        rw [HI.out.1, HI.out.2]
        rintro e w' ⟨rfl, rfl⟩
        go_wp2_with (at_builtin; refine wpList_append_fits _ rfl _ _ 37 rfl w.heap.size 22 i0 1 Try.underlying37 hi hz1 w.heap.size k (m + 1) (u64s zs) rfl (hrow.1.alloc _) ⟨_, 0, none⟩ 1 1 [.int .u64 ((x + (ys')[k]?.getD 0 + C) % 18446744073709551616 : Nat)] rfl rfl one_cell one_int (by omega) ?_; intro w2 hown2 hgrow2)
        exact ⟨⟨k + 1, _, _, by omega, by go_num, rfl, rfl, hrow.push hsz hown2 hgrow2, HN.out⟩, by simp [intOf]; omega⟩
      · obtain rfl : k = m := by omega
        obtain ⟨v1, v2⟩ := hinv.done (by rw [hr.len]; exact Nat.le_refl _) (by rw [hr'.len]; omega) W64_two
        have V1 := Lib.hid v1
        clear v1
        go_wp2_with (at_builtin; refine wpList_append_fits _ rfl _ _ 37 rfl w.heap.size 22 i0 1 Try.underlying37 hi hz1 w.heap.size k (k + 1) (u64s zs) rfl (hrow.1.alloc _) ⟨_, 0, none⟩ 1 1 [.int .u64 (C : Int)] rfl rfl one_cell one_int (by omega) ?_; intro w2 hown2 hgrow2)
        have hrow2 := hrow.push hsz hown2 hgrow2
        refine (own_any _ _ _ _ (zs ++ [C]) _ (hrow2.rd v2) (by omega)).mono ?_
        rintro e w' ⟨A2, m2, c2, hm2, rfl, rfl, hr2⟩
        go_wp2
        go_ret
        refine ⟨A2, m2, c2, rfl, by omega, ?_, hrow2.2⟩
        rw [← F1.out, ← V1.out]
        exact hr2
end Go.Proofs.Ytcfbemjnkiepdaa
