import Derived.Test.YtjikdbcjabopnaaGreatDoorZNRead
import Derived.Test.YtjikdbcjabopnaaGreatDoorZ6
import Derived.Test.YtjikdbcjabopnaaGreatDoorZ1
namespace Go.Proofs.YtjikdbcjabopnaaGreatDoor
open Go.RowKit
set_option linter.unusedVariables false
set_option maxRecDepth 100000
def TrimPost (A : Option Addr) (n B : Nat) (xs : List Nat) (w : World) (e : Ending) (w' : World) : Prop := ∃ m, m ≤ n ∧ e = .returned (.slice A m m) ∧ w = w' ∧ NR w B A m m (nw (nv xs))
def OwnPost (n B : Nat) (xs : List Nat) (w : World) (e : Ending) (w' : World) : Prop := ∃ A m c, m ≤ n ∧ e = .returned (.slice A m c) ∧ w = w' ∧ NR w B A m c (nw (nv xs))
theorem trim_is {A : Option Addr} {n c B m : Nat} {xs : List Nat} {w : World} (h : NR w B A n c xs) (hm : m ≤ n) (hz : ∀ (j x : Nat), m ≤ j → xs[j]? = some x → x = 0) (hl : m = 0 ∨ xs[m - 1]? ≠ some 0) : NR w B A m m (nw (nv xs)) := by
 have := h.take_ hm
 rwa [take_dg W64_two xs m h.lt (by rw [h.len]; exact hm) hz hl] at this
theorem trimmed_any (A : Option Addr) (n c B : Nat) (xs : List Nat) (w : World) (h : NR w B A n c xs) (hn : n ≤ 1000000) :
    Calls Tryz.prog 155 #[.slice A n c] w (TrimPost A n B xs w) := by
 have hroom := h.room
 go_enter Tryz.func155, Tryz.ntmps155
 go_wp2
 go_loop [3] (fun i => ∃ m : Nat, m ≤ n ∧ i = .int .i64 m ∧ Hid (∀ (j x : Nat), m ≤ j → xs[j]? = some x → x = 0)) (fun i => (intOf i).toNat)
 case atStart => exact ⟨n, Nat.le_refl _, rfl, Lib.hid (fun j x hj hx => by have := (List.getElem?_eq_some_iff.1 hx).1; have := h.len; omega)⟩
 case round =>
  obtain ⟨m, hm, rfl, hz⟩ := hrel
  by_cases hm0 : m = 0
  ·subst hm0
   go_wp2
   go_ret
   exact ⟨0, hm, rfl, rfl, trim_is h hm hz.out (.inl rfl)⟩
  ·obtain ⟨ad, x, rfl, hb, hxb, hx, hc⟩ := h.at_ (show m - 1 < n by omega)
   rw [W64_eq] at hxb
   have HX := Lib.hid hx
   clear hx
   by_cases hx0 : x = 0
   ·subst hx0
    go_wp2
    refine ⟨⟨m - 1, by omega, by go_num, Lib.hid fun j x hj hx => ?_⟩, by simp [intOf]; omega⟩
    by_cases hjm : j = m - 1
    ·subst hjm; rw [HX.out] at hx; exact (Option.some.inj hx).symm
    ·exact hz.out j x (by omega) hx
   ·have hxb : ((x : Int) == 0) = false := by simpa using hx0
    go_wp2
    go_ret
    exact ⟨m, hm, rfl, rfl, trim_is h hm hz.out (.inr (by rw [HX.out]; simpa using hx0))⟩
theorem own_any (A : Option Addr) (n c B : Nat) (xs : List Nat) (w : World) (h : NR w B A n c xs) (hn : n ≤ 1000000) :
    Calls Tryz.prog 153 #[.slice A n c] w (OwnPost n B xs w) := by
 go_enter Tryz.func153, Tryz.ntmps153
 go_wp2_with fail
 refine (trimmed_any A n c B xs w h hn).mono ?_
 rintro e w' ⟨m, hm, rfl, rfl, hr⟩
 by_cases hm0 : m = 0
 ·subst hm0
  go_wp2
  go_ret
  exact ⟨none, 0, 0, hm, rfl, rfl, by rw [hr.eq_nil rfl]; exact Rd.none_ _ _ _ _ _ _⟩
 ·have hb : ((m : Int) == 0) = false := by simpa using hm0
  go_wp2
  go_ret
  exact ⟨A, m, m, hm, rfl, rfl, hr⟩
theorem wordAt_any (A : Option Addr) (n c B i : Nat) (xs : List Nat) (w : World) (h : NR w B A n c xs) (hn : n ≤ 1000000) (hi : i ≤ 1000001) :
    Calls Tryz.prog 157 #[.slice A n c, .int .i64 (i : Int)] w fun e w' => e = .returned (.int .u64 ((xs[i]?.getD 0 : Nat) : Int)) ∧ w = w' := by
 by_cases hlt : i < n
 ·obtain ⟨ad, x, rfl, hb, hxb, hx, hc⟩ := h.at_ hlt
  have HX := Lib.hid hx
  clear hx
  go_enter Tryz.func157, Tryz.ntmps157
  go_wp2
  go_ret
  exact ⟨congrArg Ending.returned (u64_eq (by rw [HX.out]; rfl)), rfl⟩
 ·have H := Lib.hid (List.getElem?_eq_none (l := xs) (i := i) (by rw [h.len]; omega))
  go_enter Tryz.func157, Tryz.ntmps157
  go_wp2
  go_ret
  exact ⟨congrArg Ending.returned (u64_eq (by rw [H.out]; rfl)), rfl⟩
theorem sign_any (b : Bool) (w : World) : Calls Tryz.prog 164 #[.bool b] w fun e w' => e = .returned (.int .i64 (if b then -1 else 1)) ∧ w = w' := by
 cases b
 all_goals
  go_enter Tryz.func164, Tryz.ntmps164
  go_wp2
  go_ret
  exact ⟨rfl, rfl⟩
theorem info_u64N : (Tryz.prog.info? 22).map (fun i => (i.zero, i.size, i.bytes)) = some (some (.int .u64 0), 1, 8) := by kernel_rfl
theorem less_any (A A' : Option Addr) (n n' c c' : Nat) (xs ys : List Nat) (w : World) (h : NR w w.heap.size A n c xs) (h' : NR w w.heap.size A' n' c' ys) (hn : n ≤ 1000000) (hn' : n' ≤ n) (hv : nv ys ≤ nv xs) :
    Calls Tryz.prog 293 #[.slice A n c, .slice A' n' c'] w (NatPost w n (nw (nv xs - nv ys))) := by
 obtain ⟨i0, hi, hz0, hz1, hz2⟩ := info_parts info_u64N
 have HV := Lib.hid hv
 clear hv
 go_enter Tryz.func293, Tryz.ntmps293
 go_wp2_with (at_make; refine wpList_make_own _ rfl _ _ 50 rfl w.heap.size 22 i0 (.int .u64 0) 1 Tryz.underlying50 hi hz0 hz1 _ _ _ n rfl rfl rfl (by rw [hz2]; omega) (by unfold maxLen; omega) (Nat.le_refl _) ?_; intro w1 hown1 hgrow1)
 go_loopw [5, 7, 15] (fun s b i wr => ∃ (k : Nat) (zs : List Nat) (C : Nat), k ≤ n ∧ i = .int .i64 k ∧ s = .slice (some ⟨w.heap.size, 0, none⟩) k n ∧ b = .int .u64 (C : Int) ∧ Row w.heap.size w wr w.heap.size n k zs ∧ SubInv W64 xs ys k zs C) (fun _ _ i _ => n - (intOf i).toNat)
 case atStart => exact ⟨0, [], 0, by omega, rfl, rfl, rfl, Row.start hown1 (Below.refl _ _) hgrow1 (Nat.le_refl _), subInv_zero h.lt h'.lt⟩
 case round =>
  obtain ⟨k, zs, C, hk, rfl, rfl, rfl, hrow, hinv⟩ := hrel
  have hC := hinv.2.2.1
  have hsz := hrow.2.size
  by_cases hlt : k < n
  ·obtain ⟨ad, x, rfl, hb, hxb, hx, hc⟩ := (h.below hrow.2).at_ hlt
   have hr' := h'.below hrow.2
   have hy := getD_lt (Nat.lt_of_lt_of_le (by decide) W64_two) h'.lt k
   rw [W64_eq] at hxb hy
   obtain ⟨q1, q2, q3⟩ := sb_eq hxb hy hC
   have HI := Lib.hid (sb_int hxb hy hC)
   have HN := Lib.hid (hinv.step hx (by rw [W64_eq]; exact q1) (by rw [W64_eq]; exact q2) q3)
   clear hx q1
   go_wp2_with fail
   refine (wordAt_any A' n' c' _ k ys _ hr' (by omega) (by omega)).mono ?_
   rintro e w' ⟨rfl, rfl⟩
   go_wp2_with fail
   refine (subWord_any _ _ _ _ (by omega) (by omega) (by omega) (by omega) (by omega) (by omega)).mono ?_
   rw [HI.out.1, HI.out.2]
   rintro e w' ⟨rfl, rfl⟩
   go_wp2_with (at_builtin; refine wpList_append_fits _ rfl _ _ 50 rfl w.heap.size 22 i0 1 Tryz.underlying50 hi hz1 w.heap.size k n (u64s zs) rfl (hrow.1.alloc _) ⟨_, 0, none⟩ 1 1 [.int .u64 (sbW x (ys[k]?.getD 0) C : Nat)] rfl rfl one_cell one_int (by omega) ?_; intro w2 hown2 hgrow2)
   exact ⟨⟨k + 1, _, _, by omega, by go_num, rfl, rfl, hrow.push hsz hown2 hgrow2, HN.out⟩, by simp [intOf]; omega⟩
  ·obtain rfl : k = n := by omega
   obtain ⟨v1, v2⟩ := hinv.done h.len (by rw [h'.len]; exact hn') HV.out
   have hrd := hrow.rd v2
   have V1 := Lib.hid v1
   clear v1
   go_wp2_with fail
   refine (own_any _ _ _ _ zs _ hrd hn).mono ?_
   rintro e w' ⟨A2, m2, c2, hm2, rfl, rfl, hr2⟩
   go_wp2
   go_ret
   refine ⟨A2, m2, c2, rfl, hm2, ?_, hrow.2⟩
   rw [← V1.out]
   exact hr2
set_option maxHeartbeats 1000000 in
theorem natAdd_any (A A' : Option Addr) (n n' c c' : Nat) (xs ys : List Nat) (w : World) (h : NR w w.heap.size A n c xs) (h' : NR w w.heap.size A' n' c' ys) (hn : n ≤ 100000) (hn' : n' ≤ 100000) :
    Calls Tryz.prog 89 #[.slice A n c, .slice A' n' c'] w (NatPost w (n + n' + 1) (nw (nv xs + nv ys))) := by
 obtain ⟨i0, hi, hz0, hz1, hz2⟩ := info_parts info_u64N
 have E1 := Lib.hid (nv_nw (nv xs))
 have E2 := Lib.hid (nv_nw (nv ys))
 go_enter Tryz.func89, Tryz.ntmps89
 go_wp2_with fail
 refine (trimmed_any _ _ _ _ xs _ h (by omega)).mono ?_
 rintro e w' ⟨m, hm, rfl, rfl, hr⟩
 go_wp2_with fail
 refine (trimmed_any _ _ _ _ ys _ h' (by omega)).mono ?_
 rintro e w' ⟨m', hm', rfl, rfl, hr'⟩
 have FIN : nv (nw (nv xs)) + nv (nw (nv ys)) = nv xs + nv ys := by rw [E1.out, E2.out]
 have FIN' : nv (nw (nv ys)) + nv (nw (nv xs)) = nv xs + nv ys := by rw [E1.out, E2.out, Nat.add_comm]
 have F1 := Lib.hid FIN
 have F2 := Lib.hid FIN'
 clear FIN FIN' E1 E2
 generalize nw (nv xs) = xs' at *
 generalize nw (nv ys) = ys' at *
 by_cases hs : m < m'
 ·skip
  go_wp2_with (at_make; refine wpList_make_own _ rfl _ _ 50 rfl w.heap.size 22 i0 (.int .u64 0) 1 Tryz.underlying50 hi hz0 hz1 _ _ _ (m' + 1) rfl rfl (by omega) (by rw [hz2]; omega) (by unfold maxLen; omega) (Nat.le_refl _) ?_; intro w1 hown1 hgrow1)
  go_loopw [5, 7, 27] (fun s b i wr => ∃ (k : Nat) (zs : List Nat) (C : Nat), k ≤ m' ∧ i = .int .i64 k ∧ s = .slice (some ⟨w.heap.size, 0, none⟩) k (m' + 1) ∧ b = .int .u64 (C : Int) ∧ Row w.heap.size w wr w.heap.size (m' + 1) k zs ∧ AddInv W64 ys' xs' k zs C) (fun _ _ i _ => m' - (intOf i).toNat)
  case atStart => exact ⟨0, [], 0, by omega, rfl, rfl, rfl, Row.start hown1 (Below.refl _ _) hgrow1 (Nat.le_refl _), addInv_zero⟩
  case round =>
   obtain ⟨k, zs, C, hk, rfl, rfl, rfl, hrow, hinv⟩ := hrel
   have hC := hinv.2.2.1
   have hsz := hrow.2.size
   by_cases hlt : k < m'
   ·obtain ⟨ad, x, rfl, hb, hxb, hx, hc⟩ := (hr'.below hrow.2).at_ hlt
    have hr' := hr.below hrow.2
    have hy := getD_lt (Nat.lt_of_lt_of_le (by decide) W64_two) hr.lt k
    rw [W64_eq] at hxb hy
    have q3 : (x + (xs')[k]?.getD 0 + C) / 18446744073709551616 ≤ 1 := by omega
    have HI := Lib.hid (ad_int x ((xs')[k]?.getD 0) C)
    have HN := Lib.hid (hinv.step (z := (x + (xs')[k]?.getD 0 + C) % 18446744073709551616) (C' := (x + (xs')[k]?.getD 0 + C) / 18446744073709551616) (by rw [hx, W64_eq, Option.getD_some]; omega) (by rw [W64_eq]; omega) q3)
    clear hx
    go_wp2_with fail
    refine (wordAt_any _ _ _ _ k (xs') _ hr' (by omega) (by omega)).mono ?_
    rintro e w' ⟨rfl, rfl⟩
    go_wp2_with fail
    refine (addWord_any _ _ _ _ (by omega) (by omega) (by omega) (by omega) (by omega) (by omega)).mono ?_
    rw [HI.out.1, HI.out.2]
    rintro e w' ⟨rfl, rfl⟩
    go_wp2_with (at_builtin; refine wpList_append_fits _ rfl _ _ 50 rfl w.heap.size 22 i0 1 Tryz.underlying50 hi hz1 w.heap.size k (m' + 1) (u64s zs) rfl (hrow.1.alloc _) ⟨_, 0, none⟩ 1 1 [.int .u64 ((x + (xs')[k]?.getD 0 + C) % 18446744073709551616 : Nat)] rfl rfl one_cell one_int (by omega) ?_; intro w2 hown2 hgrow2)
    exact ⟨⟨k + 1, _, _, by omega, by go_num, rfl, rfl, hrow.push hsz hown2 hgrow2, HN.out⟩, by simp [intOf]; omega⟩
   ·obtain rfl : k = m' := by omega
    obtain ⟨v1, v2⟩ := hinv.done (by rw [hr'.len]; exact Nat.le_refl _) (by rw [hr.len]; omega) W64_two
    have V1 := Lib.hid v1
    clear v1
    go_wp2_with (at_builtin; refine wpList_append_fits _ rfl _ _ 50 rfl w.heap.size 22 i0 1 Tryz.underlying50 hi hz1 w.heap.size k (k + 1) (u64s zs) rfl (hrow.1.alloc _) ⟨_, 0, none⟩ 1 1 [.int .u64 (C : Int)] rfl rfl one_cell one_int (by omega) ?_; intro w2 hown2 hgrow2)
    have hrow2 := hrow.push hsz hown2 hgrow2
    refine (own_any _ _ _ _ (zs ++ [C]) _ (hrow2.rd v2) (by omega)).mono ?_
    rintro e w' ⟨A2, m2, c2, hm2, rfl, rfl, hr2⟩
    go_wp2
    go_ret
    refine ⟨A2, m2, c2, rfl, by omega, ?_, hrow2.2⟩
    rw [← F2.out, ← V1.out]
    exact hr2
 ·skip
  go_wp2_with (at_make; refine wpList_make_own _ rfl _ _ 50 rfl w.heap.size 22 i0 (.int .u64 0) 1 Tryz.underlying50 hi hz0 hz1 _ _ _ (m + 1) rfl rfl (by omega) (by rw [hz2]; omega) (by unfold maxLen; omega) (Nat.le_refl _) ?_; intro w1 hown1 hgrow1)
  go_loopw [5, 7, 27] (fun s b i wr => ∃ (k : Nat) (zs : List Nat) (C : Nat), k ≤ m ∧ i = .int .i64 k ∧ s = .slice (some ⟨w.heap.size, 0, none⟩) k (m + 1) ∧ b = .int .u64 (C : Int) ∧ Row w.heap.size w wr w.heap.size (m + 1) k zs ∧ AddInv W64 xs' ys' k zs C) (fun _ _ i _ => m - (intOf i).toNat)
  case atStart => exact ⟨0, [], 0, by omega, rfl, rfl, rfl, Row.start hown1 (Below.refl _ _) hgrow1 (Nat.le_refl _), addInv_zero⟩
  case round =>
   obtain ⟨k, zs, C, hk, rfl, rfl, rfl, hrow, hinv⟩ := hrel
   have hC := hinv.2.2.1
   have hsz := hrow.2.size
   by_cases hlt : k < m
   ·obtain ⟨ad, x, rfl, hb, hxb, hx, hc⟩ := (hr.below hrow.2).at_ hlt
    have hr' := hr'.below hrow.2
    have hy := getD_lt (Nat.lt_of_lt_of_le (by decide) W64_two) hr'.lt k
    rw [W64_eq] at hxb hy
    have q3 : (x + (ys')[k]?.getD 0 + C) / 18446744073709551616 ≤ 1 := by omega
    have HI := Lib.hid (ad_int x ((ys')[k]?.getD 0) C)
    have HN := Lib.hid (hinv.step (z := (x + (ys')[k]?.getD 0 + C) % 18446744073709551616) (C' := (x + (ys')[k]?.getD 0 + C) / 18446744073709551616) (by rw [hx, W64_eq, Option.getD_some]; omega) (by rw [W64_eq]; omega) q3)
    clear hx
    go_wp2_with fail
    refine (wordAt_any _ _ _ _ k (ys') _ hr' (by omega) (by omega)).mono ?_
    rintro e w' ⟨rfl, rfl⟩
    go_wp2_with fail
    refine (addWord_any _ _ _ _ (by omega) (by omega) (by omega) (by omega) (by omega) (by omega)).mono ?_
    rw [HI.out.1, HI.out.2]
    rintro e w' ⟨rfl, rfl⟩
    go_wp2_with (at_builtin; refine wpList_append_fits _ rfl _ _ 50 rfl w.heap.size 22 i0 1 Tryz.underlying50 hi hz1 w.heap.size k (m + 1) (u64s zs) rfl (hrow.1.alloc _) ⟨_, 0, none⟩ 1 1 [.int .u64 ((x + (ys')[k]?.getD 0 + C) % 18446744073709551616 : Nat)] rfl rfl one_cell one_int (by omega) ?_; intro w2 hown2 hgrow2)
    exact ⟨⟨k + 1, _, _, by omega, by go_num, rfl, rfl, hrow.push hsz hown2 hgrow2, HN.out⟩, by simp [intOf]; omega⟩
   ·obtain rfl : k = m := by omega
    obtain ⟨v1, v2⟩ := hinv.done (by rw [hr.len]; exact Nat.le_refl _) (by rw [hr'.len]; omega) W64_two
    have V1 := Lib.hid v1
    clear v1
    go_wp2_with (at_builtin; refine wpList_append_fits _ rfl _ _ 50 rfl w.heap.size 22 i0 1 Tryz.underlying50 hi hz1 w.heap.size k (k + 1) (u64s zs) rfl (hrow.1.alloc _) ⟨_, 0, none⟩ 1 1 [.int .u64 (C : Int)] rfl rfl one_cell one_int (by omega) ?_; intro w2 hown2 hgrow2)
    have hrow2 := hrow.push hsz hown2 hgrow2
    refine (own_any _ _ _ _ (zs ++ [C]) _ (hrow2.rd v2) (by omega)).mono ?_
    rintro e w' ⟨A2, m2, c2, hm2, rfl, rfl, hr2⟩
    go_wp2
    go_ret
    refine ⟨A2, m2, c2, rfl, by omega, ?_, hrow2.2⟩
    rw [← F1.out, ← V1.out]
    exact hr2
theorem same_quiet2 {P : Program} {f : FuncId} {args : Array Value} {w : World} {a n : Nat} {v : Value} (h : Calls P f args (w.drewN (a + n)) fun e w' => e = .returned v ∧ w.drewN (a + n) = w') : Calls P f args (w.drewN (a + n)) fun e w'' => e = .returned v ∧ ∃ m, w'' = w.drewN (a + m) :=
 h.mono fun _ _ ⟨he, hm⟩ => ⟨he, n, hm.symm⟩
theorem Qt.eqN3 {v u : Value} {w : World} {a b c : Nat} (h : u = v) : Qt v w (.returned u) (((w.drewN a).drewN b).drewN c) := by rw [h]; exact ⟨rfl, a + (b + c), by rw [World.drewN_drewN, World.drewN_drewN]⟩
set_option maxHeartbeats 1000000 in
theorem cmp_any (A A' : Option Addr) (n n' c c' B : Nat) (xs ys : List Nat) (w : World) (h : NR w B A n c xs) (h' : NR w B A' n' c' ys) (hn : n ≤ 1000000) (hn' : n' ≤ 1000000) :
    Calls Tryz.prog 104 #[.slice A n c, .slice A' n' c'] w (Qt (.int .i64 (cmpS (nv xs) (nv ys))) w) := by
 go_enter Tryz.func104, Tryz.ntmps104
 go_wp2_with fail
 refine (trimmed_any _ _ _ _ xs _ h (by omega)).mono ?_
 rintro e w' ⟨m, hm, rfl, rfl, hr⟩
 go_wp2_with fail
 refine (trimmed_any _ _ _ _ ys _ h' (by omega)).mono ?_
 rintro e w' ⟨m', hm', rfl, rfl, hr'⟩
 have hl := hr.len
 have hl' := hr'.len
 by_cases hs : m = m'
 ·subst hs
  have HL := Lib.hid hl
  have HL' := Lib.hid hl'
  clear hl hl'
  go_wp2
  go_loopw [5] (fun i wr => ∃ k q : Nat, k ≤ m ∧ i = .int .i64 ((k : Int) - 1) ∧ wr = w.drewN q ∧ Hid (∀ i, k ≤ i → (nw (nv xs))[i]? = (nw (nv ys))[i]?)) (fun i _ => (intOf i + 1).toNat)
  case atStart => exact ⟨m, 0, Nat.le_refl _, rfl, rfl, Lib.hid fun i hi => by rw [List.getElem?_eq_none (by rw [HL.out]; exact hi), List.getElem?_eq_none (by rw [HL'.out]; exact hi)]⟩
  case round =>
   obtain ⟨k, q, hk, rfl, rfl, hup⟩ := hrel
   by_cases hk0 : k = 0
   ·subst hk0
    have HE := Lib.hid (cmpS_eq (m := nv xs) (n := nv ys) (by rw [← nv_nw (nv xs), ← nv_nw (nv ys), eq_of_up hup.out]))
    go_wp2
    go_ret
    exact Qt.eqN (i64_eq HE.out.symm)
   ·obtain ⟨j, rfl⟩ : ∃ j, k = j + 1 := ⟨k - 1, by omega⟩
    obtain ⟨ad, x, rfl, hb, hxb, hx, hc⟩ := hr.at_ (show j < m by omega)
    obtain ⟨ad', y, rfl, hb', hyb, hy, hc'⟩ := hr'.at_ (show j < m by omega)
    rw [W64_eq] at hxb hyb
    rw [show (((j + 1 : Nat) : Int) - 1) = (j : Int) by omega]
    have HX := Lib.hid hx
    have HY := Lib.hid hy
    have lt1 := Lib.hid hr.lt
    have lt2 := Lib.hid hr'.lt
    clear hx hy
    have e1 : (0 : Int) ≤ j := by omega
    have e2 : (j : Int) < m := by omega
    by_cases hxy : x = y
    ·subst hxy
     go_wp2
     go_quiet (fail)
     go_wp2
     refine ⟨⟨j, _, by omega, rfl, rfl, Lib.hid fun i hi => ?_⟩, by simp [intOf]⟩
     by_cases hij : i = j
     ·subst hij; rw [HX.out, HY.out]
     ·exact hup.out i (by omega)
    ·have hne : ((x : Int) != y) = true := by simp; omega
     by_cases hlt : x < y
     ·have hd : decide ((x : Int) < y) = true := by simp; omega
      have HE := Lib.hid (cmpS_lt (m := nv xs) (n := nv ys) (by rw [← nv_nw (nv xs), ← nv_nw (nv ys)]; exact cmp_at HX.out HY.out lt1.out (fun i hi => hup.out i hi) hlt))
      go_wp2
      go_quiet (fail)
      go_wp2
      go_quiet ((go_at_call 164; exact same_quiet2 (sign_any _ _)))
      go_wp2
      go_ret
      first | exact Qt.eqN (i64_eq HE.out.symm) | exact Qt.eqN3 (i64_eq HE.out.symm)
     ·have hd : decide ((x : Int) < y) = false := by simp; omega
      have HE := Lib.hid (cmpS_gt (m := nv xs) (n := nv ys) (by rw [← nv_nw (nv xs), ← nv_nw (nv ys)]; exact cmp_at HY.out HX.out lt2.out (fun i hi => (hup.out i hi).symm) (by omega)))
      go_wp2
      go_quiet (fail)
      go_wp2
      go_quiet ((go_at_call 164; exact same_quiet2 (sign_any _ _)))
      go_wp2
      go_ret
      first | exact Qt.eqN (i64_eq HE.out.symm) | exact Qt.eqN3 (i64_eq HE.out.symm)
 ·have hne : ((m : Int) != m') = true := by simp; omega
  by_cases hlt : m < m'
  ·have hd : decide ((m : Int) < m') = true := by simp; omega
   have HE := Lib.hid (cmpS_lt (m := nv xs) (n := nv ys) (dg_len_lt W64_two (by rw [hl, hl']; exact hlt)))
   clear hl hl'
   go_wp2_with fail
   refine (sign_any _ _).mono ?_
   rintro e w' ⟨rfl, rfl⟩
   go_wp2
   go_ret
   exact Qt.eq0 (i64_eq HE.out.symm)
  ·have hd : decide ((m : Int) < m') = false := by simp; omega
   have HE := Lib.hid (cmpS_gt (m := nv xs) (n := nv ys) (dg_len_lt W64_two (by rw [hl, hl']; omega)))
   clear hl hl'
   go_wp2_with fail
   refine (sign_any _ _).mono ?_
   rintro e w' ⟨rfl, rfl⟩
   go_wp2
   go_ret
   exact Qt.eq0 (i64_eq HE.out.symm)
def SubPost (w : World) (N X Y : Nat) (e : Ending) (w' : World) : Prop :=
 (X < Y ∧ e = .returned (.tuple #[.slice none 0 0, .int .i64 5]) ∧ Below w.heap.size w w') ∨
 (Y ≤ X ∧ ∃ A n c, e = .returned (.tuple #[.slice A n c, .int .i64 0]) ∧ n ≤ N ∧ NR w' w'.heap.size A n c (nw (X - Y)) ∧ Below w.heap.size w w')
theorem below_drewNN {B : Nat} {a w : World} (h : Below B a w) (n : Nat) : Below B a (w.drewN n) := ⟨h.os, h.tape, h.output, h.size, h.block⟩
theorem sub_nat_any (A A' : Option Addr) (n n' c c' : Nat) (xs ys : List Nat) (w : World) (h : NR w w.heap.size A n c xs) (h' : NR w w.heap.size A' n' c' ys) (hn : n ≤ 1000000) (hn' : n' ≤ 1000000) :
    Calls Tryz.prog 291 #[.slice A n c, .slice A' n' c'] w (SubPost w n (nv xs) (nv ys)) := by
 go_enter Tryz.func291, Tryz.ntmps291
 go_wp2_with fail
 refine (cmp_any A A' n n' c c' _ xs ys w h h' hn hn').mono ?_
 rintro e w' ⟨rfl, q, rfl⟩
 by_cases hlt : nv xs < nv ys
 ·have HE := Lib.hid (cmpS_lt hlt)
  rw [HE.out]
  go_wp2
  go_ret2
  exact .inl ⟨hlt, rfl, below_drewNN (Below.refl _ _) _⟩
 ·have hd : decide (cmpS (nv xs) (nv ys) < 0) = false := by
     unfold cmpS; rw [if_neg hlt]; split <;> decide
  have HV := Lib.hid (show nv ys ≤ nv xs by omega)
  have E1 := Lib.hid (nv_nw (nv xs))
  have E2 := Lib.hid (nv_nw (nv ys))
  clear hlt
  go_wp2_with fail
  refine (trimmed_any _ _ _ _ xs _ (h.drewN q) (by omega)).mono ?_
  rintro e w' ⟨m, hm, rfl, rfl, hr⟩
  go_wp2_with fail
  refine (trimmed_any _ _ _ _ ys _ (h'.drewN q) (by omega)).mono ?_
  rintro e w' ⟨m', hm', rfl, rfl, hr'⟩
  have hle : m' ≤ m := by
   rw [← hr.len, ← hr'.len]
   rcases Nat.lt_or_ge (nw (nv xs)).length (nw (nv ys)).length with h0 | h0
   ·have := dg_len_lt W64_two h0
    have := HV.out
    omega
   ·exact h0
  go_wp2_with fail
  refine (less_any _ _ _ _ _ _ (nw (nv xs)) (nw (nv ys)) (w.drewN q) hr hr' (by omega) hle (by rw [E1.out, E2.out]; exact HV.out)).mono ?_
  rw [E1.out, E2.out]
  rintro e w' ⟨A2, n2, c2, rfl, hn2, hr2, hb2⟩
  go_wp2
  go_ret2
  exact .inr ⟨HV.out, A2, n2, c2, rfl, by omega, hr2, (below_drewNN (Below.refl _ _) q).trans hb2⟩
end Go.Proofs.YtjikdbcjabopnaaGreatDoor
