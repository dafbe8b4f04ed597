import Derived.Test.YtkbcobjhlpjieaaGreatDoorZNDivP
import Derived.Test.YtkbcobjhlpjieaaGreatDoorZ14
import Derived.Laws.AppendOwnNone
namespace Go.Proofs.YtkbcobjhlpjieaaGreatDoor
open Go.RowKit
set_option linter.unusedVariables false
set_option maxRecDepth 100000
def MulInv (xs : List Nat) (Y lb k : Nat) (ps : List Nat) : Prop := ps.length = lb + k ∧ (∀ x ∈ ps, x < W64) ∧ nv ps = nv (xs.take k) * Y
theorem mulInv_zero {xs : List Nat} {Y lb : Nat} : MulInv xs Y lb 0 (List.replicate lb 0) := by
 refine ⟨by simp, fun x hx => by rw [List.eq_of_mem_replicate hx, W64_eq]; omega, ?_⟩
 have : vl W64 (List.replicate lb 0) = 0 := vl_zeros fun j x hx => by
  by_cases hj : j < lb
  ·have e : (List.replicate lb 0)[j]? = some 0 := by simp [hj]
   rw [e] at hx
   exact (Option.some.inj hx).symm
  ·rw [List.getElem?_eq_none (by simp; omega)] at hx
   cases hx
 show vl W64 _ = vl W64 (xs.take 0) * Y
 rw [this, List.take_zero, vl_nil, Nat.zero_mul]
theorem MulInv.step {xs ps ns ds : List Nat} {Y lb k x C : Nat} (h : MulInv xs Y lb k ps) (hx : xs[k]? = some x) (hn : ns.length = lb) (hns : ∀ x ∈ ns, x < W64) (hC : C < W64) (e : nv ns + W64 ^ lb * C = nv (ps.drop k) + x * Y) :
    MulInv xs Y lb (k + 1) (ps.take k ++ ns ++ [C]) := by
 obtain ⟨h1, h2, h3⟩ := h
 have l : (ps.take k).length = k := by rw [List.length_take]; omega
 refine ⟨by simp [l, hn]; omega, ?_, ?_⟩
 ·refine snoc_lt (fun z hz => ?_) hC
  rcases List.mem_append.1 hz with hz | hz
  ·exact h2 z (List.mem_of_mem_take hz)
  ·exact hns z hz
 ·have e0 : nv ps = nv (ps.take k) + W64 ^ k * nv (ps.drop k) := by
     show vl W64 ps = _
     conv => lhs; rw [← List.take_append_drop k ps, vl_append, l]
  have e1 : nv (ps.take k ++ ns ++ [C]) = nv (ps.take k) + W64 ^ k * (nv ns + W64 ^ lb * C) := by
   show vl W64 _ = _
   rw [List.append_assoc, vl_append, l, vl_append, hn, vl_cons, vl_nil]
   simp
  rw [e1, e, Nat.mul_add, ← Nat.add_assoc, ← e0, h3]
  show _ = vl W64 (xs.take (k + 1)) * Y
  rw [vl_take_next, hx, Option.getD_some, Nat.add_mul, Nat.mul_assoc]
def newRow (n c : Nat) : Array Value := (u64s (List.replicate n 0) ++ List.replicate (c - n) (Value.int .u64 0)).toArray
theorem newRow_bk (w : World) (n c : Nat) : Bk (w.alloc (.cells (newRow n c) 22)) w.heap.size (List.replicate n 0) (List.replicate (c - n) (Value.int .u64 0)) := heap_alloc_new w _
theorem make_words (n c : Nat) (hnc : n ≤ c) (hc : c ≤ 1000000) (w : World) :
    (Instr.makeSlice 152 (.int .i64 (n : Int)) (.int .i64 (c : Int))).run Tryz.prog w = .ok (.slice (some ⟨w.heap.size, 0, none⟩) n c) (w.alloc (.cells (newRow n c) 22)) := by
 obtain ⟨i0, hi, hz0, hz1, hz2⟩ := info_parts info_u64N
 have hr := run_make (P := Tryz.prog) w 152 22 i0 (.int .u64 0) Tryz.underlying152 hi hz0 .i64 .i64 (n : Int) (c : Int) (by omega) (by omega) (by rw [hz2]; omega) (by omega)
 rw [hz1] at hr
 simp only [Int.toNat_natCast] at hr
 rw [hr]
 have e : madeCells (Value.int .u64 0).cells (c * 1) = newRow n c := by
  apply Array.toList_inj.1
  rw [made_u64]
  unfold newRow
  rw [show u64s (List.replicate n 0) = List.replicate n (Value.int .u64 0) by simp [u64s], show u64s (List.replicate c 0) = List.replicate c (Value.int .u64 0) by simp [u64s], List.replicate_append_replicate, show n + (c - n) = c by omega]
 rw [e]
theorem bits_unique {n k : Nat} (h1 : 2 ^ (k - 1) ≤ n) (h2 : n < 2 ^ k) (hk : 0 < k) : k = Go.bitLen n := by
 obtain ⟨a, b⟩ := Go.bitLen_spec n
 have p := Nat.two_pow_pos (k - 1)
 have c := b (by omega)
 have d1 : 2 ^ (k - 1) < 2 ^ Go.bitLen n := by omega
 have d2 : 2 ^ (Go.bitLen n - 1) < 2 ^ k := by omega
 have e1 := (Nat.pow_lt_pow_iff_right (show 1 < 2 by omega)).1 d1
 have e2 := (Nat.pow_lt_pow_iff_right (show 1 < 2 by omega)).1 d2
 omega
theorem bits_words {Y t m : Nat} (hm : (nw Y).length = m) (ht : (nw Y)[m - 1]? = some t) (htb : t < 18446744073709551616) : ((m : Int) - 1) * 64 + (Lib.bitLen t : Nat) = (Go.bitLen Y : Nat) := by
 subst hm
 obtain ⟨h1, h2, h3⟩ := top_bounds ht
 have hl := (List.getElem?_eq_some_iff.1 ht).1
 obtain ⟨b0, b1, b2⟩ := bitLen_two t (by omega) (by omega)
 generalize (nw Y).length = m at *
 generalize Lib.bitLen t = L at *
 have e : W64 ^ (m - 1) = 2 ^ (64 * (m - 1)) := by rw [Nat.pow_mul]; rfl
 rw [e] at h1 h2
 have := bits_unique (n := Y) (k := 64 * (m - 1) + L) (by
  rw [show 64 * (m - 1) + L - 1 = 64 * (m - 1) + (L - 1) by omega, Nat.pow_add, Nat.mul_comm]
  exact Nat.le_trans (Nat.mul_le_mul_right _ b1) h1) (by
  rw [Nat.pow_add, Nat.mul_comm]
  exact Nat.lt_of_lt_of_le h2 (Nat.mul_le_mul_right _ b2)) (by omega)
 omega
theorem natBits_any (A : Option Addr) (n c B : Nat) (xs : List Nat) (w : World) (h : NR w B A n c xs) (hn : n ≤ 100000) :
    Calls Tryz.prog 144 #[.slice A n c] w fun e w' => e = .returned (.int .i64 (Go.bitLen (nv xs) : Nat)) ∧ w = w' := by
 go_enter Tryz.func144, Tryz.ntmps144
 go_wp2_with fail
 refine (trimmed_any _ _ _ _ xs _ h (by omega)).mono ?_
 rintro e w' ⟨m, hm, rfl, rfl, hr⟩
 by_cases hm0 : m = 0
 ·subst hm0
  have H := Lib.hid (dg_nil W64_two (hr.eq_nil rfl))
  go_wp2
  go_ret
  refine ⟨congrArg Ending.returned (i64_eq ?_), rfl⟩
  rw [H.out]; rfl
 ·have hmb : ((m : Int) == 0) = false := by simpa using hm0
  obtain ⟨ad, t, rfl, hb, htb, ht, hc⟩ := hr.at_ (show m - 1 < m by omega)
  rw [W64_eq] at htb
  have H := Lib.hid (bits_words hr.len ht htb)
  have hbl := bitLen64 (t : Int) (by omega) (by omega)
  rw [Int.toNat_natCast] at hbl
  clear ht
  go_wp2_with fail
  refine (len64_any _ _ (by omega) (by omega)).mono ?_
  rw [Int.toNat_natCast]
  rintro e w' ⟨rfl, rfl⟩
  go_wp2
  go_ret
  exact ⟨congrArg Ending.returned (i64_eq H.out), rfl⟩
end Go.Proofs.YtkbcobjhlpjieaaGreatDoor
