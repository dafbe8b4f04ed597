/-
  What Div of package nat answers for all naturals: quotient and rest, or that the divisor is 0.
-/
import Derived.Test.YtbpehdfpiembfaaDoorZ16
import Derived.Test.YtbpehdfpiembfaaDoorZ3
import Derived.Laws.AppendOwnNone
namespace Go.Proofs.YtbpehdfpiembfaaDoor
open Go.RowKit
set_option linter.unusedVariables false
set_option maxRecDepth 100000

/-- What Div answers. -/
def DivPostN (w : World) (N X Y : Nat) (e : Ending) (w' : World) : Prop :=
  (Y = 0 ∧ e = .returned (.tuple #[.slice none 0 0, .slice none 0 0, .int .i64 1]) ∧ Below w.heap.size w w') ∨
  (0 < Y ∧ ∃ A n c A' n' c', e = .returned (.tuple #[.slice A n c, .slice A' n' c', .int .i64 0]) ∧ n ≤ N ∧ n' ≤ N ∧ NR w' w'.heap.size A n c (nw (X / Y)) ∧ NR w' w'.heap.size A' n' c' (nw (X % Y)) ∧ Below w.heap.size w w')

end Go.Proofs.YtbpehdfpiembfaaDoor

/-
  What Mul, Bits, Mod and Of of package nat answer for all naturals.
-/
namespace Go.Proofs.YtbpehdfpiembfaaDoor
open Go.RowKit
set_option linter.unusedVariables false
set_option maxRecDepth 100000

/-- A product so far: the first k words of xs times Y. -/
def MulInv (xs : List Nat) (Y lb k : Nat) (ps : List Nat) : Prop := ps.length = lb + k ∧ (∀ x ∈ ps, x < W64) ∧ nv ps = nv (xs.take k) * Y
theorem mulInv_zero {xs : List Nat} {Y lb : Nat} : MulInv xs Y lb 0 (List.replicate lb 0) := by
  refine ⟨by simp, fun x hx => by rw [List.eq_of_mem_replicate hx, W64_eq]; omega, ?_⟩
  have : vl W64 (List.replicate lb 0) = 0 := vl_zeros fun j x hx => by
    by_cases hj : j < lb
    · have e : (List.replicate lb 0)[j]? = some 0 := by simp [hj]
      rw [e] at hx
      exact (Option.some.inj hx).symm
    · rw [List.getElem?_eq_none (by simp; omega)] at hx
      cases hx
  show vl W64 _ = vl W64 (xs.take 0) * Y
  rw [this, List.take_zero, vl_nil, Nat.zero_mul]
theorem MulInv.step {xs ps ns ds : List Nat} {Y lb k x C : Nat} (h : MulInv xs Y lb k ps) (hx : xs[k]? = some x) (hn : ns.length = lb) (hns : ∀ x ∈ ns, x < W64) (hC : C < W64) (e : nv ns + W64 ^ lb * C = nv (ps.drop k) + x * Y) :
    MulInv xs Y lb (k + 1) (ps.take k ++ ns ++ [C]) := by
  obtain ⟨h1, h2, h3⟩ := h
  have l : (ps.take k).length = k := by rw [List.length_take]; omega
  refine ⟨by simp [l, hn]; omega, ?_, ?_⟩
  · refine snoc_lt (fun z hz => ?_) hC
    rcases List.mem_append.1 hz with hz | hz
    · exact h2 z (List.mem_of_mem_take hz)
    · exact hns z hz
  · have e0 : nv ps = nv (ps.take k) + W64 ^ k * nv (ps.drop k) := by
      show vl W64 ps = _
      conv => lhs; rw [← List.take_append_drop k ps, vl_append, l]
    have e1 : nv (ps.take k ++ ns ++ [C]) = nv (ps.take k) + W64 ^ k * (nv ns + W64 ^ lb * C) := by
      show vl W64 _ = _
      rw [List.append_assoc, vl_append, l, vl_append, hn, vl_cons, vl_nil]
      simp
    rw [e1, e, Nat.mul_add, ← Nat.add_assoc, ← e0, h3]
    show _ = vl W64 (xs.take (k + 1)) * Y
    rw [vl_take_next, hx, Option.getD_some, Nat.add_mul, Nat.mul_assoc]

/-- A new row of c noughts, n of them told. -/
def newRow (n c : Nat) : Array Value := (u64s (List.replicate n 0) ++ List.replicate (c - n) (Value.int .u64 0)).toArray
theorem newRow_bk (w : World) (n c : Nat) : Bk (w.alloc (.cells (newRow n c) 22)) w.heap.size (List.replicate n 0) (List.replicate (c - n) (Value.int .u64 0)) := heap_alloc_new w _
theorem make_words (n c : Nat) (hnc : n ≤ c) (hc : c ≤ 1000000) (w : World) :
    (Instr.makeSlice 75 (.int .i64 (n : Int)) (.int .i64 (c : Int))).run Tryd.prog w = .ok (.slice (some ⟨w.heap.size, 0, none⟩) n c) (w.alloc (.cells (newRow n c) 22)) := by
  obtain ⟨i0, hi, hz0, hz1, hz2⟩ := info_parts info_u64N
  have hr := run_make (P := Tryd.prog) w 75 22 i0 (.int .u64 0) Tryd.underlying75 hi hz0 .i64 .i64 (n : Int) (c : Int) (by omega) (by omega) (by rw [hz2]; omega) (by omega)
  rw [hz1] at hr
  simp only [Int.toNat_natCast] at hr
  rw [hr]
  have e : madeCells (Value.int .u64 0).cells (c * 1) = newRow n c := by
    apply Array.toList_inj.1
    rw [made_u64]
    unfold newRow
    rw [show u64s (List.replicate n 0) = List.replicate n (Value.int .u64 0) by simp [u64s], show u64s (List.replicate c 0) = List.replicate c (Value.int .u64 0) by simp [u64s], List.replicate_append_replicate, show n + (c - n) = c by omega]
  rw [e]

set_option maxHeartbeats 1000000 in
theorem natMul_any (A A' : Option Addr) (n n' c c' : Nat) (xs ys : List Nat) (w : World) (h : NR w w.heap.size A n c xs) (h' : NR w w.heap.size A' n' c' ys) (hn : n ≤ 100000) (hn' : n' ≤ 100000) :
    Calls Tryd.prog 83 #[.slice A n c, .slice A' n' c'] w (NatPost w (n + n') (nw (nv xs * nv ys))) := by
  obtain ⟨i0, hi, hz0, hz1, hz2⟩ := info_parts info_u64N
  go_enter Tryd.func83, Tryd.ntmps83
  go_wp2_with fail
  refine (trimmed_any _ _ _ _ xs _ h (by omega)).mono ?_
  rintro e w' ⟨m, hm, rfl, rfl, hr⟩
  go_wp2_with fail
  refine (trimmed_any _ _ _ _ ys _ h' (by omega)).mono ?_
  rintro e w' ⟨m', hm', rfl, rfl, hr'⟩
  have E1 := Lib.hid (nv_nw (nv xs))
  have E2 := Lib.hid (nv_nw (nv ys))
  have hmk := make_words m' (m + m') (by omega) (by omega)
  rw [show ((m + m' : Nat) : Int) = (m : Int) + m' by omega] at hmk
  go_wp2
  go_loopw [5, 22] (fun s i wr => ∃ (k : Nat) (ps : List Nat) (sp : List Value), k ≤ m ∧ i = .int .i64 k ∧ s = .slice (some ⟨w.heap.size, 0, none⟩) (m' + k) (m + m') ∧ sp.length + (m' + k) = m + m' ∧ Bk wr w.heap.size ps sp ∧ Below w.heap.size w wr ∧ MulInv (nw (nv xs)) (nv ys) m' k ps) (fun _ i _ => m - (intOf i).toNat)
  case atStart => exact ⟨0, _, _, by omega, rfl, rfl, by simp, newRow_bk _ _ _, (Below.refl _ _).alloc (Nat.le_refl _) _, mulInv_zero⟩
  case round =>
    obtain ⟨k, ps, sp, hk, rfl, rfl, hsp, hb, hbl, hinv⟩ := hrel
    have hs1 := hb.lt
    have hpl := hinv.1
    have hplt := hinv.2.1
    by_cases hlt : k < m
    · obtain ⟨ad, x, rfl, hbk, hxb, hx, hc⟩ := (hr.below hbl).at_ hlt
      rw [W64_eq] at hxb
      have hb' : Bk wr w.heap.size (ps.take k ++ ps.drop k ++ []) sp := by rw [List.append_nil, List.take_append_drop]; exact hb
      have hdl : (ps.drop k).length = m' := by rw [List.length_drop]; omega
      have htl : (ps.take k).length = k := by rw [List.length_take]; omega
      have HD := Lib.hid hdl
      have HT := Lib.hid htl
      have HX := Lib.hid hx
      have HP := Lib.hid hpl
      have SP := Lib.hid hsp
      have hr2 := hr'.below hbl
      clear hdl htl hx hpl hsp
      go_wp2_with fail
      refine (addTimes_any w.heap.size k (m + m' - k) A' m' m' w.heap.size x (ps.take k) (ps.drop k) [] (nw (nv ys)) sp wr hb' HT.out HD.out (fun z hz => hplt z (List.mem_of_mem_drop hz)) hr2 (by omega) (fun h0 ad e => by obtain ⟨ad2, e2, hlt2, _⟩ := hr'.cells h0; rw [e2] at e; injection e with e; subst e; omega) (by omega) (by omega) hxb).mono ?_
      rintro e w4 ⟨ns, C, rfl, nl, nlt, hCW, er, hk4, hg4⟩
      rw [nv_nw] at er
      rw [List.append_nil] at hk4
      have HN := Lib.hid (hinv.step (ds := []) HX.out nl nlt hCW er)
      have hbl4 := below_only hbl hg4 (by omega) (Nat.le_refl _)
      have hrow := hk4.row (cap := m + m') (k := m' + k) hbl4 (Nat.le_refl _) (by simp [HT.out, nl]; omega) SP.out (by unfold maxLen; omega)
      have hs4 := hk4.lt
      rw [W64_eq] at hCW
      have NL := Lib.hid nl
      have ER := Lib.hid er
      clear er nl
      go_wp2_with (at_builtin; refine wpList_append_fits _ rfl _ _ 75 rfl w.heap.size 22 i0 1 Tryd.underlying75 hi hz1 w.heap.size (m' + k) (m + m') (u64s (ps.take k ++ ns)) rfl (hrow.1.alloc _) ⟨_, 0, none⟩ 1 1 [.int .u64 (C : Int)] rfl rfl one_cell one_int (by omega) ?_; intro w5 hown5 hgrow5)
      have hrow5 := hrow.push (Nat.le_of_lt hs4) hown5 hgrow5
      obtain ⟨sp5, hsp5, hbk5⟩ := Bk.of_row hrow5
      exact ⟨⟨k + 1, _, sp5, by omega, by go_num, rfl, by omega, hbk5, hrow5.2, HN.out⟩, by simp [intOf]; omega⟩
    · obtain rfl : k = m := by omega
      have hv := hinv.2.2
      rw [List.take_of_length_le (by rw [hr.len]; exact Nat.le_refl _), nv_nw] at hv
      have HV := Lib.hid hv
      have HP := Lib.hid hpl
      have hrd := hb.rd (c := k + m') hplt hpl (by omega)
      clear hv hpl hsp
      go_wp2_with fail
      refine (own_any _ _ _ _ ps _ hrd (by omega)).mono ?_
      rintro e w' ⟨A2, m2, c2, hm2, rfl, rfl, hr2⟩
      go_wp2
      go_ret
      refine ⟨A2, m2, c2, rfl, by omega, ?_, hbl⟩
      rw [← HV.out]
      exact hr2
end Go.Proofs.YtbpehdfpiembfaaDoor

/-
  What Of, Bits, Mod and signed of package nat, and Same of the reference, answer for all naturals.
-/
namespace Go.Proofs.YtbpehdfpiembfaaDoor
open Go.RowKit
set_option linter.unusedVariables false
set_option maxRecDepth 100000

theorem natOf_any (x : Nat) (w : World) (hx : x < 18446744073709551616) :
    Calls Tryd.prog 72 #[.int .u64 (x : Int)] w (NatPost w 1 (nw x)) := by
  have hr : NR (w.alloc (.cells #[.int .u64 (x : Int)] 22)) (w.heap.size + 1) (some ⟨w.heap.size, 0, none⟩) 1 1 [x] := by
    refine ⟨rfl, Nat.le_refl _, fun z hz => by rw [List.mem_singleton.1 hz, W64_eq]; exact hx, fun _ => ⟨_, rfl, Nat.lt_succ_self _, fun j z hz => ?_⟩⟩
    match j, hz with
    | 0, hz => simp at hz; subst hz; simp [Addr.add]
  have e : nv [x] = x := by show vl W64 [x] = x; simp [vl]
  have E := Lib.hid e
  clear e
  go_enter Tryd.func72, Tryd.ntmps72
  go_wp2_with fail
  refine (own_any _ _ _ _ [x] _ hr (by omega)).mono ?_
  rintro e w' ⟨A2, m2, c2, hm2, rfl, rfl, hr2⟩
  rw [E.out] at hr2
  go_wp2
  go_ret
  exact ⟨A2, m2, c2, rfl, hm2, by simpa using hr2, (Below.refl _ _).alloc (Nat.le_refl _) _⟩

/-- How many bits a number has. -/
theorem bits_unique {n k : Nat} (h1 : 2 ^ (k - 1) ≤ n) (h2 : n < 2 ^ k) (hk : 0 < k) : k = Go.bitLen n := by
  obtain ⟨a, b⟩ := Go.bitLen_spec n
  have p := Nat.two_pow_pos (k - 1)
  have c := b (by omega)
  have d1 : 2 ^ (k - 1) < 2 ^ Go.bitLen n := by omega
  have d2 : 2 ^ (Go.bitLen n - 1) < 2 ^ k := by omega
  have e1 := (Nat.pow_lt_pow_iff_right (show 1 < 2 by omega)).1 d1
  have e2 := (Nat.pow_lt_pow_iff_right (show 1 < 2 by omega)).1 d2
  omega
theorem bits_words {Y t m : Nat} (hm : (nw Y).length = m) (ht : (nw Y)[m - 1]? = some t) (htb : t < 18446744073709551616) : ((m : Int) - 1) * 64 + (Lib.bitLen t : Nat) = (Go.bitLen Y : Nat) := by
  subst hm
  obtain ⟨h1, h2, h3⟩ := top_bounds ht
  have hl := (List.getElem?_eq_some_iff.1 ht).1
  obtain ⟨b0, b1, b2⟩ := bitLen_two t (by omega) (by omega)
  generalize (nw Y).length = m at *
  generalize Lib.bitLen t = L at *
  have e : W64 ^ (m - 1) = 2 ^ (64 * (m - 1)) := by rw [Nat.pow_mul]; rfl
  rw [e] at h1 h2
  have := bits_unique (n := Y) (k := 64 * (m - 1) + L) (by
    rw [show 64 * (m - 1) + L - 1 = 64 * (m - 1) + (L - 1) by omega, Nat.pow_add, Nat.mul_comm]
    exact Nat.le_trans (Nat.mul_le_mul_right _ b1) h1) (by
    rw [Nat.pow_add, Nat.mul_comm]
    exact Nat.lt_of_lt_of_le h2 (Nat.mul_le_mul_right _ b2)) (by omega)
  omega

theorem natBits_any (A : Option Addr) (n c B : Nat) (xs : List Nat) (w : World) (h : NR w B A n c xs) (hn : n ≤ 100000) :
    Calls Tryd.prog 51 #[.slice A n c] w fun e w' => e = .returned (.int .i64 (Go.bitLen (nv xs) : Nat)) ∧ w = w' := by
  go_enter Tryd.func51, Tryd.ntmps51
  go_wp2_with fail
  refine (trimmed_any _ _ _ _ xs _ h (by omega)).mono ?_
  rintro e w' ⟨m, hm, rfl, rfl, hr⟩
  by_cases hm0 : m = 0
  · subst hm0
    have H := Lib.hid (dg_nil W64_two (hr.eq_nil rfl))
    go_wp2
    go_ret
    refine ⟨congrArg Ending.returned (i64_eq ?_), rfl⟩
    rw [H.out]; rfl
  · have hmb : ((m : Int) == 0) = false := by simpa using hm0
    obtain ⟨ad, t, rfl, hb, htb, ht, hc⟩ := hr.at_ (show m - 1 < m by omega)
    rw [W64_eq] at htb
    have H := Lib.hid (bits_words hr.len ht htb)
    have hbl := bitLen64 (t : Int) (by omega) (by omega)
    rw [Int.toNat_natCast] at hbl
    clear ht
    go_wp2_with fail
    refine (len64_any _ _ (by omega) (by omega)).mono ?_
    rw [Int.toNat_natCast]
    rintro e w' ⟨rfl, rfl⟩
    go_wp2
    go_ret
    exact ⟨congrArg Ending.returned (i64_eq H.out), rfl⟩

/-- The rest by a word, the highest word first. -/
theorem mod_next (xs : List Nat) {j x : Nat} (hx : xs[j]? = some x) (d : Nat) : (nv (xs.drop (j + 1)) % d * W64 + x) % d = nv (xs.drop j) % d := by
  have hl := (List.getElem?_eq_some_iff.1 hx).1
  have e := (List.getElem?_eq_some_iff.1 hx).2
  have : nv (xs.drop j) = x + W64 * nv (xs.drop (j + 1)) := by
    show vl W64 _ = _
    rw [List.drop_eq_getElem_cons hl, vl_cons, e]
  rw [this, Nat.add_comm, Nat.add_mod, Nat.mul_comm W64, Nat.mul_mod, Nat.mod_mod, ← Nat.mul_mod, ← Nat.add_mod]
theorem Qt.mk2 (v : Value) (w : World) (a b : Nat) : Qt v w (.returned v) ((w.drewN a).drewN b) := ⟨rfl, a + b, World.drewN_drewN _ _ _⟩
end Go.Proofs.YtbpehdfpiembfaaDoor
