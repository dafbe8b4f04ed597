/-
  What Of, Bits, Mod and signed of package nat, and Same of the reference, answer for all naturals.
-/
import Derived.Test.YtcfbemjnkiepdaaNMul
namespace Go.Proofs.Ytcfbemjnkiepdaa
open Go.RowKit
set_option linter.unusedVariables false

theorem natOf_any (x : Nat) (w : World) (hx : x < 18446744073709551616) :
    Calls Try.prog 48 #[.int .u64 (x : Int)] w (NatPost w 1 (nw x)) := by
  have hr : NR (w.alloc (.cells #[.int .u64 (x : Int)] 22)) (w.heap.size + 1) (some ⟨w.heap.size, 0, none⟩) 1 1 [x] := by
    refine ⟨rfl, Nat.le_refl _, fun z hz => by rw [List.mem_singleton.1 hz, W64_eq]; exact hx, fun _ => ⟨_, rfl, Nat.lt_succ_self _, fun j z hz => ?_⟩⟩
    match j, hz with
    | 0, hz => simp at hz; subst hz; simp [Addr.add]
  have e : nv [x] = x := by show vl W64 [x] = x; simp [vl]
  have E := Lib.hid e
  clear e
  go_enter Try.func48, Try.ntmps48
  go_wp2_with fail
  refine (own_any _ _ _ _ [x] _ hr (by omega)).mono ?_
  rintro e w' ⟨A2, m2, c2, hm2, rfl, rfl, hr2⟩
  rw [E.out] at hr2
  go_wp2
  go_ret
  exact ⟨A2, m2, c2, rfl, hm2, by simpa using hr2, (Below.refl _ _).alloc (Nat.le_refl _) _⟩

/-- How many bits a number has. -/
theorem bits_unique {n k : Nat} (h1 : 2 ^ (k - 1) ≤ n) (h2 : n < 2 ^ k) (hk : 0 < k) : k = Go.bitLen n := by
  obtain ⟨a, b⟩ := Go.bitLen_spec n
  have p := Nat.two_pow_pos (k - 1)
  have c := b (by omega)
  have d1 : 2 ^ (k - 1) < 2 ^ Go.bitLen n := by omega
  have d2 : 2 ^ (Go.bitLen n - 1) < 2 ^ k := by omega
  have e1 := (Nat.pow_lt_pow_iff_right (show 1 < 2 by omega)).1 d1
  have e2 := (Nat.pow_lt_pow_iff_right (show 1 < 2 by omega)).1 d2
  omega
theorem bits_words {Y t m : Nat} (hm : (nw Y).length = m) (ht : (nw Y)[m - 1]? = some t) (htb : t < 18446744073709551616) : ((m : Int) - 1) * 64 + (Lib.bitLen t : Nat) = (Go.bitLen Y : Nat) := by
  subst hm
  obtain ⟨h1, h2, h3⟩ := top_bounds ht
  have hl := (List.getElem?_eq_some_iff.1 ht).1
  obtain ⟨b0, b1, b2⟩ := bitLen_two t (by omega) (by omega)
  generalize (nw Y).length = m at *
  generalize Lib.bitLen t = L at *
  have e : W64 ^ (m - 1) = 2 ^ (64 * (m - 1)) := by rw [Nat.pow_mul]; rfl
  rw [e] at h1 h2
  have := bits_unique (n := Y) (k := 64 * (m - 1) + L) (by
    rw [show 64 * (m - 1) + L - 1 = 64 * (m - 1) + (L - 1) by omega, Nat.pow_add, Nat.mul_comm]
    exact Nat.le_trans (Nat.mul_le_mul_right _ b1) h1) (by
    rw [Nat.pow_add, Nat.mul_comm]
    exact Nat.lt_of_lt_of_le h2 (Nat.mul_le_mul_right _ b2)) (by omega)
  omega

theorem natBits_any (A : Option Addr) (n c B : Nat) (xs : List Nat) (w : World) (h : NR w B A n c xs) (hn : n ≤ 100000) :
    Calls Try.prog 44 #[.slice A n c] w fun e w' => e = .returned (.int .i64 (Go.bitLen (nv xs) : Nat)) ∧ w = w' := by
  go_enter Try.func44, Try.ntmps44
  go_wp2_with fail
  refine (trimmed_any _ _ _ _ xs _ h (by omega)).mono ?_
  rintro e w' ⟨m, hm, rfl, rfl, hr⟩
  by_cases hm0 : m = 0
  · subst hm0
    have H := Lib.hid (dg_nil W64_two (hr.eq_nil rfl))
    go_wp2
    go_ret
    refine ⟨congrArg Ending.returned (i64_eq ?_), rfl⟩
    rw [H.out]; rfl
  · have hmb : ((m : Int) == 0) = false := by simpa using hm0
    obtain ⟨ad, t, rfl, hb, htb, ht, hc⟩ := hr.at_ (show m - 1 < m by omega)
    rw [W64_eq] at htb
    have H := Lib.hid (bits_words hr.len ht htb)
    have hbl := bitLen64 (t : Int) (by omega) (by omega)
    rw [Int.toNat_natCast] at hbl
    clear ht
    go_wp2_with fail
    refine (len64_any _ _ (by omega) (by omega)).mono ?_
    rw [Int.toNat_natCast]
    rintro e w' ⟨rfl, rfl⟩
    go_wp2
    go_ret
    exact ⟨congrArg Ending.returned (i64_eq H.out), rfl⟩

/-- The rest by a word, the highest word first. -/
theorem mod_next (xs : List Nat) {j x : Nat} (hx : xs[j]? = some x) (d : Nat) : (nv (xs.drop (j + 1)) % d * W64 + x) % d = nv (xs.drop j) % d := by
  have hl := (List.getElem?_eq_some_iff.1 hx).1
  have e := (List.getElem?_eq_some_iff.1 hx).2
  have : nv (xs.drop j) = x + W64 * nv (xs.drop (j + 1)) := by
    show vl W64 _ = _
    rw [List.drop_eq_getElem_cons hl, vl_cons, e]
  rw [this, Nat.add_comm, Nat.add_mod, Nat.mul_comm W64, Nat.mul_mod, Nat.mod_mod, ← Nat.mul_mod, ← Nat.add_mod]
theorem natMod_any (A : Option Addr) (n c B d : Nat) (xs : List Nat) (w : World) (h : NR w B A n c xs) (hn : n ≤ 100000) (hd : d < 18446744073709551616) :
    Calls Try.prog 46 #[.slice A n c, .int .u64 (d : Int)] w (Qt (.int .u64 ((if d = 0 then 0 else nv xs % d : Nat) : Int)) w) := by
  by_cases hd0 : d = 0
  · subst hd0
    go_enter Try.func46, Try.ntmps46
    go_wp2
    go_ret
    exact Qt.mk0 _ _
  · have hdb : ((d : Int) == 0) = false := by simpa using hd0
    rw [if_neg hd0]
    have hlen := Lib.hid h.len
    go_enter Try.func46, Try.ntmps46
    go_wp2
    go_loopw [5, 6] (fun r i wr => ∃ (k q R : Nat), k ≤ n ∧ i = .int .i64 ((k : Int) - 1) ∧ r = .int .u64 (R : Int) ∧ R < d ∧ wr = w.drewN q ∧ Hid (R = nv (xs.drop k) % d)) (fun _ i _ => (intOf i + 1).toNat)
    case atStart => exact ⟨n, 0, 0, Nat.le_refl _, rfl, rfl, by omega, rfl, Lib.hid (by rw [List.drop_of_length_le (by rw [hlen.out]; omega)]; exact (Nat.zero_mod _).symm)⟩
    case round =>
      obtain ⟨k, q, R, hk, rfl, rfl, hR, rfl, hv⟩ := hrel
      by_cases hk0 : k = 0
      · subst hk0
        go_wp2
        go_ret
        exact Qt.eqN (u64_eq (by rw [hv.out]; rfl))
      · obtain ⟨j, rfl⟩ : ∃ j, k = j + 1 := ⟨k - 1, by omega⟩
        obtain ⟨ad, x, rfl, hb, hxb, hx, hc⟩ := h.at_ (show j < n by omega)
        rw [W64_eq] at hxb
        rw [show (((j + 1 : Nat) : Int) - 1) = (j : Int) by omega]
        have HN := Lib.hid (mod_next xs hx d)
        have HI := Lib.hid (show ((R : Int) * 18446744073709551616 + x) % d = ((R * 18446744073709551616 + x) % d : Nat) by rw [Int.natCast_emod, Int.natCast_add, Int.natCast_mul]; rfl)
        have hlt := Nat.mod_lt (R * 18446744073709551616 + x) (show 0 < d by omega)
        clear hx
        go_wp2_with fail
        refine (divWord_any _ _ _ _ (by omega) (by omega) (by omega) (by omega) (by omega) (by omega)).mono ?_
        rw [HI.out]
        rintro e w' ⟨rfl, q2, rfl⟩
        go_wp2
        refine ⟨⟨j, _, (R * 18446744073709551616 + x) % d, by omega, rfl, by rw [← HI.out], hlt, rfl, Lib.hid ?_⟩, by simp [intOf]⟩
        rw [← HN.out, ← hv.out, W64_eq]

theorem Qt.mk2 (v : Value) (w : World) (a b : Nat) : Qt v w (.returned v) ((w.drewN a).drewN b) := ⟨rfl, a + b, World.drewN_drewN _ _ _⟩
/-- What Same answers: whether two naturals have the same words. -/
theorem same_any (A A' : Option Addr) (n n' c c' B : Nat) (xs ys : List Nat) (w : World) (h : NR w B A n c xs) (h' : NR w B A' n' c' ys) (hn : n ≤ 1000000) (hn' : n' ≤ 1000000) :
    Calls Try.prog 35 #[.slice A n c, .slice A' n' c'] w (Qt (.bool (decide (xs = ys))) w) := by
  have hl := h.len
  have hl' := h'.len
  by_cases hs : n = n'
  · subst hs
    have HL := Lib.hid hl
    have HL' := Lib.hid hl'
    clear hl hl'
    go_enter Try.func35, Try.ntmps35
    go_wp2
    go_loopw [13] (fun i wr => ∃ (k q : Nat), k ≤ n ∧ i = .int .i64 k ∧ wr = w.drewN q ∧ Hid (∀ j, j < k → xs[j]? = ys[j]?)) (fun i _ => n - (intOf i).toNat)
    case atStart => exact ⟨0, 0, by omega, rfl, rfl, Lib.hid fun j hj => absurd hj (by omega)⟩
    case round =>
      obtain ⟨k, q, hk, rfl, rfl, hup⟩ := hrel
      by_cases hlt : k < n
      · obtain ⟨ad, x, rfl, hb, hxb, hx, hc⟩ := h.at_ hlt
        obtain ⟨ad', y, rfl, hb', hyb, hy, hc'⟩ := h'.at_ hlt
        rw [W64_eq] at hxb hyb
        have HX := Lib.hid hx
        have HY := Lib.hid hy
        clear hx hy
        by_cases hxy : x = y
        · subst hxy
          go_wp2
          go_quiet (fail)
          go_wp2
          refine ⟨⟨k + 1, _, by omega, by go_num, rfl, Lib.hid fun j hj => ?_⟩, by simp [intOf]; omega⟩
          by_cases hjk : j = k
          · subst hjk; rw [HX.out, HY.out]
          · exact hup.out j (by omega)
        · have hne : ((x : Int) != y) = true := by simp; omega
          have HE := Lib.hid (show decide (xs = ys) = false by
            simp only [decide_eq_false_iff_not]
            intro e
            have a := HX.out
            rw [e, HY.out] at a
            exact hxy (Option.some.inj a).symm)
          go_wp2
          go_quiet (fail)
          go_wp2
          go_ret
          rw [HE.out]
          exact Qt.mk2 _ _ _ _
      · have HE := Lib.hid (show decide (xs = ys) = true by
          simp only [decide_eq_true_eq]
          apply List.ext_getElem?
          intro j
          by_cases hj : j < k
          · exact hup.out j hj
          · rw [List.getElem?_eq_none (by rw [HL.out]; omega), List.getElem?_eq_none (by rw [HL'.out]; omega)])
        go_wp2
        go_ret
        rw [HE.out]
        exact Qt.mkN _ _ _
  · have hne : ((n : Int) != n') = true := by simp; omega
    have HE := Lib.hid (show decide (xs = ys) = false by
      simp only [decide_eq_false_iff_not]
      intro e
      rw [e, hl'] at hl
      exact hs hl.symm)
    clear hl hl'
    go_enter Try.func35, Try.ntmps35
    go_wp2
    go_ret
    rw [HE.out]
    exact Qt.mk0 _ _
end Go.Proofs.Ytcfbemjnkiepdaa
