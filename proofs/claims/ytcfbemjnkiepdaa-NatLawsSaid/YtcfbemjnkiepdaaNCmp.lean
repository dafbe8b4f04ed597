/-
  What Cmp and Sub of package nat answer for all naturals.
-/
import Derived.Test.YtcfbemjnkiepdaaNMake
namespace Go.Proofs.Ytcfbemjnkiepdaa
open Go.RowKit
set_option linter.unusedVariables false

theorem same_quiet {P : Program} {f : FuncId} {args : Array Value} {w : World} {n : Nat} {v : Value} (h : Calls P f args (w.drewN n) fun e w' => e = .returned v ∧ w.drewN n = w') : Calls P f args (w.drewN n) fun e w'' => e = .returned v ∧ ∃ m, w'' = w.drewN m :=
  h.mono fun _ _ ⟨he, hm⟩ => ⟨he, n, hm.symm⟩
theorem same_quiet2 {P : Program} {f : FuncId} {args : Array Value} {w : World} {a n : Nat} {v : Value} (h : Calls P f args (w.drewN (a + n)) fun e w' => e = .returned v ∧ w.drewN (a + n) = w') : Calls P f args (w.drewN (a + n)) fun e w'' => e = .returned v ∧ ∃ m, w'' = w.drewN (a + m) :=
  h.mono fun _ _ ⟨he, hm⟩ => ⟨he, n, hm.symm⟩

theorem Qt.eqN3 {v u : Value} {w : World} {a b c : Nat} (h : u = v) : Qt v w (.returned u) (((w.drewN a).drewN b).drewN c) := by rw [h]; exact ⟨rfl, a + (b + c), by rw [World.drewN_drewN, World.drewN_drewN]⟩
set_option maxHeartbeats 1000000 in
theorem cmp_any (A A' : Option Addr) (n n' c c' B : Nat) (xs ys : List Nat) (w : World) (h : NR w B A n c xs) (h' : NR w B A' n' c' ys) (hn : n ≤ 1000000) (hn' : n' ≤ 1000000) :
    Calls Try.prog 38 #[.slice A n c, .slice A' n' c'] w (Qt (.int .i64 (cmpS (nv xs) (nv ys))) w) := by
  go_enter Try.func38, Try.ntmps38
  go_wp2_with fail
  refine (trimmed_any _ _ _ _ xs _ h (by omega)).mono ?_
  rintro e w' ⟨m, hm, rfl, rfl, hr⟩
  go_wp2_with fail
  refine (trimmed_any _ _ _ _ ys _ h' (by omega)).mono ?_
  rintro e w' ⟨m', hm', rfl, rfl, hr'⟩
  have hl := hr.len
  have hl' := hr'.len
  by_cases hs : m = m'
  · subst hs
    have HL := Lib.hid hl
    have HL' := Lib.hid hl'
    clear hl hl'
    go_wp2
    go_loopw [5] (fun i wr => ∃ k q : Nat, k ≤ m ∧ i = .int .i64 ((k : Int) - 1) ∧ wr = w.drewN q ∧ Hid (∀ i, k ≤ i → (nw (nv xs))[i]? = (nw (nv ys))[i]?)) (fun i _ => (intOf i + 1).toNat)
    case atStart => exact ⟨m, 0, Nat.le_refl _, rfl, rfl, Lib.hid fun i hi => by rw [List.getElem?_eq_none (by rw [HL.out]; exact hi), List.getElem?_eq_none (by rw [HL'.out]; exact hi)]⟩
    case round =>
      obtain ⟨k, q, hk, rfl, rfl, hup⟩ := hrel
      by_cases hk0 : k = 0
      · subst hk0
        have HE := Lib.hid (cmpS_eq (m := nv xs) (n := nv ys) (by rw [← nv_nw (nv xs), ← nv_nw (nv ys), eq_of_up hup.out]))
        go_wp2
        go_ret
        exact Qt.eqN (i64_eq HE.out.symm)
      · obtain ⟨j, rfl⟩ : ∃ j, k = j + 1 := ⟨k - 1, by omega⟩
        obtain ⟨ad, x, rfl, hb, hxb, hx, hc⟩ := hr.at_ (show j < m by omega)
        obtain ⟨ad', y, rfl, hb', hyb, hy, hc'⟩ := hr'.at_ (show j < m by omega)
        rw [W64_eq] at hxb hyb
        rw [show (((j + 1 : Nat) : Int) - 1) = (j : Int) by omega]
        have HX := Lib.hid hx
        have HY := Lib.hid hy
        have lt1 := Lib.hid hr.lt
        have lt2 := Lib.hid hr'.lt
        clear hx hy
        have e1 : (0 : Int) ≤ j := by omega
        have e2 : (j : Int) < m := by omega
        by_cases hxy : x = y
        · subst hxy
          go_wp2
          go_quiet (fail)
          go_wp2
          refine ⟨⟨j, _, by omega, rfl, rfl, Lib.hid fun i hi => ?_⟩, by simp [intOf]⟩
          by_cases hij : i = j
          · subst hij; rw [HX.out, HY.out]
          · exact hup.out i (by omega)
        · have hne : ((x : Int) != y) = true := by simp; omega
          by_cases hlt : x < y
          · have hd : decide ((x : Int) < y) = true := by simp; omega
            have HE := Lib.hid (cmpS_lt (m := nv xs) (n := nv ys) (by rw [← nv_nw (nv xs), ← nv_nw (nv ys)]; exact cmp_at HX.out HY.out lt1.out (fun i hi => hup.out i hi) hlt))
            go_wp2
            go_quiet (fail)
            go_wp2
            go_quiet ((go_at_call 69; exact same_quiet2 (sign_any _ _)))
            go_wp2
            go_ret
            first | exact Qt.eqN (i64_eq HE.out.symm) | exact Qt.eqN3 (i64_eq HE.out.symm)
          · have hd : decide ((x : Int) < y) = false := by simp; omega
            have HE := Lib.hid (cmpS_gt (m := nv xs) (n := nv ys) (by rw [← nv_nw (nv xs), ← nv_nw (nv ys)]; exact cmp_at HY.out HX.out lt2.out (fun i hi => (hup.out i hi).symm) (by omega)))
            go_wp2
            go_quiet (fail)
            go_wp2
            go_quiet ((go_at_call 69; exact same_quiet2 (sign_any _ _)))
            go_wp2
            go_ret
            first | exact Qt.eqN (i64_eq HE.out.symm) | exact Qt.eqN3 (i64_eq HE.out.symm)
  · have hne : ((m : Int) != m') = true := by simp; omega
    by_cases hlt : m < m'
    · have hd : decide ((m : Int) < m') = true := by simp; omega
      have HE := Lib.hid (cmpS_lt (m := nv xs) (n := nv ys) (dg_len_lt W64_two (by rw [hl, hl']; exact hlt)))
      clear hl hl'
      go_wp2_with fail
      refine (sign_any _ _).mono ?_
      rintro e w' ⟨rfl, rfl⟩
      go_wp2
      go_ret
      exact Qt.eq0 (i64_eq HE.out.symm)
    · have hd : decide ((m : Int) < m') = false := by simp; omega
      have HE := Lib.hid (cmpS_gt (m := nv xs) (n := nv ys) (dg_len_lt W64_two (by rw [hl, hl']; omega)))
      clear hl hl'
      go_wp2_with fail
      refine (sign_any _ _).mono ?_
      rintro e w' ⟨rfl, rfl⟩
      go_wp2
      go_ret
      exact Qt.eq0 (i64_eq HE.out.symm)

/-- What Sub answers: the difference, or nothing and that it is below 0. -/
def SubPost (w : World) (N X Y : Nat) (e : Ending) (w' : World) : Prop :=
  (X < Y ∧ e = .returned (.tuple #[.slice none 0 0, .int .i64 5]) ∧ Below w.heap.size w w') ∨
  (Y ≤ X ∧ ∃ A n c, e = .returned (.tuple #[.slice A n c, .int .i64 0]) ∧ n ≤ N ∧ NR w' w'.heap.size A n c (nw (X - Y)) ∧ Below w.heap.size w w')
theorem below_drewN {B : Nat} {a w : World} (h : Below B a w) (n : Nat) : Below B a (w.drewN n) := ⟨h.os, h.tape, h.output, h.size, h.block⟩

theorem sub_nat_any (A A' : Option Addr) (n n' c c' : Nat) (xs ys : List Nat) (w : World) (h : NR w w.heap.size A n c xs) (h' : NR w w.heap.size A' n' c' ys) (hn : n ≤ 1000000) (hn' : n' ≤ 1000000) :
    Calls Try.prog 33 #[.slice A n c, .slice A' n' c'] w (SubPost w n (nv xs) (nv ys)) := by
  go_enter Try.func33, Try.ntmps33
  go_wp2_with fail
  refine (cmp_any A A' n n' c c' _ xs ys w h h' hn hn').mono ?_
  rintro e w' ⟨rfl, q, rfl⟩
  by_cases hlt : nv xs < nv ys
  · have HE := Lib.hid (cmpS_lt hlt)
    rw [HE.out]
    go_wp2
    go_ret2
    exact .inl ⟨hlt, rfl, below_drewN (Below.refl _ _) _⟩
  · have hd : decide (cmpS (nv xs) (nv ys) < 0) = false := by
      unfold cmpS; rw [if_neg hlt]; split <;> decide
    have HV := Lib.hid (show nv ys ≤ nv xs by omega)
    have E1 := Lib.hid (nv_nw (nv xs))
    have E2 := Lib.hid (nv_nw (nv ys))
    clear hlt
    go_wp2_with fail
    refine (trimmed_any _ _ _ _ xs _ (h.drewN q) (by omega)).mono ?_
    rintro e w' ⟨m, hm, rfl, rfl, hr⟩
    go_wp2_with fail
    refine (trimmed_any _ _ _ _ ys _ (h'.drewN q) (by omega)).mono ?_
    rintro e w' ⟨m', hm', rfl, rfl, hr'⟩
    have hle : m' ≤ m := by
      rw [← hr.len, ← hr'.len]
      rcases Nat.lt_or_ge (nw (nv xs)).length (nw (nv ys)).length with h0 | h0
      · have := dg_len_lt W64_two h0
        have := HV.out
        omega
      · exact h0
    go_wp2_with fail
    refine (less_any _ _ _ _ _ _ (nw (nv xs)) (nw (nv ys)) (w.drewN q) hr hr' (by omega) hle (by rw [E1.out, E2.out]; exact HV.out)).mono ?_
    rw [E1.out, E2.out]
    rintro e w' ⟨A2, n2, c2, rfl, hn2, hr2, hb2⟩
    go_wp2
    go_ret2
    exact .inr ⟨HV.out, A2, n2, c2, rfl, by omega, hr2, (below_drewN (Below.refl _ _) q).trans hb2⟩
end Go.Proofs.Ytcfbemjnkiepdaa
