/-
  What the calls of package word, and of the reference of layer 1, answer, for every word: inverses, the greatest common divisor, centered and lifted numbers; and that the calls whose answers the document fixes answer so.
-/
import Derived.Test.YtpgcapobbmbchaaDoorWMore
import Derived.Test.YtpgcapobbmbchaaDoorWMath3
namespace Go.Proofs.YtpgcapobbmbchaaDoor
open Go.RowKit
set_option linter.unusedVariables false

set_option maxHeartbeats 1000000 in
theorem inv_any (a m : Nat) (w : World) (a1 : a < 18446744073709551616) (m1 : m < 18446744073709551616) :
    Calls Tryd.prog 107 #[.int .u64 (a : Int), .int .u64 (m : Int)] w (InvPost a m w) := by
  by_cases hm : m < 2
  · have hd : decide ((m : Int) < 2) = true := by simp; omega
    go_enter Tryd.func107, Tryd.ntmps107
    go_wp2
    go_ret2
    exact InvPost.small hm
  · have hm2 : 2 ≤ m := by omega
    have hd : decide ((m : Int) < 2) = false := by simp; omega
    have q := Nat.mod_lt a (show 0 < m by omega)
    have hst := Lib.hid (invInv_start a m hm2)
    clear hm
    go_enter Tryd.func107, Tryd.ntmps107
    go_wp2
    go_quiet (fail)
    go_wp2
    go_loopw [6, 7, 8, 9] (fun o n ot nt W => ∃ (O N c : Nat) (OT NT : Int), o = .int .u64 (O : Int) ∧ n = .int .u64 (N : Int) ∧ ot = .int .u64 OT ∧ nt = .int .u64 NT ∧ W = w.drewN c ∧ InvInv a m O N OT NT) (fun _ n _ _ _ => (intOf n).toNat)
    case atStart => exact ⟨m, a % m, _, 0, 1, rfl, by go_num, rfl, rfl, rfl, hst.out⟩
    case round =>
      obtain ⟨O, N, c, OT, NT, rfl, rfl, rfl, rfl, rfl, hinv⟩ := hrel
      obtain ⟨o1, n1, ot0, ot1, nt0, nt1⟩ := hinv.bounds m1
      by_cases hN : 0 < N
      · have hq := mulS_lt (a := (O : Int) / (N : Int)) (b := NT) (m := m) (by omega)
        have hs := subS_lt (a := OT) (b := mulS ((O : Int) / (N : Int)) NT m) (m := m) (by omega)
        have q2 := Nat.mod_lt O hN
        have q3 : 0 ≤ (O : Int) / (N : Int) ∧ (O : Int) / (N : Int) ≤ O := by
          rw [← Int.natCast_ediv]; exact ⟨Int.natCast_nonneg _, Int.ofNat_le.2 (Nat.div_le_self O N)⟩
        have HN := Lib.hid (hinv.next hN hm2)
        go_wp2
        go_quiet (fail)
        go_wp2_with fail
        refine (mul_any _ _ _ _ (by omega) (by omega) (by omega) (by omega) (by omega) (by omega)).mono ?_
        rintro e w' ⟨rfl, c1, rfl⟩
        go_wp2_with fail
        refine (sub_any _ _ _ _ (by omega) (by omega) (by omega) (by omega) (by omega) (by omega)).mono ?_
        rintro e w' ⟨rfl, c2, rfl⟩
        go_wp2
        exact ⟨⟨N, O % N, _, _, _, rfl, by go_num, rfl, rfl, rfl, HN.out⟩, by simp [intOf]; omega⟩
      · obtain ⟨y, n⟩ := hinv.done (w := w) (c := c) (by omega) hm2
        by_cases ho : (O : Int) = 1
        · have hob : ((O : Int) != 1) = false := by simpa using ho
          have HD := Lib.hid (y ho)
          clear y n ho
          go_wp2
          go_ret2
          exact HD.out
        · have hob : ((O : Int) != 1) = true := by simpa using ho
          have HD := Lib.hid (n ho)
          clear y n ho
          go_wp2
          go_ret2
          exact HD.out

theorem lift_any (v m : Int) (w : World) (v0 : -9223372036854775808 ≤ v) (v1 : v < 9223372036854775808) (m0 : 0 ≤ m) (m1 : m < 18446744073709551616) :
    Calls Tryd.prog 116 #[.int .i64 v, .int .u64 m] w (Qt (.int .u64 (lifS v m)) w) := by
  by_cases hv : 0 ≤ v
  · have H := Lib.hid (lif_add v m)
    go_enter Tryd.func116, Tryd.ntmps116
    go_wp2_with fail
    refine (add_any _ _ _ _ (by omega) (by omega) (by omega) (by omega) (by omega) (by omega)).mono ?_
    rintro e w' ⟨rfl, c1, rfl⟩
    go_wp2
    go_ret
    exact Qt.eqN (u64_eq H.out)
  · have H := Lib.hid (lif_sub v m)
    have e1 := Lib.hid (neg_word v (by omega) v0)
    have hv' : v < 0 := by omega
    clear hv
    go_enter Tryd.func116, Tryd.ntmps116
    go_wp2_with fail
    rw [e1.out]
    refine (sub_any _ _ _ _ (by omega) (by omega) (by omega) (by omega) (by omega) (by omega)).mono ?_
    rintro e w' ⟨rfl, c1, rfl⟩
    go_wp2
    go_ret
    exact Qt.eqN (u64_eq H.out)

theorem rlift_any (v m : Int) (w : World) (v0 : -9223372036854775808 ≤ v) (v1 : v < 9223372036854775808) (m0 : 0 ≤ m) (m1 : m < 18446744073709551616) :
    Calls Tryd.prog 82 #[.int .i64 v, .int .u64 m] w fun e w' => e = .returned (.int .u64 (lifS v m)) ∧ w = w' := by
  by_cases hm : m = 0
  · subst hm
    go_enter Tryd.func82, Tryd.ntmps82
    go_wp2
    go_ret
    exact ⟨rfl, rfl⟩
  · have hmb : (m == 0) = false := by simpa using hm
    have hm0 : 0 < m := by omega
    by_cases hv : 0 ≤ v
    · have H := Lib.hid (lifS_pos v m hm)
      clear hm
      go_enter Tryd.func82, Tryd.ntmps82
      go_wp2
      go_ret
      exact ⟨congrArg Ending.returned (u64_eq H.out.symm), rfl⟩
    · have H := Lib.hid (lif_sub v m)
      have hv' : v < 0 := by omega
      have e1 := Lib.hid (show -(v + 1) + 1 = -v by omega)
      clear hv hm
      go_enter Tryd.func82, Tryd.ntmps82
      go_wp2_with fail
      rw [e1.out]
      refine (rsub_any _ _ _ _ (by omega) (by omega) (by omega) (by omega) (by omega) (by omega)).mono ?_
      rintro e w' ⟨rfl, rfl⟩
      go_wp2
      go_ret
      exact ⟨congrArg Ending.returned (u64_eq H.out), rfl⟩

theorem inv37_any (w : World) : Calls Tryd.prog 107 #[.int .u64 3, .int .u64 7] w (Qt (.tuple #[.int .u64 5, .bool true]) w) :=
  (inv_any 3 7 w (by decide) (by decide)).mono fun e w' ⟨i, ok, n, h, he, hw⟩ => by
    obtain ⟨rfl, rfl⟩ := inv37 i ok h
    exact ⟨he, n, hw⟩
theorem mulfix_any (w : World) : Calls Tryd.prog 139 #[.int .u64 9223372036854775808, .int .u64 2, .int .u64 18446744073709551615] w (Qt (.int .u64 1) w) := by
  have h := mul_any 9223372036854775808 2 18446744073709551615 w (by omega) (by omega) (by omega) (by omega) (by omega) (by omega)
  rw [mulfix] at h
  exact h
theorem widefix_any (w : World) : Calls Tryd.prog 155 #[.int .u64 9223372036854775808, .int .u64 4] w fun e w' => e = .returned (.tuple #[.int .u64 2, .int .u64 0]) ∧ w = w' :=
  wide_any 9223372036854775808 4 w (by omega) (by omega) (by omega) (by omega)
end Go.Proofs.YtpgcapobbmbchaaDoor
