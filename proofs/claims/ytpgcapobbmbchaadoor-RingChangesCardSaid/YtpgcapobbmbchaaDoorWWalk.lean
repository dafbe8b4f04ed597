/-
  What the calls of package word, and of the reference of layer 1, answer, for every word: halves, joined, the number of bits, the whole product, sum and difference.
-/
import Derived.Test.YtpgcapobbmbchaaDoorRows
import Derived.Test.YtpgcapobbmbchaaDoorWMath
import Derived.Test.YtpgcapobbmbchaaDoorWLen
import Derived.Deep.QuietTactic
import Derived.BigQuiet
import Derived.LoopTactic
import Derived.ProofKit
import Derived.Lib.Hide
namespace Go.Proofs.YtpgcapobbmbchaaDoor
open Go.RowKit
set_option linter.unusedVariables false

theorem halves_any (a : Int) (w : World) (h0 : 0 ≤ a) (h1 : a < 18446744073709551616) :
    Calls Tryd.prog 172 #[.int .u64 a] w fun e w' => e = .returned (.tuple #[.int .u64 (a / 4294967296), .int .u64 (a % 4294967296)]) ∧ w = w' := by
  go_enter Tryd.func172, Tryd.ntmps172
  go_wp2
  go_ret2
  exact ⟨rfl, rfl⟩

theorem joined_any (a b : Int) (w : World) (h0 : 0 ≤ a) (h1 : a < 18446744073709551616) (g0 : 0 ≤ b) (g1 : b < 18446744073709551616) :
    Calls Tryd.prog 173 #[.int .u64 a, .int .u64 b] w fun e w' => e = .returned (.int .u64 (a % 4294967296 * 4294967296 + b % 4294967296)) ∧ w = w' := by
  go_enter Tryd.func173, Tryd.ntmps173
  go_wp2
  go_ret
  exact ⟨congrArg Ending.returned (u64_eq (joined_arith a b)), rfl⟩

theorem zeros_any (x : Int) (w : World) (h0 : 0 ≤ x) (h1 : x < 18446744073709551616) :
    Calls Tryd.prog 163 #[.int .u64 x] w fun e w' => e = .returned (.int .i64 (64 - Lib.bitLen x.toNat)) ∧ w = w' := by
  have hb := bitLen64 x h0 h1
  go_enter Tryd.func163, Tryd.ntmps163
  go_wp2_with (go_at_call 178; refine (len64_any _ _ h0 h1).mono ?_; rintro e w' ⟨rfl, rfl⟩)
  go_ret
  exact ⟨rfl, rfl⟩

theorem wide_any (x y : Int) (w : World) (hx0 : 0 ≤ x) (hx : x < 18446744073709551616) (hy0 : 0 ≤ y) (hy : y < 18446744073709551616) :
    Calls Tryd.prog 155 #[.int .u64 x, .int .u64 y] w fun e w' => e = .returned (.tuple #[.int .u64 (x * y / 18446744073709551616), .int .u64 (x * y % 18446744073709551616)]) ∧ w = w' := by
  obtain ⟨A, B, C, D, rfl, rfl, rfl, rfl, a0, a1, b0, b1, c0, c1, d0, d1, hxy⟩ := wide_arith x y hx0 hx hy0 hy
  have H := Lib.hid hxy
  clear hxy
  go_enter Tryd.func155, Tryd.ntmps155
  go_wp2_with (first
    | (go_at_call 172; refine (halves_any _ _ (by omega) (by omega)).mono ?_; rintro e w' ⟨rfl, rfl⟩)
    | (go_at_call 173; refine (joined_any _ _ _ (by omega) (by omega) (by omega) (by omega)).mono ?_; rintro e w' ⟨rfl, rfl⟩))
  go_ret2
  refine ⟨congrArg Ending.returned (tup2 ?_ ?_), rfl⟩
  all_goals (rw [H.out]; omega)

theorem add_any (a b m : Int) (w : World) (a0 : 0 ≤ a) (a1 : a < 18446744073709551616) (b0 : 0 ≤ b) (b1 : b < 18446744073709551616) (m0 : 0 ≤ m) (m1 : m < 18446744073709551616) :
    Calls Tryd.prog 112 #[.int .u64 a, .int .u64 b, .int .u64 m] w (Qt (.int .u64 (addS a b m)) w) := by
  by_cases hm : m = 0
  · subst hm
    go_enter Tryd.func112, Tryd.ntmps112
    go_wp2
    go_ret
    exact Qt.mk0 _ _
  · have hm0 : 0 < m := by omega
    have hmb : (m == 0) = false := by simpa using hm
    have r0 := Int.emod_nonneg a hm
    have r1 := Int.emod_lt_of_pos a hm0
    have s0 := Int.emod_nonneg b hm
    have s1 := Int.emod_lt_of_pos b hm0
    have H := Lib.hid (addS_pos (a := a) (b := b) hm)
    clear hm
    go_enter Tryd.func112, Tryd.ntmps112
    go_wp2
    go_quiet (fail)
    go_wp2
    all_goals
      go_ret
      refine Qt.eqN (u64_eq ?_)
      rw [H.out]
      first | exact add_hi hm0 (by assumption) | exact add_lo hm0 (by assumption)

theorem sub_any (a b m : Int) (w : World) (a0 : 0 ≤ a) (a1 : a < 18446744073709551616) (b0 : 0 ≤ b) (b1 : b < 18446744073709551616) (m0 : 0 ≤ m) (m1 : m < 18446744073709551616) :
    Calls Tryd.prog 113 #[.int .u64 a, .int .u64 b, .int .u64 m] w (Qt (.int .u64 (subS a b m)) w) := by
  by_cases hm : m = 0
  · subst hm
    go_enter Tryd.func113, Tryd.ntmps113
    go_wp2
    go_ret
    exact Qt.mk0 _ _
  · have hm0 : 0 < m := by omega
    have hmb : (m == 0) = false := by simpa using hm
    have r0 := Int.emod_nonneg a hm
    have r1 := Int.emod_lt_of_pos a hm0
    have s0 := Int.emod_nonneg b hm
    have s1 := Int.emod_lt_of_pos b hm0
    have H := Lib.hid (subS_pos (a := a) (b := b) hm)
    clear hm
    go_enter Tryd.func113, Tryd.ntmps113
    go_wp2
    go_quiet (fail)
    go_wp2
    all_goals
      go_ret
      refine Qt.eqN (u64_eq ?_)
      rw [H.out]
      first | exact sub_hi hm0 (by assumption) | exact sub_lo hm0 (by assumption)

theorem radd_any (a b m : Int) (w : World) (a0 : 0 ≤ a) (a1 : a < 18446744073709551616) (b0 : 0 ≤ b) (b1 : b < 18446744073709551616) (m0 : 0 ≤ m) (m1 : m < 18446744073709551616) :
    Calls Tryd.prog 59 #[.int .u64 a, .int .u64 b, .int .u64 m] w fun e w' => e = .returned (.int .u64 (addS a b m)) ∧ w = w' := by
  by_cases hm : m = 0
  · subst hm
    go_enter Tryd.func59, Tryd.ntmps59
    go_wp2
    go_ret
    exact ⟨rfl, rfl⟩
  · have hm0 : 0 < m := by omega
    have hmb : (m == 0) = false := by simpa using hm
    have r0 := Int.emod_nonneg a hm
    have r1 := Int.emod_lt_of_pos a hm0
    have s0 := Int.emod_nonneg b hm
    have s1 := Int.emod_lt_of_pos b hm0
    have H := Lib.hid (addS_pos (a := a) (b := b) hm)
    clear hm
    go_enter Tryd.func59, Tryd.ntmps59
    go_wp2
    all_goals
      go_ret
      refine ⟨congrArg Ending.returned (u64_eq ?_), rfl⟩
      rw [H.out, Int.add_comm a b]
      first | exact add_hi hm0 (by assumption) | (rw [Int.add_comm (a % m)]; exact add_lo hm0 (by omega))

theorem rsub_any (a b m : Int) (w : World) (a0 : 0 ≤ a) (a1 : a < 18446744073709551616) (b0 : 0 ≤ b) (b1 : b < 18446744073709551616) (m0 : 0 ≤ m) (m1 : m < 18446744073709551616) :
    Calls Tryd.prog 79 #[.int .u64 a, .int .u64 b, .int .u64 m] w fun e w' => e = .returned (.int .u64 (subS a b m)) ∧ w = w' := by
  by_cases hm : m = 0
  · subst hm
    go_enter Tryd.func79, Tryd.ntmps79
    go_wp2
    go_ret
    exact ⟨rfl, rfl⟩
  · have hm0 : 0 < m := by omega
    have hmb : (m == 0) = false := by simpa using hm
    have s0 := Int.emod_nonneg b hm
    have s1 := Int.emod_lt_of_pos b hm0
    have H := Lib.hid (subS_pos (a := a) (b := b) hm)
    have G := Lib.hid (addS_pos (a := a) (b := m - b % m) hm)
    clear hm
    go_enter Tryd.func79, Tryd.ntmps79
    go_wp2_with (go_at_call 59; refine (radd_any _ _ _ _ (by omega) (by omega) (by omega) (by omega) (by omega) (by omega)).mono ?_; rintro e w' ⟨rfl, rfl⟩)
    go_ret
    refine ⟨congrArg Ending.returned (u64_eq ?_), rfl⟩
    rw [H.out, G.out, show a + (m - b % m) = (a - b % m) + m by omega, Int.add_emod_right, Int.sub_emod, Int.emod_emod, ← Int.sub_emod]

set_option maxHeartbeats 1000000 in
theorem restHalf_any (r n m : Int) (w : World) (r0 : 0 ≤ r) (r1 : r < m) (n0 : 0 ≤ n) (n1 : n < 4294967296) (m0 : 9223372036854775808 ≤ m) (m1 : m < 18446744073709551616) :
    Calls Tryd.prog 174 #[.int .u64 r, .int .u64 n, .int .u64 m] w (Qt (.int .u64 ((r * 4294967296 + n) % m)) w) := by
  have hs := Lib.hid (half_start r n m r0 r1 n0 n1 m0 m1)
  have ht := half_guess r m r0 r1 m0 m1
  go_enter Tryd.func174, Tryd.ntmps174
  go_wp2_with (go_at_call 172; refine (halves_any _ _ (by omega) (by omega)).mono ?_; rintro e w' ⟨rfl, rfl⟩)
  go_quiet (fail)
  go_wp2
  go_loop [9, 10] (fun g l => ∃ G L : Int, g = .int .u64 G ∧ l = .int .u64 L ∧ HalfInv r n m G L) (fun g _ => (intOf g).toNat)
  case atStart => exact ⟨_, _, rfl, rfl, hs.out⟩
  case round =>
    obtain ⟨G, L, rfl, rfl, hinv⟩ := hrel
    obtain ⟨g0, g1, l0, l1, p0, p1⟩ := hinv.bounds m0 m1
    go_wp2_with (go_at_call 173; refine (joined_any _ _ _ (by omega) (by omega) (by omega) (by omega)).mono ?_; rintro e w' ⟨rfl, rfl⟩)
    · rename_i hc hl
      have hg := hinv.pos (by omega)
      have hf := hinv.far m0 m1 (by omega) (by omega)
      go_ret
      refine Qt.eqN (u64_eq ?_)
      simp only [wrap64u]
      rw [show (G - 1) % 18446744073709551616 = G - 1 by omega]
      exact half_end (by omega) m1 hf _ _ (by omega) (Int.emod_emod _ _)
    · rename_i hc hl
      have hg := hinv.pos (by omega)
      simp only [wrap64u]
      rw [show (G - 1) % 18446744073709551616 = G - 1 by omega]
      exact ⟨⟨_, _, rfl, rfl, hinv.next m0 m1 (by omega) (by omega)⟩, by simp [intOf]; omega⟩
    · rename_i hc
      have hf := hinv.fits m0 (by omega)
      go_ret
      refine Qt.eqN (u64_eq ?_)
      simp only [wrap64u]
      exact half_end (by omega) m1 hf _ _ (by omega) (Int.emod_emod _ _)

set_option maxHeartbeats 1000000 in
theorem rest_any (h l m : Int) (w : World) (h0 : 0 ≤ h) (h1 : h < 18446744073709551616) (l0 : 0 ≤ l) (l1 : l < 18446744073709551616) (m0 : 0 < m) (m1 : m < 18446744073709551616) :
    Calls Tryd.prog 156 #[.int .u64 h, .int .u64 l, .int .u64 m] w (Qt (.int .u64 ((h * 18446744073709551616 + l) % m)) w) := by
  obtain ⟨s, hs, s63, t0, t1⟩ := shift_of m m0 m1
  have HS := Lib.hid hs
  clear hs
  have P0 := two_pow_pos s
  have P1 := two_pow_le63 (show s < 64 by omega)
  have k0 := Int.emod_nonneg h (show m ≠ 0 by omega)
  have k1 := Int.emod_lt_of_pos h m0
  by_cases hlt : m ≤ h
  · by_cases hz : h % m = 0
    · have HZ := Lib.hid hz
      have hzb : (h % m == 0) = true := by simpa using hz
      clear hz
      go_enter Tryd.func156, Tryd.ntmps156
      go_wp2
      go_ret
      exact Qt.eq0 (u64_eq (by rw [Int.add_emod, Int.mul_emod, HZ.out]; simp))
    · have hzb : (h % m == 0) = false := by simpa using hz
      clear hz
      obtain ⟨hi, lo, e1, e2, i0, i1, j0, j1, q0, q1, e3⟩ := rest_arith (h % m) l m s k0 k1 l0 l1 m0 s63 t1
      have E1 := Lib.hid e1
      have E2 := Lib.hid e2
      have E3 := Lib.hid e3
      clear e1 e2 e3
      go_enter Tryd.func156, Tryd.ntmps156
      go_wp2_with fail
      refine (zeros_any _ _ (by omega) (by omega)).mono ?_
      rintro e w' ⟨rfl, rfl⟩
      rw [HS.out]
      go_wp2_with fail
      rw [E1.out, E2.out]
      refine (halves_any _ _ (by omega) (by omega)).mono ?_
      rintro e w' ⟨rfl, rfl⟩
      go_wp2_with fail
      refine (restHalf_any _ _ _ _ (by omega) (by omega) (by omega) (by omega) (by omega) (by omega)).mono ?_
      rintro e w' ⟨rfl, n1, rfl⟩
      go_wp2_with fail
      refine (restHalf_any _ _ _ _ (by omega) (by omega) (by omega) (by omega) (by omega) (by omega)).mono ?_
      rintro e w' ⟨rfl, n2, rfl⟩
      go_wp2
      go_ret
      exact Qt.eqN (u64_eq (E3.out.trans (by rw [Int.add_emod, Int.mul_emod, Int.emod_emod, ← Int.mul_emod, ← Int.add_emod])))
  · by_cases hz : h = 0
    · subst hz
      go_enter Tryd.func156, Tryd.ntmps156
      go_wp2
      go_ret
      exact Qt.eq0 (u64_eq (by simp))
    · have hzb : (h == 0) = false := by simpa using hz
      clear hz
      obtain ⟨hi, lo, e1, e2, i0, i1, j0, j1, q0, q1, e3⟩ := rest_arith h l m s h0 (by omega) l0 l1 m0 s63 t1
      have E1 := Lib.hid e1
      have E2 := Lib.hid e2
      have E3 := Lib.hid e3
      clear e1 e2 e3
      go_enter Tryd.func156, Tryd.ntmps156
      go_wp2_with fail
      refine (zeros_any _ _ (by omega) (by omega)).mono ?_
      rintro e w' ⟨rfl, rfl⟩
      rw [HS.out]
      go_wp2_with fail
      rw [E1.out, E2.out]
      refine (halves_any _ _ (by omega) (by omega)).mono ?_
      rintro e w' ⟨rfl, rfl⟩
      go_wp2_with fail
      refine (restHalf_any _ _ _ _ (by omega) (by omega) (by omega) (by omega) (by omega) (by omega)).mono ?_
      rintro e w' ⟨rfl, n1, rfl⟩
      go_wp2_with fail
      refine (restHalf_any _ _ _ _ (by omega) (by omega) (by omega) (by omega) (by omega) (by omega)).mono ?_
      rintro e w' ⟨rfl, n2, rfl⟩
      go_wp2
      go_ret
      exact Qt.eqN (u64_eq E3.out)

theorem mul_any (a b m : Int) (w : World) (a0 : 0 ≤ a) (a1 : a < 18446744073709551616) (b0 : 0 ≤ b) (b1 : b < 18446744073709551616) (m0 : 0 ≤ m) (m1 : m < 18446744073709551616) :
    Calls Tryd.prog 139 #[.int .u64 a, .int .u64 b, .int .u64 m] w (Qt (.int .u64 (mulS a b m)) w) := by
  by_cases hm : m = 0
  · subst hm
    go_enter Tryd.func139, Tryd.ntmps139
    go_wp2
    go_ret
    exact Qt.mk0 _ _
  · have hm0 : 0 < m := by omega
    have hmb : (m == 0) = false := by simpa using hm
    have H := Lib.hid (mulS_pos (a := a) (b := b) hm)
    have p := wide_bounds a b a0 a1 b0 b1
    clear hm
    go_enter Tryd.func139, Tryd.ntmps139
    go_wp2_with fail
    refine (wide_any _ _ _ a0 a1 b0 b1).mono ?_
    rintro e w' ⟨rfl, rfl⟩
    go_wp2_with fail
    refine (rest_any _ _ _ _ (by omega) (by omega) (by omega) (by omega) hm0 m1).mono ?_
    rintro e w' ⟨rfl, n1, rfl⟩
    go_wp2
    go_ret
    exact Qt.eqN (u64_eq (by rw [H.out]; exact congrArg (· % m) (by omega)))
end Go.Proofs.YtpgcapobbmbchaaDoor
