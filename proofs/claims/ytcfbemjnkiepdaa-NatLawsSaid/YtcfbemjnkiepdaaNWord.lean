/-
  What the calls of package nat on single words answer, for every word: halves, joined, sums, differences and products with a carry, and quotients of two words by one.
-/
import Derived.Test.YtcfbemjnkiepdaaWWalk
namespace Go.Proofs.Ytcfbemjnkiepdaa
open Go.RowKit
set_option linter.unusedVariables false

theorem nhalves_any (a : Int) (w : World) (h0 : 0 ≤ a) (h1 : a < 18446744073709551616) :
    Calls Try.prog 86 #[.int .u64 a] w fun e w' => e = .returned (.tuple #[.int .u64 (a / 4294967296), .int .u64 (a % 4294967296)]) ∧ w = w' := by
  go_enter Try.func86, Try.ntmps86
  go_wp2
  go_ret2
  exact ⟨rfl, rfl⟩
theorem njoined_any (a b : Int) (w : World) (h0 : 0 ≤ a) (h1 : a < 18446744073709551616) (g0 : 0 ≤ b) (g1 : b < 18446744073709551616) :
    Calls Try.prog 87 #[.int .u64 a, .int .u64 b] w fun e w' => e = .returned (.int .u64 (a % 4294967296 * 4294967296 + b % 4294967296)) ∧ w = w' := by
  go_enter Try.func87, Try.ntmps87
  go_wp2
  go_ret
  exact ⟨congrArg Ending.returned (u64_eq (joined_arith a b)), rfl⟩

theorem addWord_any (a b c : Int) (w : World) (a0 : 0 ≤ a) (a1 : a < 18446744073709551616) (b0 : 0 ≤ b) (b1 : b < 18446744073709551616) (c0 : 0 ≤ c) (c1 : c ≤ 1) :
    Calls Try.prog 65 #[.int .u64 a, .int .u64 b, .int .u64 c] w fun e w' => e = .returned (.tuple #[.int .u64 ((a + b + c) % 18446744073709551616), .int .u64 ((a + b + c) / 18446744073709551616)]) ∧ w = w' := by
  go_enter Try.func65, Try.ntmps65
  go_wp2_with (first
    | (go_at_call 86; refine (nhalves_any _ _ (by omega) (by omega)).mono ?_; rintro e w' ⟨rfl, rfl⟩)
    | (go_at_call 87; refine (njoined_any _ _ _ (by omega) (by omega) (by omega) (by omega)).mono ?_; rintro e w' ⟨rfl, rfl⟩))
  go_ret2
  exact ⟨congrArg Ending.returned (tup2 (by omega) (by omega)), rfl⟩

theorem subWord_any (a b c : Int) (w : World) (a0 : 0 ≤ a) (a1 : a < 18446744073709551616) (b0 : 0 ≤ b) (b1 : b < 18446744073709551616) (c0 : 0 ≤ c) (c1 : c ≤ 1) :
    Calls Try.prog 83 #[.int .u64 a, .int .u64 b, .int .u64 c] w fun e w' => e = .returned (.tuple #[.int .u64 ((a - b - c) % 18446744073709551616), .int .u64 (-((a - b - c) / 18446744073709551616))]) ∧ w = w' := by
  have H := Lib.hid (sub_arith a b c a0 a1 b0 b1 c0 c1)
  have s0 := wrap_word (a % 4294967296 - b % 4294967296)
  have s1 := wrap_word (IntKind.u64.wrap (a % 4294967296 - b % 4294967296) - c)
  have s2 := wrap_word (a / 4294967296 - b / 4294967296)
  have s3 := wrap_word (IntKind.u64.wrap (a / 4294967296 - b / 4294967296) - IntKind.u64.wrap (IntKind.u64.wrap (a % 4294967296 - b % 4294967296) - c) / 9223372036854775808)
  go_enter Try.func83, Try.ntmps83
  go_wp2_with (first
    | (go_at_call 86; refine (nhalves_any _ _ (by omega) (by omega)).mono ?_; rintro e w' ⟨rfl, rfl⟩)
    | (go_at_call 87; refine (njoined_any _ _ _ (by omega) (by omega) (by omega) (by omega)).mono ?_; rintro e w' ⟨rfl, rfl⟩))
  go_ret2
  exact ⟨congrArg Ending.returned (tup2 H.out.1 H.out.2), rfl⟩

theorem mulWord_any (x y m c : Int) (w : World) (hx0 : 0 ≤ x) (hx : x < 18446744073709551616) (hy0 : 0 ≤ y) (hy : y < 18446744073709551616) (m0 : 0 ≤ m) (m1 : m < 18446744073709551616) (c0 : 0 ≤ c) (c1 : c < 18446744073709551616) :
    Calls Try.prog 91 #[.int .u64 x, .int .u64 y, .int .u64 m, .int .u64 c] w fun e w' => e = .returned (.tuple #[.int .u64 ((x * y + m + c) % 18446744073709551616), .int .u64 ((x * y + m + c) / 18446744073709551616)]) ∧ w = w' := by
  obtain ⟨A, B, C, D, rfl, rfl, rfl, rfl, a0, a1, b0, b1, d0, d1, e0, e1, hxy⟩ := wide_arith x y hx0 hx hy0 hy
  have H := Lib.hid hxy
  clear hxy
  go_enter Try.func91, Try.ntmps91
  go_wp2_with (first
    | (go_at_call 86; refine (nhalves_any _ _ (by omega) (by omega)).mono ?_; rintro e w' ⟨rfl, rfl⟩)
    | (go_at_call 87; refine (njoined_any _ _ _ (by omega) (by omega) (by omega) (by omega)).mono ?_; rintro e w' ⟨rfl, rfl⟩))
  go_ret2
  refine ⟨congrArg Ending.returned (tup2 ?_ ?_), rfl⟩
  all_goals (rw [H.out]; omega)

set_option maxHeartbeats 1000000 in
theorem divHalf_any (r n m : Int) (w : World) (r0 : 0 ≤ r) (r1 : r < m) (n0 : 0 ≤ n) (n1 : n < 4294967296) (m0 : 9223372036854775808 ≤ m) (m1 : m < 18446744073709551616) :
    Calls Try.prog 92 #[.int .u64 r, .int .u64 n, .int .u64 m] w (Qt (.tuple #[.int .u64 ((r * 4294967296 + n) / m), .int .u64 ((r * 4294967296 + n) % m)]) w) := by
  have hs := Lib.hid (half_start r n m r0 r1 n0 n1 m0 m1)
  have ht := half_guess r m r0 r1 m0 m1
  go_enter Try.func92, Try.ntmps92
  go_wp2_with (go_at_call 86; refine (nhalves_any _ _ (by omega) (by omega)).mono ?_; rintro e w' ⟨rfl, rfl⟩)
  go_quiet (fail)
  go_wp2
  go_loop [10, 11] (fun g l => ∃ G L : Int, g = .int .u64 G ∧ l = .int .u64 L ∧ HalfInv r n m G L) (fun g _ => (intOf g).toNat)
  case atStart => exact ⟨_, _, rfl, rfl, hs.out⟩
  case round =>
    obtain ⟨G, L, rfl, rfl, hinv⟩ := hrel
    obtain ⟨g0, g1, l0, l1, p0, p1⟩ := hinv.bounds m0 m1
    go_wp2_with (go_at_call 87; refine (njoined_any _ _ _ (by omega) (by omega) (by omega) (by omega)).mono ?_; rintro e w' ⟨rfl, rfl⟩)
    · rename_i hc hl
      have hg := hinv.pos (by omega)
      have hf := hinv.far m0 m1 (by omega) (by omega)
      go_ret2
      refine Qt.eqN (tup2 ?_ ?_)
      · rw [wrap64u, ← hf]; omega
      · simp only [wrap64u]
        rw [show (G - 1) % 18446744073709551616 = G - 1 by omega]
        exact half_end (by omega) m1 hf _ _ (by omega) (Int.emod_emod _ _)
    · rename_i hc hl
      have hg := hinv.pos (by omega)
      simp only [wrap64u]
      rw [show (G - 1) % 18446744073709551616 = G - 1 by omega]
      exact ⟨⟨_, _, rfl, rfl, hinv.next m0 m1 (by omega) (by omega)⟩, by simp [intOf]; omega⟩
    · rename_i hc
      have hf := hinv.fits m0 (by omega)
      go_ret2
      refine Qt.eqN (tup2 hf ?_)
      simp only [wrap64u]
      exact half_end (by omega) m1 hf _ _ (by omega) (Int.emod_emod _ _)

set_option maxHeartbeats 1000000 in
theorem divWord_any (h l m : Int) (w : World) (h0 : 0 ≤ h) (h1 : h < m) (l0 : 0 ≤ l) (l1 : l < 18446744073709551616) (m0 : 0 < m) (m1 : m < 18446744073709551616) :
    Calls Try.prog 79 #[.int .u64 h, .int .u64 l, .int .u64 m] w (Qt (.tuple #[.int .u64 ((h * 18446744073709551616 + l) / m), .int .u64 ((h * 18446744073709551616 + l) % m)]) w) := by
  obtain ⟨s, hs, s63, t0, t1⟩ := shift_of m m0 m1
  have HS := Lib.hid hs
  clear hs
  have P0 := two_pow_pos s
  have P1 := two_pow_le63 (show s < 64 by omega)
  obtain ⟨hi, lo, e1, e2, i0, i1, j0, j1, q0, q1, e3⟩ := rest_arith h l m s h0 h1 l0 l1 m0 s63 t1
  obtain ⟨u0, u1, v0, v1, e4⟩ := quot_arith h l m s h0 h1 l0 l1 m0 s63 t0 t1 hi lo e1 e2
  have E1 := Lib.hid e1
  have E2 := Lib.hid e2
  have E3 := Lib.hid e3
  have E4 := Lib.hid e4
  clear e1 e2 e3 e4
  go_enter Try.func79, Try.ntmps79
  go_wp2_with fail
  refine (zeros_any _ _ (by omega) (by omega)).mono ?_
  rintro e w' ⟨rfl, rfl⟩
  rw [HS.out]
  go_wp2_with fail
  rw [E1.out, E2.out]
  refine (nhalves_any _ _ (by omega) (by omega)).mono ?_
  rintro e w' ⟨rfl, rfl⟩
  go_wp2_with fail
  refine (divHalf_any _ _ _ _ (by omega) (by omega) (by omega) (by omega) (by omega) (by omega)).mono ?_
  rintro e w' ⟨rfl, n1, rfl⟩
  go_wp2_with fail
  refine (divHalf_any _ _ _ _ (by omega) (by omega) (by omega) (by omega) (by omega) (by omega)).mono ?_
  rintro e w' ⟨rfl, n2, rfl⟩
  go_wp2_with fail
  refine (njoined_any _ _ _ (by omega) (by omega) (by omega) (by omega)).mono ?_
  rintro e w' ⟨rfl, rfl⟩
  go_wp2
  go_ret2
  refine Qt.eqN (tup2 ?_ E3.out)
  rw [← E4.out]
  omega
end Go.Proofs.Ytcfbemjnkiepdaa
