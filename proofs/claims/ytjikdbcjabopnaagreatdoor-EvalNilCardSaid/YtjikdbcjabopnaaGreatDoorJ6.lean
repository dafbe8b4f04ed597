import Derived.Test.YtjikdbcjabopnaaGreatDoorRows
import Derived.Test.YtjikdbcjabopnaaGreatDoorJ4
import Derived.Test.YtjikdbcjabopnaaGreatDoorJWLen
import Derived.Deep.QuietTactic
import Derived.BigQuiet
import Derived.LoopTactic
import Derived.ProofKit
import Derived.Lib.Hide
namespace Go.Proofs.YtjikdbcjabopnaaGreatDoor
open Go.RowKit
set_option linter.unusedVariables false
set_option maxRecDepth 100000
theorem halves_any (a : Int) (w : World) (h0 : 0 ≤ a) (h1 : a < 18446744073709551616) :
    Calls Tryz.prog 278 #[.int .u64 a] w fun e w' => e = .returned (.tuple #[.int .u64 (a / 4294967296), .int .u64 (a % 4294967296)]) ∧ w = w' := by
 go_enter Tryz.func278, Tryz.ntmps278
 go_wp2
 go_ret2
 exact ⟨rfl, rfl⟩
theorem joined_any (a b : Int) (w : World) (h0 : 0 ≤ a) (h1 : a < 18446744073709551616) (g0 : 0 ≤ b) (g1 : b < 18446744073709551616) :
    Calls Tryz.prog 279 #[.int .u64 a, .int .u64 b] w fun e w' => e = .returned (.int .u64 (a % 4294967296 * 4294967296 + b % 4294967296)) ∧ w = w' := by
 go_enter Tryz.func279, Tryz.ntmps279
 go_wp2
 go_ret
 exact ⟨congrArg Ending.returned (u64_eq (joined_arith a b)), rfl⟩
theorem zeros_any (x : Int) (w : World) (h0 : 0 ≤ x) (h1 : x < 18446744073709551616) :
    Calls Tryz.prog 216 #[.int .u64 x] w fun e w' => e = .returned (.int .i64 (64 - Lib.bitLen x.toNat)) ∧ w = w' := by
 have hb := bitLen64 x h0 h1
 go_enter Tryz.func216, Tryz.ntmps216
 go_wp2_with (go_at_call 220; refine (len64_any _ _ h0 h1).mono ?_; rintro e w' ⟨rfl, rfl⟩)
 go_ret
 exact ⟨rfl, rfl⟩
theorem wide_any (x y : Int) (w : World) (hx0 : 0 ≤ x) (hx : x < 18446744073709551616) (hy0 : 0 ≤ y) (hy : y < 18446744073709551616) :
    Calls Tryz.prog 249 #[.int .u64 x, .int .u64 y] w fun e w' => e = .returned (.tuple #[.int .u64 (x * y / 18446744073709551616), .int .u64 (x * y % 18446744073709551616)]) ∧ w = w' := by
 obtain ⟨A, B, C, D, rfl, rfl, rfl, rfl, a0, a1, b0, b1, c0, c1, d0, d1, hxy⟩ := wide_arith x y hx0 hx hy0 hy
 have H := Lib.hid hxy
 clear hxy
 go_enter Tryz.func249, Tryz.ntmps249
 go_wp2_with (first
  | (go_at_call 278; refine (halves_any _ _ (by omega) (by omega)).mono ?_; rintro e w' ⟨rfl, rfl⟩)
  | (go_at_call 279; refine (joined_any _ _ _ (by omega) (by omega) (by omega) (by omega)).mono ?_; rintro e w' ⟨rfl, rfl⟩))
 go_ret2
 refine ⟨congrArg Ending.returned (tup2 ?_ ?_), rfl⟩
 all_goals (rw [H.out]; omega)
theorem add_any (a b m : Int) (w : World) (a0 : 0 ≤ a) (a1 : a < 18446744073709551616) (b0 : 0 ≤ b) (b1 : b < 18446744073709551616) (m0 : 0 ≤ m) (m1 : m < 18446744073709551616) :
    Calls Tryz.prog 247 #[.int .u64 a, .int .u64 b, .int .u64 m] w (Qt (.int .u64 (addS a b m)) w) := by
 by_cases hm : m = 0
 ·subst hm
  go_enter Tryz.func247, Tryz.ntmps247
  go_wp2
  go_ret
  exact Qt.mk0 _ _
 ·have hm0 : 0 < m := by omega
  have hmb : (m == 0) = false := by simpa using hm
  have r0 := Int.emod_nonneg a hm
  have r1 := Int.emod_lt_of_pos a hm0
  have s0 := Int.emod_nonneg b hm
  have s1 := Int.emod_lt_of_pos b hm0
  have H := Lib.hid (addS_pos (a := a) (b := b) hm)
  clear hm
  go_enter Tryz.func247, Tryz.ntmps247
  go_wp2
  go_quiet (fail)
  go_wp2
  all_goals
   go_ret
   refine Qt.eqN (u64_eq ?_)
   rw [H.out]
   first | exact add_hi hm0 (by assumption) | exact add_lo hm0 (by assumption)
theorem sub_any (a b m : Int) (w : World) (a0 : 0 ≤ a) (a1 : a < 18446744073709551616) (b0 : 0 ≤ b) (b1 : b < 18446744073709551616) (m0 : 0 ≤ m) (m1 : m < 18446744073709551616) :
    Calls Tryz.prog 208 #[.int .u64 a, .int .u64 b, .int .u64 m] w (Qt (.int .u64 (subS a b m)) w) := by
 by_cases hm : m = 0
 ·subst hm
  go_enter Tryz.func208, Tryz.ntmps208
  go_wp2
  go_ret
  exact Qt.mk0 _ _
 ·have hm0 : 0 < m := by omega
  have hmb : (m == 0) = false := by simpa using hm
  have r0 := Int.emod_nonneg a hm
  have r1 := Int.emod_lt_of_pos a hm0
  have s0 := Int.emod_nonneg b hm
  have s1 := Int.emod_lt_of_pos b hm0
  have H := Lib.hid (subS_pos (a := a) (b := b) hm)
  clear hm
  go_enter Tryz.func208, Tryz.ntmps208
  go_wp2
  go_quiet (fail)
  go_wp2
  all_goals
   go_ret
   refine Qt.eqN (u64_eq ?_)
   rw [H.out]
   first | exact sub_hi hm0 (by assumption) | exact sub_lo hm0 (by assumption)
theorem radd_any (a b m : Int) (w : World) (a0 : 0 ≤ a) (a1 : a < 18446744073709551616) (b0 : 0 ≤ b) (b1 : b < 18446744073709551616) (m0 : 0 ≤ m) (m1 : m < 18446744073709551616) :
    Calls Tryz.prog 125 #[.int .u64 a, .int .u64 b, .int .u64 m] w fun e w' => e = .returned (.int .u64 (addS a b m)) ∧ w = w' := by
 by_cases hm : m = 0
 ·subst hm
  go_enter Tryz.func125, Tryz.ntmps125
  go_wp2
  go_ret
  exact ⟨rfl, rfl⟩
 ·have hm0 : 0 < m := by omega
  have hmb : (m == 0) = false := by simpa using hm
  have r0 := Int.emod_nonneg a hm
  have r1 := Int.emod_lt_of_pos a hm0
  have s0 := Int.emod_nonneg b hm
  have s1 := Int.emod_lt_of_pos b hm0
  have H := Lib.hid (addS_pos (a := a) (b := b) hm)
  clear hm
  go_enter Tryz.func125, Tryz.ntmps125
  go_wp2
  all_goals
   go_ret
   refine ⟨congrArg Ending.returned (u64_eq ?_), rfl⟩
   rw [H.out, Int.add_comm a b]
   first | exact add_hi hm0 (by assumption) | (rw [Int.add_comm (a % m)]; exact add_lo hm0 (by omega))
theorem rsub_any (a b m : Int) (w : World) (a0 : 0 ≤ a) (a1 : a < 18446744073709551616) (b0 : 0 ≤ b) (b1 : b < 18446744073709551616) (m0 : 0 ≤ m) (m1 : m < 18446744073709551616) :
    Calls Tryz.prog 166 #[.int .u64 a, .int .u64 b, .int .u64 m] w fun e w' => e = .returned (.int .u64 (subS a b m)) ∧ w = w' := by
 by_cases hm : m = 0
 ·subst hm
  go_enter Tryz.func166, Tryz.ntmps166
  go_wp2
  go_ret
  exact ⟨rfl, rfl⟩
 ·have hm0 : 0 < m := by omega
  have hmb : (m == 0) = false := by simpa using hm
  have s0 := Int.emod_nonneg b hm
  have s1 := Int.emod_lt_of_pos b hm0
  have H := Lib.hid (subS_pos (a := a) (b := b) hm)
  have G := Lib.hid (addS_pos (a := a) (b := m - b % m) hm)
  clear hm
  go_enter Tryz.func166, Tryz.ntmps166
  go_wp2_with (go_at_call 125; refine (radd_any _ _ _ _ (by omega) (by omega) (by omega) (by omega) (by omega) (by omega)).mono ?_; rintro e w' ⟨rfl, rfl⟩)
  go_ret
  refine ⟨congrArg Ending.returned (u64_eq ?_), rfl⟩
  rw [H.out, G.out, show a + (m - b % m) = (a - b % m) + m by omega, Int.add_emod_right, Int.sub_emod, Int.emod_emod, ← Int.sub_emod]
set_option maxHeartbeats 1000000 in
theorem restHalf_any (r n m : Int) (w : World) (r0 : 0 ≤ r) (r1 : r < m) (n0 : 0 ≤ n) (n1 : n < 4294967296) (m0 : 9223372036854775808 ≤ m) (m1 : m < 18446744073709551616) :
    Calls Tryz.prog 280 #[.int .u64 r, .int .u64 n, .int .u64 m] w (Qt (.int .u64 ((r * 4294967296 + n) % m)) w) := by
 have hs := Lib.hid (half_start r n m r0 r1 n0 n1 m0 m1)
 have ht := half_guess r m r0 r1 m0 m1
 go_enter Tryz.func280, Tryz.ntmps280
 go_wp2_with (go_at_call 278; refine (halves_any _ _ (by omega) (by omega)).mono ?_; rintro e w' ⟨rfl, rfl⟩)
 go_quiet (fail)
 go_wp2
 go_loop [9, 10] (fun g l => ∃ G L : Int, g = .int .u64 G ∧ l = .int .u64 L ∧ HalfInv r n m G L) (fun g _ => (intOf g).toNat)
 case atStart => exact ⟨_, _, rfl, rfl, hs.out⟩
 case round =>
  obtain ⟨G, L, rfl, rfl, hinv⟩ := hrel
  obtain ⟨g0, g1, l0, l1, p0, p1⟩ := hinv.bounds m0 m1
  go_wp2_with (go_at_call 279; refine (joined_any _ _ _ (by omega) (by omega) (by omega) (by omega)).mono ?_; rintro e w' ⟨rfl, rfl⟩)
  ·rename_i hc hl
   have hg := hinv.pos (by omega)
   have hf := hinv.far m0 m1 (by omega) (by omega)
   go_ret
   refine Qt.eqN (u64_eq ?_)
   simp only [wrap64u]
   rw [show (G - 1) % 18446744073709551616 = G - 1 by omega]
   exact half_end (by omega) m1 hf _ _ (by omega) (Int.emod_emod _ _)
  ·rename_i hc hl
   have hg := hinv.pos (by omega)
   simp only [wrap64u]
   rw [show (G - 1) % 18446744073709551616 = G - 1 by omega]
   exact ⟨⟨_, _, rfl, rfl, hinv.next m0 m1 (by omega) (by omega)⟩, by simp [intOf]; omega⟩
  ·rename_i hc
   have hf := hinv.fits m0 (by omega)
   go_ret
   refine Qt.eqN (u64_eq ?_)
   simp only [wrap64u]
   exact half_end (by omega) m1 hf _ _ (by omega) (Int.emod_emod _ _)
set_option maxHeartbeats 1000000 in
theorem rest_any (h l m : Int) (w : World) (h0 : 0 ≤ h) (h1 : h < 18446744073709551616) (l0 : 0 ≤ l) (l1 : l < 18446744073709551616) (m0 : 0 < m) (m1 : m < 18446744073709551616) :
    Calls Tryz.prog 250 #[.int .u64 h, .int .u64 l, .int .u64 m] w (Qt (.int .u64 ((h * 18446744073709551616 + l) % m)) w) := by
 obtain ⟨s, hs, s63, t0, t1⟩ := shift_of m m0 m1
 have HS := Lib.hid hs
 clear hs
 have P0 := two_pow_pos s
 have P1 := two_pow_le63 (show s < 64 by omega)
 have k0 := Int.emod_nonneg h (show m ≠ 0 by omega)
 have k1 := Int.emod_lt_of_pos h m0
 by_cases hlt : m ≤ h
 ·by_cases hz : h % m = 0
  ·have HZ := Lib.hid hz
   have hzb : (h % m == 0) = true := by simpa using hz
   clear hz
   go_enter Tryz.func250, Tryz.ntmps250
   go_wp2
   go_ret
   exact Qt.eq0 (u64_eq (by rw [Int.add_emod, Int.mul_emod, HZ.out]; simp))
  ·have hzb : (h % m == 0) = false := by simpa using hz
   clear hz
   obtain ⟨hi, lo, e1, e2, i0, i1, j0, j1, q0, q1, e3⟩ := rest_arith (h % m) l m s k0 k1 l0 l1 m0 s63 t1
   have E1 := Lib.hid e1
   have E2 := Lib.hid e2
   have E3 := Lib.hid e3
   clear e1 e2 e3
   go_enter Tryz.func250, Tryz.ntmps250
   go_wp2_with fail
   refine (zeros_any _ _ (by omega) (by omega)).mono ?_
   rintro e w' ⟨rfl, rfl⟩
   rw [HS.out]
   go_wp2_with fail
   rw [E1.out, E2.out]
   refine (halves_any _ _ (by omega) (by omega)).mono ?_
   rintro e w' ⟨rfl, rfl⟩
   go_wp2_with fail
   refine (restHalf_any _ _ _ _ (by omega) (by omega) (by omega) (by omega) (by omega) (by omega)).mono ?_
   rintro e w' ⟨rfl, n1, rfl⟩
   go_wp2_with fail
   refine (restHalf_any _ _ _ _ (by omega) (by omega) (by omega) (by omega) (by omega) (by omega)).mono ?_
   rintro e w' ⟨rfl, n2, rfl⟩
   go_wp2
   go_ret
   exact Qt.eqN (u64_eq (E3.out.trans (by rw [Int.add_emod, Int.mul_emod, Int.emod_emod, ← Int.mul_emod, ← Int.add_emod])))
 ·by_cases hz : h = 0
  ·subst hz
   go_enter Tryz.func250, Tryz.ntmps250
   go_wp2
   go_ret
   exact Qt.eq0 (u64_eq (by simp))
  ·have hzb : (h == 0) = false := by simpa using hz
   clear hz
   obtain ⟨hi, lo, e1, e2, i0, i1, j0, j1, q0, q1, e3⟩ := rest_arith h l m s h0 (by omega) l0 l1 m0 s63 t1
   have E1 := Lib.hid e1
   have E2 := Lib.hid e2
   have E3 := Lib.hid e3
   clear e1 e2 e3
   go_enter Tryz.func250, Tryz.ntmps250
   go_wp2_with fail
   refine (zeros_any _ _ (by omega) (by omega)).mono ?_
   rintro e w' ⟨rfl, rfl⟩
   rw [HS.out]
   go_wp2_with fail
   rw [E1.out, E2.out]
   refine (halves_any _ _ (by omega) (by omega)).mono ?_
   rintro e w' ⟨rfl, rfl⟩
   go_wp2_with fail
   refine (restHalf_any _ _ _ _ (by omega) (by omega) (by omega) (by omega) (by omega) (by omega)).mono ?_
   rintro e w' ⟨rfl, n1, rfl⟩
   go_wp2_with fail
   refine (restHalf_any _ _ _ _ (by omega) (by omega) (by omega) (by omega) (by omega) (by omega)).mono ?_
   rintro e w' ⟨rfl, n2, rfl⟩
   go_wp2
   go_ret
   exact Qt.eqN (u64_eq E3.out)
theorem mul_any (a b m : Int) (w : World) (a0 : 0 ≤ a) (a1 : a < 18446744073709551616) (b0 : 0 ≤ b) (b1 : b < 18446744073709551616) (m0 : 0 ≤ m) (m1 : m < 18446744073709551616) :
    Calls Tryz.prog 189 #[.int .u64 a, .int .u64 b, .int .u64 m] w (Qt (.int .u64 (mulS a b m)) w) := by
 by_cases hm : m = 0
 ·subst hm
  go_enter Tryz.func189, Tryz.ntmps189
  go_wp2
  go_ret
  exact Qt.mk0 _ _
 ·have hm0 : 0 < m := by omega
  have hmb : (m == 0) = false := by simpa using hm
  have H := Lib.hid (mulS_pos (a := a) (b := b) hm)
  have p := wide_bounds a b a0 a1 b0 b1
  clear hm
  go_enter Tryz.func189, Tryz.ntmps189
  go_wp2_with fail
  refine (wide_any _ _ _ a0 a1 b0 b1).mono ?_
  rintro e w' ⟨rfl, rfl⟩
  go_wp2_with fail
  refine (rest_any _ _ _ _ (by omega) (by omega) (by omega) (by omega) hm0 m1).mono ?_
  rintro e w' ⟨rfl, n1, rfl⟩
  go_wp2
  go_ret
  exact Qt.eqN (u64_eq (by rw [H.out]; exact congrArg (· % m) (by omega)))
set_option maxHeartbeats 1000000 in
theorem rmul_any (a b m : Int) (w : World) (a0 : 0 ≤ a) (a1 : a < 18446744073709551616) (b0 : 0 ≤ b) (b1 : b < 18446744073709551616) (m0 : 0 ≤ m) (m1 : m < 18446744073709551616) :
    Calls Tryz.prog 180 #[.int .u64 a, .int .u64 b, .int .u64 m] w (Qt (.int .u64 (mulS a b m)) w) := by
 by_cases hm : m = 0
 ·subst hm
  go_enter Tryz.func180, Tryz.ntmps180
  go_wp2
  go_ret
  exact Qt.mk0 _ _
 ·have hm0 : 0 < m := by omega
  have hmb : (m == 0) = false := by simpa using hm
  have H := Lib.hid (mulS_pos (a := a) (b := b) hm)
  have r0 := Int.emod_nonneg a hm
  have r1 := Int.emod_lt_of_pos a hm0
  have s0 := Int.emod_nonneg b hm
  have s1 := Int.emod_lt_of_pos b hm0
  by_cases hs : a % m < 4294967296 ∧ b % m < 4294967296
  ·obtain ⟨hs1, hs2⟩ := hs
   have p := prod_bound (a % m) (b % m) r0 (by omega) s0 (by omega)
   have q0 := Int.emod_nonneg (a % m * (b % m)) hm
   have q1 := Int.emod_lt_of_pos (a % m * (b % m)) hm0
   clear hm
   go_enter Tryz.func180, Tryz.ntmps180
   go_wp2
   go_quiet (fail)
   go_wp2
   go_ret
   exact Qt.eqN (u64_eq (by rw [H.out, ← Int.mul_emod]))
  ·have hinit := Lib.hid (mulTo_zero a b m b0 b1)
   clear hm
   by_cases hs1 : a % m < 4294967296
   ·have hs2 : decide (b % m < 4294967296) = false := by simp; omega
    clear hs
    go_enter Tryz.func180, Tryz.ntmps180
    go_wp2
    go_loop [7, 8] (fun x i => ∃ k : Nat, k ≤ 64 ∧ i = .int .i64 k ∧ x = .int .u64 (mulTo a b m k)) (fun _ i => 64 - (intOf i).toNat)
    case atStart => exact ⟨0, by omega, rfl, by rw [hinit.out]⟩
    case round =>
     obtain ⟨k, hk, rfl, rfl⟩ := hrel
     have hx := mulTo_lt a b m k hm0
     by_cases hlt : k < 64
     ·have hz := bits_first_word b0 b1 hlt
      have ha := addS_lt (a := mulTo a b m k) (b := mulTo a b m k) hm0
      by_cases hb : b / 2 ^ (63 - k) % 2 = 1
      ·have hbit : (bits BinOp.and IntKind.u64 (b / 2 ^ (63 - k)) 1 == 1) = true := by rw [and_one _ hz.1 hz.2]; simpa using hb
       have HB := Lib.hid (mulTo_one a b m k hlt hm0 hb)
       clear hb
       go_wp2_with (go_at_call 125; refine (radd_any _ _ _ _ (by omega) (by omega) (by omega) (by omega) (by omega) (by omega)).mono ?_; rintro e w' ⟨rfl, rfl⟩)
       exact ⟨⟨k + 1, by omega, by go_num, u64_eq HB.out⟩, by simp [intOf]; omega⟩
      ·have hb0 : b / 2 ^ (63 - k) % 2 = 0 := by omega
       have hbit : (bits BinOp.and IntKind.u64 (b / 2 ^ (63 - k)) 1 == 1) = false := by rw [and_one _ hz.1 hz.2]; simpa using hb
       have HB := Lib.hid (mulTo_not a b m k hlt hm0 hb0)
       clear hb hb0
       go_wp2_with (go_at_call 125; refine (radd_any _ _ _ _ (by omega) (by omega) (by omega) (by omega) (by omega) (by omega)).mono ?_; rintro e w' ⟨rfl, rfl⟩)
       exact ⟨⟨k + 1, by omega, by go_num, u64_eq HB.out⟩, by simp [intOf]; omega⟩
     ·have hk64 : k = 64 := by omega
      subst hk64
      have HD := Lib.hid (mulTo_done a b m hm0)
      go_wp2
      go_ret
      exact Qt.eq0 (u64_eq HD.out)
   ·have hs2 : decide (a % m < 4294967296) = false := by simp; omega
    clear hs
    go_enter Tryz.func180, Tryz.ntmps180
    go_wp2
    go_loop [7, 8] (fun x i => ∃ k : Nat, k ≤ 64 ∧ i = .int .i64 k ∧ x = .int .u64 (mulTo a b m k)) (fun _ i => 64 - (intOf i).toNat)
    case atStart => exact ⟨0, by omega, rfl, by rw [hinit.out]⟩
    case round =>
     obtain ⟨k, hk, rfl, rfl⟩ := hrel
     have hx := mulTo_lt a b m k hm0
     by_cases hlt : k < 64
     ·have hz := bits_first_word b0 b1 hlt
      have ha := addS_lt (a := mulTo a b m k) (b := mulTo a b m k) hm0
      by_cases hb : b / 2 ^ (63 - k) % 2 = 1
      ·have hbit : (bits BinOp.and IntKind.u64 (b / 2 ^ (63 - k)) 1 == 1) = true := by rw [and_one _ hz.1 hz.2]; simpa using hb
       have HB := Lib.hid (mulTo_one a b m k hlt hm0 hb)
       clear hb
       go_wp2_with (go_at_call 125; refine (radd_any _ _ _ _ (by omega) (by omega) (by omega) (by omega) (by omega) (by omega)).mono ?_; rintro e w' ⟨rfl, rfl⟩)
       exact ⟨⟨k + 1, by omega, by go_num, u64_eq HB.out⟩, by simp [intOf]; omega⟩
      ·have hb0 : b / 2 ^ (63 - k) % 2 = 0 := by omega
       have hbit : (bits BinOp.and IntKind.u64 (b / 2 ^ (63 - k)) 1 == 1) = false := by rw [and_one _ hz.1 hz.2]; simpa using hb
       have HB := Lib.hid (mulTo_not a b m k hlt hm0 hb0)
       clear hb hb0
       go_wp2_with (go_at_call 125; refine (radd_any _ _ _ _ (by omega) (by omega) (by omega) (by omega) (by omega) (by omega)).mono ?_; rintro e w' ⟨rfl, rfl⟩)
       exact ⟨⟨k + 1, by omega, by go_num, u64_eq HB.out⟩, by simp [intOf]; omega⟩
     ·have hk64 : k = 64 := by omega
      subst hk64
      have HD := Lib.hid (mulTo_done a b m hm0)
      go_wp2
      go_ret
      exact Qt.eq0 (u64_eq HD.out)
set_option maxHeartbeats 1000000 in
theorem pow_any (a n m : Int) (w : World) (a0 : 0 ≤ a) (a1 : a < 18446744073709551616) (n0 : 0 ≤ n) (n1 : n < 18446744073709551616) (m0 : 0 ≤ m) (m1 : m < 18446744073709551616) :
    Calls Tryz.prog 235 #[.int .u64 a, .int .u64 n, .int .u64 m] w (Qt (.int .u64 (powS a n m)) w) := by
 by_cases hm : m = 0
 ·subst hm
  go_enter Tryz.func235, Tryz.ntmps235
  go_wp2
  go_ret
  exact Qt.mk0 _ _
 ·have hm0 : 0 < m := by omega
  have hmb : (m == 0) = false := by simpa using hm
  have o0 := Int.emod_nonneg 1 hm
  have o1 := Int.emod_lt_of_pos 1 hm0
  have hst := Lib.hid (powInv_start a n m a0 a1 n0 n1 hm0)
  clear hm
  go_enter Tryz.func235, Tryz.ntmps235
  go_wp2
  go_loopw [1, 7, 8] (fun nn p s W => ∃ (N P S : Int) (c : Nat), nn = .int .u64 N ∧ p = .int .u64 P ∧ s = .int .u64 S ∧ W = w.drewN c ∧ PowInv a n m N P S) (fun nn _ _ _ => (intOf nn).toNat)
  case atStart => exact ⟨n, 1 % m, a, 0, rfl, rfl, rfl, rfl, hst.out⟩
  case round =>
   obtain ⟨N, P, S, c, rfl, rfl, rfl, rfl, hinv⟩ := hrel
   obtain ⟨N0, N1, P0, P1, S0, S1⟩ := hinv.bounds m1
   by_cases hN : 0 < N
   ·have hq := mulS_lt (a := S) (b := S) hm0
    have hp := mulS_lt (a := P) (b := S) hm0
    by_cases hb : N % 2 = 1
    ·have hbit : (bits BinOp.and IntKind.u64 N 1 == 1) = true := by rw [and_one _ N0 N1]; simpa using hb
     have HB := Lib.hid (hinv.odd hm0 m1 hb)
     clear hb
     go_wp2_with (go_at_call 189; refine (mul_any _ _ _ _ (by omega) (by omega) (by omega) (by omega) (by omega) (by omega)).mono ?_; rintro e w' ⟨rfl, c1, rfl⟩)
     exact ⟨⟨_, _, _, _, rfl, rfl, rfl, rfl, HB.out⟩, by simp [intOf]; omega⟩
    ·have hb0 : N % 2 = 0 := by omega
     have hbit : (bits BinOp.and IntKind.u64 N 1 == 1) = false := by rw [and_one _ N0 N1]; simpa using hb
     have HB := Lib.hid (hinv.even hm0 m1 hb0)
     clear hb hb0
     go_wp2_with (go_at_call 189; refine (mul_any _ _ _ _ (by omega) (by omega) (by omega) (by omega) (by omega) (by omega)).mono ?_; rintro e w' ⟨rfl, c1, rfl⟩)
     exact ⟨⟨_, _, _, _, rfl, rfl, rfl, rfl, HB.out⟩, by simp [intOf]; omega⟩
   ·have HD := Lib.hid (hinv.done hm0 (by omega))
    go_wp2
    go_ret
    exact Qt.eqN (u64_eq HD.out)
theorem nhalves_any (a : Int) (w : World) (h0 : 0 ≤ a) (h1 : a < 18446744073709551616) :
    Calls Tryz.prog 214 #[.int .u64 a] w fun e w' => e = .returned (.tuple #[.int .u64 (a / 4294967296), .int .u64 (a % 4294967296)]) ∧ w = w' := by
 go_enter Tryz.func214, Tryz.ntmps214
 go_wp2
 go_ret2
 exact ⟨rfl, rfl⟩
theorem njoined_any (a b : Int) (w : World) (h0 : 0 ≤ a) (h1 : a < 18446744073709551616) (g0 : 0 ≤ b) (g1 : b < 18446744073709551616) :
    Calls Tryz.prog 215 #[.int .u64 a, .int .u64 b] w fun e w' => e = .returned (.int .u64 (a % 4294967296 * 4294967296 + b % 4294967296)) ∧ w = w' := by
 go_enter Tryz.func215, Tryz.ntmps215
 go_wp2
 go_ret
 exact ⟨congrArg Ending.returned (u64_eq (joined_arith a b)), rfl⟩
theorem addWord_any (a b c : Int) (w : World) (a0 : 0 ≤ a) (a1 : a < 18446744073709551616) (b0 : 0 ≤ b) (b1 : b < 18446744073709551616) (c0 : 0 ≤ c) (c1 : c ≤ 1) :
    Calls Tryz.prog 156 #[.int .u64 a, .int .u64 b, .int .u64 c] w fun e w' => e = .returned (.tuple #[.int .u64 ((a + b + c) % 18446744073709551616), .int .u64 ((a + b + c) / 18446744073709551616)]) ∧ w = w' := by
 go_enter Tryz.func156, Tryz.ntmps156
 go_wp2_with (first
  | (go_at_call 214; refine (nhalves_any _ _ (by omega) (by omega)).mono ?_; rintro e w' ⟨rfl, rfl⟩)
  | (go_at_call 215; refine (njoined_any _ _ _ (by omega) (by omega) (by omega) (by omega)).mono ?_; rintro e w' ⟨rfl, rfl⟩))
 go_ret2
 exact ⟨congrArg Ending.returned (tup2 (by omega) (by omega)), rfl⟩
theorem subWord_any (a b c : Int) (w : World) (a0 : 0 ≤ a) (a1 : a < 18446744073709551616) (b0 : 0 ≤ b) (b1 : b < 18446744073709551616) (c0 : 0 ≤ c) (c1 : c ≤ 1) :
    Calls Tryz.prog 286 #[.int .u64 a, .int .u64 b, .int .u64 c] w fun e w' => e = .returned (.tuple #[.int .u64 ((a - b - c) % 18446744073709551616), .int .u64 (-((a - b - c) / 18446744073709551616))]) ∧ w = w' := by
 have H := Lib.hid (sub_arith a b c a0 a1 b0 b1 c0 c1)
 have s0 := wrap_word (a % 4294967296 - b % 4294967296)
 have s1 := wrap_word (IntKind.u64.wrap (a % 4294967296 - b % 4294967296) - c)
 have s2 := wrap_word (a / 4294967296 - b / 4294967296)
 have s3 := wrap_word (IntKind.u64.wrap (a / 4294967296 - b / 4294967296) - IntKind.u64.wrap (IntKind.u64.wrap (a % 4294967296 - b % 4294967296) - c) / 9223372036854775808)
 go_enter Tryz.func286, Tryz.ntmps286
 go_wp2_with (first
  | (go_at_call 214; refine (nhalves_any _ _ (by omega) (by omega)).mono ?_; rintro e w' ⟨rfl, rfl⟩)
  | (go_at_call 215; refine (njoined_any _ _ _ (by omega) (by omega) (by omega) (by omega)).mono ?_; rintro e w' ⟨rfl, rfl⟩))
 go_ret2
 exact ⟨congrArg Ending.returned (tup2 H.out.1 H.out.2), rfl⟩
theorem mulWord_any (x y m c : Int) (w : World) (hx0 : 0 ≤ x) (hx : x < 18446744073709551616) (hy0 : 0 ≤ y) (hy : y < 18446744073709551616) (m0 : 0 ≤ m) (m1 : m < 18446744073709551616) (c0 : 0 ≤ c) (c1 : c < 18446744073709551616) :
    Calls Tryz.prog 267 #[.int .u64 x, .int .u64 y, .int .u64 m, .int .u64 c] w fun e w' => e = .returned (.tuple #[.int .u64 ((x * y + m + c) % 18446744073709551616), .int .u64 ((x * y + m + c) / 18446744073709551616)]) ∧ w = w' := by
 obtain ⟨A, B, C, D, rfl, rfl, rfl, rfl, a0, a1, b0, b1, d0, d1, e0, e1, hxy⟩ := wide_arith x y hx0 hx hy0 hy
 have H := Lib.hid hxy
 clear hxy
 go_enter Tryz.func267, Tryz.ntmps267
 go_wp2_with (first
  | (go_at_call 214; refine (nhalves_any _ _ (by omega) (by omega)).mono ?_; rintro e w' ⟨rfl, rfl⟩)
  | (go_at_call 215; refine (njoined_any _ _ _ (by omega) (by omega) (by omega) (by omega)).mono ?_; rintro e w' ⟨rfl, rfl⟩))
 go_ret2
 refine ⟨congrArg Ending.returned (tup2 ?_ ?_), rfl⟩
 all_goals (rw [H.out]; omega)
set_option maxHeartbeats 1000000 in
theorem divHalf_any (r n m : Int) (w : World) (r0 : 0 ≤ r) (r1 : r < m) (n0 : 0 ≤ n) (n1 : n < 4294967296) (m0 : 9223372036854775808 ≤ m) (m1 : m < 18446744073709551616) :
    Calls Tryz.prog 251 #[.int .u64 r, .int .u64 n, .int .u64 m] w (Qt (.tuple #[.int .u64 ((r * 4294967296 + n) / m), .int .u64 ((r * 4294967296 + n) % m)]) w) := by
 have hs := Lib.hid (half_start r n m r0 r1 n0 n1 m0 m1)
 have ht := half_guess r m r0 r1 m0 m1
 go_enter Tryz.func251, Tryz.ntmps251
 go_wp2_with (go_at_call 214; refine (nhalves_any _ _ (by omega) (by omega)).mono ?_; rintro e w' ⟨rfl, rfl⟩)
 go_quiet (fail)
 go_wp2
 go_loop [10, 11] (fun g l => ∃ G L : Int, g = .int .u64 G ∧ l = .int .u64 L ∧ HalfInv r n m G L) (fun g _ => (intOf g).toNat)
 case atStart => exact ⟨_, _, rfl, rfl, hs.out⟩
 case round =>
  obtain ⟨G, L, rfl, rfl, hinv⟩ := hrel
  obtain ⟨g0, g1, l0, l1, p0, p1⟩ := hinv.bounds m0 m1
  go_wp2_with (go_at_call 215; refine (njoined_any _ _ _ (by omega) (by omega) (by omega) (by omega)).mono ?_; rintro e w' ⟨rfl, rfl⟩)
  ·rename_i hc hl
   have hg := hinv.pos (by omega)
   have hf := hinv.far m0 m1 (by omega) (by omega)
   go_ret2
   refine Qt.eqN (tup2 ?_ ?_)
   ·rw [wrap64u, ← hf]; omega
   ·simp only [wrap64u]
    rw [show (G - 1) % 18446744073709551616 = G - 1 by omega]
    exact half_end (by omega) m1 hf _ _ (by omega) (Int.emod_emod _ _)
  ·rename_i hc hl
   have hg := hinv.pos (by omega)
   simp only [wrap64u]
   rw [show (G - 1) % 18446744073709551616 = G - 1 by omega]
   exact ⟨⟨_, _, rfl, rfl, hinv.next m0 m1 (by omega) (by omega)⟩, by simp [intOf]; omega⟩
  ·rename_i hc
   have hf := hinv.fits m0 (by omega)
   go_ret2
   refine Qt.eqN (tup2 hf ?_)
   simp only [wrap64u]
   exact half_end (by omega) m1 hf _ _ (by omega) (Int.emod_emod _ _)
set_option maxHeartbeats 1000000 in
theorem divWord_any (h l m : Int) (w : World) (h0 : 0 ≤ h) (h1 : h < m) (l0 : 0 ≤ l) (l1 : l < 18446744073709551616) (m0 : 0 < m) (m1 : m < 18446744073709551616) :
    Calls Tryz.prog 191 #[.int .u64 h, .int .u64 l, .int .u64 m] w (Qt (.tuple #[.int .u64 ((h * 18446744073709551616 + l) / m), .int .u64 ((h * 18446744073709551616 + l) % m)]) w) := by
 obtain ⟨s, hs, s63, t0, t1⟩ := shift_of m m0 m1
 have HS := Lib.hid hs
 clear hs
 have P0 := two_pow_pos s
 have P1 := two_pow_le63 (show s < 64 by omega)
 obtain ⟨hi, lo, e1, e2, i0, i1, j0, j1, q0, q1, e3⟩ := rest_arith h l m s h0 h1 l0 l1 m0 s63 t1
 obtain ⟨u0, u1, v0, v1, e4⟩ := quot_arith h l m s h0 h1 l0 l1 m0 s63 t0 t1 hi lo e1 e2
 have E1 := Lib.hid e1
 have E2 := Lib.hid e2
 have E3 := Lib.hid e3
 have E4 := Lib.hid e4
 clear e1 e2 e3 e4
 go_enter Tryz.func191, Tryz.ntmps191
 go_wp2_with fail
 refine (zeros_any _ _ (by omega) (by omega)).mono ?_
 rintro e w' ⟨rfl, rfl⟩
 rw [HS.out]
 go_wp2_with fail
 rw [E1.out, E2.out]
 refine (nhalves_any _ _ (by omega) (by omega)).mono ?_
 rintro e w' ⟨rfl, rfl⟩
 go_wp2_with fail
 refine (divHalf_any _ _ _ _ (by omega) (by omega) (by omega) (by omega) (by omega) (by omega)).mono ?_
 rintro e w' ⟨rfl, n1, rfl⟩
 go_wp2_with fail
 refine (divHalf_any _ _ _ _ (by omega) (by omega) (by omega) (by omega) (by omega) (by omega)).mono ?_
 rintro e w' ⟨rfl, n2, rfl⟩
 go_wp2_with fail
 refine (njoined_any _ _ _ (by omega) (by omega) (by omega) (by omega)).mono ?_
 rintro e w' ⟨rfl, rfl⟩
 go_wp2
 go_ret2
 refine Qt.eqN (tup2 ?_ E3.out)
 rw [← E4.out]
 omega
theorem inv_any (a m : Nat) (w : World) (a1 : a < 18446744073709551616) (m1 : m < 18446744073709551616) :
    Calls Tryz.prog 174 #[.int .u64 (a : Int), .int .u64 (m : Int)] w (InvPost a m w) := by
 by_cases hm : m < 2
 ·have hd : decide ((m : Int) < 2) = true := by simp; omega
  go_enter Tryz.func174, Tryz.ntmps174
  go_wp2
  go_ret2
  exact InvPost.small hm
 ·have hm2 : 2 ≤ m := by omega
  have hd : decide ((m : Int) < 2) = false := by simp; omega
  have q := Nat.mod_lt a (show 0 < m by omega)
  have hst := Lib.hid (invInv_start a m hm2)
  clear hm
  go_enter Tryz.func174, Tryz.ntmps174
  go_wp2
  go_quiet (fail)
  go_wp2
  go_loopw [6, 7, 8, 9] (fun o n ot nt W => ∃ (O N c : Nat) (OT NT : Int), o = .int .u64 (O : Int) ∧ n = .int .u64 (N : Int) ∧ ot = .int .u64 OT ∧ nt = .int .u64 NT ∧ W = w.drewN c ∧ InvInv a m O N OT NT) (fun _ n _ _ _ => (intOf n).toNat)
  case atStart => exact ⟨m, a % m, _, 0, 1, rfl, by go_num, rfl, rfl, rfl, hst.out⟩
  case round =>
   obtain ⟨O, N, c, OT, NT, rfl, rfl, rfl, rfl, rfl, hinv⟩ := hrel
   obtain ⟨o1, n1, ot0, ot1, nt0, nt1⟩ := hinv.bounds m1
   by_cases hN : 0 < N
   ·have hq := mulS_lt (a := (O : Int) / (N : Int)) (b := NT) (m := m) (by omega)
    have hs := subS_lt (a := OT) (b := mulS ((O : Int) / (N : Int)) NT m) (m := m) (by omega)
    have q2 := Nat.mod_lt O hN
    have q3 : 0 ≤ (O : Int) / (N : Int) ∧ (O : Int) / (N : Int) ≤ O := by
     rw [← Int.natCast_ediv]; exact ⟨Int.natCast_nonneg _, Int.ofNat_le.2 (Nat.div_le_self O N)⟩
    have HN := Lib.hid (hinv.next hN hm2)
    go_wp2
    go_quiet (fail)
    go_wp2_with fail
    refine (mul_any _ _ _ _ (by omega) (by omega) (by omega) (by omega) (by omega) (by omega)).mono ?_
    rintro e w' ⟨rfl, c1, rfl⟩
    go_wp2_with fail
    refine (sub_any _ _ _ _ (by omega) (by omega) (by omega) (by omega) (by omega) (by omega)).mono ?_
    rintro e w' ⟨rfl, c2, rfl⟩
    go_wp2
    exact ⟨⟨N, O % N, _, _, _, rfl, by go_num, rfl, rfl, rfl, HN.out⟩, by simp [intOf]; omega⟩
   ·obtain ⟨y, n⟩ := hinv.done (w := w) (c := c) (by omega) hm2
    by_cases ho : (O : Int) = 1
    ·have hob : ((O : Int) != 1) = false := by simpa using ho
     have HD := Lib.hid (y ho)
     clear y n ho
     go_wp2
     go_ret2
     exact HD.out
    ·have hob : ((O : Int) != 1) = true := by simpa using ho
     have HD := Lib.hid (n ho)
     clear y n ho
     go_wp2
     go_ret2
     exact HD.out
theorem center_any (a m : Int) (w : World) (a0 : 0 ≤ a) (a1 : a < 18446744073709551616) (m0 : 0 ≤ m) (m1 : m < 18446744073709551616) :
    Calls Tryz.prog 135 #[.int .u64 a, .int .u64 m] w fun e w' => e = .returned (.int .i64 (cenS a m)) ∧ w = w' := by
 by_cases hm : m = 0
 ·subst hm
  go_enter Tryz.func135, Tryz.ntmps135
  go_wp2
  go_ret
  exact ⟨rfl, rfl⟩
 ·have hmb : (m == 0) = false := by simpa using hm
  have hm0 : 0 < m := by omega
  have r0 := Int.emod_nonneg a hm
  have r1 := Int.emod_lt_of_pos a hm0
  by_cases hb : 4611686018427387904 < m
  ·have H := Lib.hid (cenS_far a m hb)
   clear hm
   go_enter Tryz.func135, Tryz.ntmps135
   go_wp2
   go_ret
   exact ⟨congrArg Ending.returned (i64_eq H.out.symm), rfl⟩
  ·have hbd : decide (4611686018427387904 < m) = false := by simpa using hb
   have H := Lib.hid (cenS_near a m hm0 (by omega))
   clear hm
   go_enter Tryz.func135, Tryz.ntmps135
   go_wp2
   all_goals
    go_ret
    refine ⟨congrArg Ending.returned (i64_eq ?_), rfl⟩
    rw [H.out]
    first | (rw [if_pos (by omega)]; omega) | (rw [if_neg (by omega)])
theorem lift_any (v m : Int) (w : World) (v0 : -9223372036854775808 ≤ v) (v1 : v < 9223372036854775808) (m0 : 0 ≤ m) (m1 : m < 18446744073709551616) :
    Calls Tryz.prog 190 #[.int .i64 v, .int .u64 m] w (Qt (.int .u64 (lifS v m)) w) := by
 by_cases hv : 0 ≤ v
 ·have H := Lib.hid (lif_add v m)
  go_enter Tryz.func190, Tryz.ntmps190
  go_wp2_with fail
  refine (add_any _ _ _ _ (by omega) (by omega) (by omega) (by omega) (by omega) (by omega)).mono ?_
  rintro e w' ⟨rfl, c1, rfl⟩
  go_wp2
  go_ret
  exact Qt.eqN (u64_eq H.out)
 ·have H := Lib.hid (lif_sub v m)
  have e1 := Lib.hid (neg_word v (by omega) v0)
  have hv' : v < 0 := by omega
  clear hv
  go_enter Tryz.func190, Tryz.ntmps190
  go_wp2_with fail
  rw [e1.out]
  refine (sub_any _ _ _ _ (by omega) (by omega) (by omega) (by omega) (by omega) (by omega)).mono ?_
  rintro e w' ⟨rfl, c1, rfl⟩
  go_wp2
  go_ret
  exact Qt.eqN (u64_eq H.out)
theorem rlift_any (v m : Int) (w : World) (v0 : -9223372036854775808 ≤ v) (v1 : v < 9223372036854775808) (m0 : 0 ≤ m) (m1 : m < 18446744073709551616) :
    Calls Tryz.prog 106 #[.int .i64 v, .int .u64 m] w fun e w' => e = .returned (.int .u64 (lifS v m)) ∧ w = w' := by
 by_cases hm : m = 0
 ·subst hm
  go_enter Tryz.func106, Tryz.ntmps106
  go_wp2
  go_ret
  exact ⟨rfl, rfl⟩
 ·have hmb : (m == 0) = false := by simpa using hm
  have hm0 : 0 < m := by omega
  by_cases hv : 0 ≤ v
  ·have H := Lib.hid (lifS_pos v m hm)
   clear hm
   go_enter Tryz.func106, Tryz.ntmps106
   go_wp2
   go_ret
   exact ⟨congrArg Ending.returned (u64_eq H.out.symm), rfl⟩
  ·have H := Lib.hid (lif_sub v m)
   have hv' : v < 0 := by omega
   have e1 := Lib.hid (show -(v + 1) + 1 = -v by omega)
   clear hv hm
   go_enter Tryz.func106, Tryz.ntmps106
   go_wp2_with fail
   rw [e1.out]
   refine (rsub_any _ _ _ _ (by omega) (by omega) (by omega) (by omega) (by omega) (by omega)).mono ?_
   rintro e w' ⟨rfl, rfl⟩
   go_wp2
   go_ret
   exact ⟨congrArg Ending.returned (u64_eq H.out), rfl⟩
end Go.Proofs.YtjikdbcjabopnaaGreatDoor
