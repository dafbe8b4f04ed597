import Derived.Test.YtkbcobjhlpjieaaGreatDoorRows
import Derived.Test.YtkbcobjhlpjieaaGreatDoorZ4
import Derived.Test.YtkbcobjhlpjieaaGreatDoorZWLen
import Derived.Deep.QuietTactic
import Derived.BigQuiet
import Derived.LoopTactic
import Derived.ProofKit
import Derived.Lib.Hide
namespace Go.Proofs.YtkbcobjhlpjieaaGreatDoor
open Go.RowKit
set_option linter.unusedVariables false
set_option maxRecDepth 100000
theorem halves_any (a : Int) (w : World) (h0 : 0 ≤ a) (h1 : a < 18446744073709551616) :
    Calls Tryz.prog 181 #[.int .u64 a] w fun e w' => e = .returned (.tuple #[.int .u64 (a / 4294967296), .int .u64 (a % 4294967296)]) ∧ w = w' := by
 go_enter Tryz.func181, Tryz.ntmps181
 go_wp2
 go_ret2
 exact ⟨rfl, rfl⟩
theorem joined_any (a b : Int) (w : World) (h0 : 0 ≤ a) (h1 : a < 18446744073709551616) (g0 : 0 ≤ b) (g1 : b < 18446744073709551616) :
    Calls Tryz.prog 182 #[.int .u64 a, .int .u64 b] w fun e w' => e = .returned (.int .u64 (a % 4294967296 * 4294967296 + b % 4294967296)) ∧ w = w' := by
 go_enter Tryz.func182, Tryz.ntmps182
 go_wp2
 go_ret
 exact ⟨congrArg Ending.returned (u64_eq (joined_arith a b)), rfl⟩
theorem zeros_any (x : Int) (w : World) (h0 : 0 ≤ x) (h1 : x < 18446744073709551616) :
    Calls Tryz.prog 180 #[.int .u64 x] w fun e w' => e = .returned (.int .i64 (64 - Lib.bitLen x.toNat)) ∧ w = w' := by
 have hb := bitLen64 x h0 h1
 go_enter Tryz.func180, Tryz.ntmps180
 go_wp2_with (go_at_call 157; refine (len64_any _ _ h0 h1).mono ?_; rintro e w' ⟨rfl, rfl⟩)
 go_ret
 exact ⟨rfl, rfl⟩
theorem wide_any (x y : Int) (w : World) (hx0 : 0 ≤ x) (hx : x < 18446744073709551616) (hy0 : 0 ≤ y) (hy : y < 18446744073709551616) :
    Calls Tryz.prog 176 #[.int .u64 x, .int .u64 y] w fun e w' => e = .returned (.tuple #[.int .u64 (x * y / 18446744073709551616), .int .u64 (x * y % 18446744073709551616)]) ∧ w = w' := by
 obtain ⟨A, B, C, D, rfl, rfl, rfl, rfl, a0, a1, b0, b1, c0, c1, d0, d1, hxy⟩ := wide_arith x y hx0 hx hy0 hy
 have H := Lib.hid hxy
 clear hxy
 go_enter Tryz.func176, Tryz.ntmps176
 go_wp2_with (first
  | (go_at_call 181; refine (halves_any _ _ (by omega) (by omega)).mono ?_; rintro e w' ⟨rfl, rfl⟩)
  | (go_at_call 182; refine (joined_any _ _ _ (by omega) (by omega) (by omega) (by omega)).mono ?_; rintro e w' ⟨rfl, rfl⟩))
 go_ret2
 refine ⟨congrArg Ending.returned (tup2 ?_ ?_), rfl⟩
 all_goals (rw [H.out]; omega)
theorem sub_any (a b m : Int) (w : World) (a0 : 0 ≤ a) (a1 : a < 18446744073709551616) (b0 : 0 ≤ b) (b1 : b < 18446744073709551616) (m0 : 0 ≤ m) (m1 : m < 18446744073709551616) :
    Calls Tryz.prog 168 #[.int .u64 a, .int .u64 b, .int .u64 m] w (Qt (.int .u64 (subS a b m)) w) := by
 by_cases hm : m = 0
 ·subst hm
  go_enter Tryz.func168, Tryz.ntmps168
  go_wp2
  go_ret
  exact Qt.mk0 _ _
 ·have hm0 : 0 < m := by omega
  have hmb : (m == 0) = false := by simpa using hm
  have r0 := Int.emod_nonneg a hm
  have r1 := Int.emod_lt_of_pos a hm0
  have s0 := Int.emod_nonneg b hm
  have s1 := Int.emod_lt_of_pos b hm0
  have H := Lib.hid (subS_pos (a := a) (b := b) hm)
  clear hm
  go_enter Tryz.func168, Tryz.ntmps168
  go_wp2
  go_quiet (fail)
  go_wp2
  all_goals
   go_ret
   refine Qt.eqN (u64_eq ?_)
   rw [H.out]
   first | exact sub_hi hm0 (by assumption) | exact sub_lo hm0 (by assumption)
theorem radd_any (a b m : Int) (w : World) (a0 : 0 ≤ a) (a1 : a < 18446744073709551616) (b0 : 0 ≤ b) (b1 : b < 18446744073709551616) (m0 : 0 ≤ m) (m1 : m < 18446744073709551616) :
    Calls Tryz.prog 152 #[.int .u64 a, .int .u64 b, .int .u64 m] w fun e w' => e = .returned (.int .u64 (addS a b m)) ∧ w = w' := by
 by_cases hm : m = 0
 ·subst hm
  go_enter Tryz.func152, Tryz.ntmps152
  go_wp2
  go_ret
  exact ⟨rfl, rfl⟩
 ·have hm0 : 0 < m := by omega
  have hmb : (m == 0) = false := by simpa using hm
  have r0 := Int.emod_nonneg a hm
  have r1 := Int.emod_lt_of_pos a hm0
  have s0 := Int.emod_nonneg b hm
  have s1 := Int.emod_lt_of_pos b hm0
  have H := Lib.hid (addS_pos (a := a) (b := b) hm)
  clear hm
  go_enter Tryz.func152, Tryz.ntmps152
  go_wp2
  all_goals
   go_ret
   refine ⟨congrArg Ending.returned (u64_eq ?_), rfl⟩
   rw [H.out, Int.add_comm a b]
   first | exact add_hi hm0 (by assumption) | (rw [Int.add_comm (a % m)]; exact add_lo hm0 (by omega))
set_option maxHeartbeats 1000000 in
theorem restHalf_any (r n m : Int) (w : World) (r0 : 0 ≤ r) (r1 : r < m) (n0 : 0 ≤ n) (n1 : n < 4294967296) (m0 : 9223372036854775808 ≤ m) (m1 : m < 18446744073709551616) :
    Calls Tryz.prog 183 #[.int .u64 r, .int .u64 n, .int .u64 m] w (Qt (.int .u64 ((r * 4294967296 + n) % m)) w) := by
 have hs := Lib.hid (half_start r n m r0 r1 n0 n1 m0 m1)
 have ht := half_guess r m r0 r1 m0 m1
 go_enter Tryz.func183, Tryz.ntmps183
 go_wp2_with (go_at_call 181; refine (halves_any _ _ (by omega) (by omega)).mono ?_; rintro e w' ⟨rfl, rfl⟩)
 go_quiet (fail)
 go_wp2
 go_loop [9, 10] (fun g l => ∃ G L : Int, g = .int .u64 G ∧ l = .int .u64 L ∧ HalfInv r n m G L) (fun g _ => (intOf g).toNat)
 case atStart => exact ⟨_, _, rfl, rfl, hs.out⟩
 case round =>
  obtain ⟨G, L, rfl, rfl, hinv⟩ := hrel
  obtain ⟨g0, g1, l0, l1, p0, p1⟩ := hinv.bounds m0 m1
  go_wp2_with (go_at_call 182; refine (joined_any _ _ _ (by omega) (by omega) (by omega) (by omega)).mono ?_; rintro e w' ⟨rfl, rfl⟩)
  ·rename_i hc hl
   have hg := hinv.pos (by omega)
   have hf := hinv.far m0 m1 (by omega) (by omega)
   go_ret
   refine Qt.eqN (u64_eq ?_)
   simp only [wrap64u]
   rw [show (G - 1) % 18446744073709551616 = G - 1 by omega]
   exact half_end (by omega) m1 hf _ _ (by omega) (Int.emod_emod _ _)
  ·rename_i hc hl
   have hg := hinv.pos (by omega)
   simp only [wrap64u]
   rw [show (G - 1) % 18446744073709551616 = G - 1 by omega]
   exact ⟨⟨_, _, rfl, rfl, hinv.next m0 m1 (by omega) (by omega)⟩, by simp [intOf]; omega⟩
  ·rename_i hc
   have hf := hinv.fits m0 (by omega)
   go_ret
   refine Qt.eqN (u64_eq ?_)
   simp only [wrap64u]
   exact half_end (by omega) m1 hf _ _ (by omega) (Int.emod_emod _ _)
set_option maxHeartbeats 1000000 in
theorem rest_any (h l m : Int) (w : World) (h0 : 0 ≤ h) (h1 : h < 18446744073709551616) (l0 : 0 ≤ l) (l1 : l < 18446744073709551616) (m0 : 0 < m) (m1 : m < 18446744073709551616) :
    Calls Tryz.prog 177 #[.int .u64 h, .int .u64 l, .int .u64 m] w (Qt (.int .u64 ((h * 18446744073709551616 + l) % m)) w) := by
 obtain ⟨s, hs, s63, t0, t1⟩ := shift_of m m0 m1
 have HS := Lib.hid hs
 clear hs
 have P0 := two_pow_pos s
 have P1 := two_pow_le63 (show s < 64 by omega)
 have k0 := Int.emod_nonneg h (show m ≠ 0 by omega)
 have k1 := Int.emod_lt_of_pos h m0
 by_cases hlt : m ≤ h
 ·by_cases hz : h % m = 0
  ·have HZ := Lib.hid hz
   have hzb : (h % m == 0) = true := by simpa using hz
   clear hz
   go_enter Tryz.func177, Tryz.ntmps177
   go_wp2
   go_ret
   exact Qt.eq0 (u64_eq (by rw [Int.add_emod, Int.mul_emod, HZ.out]; simp))
  ·have hzb : (h % m == 0) = false := by simpa using hz
   clear hz
   obtain ⟨hi, lo, e1, e2, i0, i1, j0, j1, q0, q1, e3⟩ := rest_arith (h % m) l m s k0 k1 l0 l1 m0 s63 t1
   have E1 := Lib.hid e1
   have E2 := Lib.hid e2
   have E3 := Lib.hid e3
   clear e1 e2 e3
   go_enter Tryz.func177, Tryz.ntmps177
   go_wp2_with fail
   refine (zeros_any _ _ (by omega) (by omega)).mono ?_
   rintro e w' ⟨rfl, rfl⟩
   rw [HS.out]
   go_wp2_with fail
   rw [E1.out, E2.out]
   refine (halves_any _ _ (by omega) (by omega)).mono ?_
   rintro e w' ⟨rfl, rfl⟩
   go_wp2_with fail
   refine (restHalf_any _ _ _ _ (by omega) (by omega) (by omega) (by omega) (by omega) (by omega)).mono ?_
   rintro e w' ⟨rfl, n1, rfl⟩
   go_wp2_with fail
   refine (restHalf_any _ _ _ _ (by omega) (by omega) (by omega) (by omega) (by omega) (by omega)).mono ?_
   rintro e w' ⟨rfl, n2, rfl⟩
   go_wp2
   go_ret
   exact Qt.eqN (u64_eq (E3.out.trans (by rw [Int.add_emod, Int.mul_emod, Int.emod_emod, ← Int.mul_emod, ← Int.add_emod])))
 ·by_cases hz : h = 0
  ·subst hz
   go_enter Tryz.func177, Tryz.ntmps177
   go_wp2
   go_ret
   exact Qt.eq0 (u64_eq (by simp))
  ·have hzb : (h == 0) = false := by simpa using hz
   clear hz
   obtain ⟨hi, lo, e1, e2, i0, i1, j0, j1, q0, q1, e3⟩ := rest_arith h l m s h0 (by omega) l0 l1 m0 s63 t1
   have E1 := Lib.hid e1
   have E2 := Lib.hid e2
   have E3 := Lib.hid e3
   clear e1 e2 e3
   go_enter Tryz.func177, Tryz.ntmps177
   go_wp2_with fail
   refine (zeros_any _ _ (by omega) (by omega)).mono ?_
   rintro e w' ⟨rfl, rfl⟩
   rw [HS.out]
   go_wp2_with fail
   rw [E1.out, E2.out]
   refine (halves_any _ _ (by omega) (by omega)).mono ?_
   rintro e w' ⟨rfl, rfl⟩
   go_wp2_with fail
   refine (restHalf_any _ _ _ _ (by omega) (by omega) (by omega) (by omega) (by omega) (by omega)).mono ?_
   rintro e w' ⟨rfl, n1, rfl⟩
   go_wp2_with fail
   refine (restHalf_any _ _ _ _ (by omega) (by omega) (by omega) (by omega) (by omega) (by omega)).mono ?_
   rintro e w' ⟨rfl, n2, rfl⟩
   go_wp2
   go_ret
   exact Qt.eqN (u64_eq E3.out)
theorem mul_any (a b m : Int) (w : World) (a0 : 0 ≤ a) (a1 : a < 18446744073709551616) (b0 : 0 ≤ b) (b1 : b < 18446744073709551616) (m0 : 0 ≤ m) (m1 : m < 18446744073709551616) :
    Calls Tryz.prog 167 #[.int .u64 a, .int .u64 b, .int .u64 m] w (Qt (.int .u64 (mulS a b m)) w) := by
 by_cases hm : m = 0
 ·subst hm
  go_enter Tryz.func167, Tryz.ntmps167
  go_wp2
  go_ret
  exact Qt.mk0 _ _
 ·have hm0 : 0 < m := by omega
  have hmb : (m == 0) = false := by simpa using hm
  have H := Lib.hid (mulS_pos (a := a) (b := b) hm)
  have p := wide_bounds a b a0 a1 b0 b1
  clear hm
  go_enter Tryz.func167, Tryz.ntmps167
  go_wp2_with fail
  refine (wide_any _ _ _ a0 a1 b0 b1).mono ?_
  rintro e w' ⟨rfl, rfl⟩
  go_wp2_with fail
  refine (rest_any _ _ _ _ (by omega) (by omega) (by omega) (by omega) hm0 m1).mono ?_
  rintro e w' ⟨rfl, n1, rfl⟩
  go_wp2
  go_ret
  exact Qt.eqN (u64_eq (by rw [H.out]; exact congrArg (· % m) (by omega)))
set_option maxHeartbeats 1000000 in
theorem rmul_any (a b m : Int) (w : World) (a0 : 0 ≤ a) (a1 : a < 18446744073709551616) (b0 : 0 ≤ b) (b1 : b < 18446744073709551616) (m0 : 0 ≤ m) (m1 : m < 18446744073709551616) :
    Calls Tryz.prog 134 #[.int .u64 a, .int .u64 b, .int .u64 m] w (Qt (.int .u64 (mulS a b m)) w) := by
 by_cases hm : m = 0
 ·subst hm
  go_enter Tryz.func134, Tryz.ntmps134
  go_wp2
  go_ret
  exact Qt.mk0 _ _
 ·have hm0 : 0 < m := by omega
  have hmb : (m == 0) = false := by simpa using hm
  have H := Lib.hid (mulS_pos (a := a) (b := b) hm)
  have r0 := Int.emod_nonneg a hm
  have r1 := Int.emod_lt_of_pos a hm0
  have s0 := Int.emod_nonneg b hm
  have s1 := Int.emod_lt_of_pos b hm0
  by_cases hs : a % m < 4294967296 ∧ b % m < 4294967296
  ·obtain ⟨hs1, hs2⟩ := hs
   have p := prod_bound (a % m) (b % m) r0 (by omega) s0 (by omega)
   have q0 := Int.emod_nonneg (a % m * (b % m)) hm
   have q1 := Int.emod_lt_of_pos (a % m * (b % m)) hm0
   clear hm
   go_enter Tryz.func134, Tryz.ntmps134
   go_wp2
   go_quiet (fail)
   go_wp2
   go_ret
   exact Qt.eqN (u64_eq (by rw [H.out, ← Int.mul_emod]))
  ·have hinit := Lib.hid (mulTo_zero a b m b0 b1)
   clear hm
   by_cases hs1 : a % m < 4294967296
   ·have hs2 : decide (b % m < 4294967296) = false := by simp; omega
    clear hs
    go_enter Tryz.func134, Tryz.ntmps134
    go_wp2
    go_loop [7, 8] (fun x i => ∃ k : Nat, k ≤ 64 ∧ i = .int .i64 k ∧ x = .int .u64 (mulTo a b m k)) (fun _ i => 64 - (intOf i).toNat)
    case atStart => exact ⟨0, by omega, rfl, by rw [hinit.out]⟩
    case round =>
     obtain ⟨k, hk, rfl, rfl⟩ := hrel
     have hx := mulTo_lt a b m k hm0
     by_cases hlt : k < 64
     ·have hz := bits_first_word b0 b1 hlt
      have ha := addS_lt (a := mulTo a b m k) (b := mulTo a b m k) hm0
      by_cases hb : b / 2 ^ (63 - k) % 2 = 1
      ·have hbit : (bits BinOp.and IntKind.u64 (b / 2 ^ (63 - k)) 1 == 1) = true := by rw [and_one _ hz.1 hz.2]; simpa using hb
       have HB := Lib.hid (mulTo_one a b m k hlt hm0 hb)
       clear hb
       go_wp2_with (go_at_call 152; refine (radd_any _ _ _ _ (by omega) (by omega) (by omega) (by omega) (by omega) (by omega)).mono ?_; rintro e w' ⟨rfl, rfl⟩)
       exact ⟨⟨k + 1, by omega, by go_num, u64_eq HB.out⟩, by simp [intOf]; omega⟩
      ·have hb0 : b / 2 ^ (63 - k) % 2 = 0 := by omega
       have hbit : (bits BinOp.and IntKind.u64 (b / 2 ^ (63 - k)) 1 == 1) = false := by rw [and_one _ hz.1 hz.2]; simpa using hb
       have HB := Lib.hid (mulTo_not a b m k hlt hm0 hb0)
       clear hb hb0
       go_wp2_with (go_at_call 152; refine (radd_any _ _ _ _ (by omega) (by omega) (by omega) (by omega) (by omega) (by omega)).mono ?_; rintro e w' ⟨rfl, rfl⟩)
       exact ⟨⟨k + 1, by omega, by go_num, u64_eq HB.out⟩, by simp [intOf]; omega⟩
     ·have hk64 : k = 64 := by omega
      subst hk64
      have HD := Lib.hid (mulTo_done a b m hm0)
      go_wp2
      go_ret
      exact Qt.eq0 (u64_eq HD.out)
   ·have hs2 : decide (a % m < 4294967296) = false := by simp; omega
    clear hs
    go_enter Tryz.func134, Tryz.ntmps134
    go_wp2
    go_loop [7, 8] (fun x i => ∃ k : Nat, k ≤ 64 ∧ i = .int .i64 k ∧ x = .int .u64 (mulTo a b m k)) (fun _ i => 64 - (intOf i).toNat)
    case atStart => exact ⟨0, by omega, rfl, by rw [hinit.out]⟩
    case round =>
     obtain ⟨k, hk, rfl, rfl⟩ := hrel
     have hx := mulTo_lt a b m k hm0
     by_cases hlt : k < 64
     ·have hz := bits_first_word b0 b1 hlt
      have ha := addS_lt (a := mulTo a b m k) (b := mulTo a b m k) hm0
      by_cases hb : b / 2 ^ (63 - k) % 2 = 1
      ·have hbit : (bits BinOp.and IntKind.u64 (b / 2 ^ (63 - k)) 1 == 1) = true := by rw [and_one _ hz.1 hz.2]; simpa using hb
       have HB := Lib.hid (mulTo_one a b m k hlt hm0 hb)
       clear hb
       go_wp2_with (go_at_call 152; refine (radd_any _ _ _ _ (by omega) (by omega) (by omega) (by omega) (by omega) (by omega)).mono ?_; rintro e w' ⟨rfl, rfl⟩)
       exact ⟨⟨k + 1, by omega, by go_num, u64_eq HB.out⟩, by simp [intOf]; omega⟩
      ·have hb0 : b / 2 ^ (63 - k) % 2 = 0 := by omega
       have hbit : (bits BinOp.and IntKind.u64 (b / 2 ^ (63 - k)) 1 == 1) = false := by rw [and_one _ hz.1 hz.2]; simpa using hb
       have HB := Lib.hid (mulTo_not a b m k hlt hm0 hb0)
       clear hb hb0
       go_wp2_with (go_at_call 152; refine (radd_any _ _ _ _ (by omega) (by omega) (by omega) (by omega) (by omega) (by omega)).mono ?_; rintro e w' ⟨rfl, rfl⟩)
       exact ⟨⟨k + 1, by omega, by go_num, u64_eq HB.out⟩, by simp [intOf]; omega⟩
     ·have hk64 : k = 64 := by omega
      subst hk64
      have HD := Lib.hid (mulTo_done a b m hm0)
      go_wp2
      go_ret
      exact Qt.eq0 (u64_eq HD.out)
set_option maxHeartbeats 1000000 in
theorem pow_any (a n m : Int) (w : World) (a0 : 0 ≤ a) (a1 : a < 18446744073709551616) (n0 : 0 ≤ n) (n1 : n < 18446744073709551616) (m0 : 0 ≤ m) (m1 : m < 18446744073709551616) :
    Calls Tryz.prog 162 #[.int .u64 a, .int .u64 n, .int .u64 m] w (Qt (.int .u64 (powS a n m)) w) := by
 by_cases hm : m = 0
 ·subst hm
  go_enter Tryz.func162, Tryz.ntmps162
  go_wp2
  go_ret
  exact Qt.mk0 _ _
 ·have hm0 : 0 < m := by omega
  have hmb : (m == 0) = false := by simpa using hm
  have o0 := Int.emod_nonneg 1 hm
  have o1 := Int.emod_lt_of_pos 1 hm0
  have hst := Lib.hid (powInv_start a n m a0 a1 n0 n1 hm0)
  clear hm
  go_enter Tryz.func162, Tryz.ntmps162
  go_wp2
  go_loopw [1, 7, 8] (fun nn p s W => ∃ (N P S : Int) (c : Nat), nn = .int .u64 N ∧ p = .int .u64 P ∧ s = .int .u64 S ∧ W = w.drewN c ∧ PowInv a n m N P S) (fun nn _ _ _ => (intOf nn).toNat)
  case atStart => exact ⟨n, 1 % m, a, 0, rfl, rfl, rfl, rfl, hst.out⟩
  case round =>
   obtain ⟨N, P, S, c, rfl, rfl, rfl, rfl, hinv⟩ := hrel
   obtain ⟨N0, N1, P0, P1, S0, S1⟩ := hinv.bounds m1
   by_cases hN : 0 < N
   ·have hq := mulS_lt (a := S) (b := S) hm0
    have hp := mulS_lt (a := P) (b := S) hm0
    by_cases hb : N % 2 = 1
    ·have hbit : (bits BinOp.and IntKind.u64 N 1 == 1) = true := by rw [and_one _ N0 N1]; simpa using hb
     have HB := Lib.hid (hinv.odd hm0 m1 hb)
     clear hb
     go_wp2_with (go_at_call 167; refine (mul_any _ _ _ _ (by omega) (by omega) (by omega) (by omega) (by omega) (by omega)).mono ?_; rintro e w' ⟨rfl, c1, rfl⟩)
     exact ⟨⟨_, _, _, _, rfl, rfl, rfl, rfl, HB.out⟩, by simp [intOf]; omega⟩
    ·have hb0 : N % 2 = 0 := by omega
     have hbit : (bits BinOp.and IntKind.u64 N 1 == 1) = false := by rw [and_one _ N0 N1]; simpa using hb
     have HB := Lib.hid (hinv.even hm0 m1 hb0)
     clear hb hb0
     go_wp2_with (go_at_call 167; refine (mul_any _ _ _ _ (by omega) (by omega) (by omega) (by omega) (by omega) (by omega)).mono ?_; rintro e w' ⟨rfl, c1, rfl⟩)
     exact ⟨⟨_, _, _, _, rfl, rfl, rfl, rfl, HB.out⟩, by simp [intOf]; omega⟩
   ·have HD := Lib.hid (hinv.done hm0 (by omega))
    go_wp2
    go_ret
    exact Qt.eqN (u64_eq HD.out)
set_option maxHeartbeats 1000000 in
theorem rpow_any (a n m : Int) (w : World) (a0 : 0 ≤ a) (a1 : a < 18446744073709551616) (n0 : 0 ≤ n) (n1 : n < 18446744073709551616) (m0 : 0 ≤ m) (m1 : m < 18446744073709551616) :
    Calls Tryz.prog 133 #[.int .u64 a, .int .u64 n, .int .u64 m] w (Qt (.int .u64 (powS a n m)) w) := by
 by_cases hm : m = 0
 ·subst hm
  go_enter Tryz.func133, Tryz.ntmps133
  go_wp2
  go_ret
  exact Qt.mk0 _ _
 ·have hm0 : 0 < m := by omega
  have hmb : (m == 0) = false := by simpa using hm
  have o0 := Int.emod_nonneg 1 hm
  have o1 := Int.emod_lt_of_pos 1 hm0
  have hinit := Lib.hid (powTo_zero a n m n0 n1)
  clear hm
  go_enter Tryz.func133, Tryz.ntmps133
  go_wp2
  go_loopw [7, 8] (fun x i W => ∃ (k c : Nat), k ≤ 64 ∧ i = .int .i64 k ∧ x = .int .u64 (powTo a n m k) ∧ W = w.drewN c) (fun _ i _ => 64 - (intOf i).toNat)
  case atStart => exact ⟨0, 0, by omega, rfl, by rw [hinit.out], rfl⟩
  case round =>
   obtain ⟨k, c, hk, rfl, rfl, rfl⟩ := hrel
   have hx := powTo_lt a n m k hm0
   by_cases hlt : k < 64
   ·have hz := bits_first_word n0 n1 hlt
    have ha := mulS_lt (a := powTo a n m k) (b := powTo a n m k) hm0
    by_cases hb : n / 2 ^ (63 - k) % 2 = 1
    ·have hbit : (bits BinOp.and IntKind.u64 (n / 2 ^ (63 - k)) 1 == 1) = true := by rw [and_one _ hz.1 hz.2]; simpa using hb
     have HB := Lib.hid (powTo_one a n m k hlt hm0 n0 hb)
     clear hb
     go_wp2_with (go_at_call 134; refine (rmul_any _ _ _ _ (by omega) (by omega) (by omega) (by omega) (by omega) (by omega)).mono ?_; rintro e w' ⟨rfl, c1, rfl⟩)
     exact ⟨⟨k + 1, _, by omega, by go_num, u64_eq HB.out, rfl⟩, by simp [intOf]; omega⟩
    ·have hb0 : n / 2 ^ (63 - k) % 2 = 0 := by omega
     have hbit : (bits BinOp.and IntKind.u64 (n / 2 ^ (63 - k)) 1 == 1) = false := by rw [and_one _ hz.1 hz.2]; simpa using hb
     have HB := Lib.hid (powTo_not a n m k hlt hm0 n0 hb0)
     clear hb hb0
     go_wp2_with (go_at_call 134; refine (rmul_any _ _ _ _ (by omega) (by omega) (by omega) (by omega) (by omega) (by omega)).mono ?_; rintro e w' ⟨rfl, c1, rfl⟩)
     exact ⟨⟨k + 1, _, by omega, by go_num, u64_eq HB.out, rfl⟩, by simp [intOf]; omega⟩
   ·have hk64 : k = 64 := by omega
    subst hk64
    have HD := Lib.hid (powTo_done a n m hm0)
    go_wp2
    go_ret
    exact Qt.eqN (u64_eq HD.out)
theorem nhalves_any (a : Int) (w : World) (h0 : 0 ≤ a) (h1 : a < 18446744073709551616) :
    Calls Tryz.prog 185 #[.int .u64 a] w fun e w' => e = .returned (.tuple #[.int .u64 (a / 4294967296), .int .u64 (a % 4294967296)]) ∧ w = w' := by
 go_enter Tryz.func185, Tryz.ntmps185
 go_wp2
 go_ret2
 exact ⟨rfl, rfl⟩
theorem njoined_any (a b : Int) (w : World) (h0 : 0 ≤ a) (h1 : a < 18446744073709551616) (g0 : 0 ≤ b) (g1 : b < 18446744073709551616) :
    Calls Tryz.prog 186 #[.int .u64 a, .int .u64 b] w fun e w' => e = .returned (.int .u64 (a % 4294967296 * 4294967296 + b % 4294967296)) ∧ w = w' := by
 go_enter Tryz.func186, Tryz.ntmps186
 go_wp2
 go_ret
 exact ⟨congrArg Ending.returned (u64_eq (joined_arith a b)), rfl⟩
theorem mulWord_any (x y m c : Int) (w : World) (hx0 : 0 ≤ x) (hx : x < 18446744073709551616) (hy0 : 0 ≤ y) (hy : y < 18446744073709551616) (m0 : 0 ≤ m) (m1 : m < 18446744073709551616) (c0 : 0 ≤ c) (c1 : c < 18446744073709551616) :
    Calls Tryz.prog 184 #[.int .u64 x, .int .u64 y, .int .u64 m, .int .u64 c] w fun e w' => e = .returned (.tuple #[.int .u64 ((x * y + m + c) % 18446744073709551616), .int .u64 ((x * y + m + c) / 18446744073709551616)]) ∧ w = w' := by
 obtain ⟨A, B, C, D, rfl, rfl, rfl, rfl, a0, a1, b0, b1, d0, d1, e0, e1, hxy⟩ := wide_arith x y hx0 hx hy0 hy
 have H := Lib.hid hxy
 clear hxy
 go_enter Tryz.func184, Tryz.ntmps184
 go_wp2_with (first
  | (go_at_call 185; refine (nhalves_any _ _ (by omega) (by omega)).mono ?_; rintro e w' ⟨rfl, rfl⟩)
  | (go_at_call 186; refine (njoined_any _ _ _ (by omega) (by omega) (by omega) (by omega)).mono ?_; rintro e w' ⟨rfl, rfl⟩))
 go_ret2
 refine ⟨congrArg Ending.returned (tup2 ?_ ?_), rfl⟩
 all_goals (rw [H.out]; omega)
end Go.Proofs.YtkbcobjhlpjieaaGreatDoor
