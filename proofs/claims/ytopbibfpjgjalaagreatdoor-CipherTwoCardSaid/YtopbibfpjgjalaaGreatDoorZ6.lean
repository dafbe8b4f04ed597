import Derived.Test.YtopbibfpjgjalaaGreatDoorRows
import Derived.Test.YtopbibfpjgjalaaGreatDoorZ1
import Derived.Test.YtopbibfpjgjalaaGreatDoorZWLen
import Derived.Deep.QuietTactic
import Derived.BigQuiet
import Derived.LoopTactic
import Derived.ProofKit
import Derived.Lib.Hide
namespace Go.Proofs.YtopbibfpjgjalaaGreatDoor
open Go.RowKit
set_option linter.unusedVariables false
set_option maxRecDepth 100000
theorem zc7 (a : Int) (w : World) (h0 : 0 ≤ a) (h1 : a < 18446744073709551616) :
    Calls Tryz.prog 287 #[.int .u64 a] w fun e w' => e = .returned (.tuple #[.int .u64 (a / 4294967296), .int .u64 (a % 4294967296)]) ∧ w = w' := by
 go_enter Tryz.func287, Tryz.ntmps287
 go_wp2
 go_ret2
 exact ⟨rfl, rfl⟩
theorem zgt (a b : Int) (w : World) (h0 : 0 ≤ a) (h1 : a < 18446744073709551616) (g0 : 0 ≤ b) (g1 : b < 18446744073709551616) :
    Calls Tryz.prog 288 #[.int .u64 a, .int .u64 b] w fun e w' => e = .returned (.int .u64 (a % 4294967296 * 4294967296 + b % 4294967296)) ∧ w = w' := by
 go_enter Tryz.func288, Tryz.ntmps288
 go_wp2
 go_ret
 exact ⟨congrArg Ending.returned (zar (zey a b)), rfl⟩
theorem zcg (x : Int) (w : World) (h0 : 0 ≤ x) (h1 : x < 18446744073709551616) :
    Calls Tryz.prog 238 #[.int .u64 x] w fun e w' => e = .returned (.int .i64 (64 - Lib.bitLen x.toNat)) ∧ w = w' := by
 have hb := zm5 x h0 h1
 go_enter Tryz.func238, Tryz.ntmps238
 go_wp2_with (go_at_call 262; refine (zjl _ _ h0 h1).mono ?_; rintro e w' ⟨rfl, rfl⟩)
 go_ret
 exact ⟨rfl, rfl⟩
theorem zur (x y : Int) (w : World) (hx0 : 0 ≤ x) (hx : x < 18446744073709551616) (hy0 : 0 ≤ y) (hy : y < 18446744073709551616) :
    Calls Tryz.prog 278 #[.int .u64 x, .int .u64 y] w fun e w' => e = .returned (.tuple #[.int .u64 (x * y / 18446744073709551616), .int .u64 (x * y % 18446744073709551616)]) ∧ w = w' := by
 obtain ⟨A, B, C, D, rfl, rfl, rfl, rfl, a0, a1, b0, b1, c0, c1, d0, d1, hxy⟩ := zeo x y hx0 hx hy0 hy
 have H := Lib.hid hxy
 clear hxy
 go_enter Tryz.func278, Tryz.ntmps278
 go_wp2_with (first
  | (go_at_call 287; refine (zc7 _ _ (by omega) (by omega)).mono ?_; rintro e w' ⟨rfl, rfl⟩)
  | (go_at_call 288; refine (zgt _ _ _ (by omega) (by omega) (by omega) (by omega)).mono ?_; rintro e w' ⟨rfl, rfl⟩))
 go_ret2
 refine ⟨congrArg Ending.returned (tup2 ?_ ?_), rfl⟩
 all_goals (rw [H.out]; omega)
theorem zpp (a b m : Int) (w : World) (a0 : 0 ≤ a) (a1 : a < 18446744073709551616) (b0 : 0 ≤ b) (b1 : b < 18446744073709551616) (m0 : 0 ≤ m) (m1 : m < 18446744073709551616) :
    Calls Tryz.prog 227 #[.int .u64 a, .int .u64 b, .int .u64 m] w (Qt (.int .u64 (addS a b m)) w) := by
 by_cases hm : m = 0
 ·subst hm
  go_enter Tryz.func227, Tryz.ntmps227
  go_wp2
  go_ret
  exact Qt.mk0 _ _
 ·have hm0 : 0 < m := by omega
  have hmb : (m == 0) = false := by simpa using hm
  have r0 := Int.emod_nonneg a hm
  have r1 := Int.emod_lt_of_pos a hm0
  have s0 := Int.emod_nonneg b hm
  have s1 := Int.emod_lt_of_pos b hm0
  have H := Lib.hid (ze8 (a := a) (b := b) hm)
  clear hm
  go_enter Tryz.func227, Tryz.ntmps227
  go_wp2
  go_quiet (fail)
  go_wp2
  all_goals
   go_ret
   refine Qt.eqN (zar ?_)
   rw [H.out]
   first | exact zxh hm0 (by assumption) | exact zw4 hm0 (by assumption)
theorem zkb (a b m : Int) (w : World) (a0 : 0 ≤ a) (a1 : a < 18446744073709551616) (b0 : 0 ≤ b) (b1 : b < 18446744073709551616) (m0 : 0 ≤ m) (m1 : m < 18446744073709551616) :
    Calls Tryz.prog 179 #[.int .u64 a, .int .u64 b, .int .u64 m] w (Qt (.int .u64 (subS a b m)) w) := by
 by_cases hm : m = 0
 ·subst hm
  go_enter Tryz.func179, Tryz.ntmps179
  go_wp2
  go_ret
  exact Qt.mk0 _ _
 ·have hm0 : 0 < m := by omega
  have hmb : (m == 0) = false := by simpa using hm
  have r0 := Int.emod_nonneg a hm
  have r1 := Int.emod_lt_of_pos a hm0
  have s0 := Int.emod_nonneg b hm
  have s1 := Int.emod_lt_of_pos b hm0
  have H := Lib.hid (ze7 (a := a) (b := b) hm)
  clear hm
  go_enter Tryz.func179, Tryz.ntmps179
  go_wp2
  go_quiet (fail)
  go_wp2
  all_goals
   go_ret
   refine Qt.eqN (zar ?_)
   rw [H.out]
   first | exact z1f hm0 (by assumption) | exact z1v hm0 (by assumption)
theorem ze9 (a b m : Int) (w : World) (a0 : 0 ≤ a) (a1 : a < 18446744073709551616) (b0 : 0 ≤ b) (b1 : b < 18446744073709551616) (m0 : 0 ≤ m) (m1 : m < 18446744073709551616) :
    Calls Tryz.prog 194 #[.int .u64 a, .int .u64 b, .int .u64 m] w fun e w' => e = .returned (.int .u64 (addS a b m)) ∧ w = w' := by
 by_cases hm : m = 0
 ·subst hm
  go_enter Tryz.func194, Tryz.ntmps194
  go_wp2
  go_ret
  exact ⟨rfl, rfl⟩
 ·have hm0 : 0 < m := by omega
  have hmb : (m == 0) = false := by simpa using hm
  have r0 := Int.emod_nonneg a hm
  have r1 := Int.emod_lt_of_pos a hm0
  have s0 := Int.emod_nonneg b hm
  have s1 := Int.emod_lt_of_pos b hm0
  have H := Lib.hid (ze8 (a := a) (b := b) hm)
  clear hm
  go_enter Tryz.func194, Tryz.ntmps194
  go_wp2
  all_goals
   go_ret
   refine ⟨congrArg Ending.returned (zar ?_), rfl⟩
   rw [H.out, Int.add_comm a b]
   first | exact zxh hm0 (by assumption) | (rw [Int.add_comm (a % m)]; exact zw4 hm0 (by omega))
set_option maxHeartbeats 1000000 in
theorem zb3 (r n m : Int) (w : World) (r0 : 0 ≤ r) (r1 : r < m) (n0 : 0 ≤ n) (n1 : n < 4294967296) (m0 : 9223372036854775808 ≤ m) (m1 : m < 18446744073709551616) :
    Calls Tryz.prog 289 #[.int .u64 r, .int .u64 n, .int .u64 m] w (Qt (.int .u64 ((r * 4294967296 + n) % m)) w) := by
 have hs := Lib.hid (zde r n m r0 r1 n0 n1 m0 m1)
 have ht := zb8 r m r0 r1 m0 m1
 go_enter Tryz.func289, Tryz.ntmps289
 go_wp2_with (go_at_call 287; refine (zc7 _ _ (by omega) (by omega)).mono ?_; rintro e w' ⟨rfl, rfl⟩)
 go_quiet (fail)
 go_wp2
 go_loop [9, 10] (fun g l => ∃ G L : Int, g = .int .u64 G ∧ l = .int .u64 L ∧ HalfInv r n m G L) (fun g _ => (intOf g).toNat)
 case atStart => exact ⟨_, _, rfl, rfl, hs.out⟩
 case round =>
  obtain ⟨G, L, rfl, rfl, hinv⟩ := hrel
  obtain ⟨g0, g1, l0, l1, p0, p1⟩ := hinv.bounds m0 m1
  go_wp2_with (go_at_call 288; refine (zgt _ _ _ (by omega) (by omega) (by omega) (by omega)).mono ?_; rintro e w' ⟨rfl, rfl⟩)
  ·rename_i hc hl
   have hg := hinv.pos (by omega)
   have hf := hinv.far m0 m1 (by omega) (by omega)
   go_ret
   refine Qt.eqN (zar ?_)
   simp only [zav]
   rw [show (G - 1) % 18446744073709551616 = G - 1 by omega]
   exact zdz (by omega) m1 hf _ _ (by omega) (Int.emod_emod _ _)
  ·rename_i hc hl
   have hg := hinv.pos (by omega)
   simp only [zav]
   rw [show (G - 1) % 18446744073709551616 = G - 1 by omega]
   exact ⟨⟨_, _, rfl, rfl, hinv.next m0 m1 (by omega) (by omega)⟩, by simp [intOf]; omega⟩
  ·rename_i hc
   have hf := hinv.fits m0 (by omega)
   go_ret
   refine Qt.eqN (zar ?_)
   simp only [zav]
   exact zdz (by omega) m1 hf _ _ (by omega) (Int.emod_emod _ _)
set_option maxHeartbeats 1000000 in
theorem zuo (h l m : Int) (w : World) (h0 : 0 ≤ h) (h1 : h < 18446744073709551616) (l0 : 0 ≤ l) (l1 : l < 18446744073709551616) (m0 : 0 < m) (m1 : m < 18446744073709551616) :
    Calls Tryz.prog 279 #[.int .u64 h, .int .u64 l, .int .u64 m] w (Qt (.int .u64 ((h * 18446744073709551616 + l) % m)) w) := by
 obtain ⟨s, hs, s63, t0, t1⟩ := zfa m m0 m1
 have HS := Lib.hid hs
 clear hs
 have P0 := two_pow_pos s
 have P1 := zby (show s < 64 by omega)
 have k0 := Int.emod_nonneg h (show m ≠ 0 by omega)
 have k1 := Int.emod_lt_of_pos h m0
 by_cases hlt : m ≤ h
 ·by_cases hz : h % m = 0
  ·have HZ := Lib.hid hz
   have hzb : (h % m == 0) = true := by simpa using hz
   clear hz
   go_enter Tryz.func279, Tryz.ntmps279
   go_wp2
   go_ret
   exact Qt.eq0 (zar (by rw [Int.add_emod, Int.mul_emod, HZ.out]; simp))
  ·have hzb : (h % m == 0) = false := by simpa using hz
   clear hz
   obtain ⟨hi, lo, e1, e2, i0, i1, j0, j1, q0, q1, e3⟩ := zdc (h % m) l m s k0 k1 l0 l1 m0 s63 t1
   have E1 := Lib.hid e1
   have E2 := Lib.hid e2
   have E3 := Lib.hid e3
   clear e1 e2 e3
   go_enter Tryz.func279, Tryz.ntmps279
   go_wp2_with fail
   refine (zcg _ _ (by omega) (by omega)).mono ?_
   rintro e w' ⟨rfl, rfl⟩
   rw [HS.out]
   go_wp2_with fail
   rw [E1.out, E2.out]
   refine (zc7 _ _ (by omega) (by omega)).mono ?_
   rintro e w' ⟨rfl, rfl⟩
   go_wp2_with fail
   refine (zb3 _ _ _ _ (by omega) (by omega) (by omega) (by omega) (by omega) (by omega)).mono ?_
   rintro e w' ⟨rfl, n1, rfl⟩
   go_wp2_with fail
   refine (zb3 _ _ _ _ (by omega) (by omega) (by omega) (by omega) (by omega) (by omega)).mono ?_
   rintro e w' ⟨rfl, n2, rfl⟩
   go_wp2
   go_ret
   exact Qt.eqN (zar (E3.out.trans (by rw [Int.add_emod, Int.mul_emod, Int.emod_emod, ← Int.mul_emod, ← Int.add_emod])))
 ·by_cases hz : h = 0
  ·subst hz
   go_enter Tryz.func279, Tryz.ntmps279
   go_wp2
   go_ret
   exact Qt.eq0 (zar (by simp))
  ·have hzb : (h == 0) = false := by simpa using hz
   clear hz
   obtain ⟨hi, lo, e1, e2, i0, i1, j0, j1, q0, q1, e3⟩ := zdc h l m s h0 (by omega) l0 l1 m0 s63 t1
   have E1 := Lib.hid e1
   have E2 := Lib.hid e2
   have E3 := Lib.hid e3
   clear e1 e2 e3
   go_enter Tryz.func279, Tryz.ntmps279
   go_wp2_with fail
   refine (zcg _ _ (by omega) (by omega)).mono ?_
   rintro e w' ⟨rfl, rfl⟩
   rw [HS.out]
   go_wp2_with fail
   rw [E1.out, E2.out]
   refine (zc7 _ _ (by omega) (by omega)).mono ?_
   rintro e w' ⟨rfl, rfl⟩
   go_wp2_with fail
   refine (zb3 _ _ _ _ (by omega) (by omega) (by omega) (by omega) (by omega) (by omega)).mono ?_
   rintro e w' ⟨rfl, n1, rfl⟩
   go_wp2_with fail
   refine (zb3 _ _ _ _ (by omega) (by omega) (by omega) (by omega) (by omega) (by omega)).mono ?_
   rintro e w' ⟨rfl, n2, rfl⟩
   go_wp2
   go_ret
   exact Qt.eqN (zar E3.out)
theorem zhv (a b m : Int) (w : World) (a0 : 0 ≤ a) (a1 : a < 18446744073709551616) (b0 : 0 ≤ b) (b1 : b < 18446744073709551616) (m0 : 0 ≤ m) (m1 : m < 18446744073709551616) :
    Calls Tryz.prog 254 #[.int .u64 a, .int .u64 b, .int .u64 m] w (Qt (.int .u64 (mulS a b m)) w) := by
 by_cases hm : m = 0
 ·subst hm
  go_enter Tryz.func254, Tryz.ntmps254
  go_wp2
  go_ret
  exact Qt.mk0 _ _
 ·have hm0 : 0 < m := by omega
  have hmb : (m == 0) = false := by simpa using hm
  have H := Lib.hid (zb0 (a := a) (b := b) hm)
  have p := zlc a b a0 a1 b0 b1
  clear hm
  go_enter Tryz.func254, Tryz.ntmps254
  go_wp2_with fail
  refine (zur _ _ _ a0 a1 b0 b1).mono ?_
  rintro e w' ⟨rfl, rfl⟩
  go_wp2_with fail
  refine (zuo _ _ _ _ (by omega) (by omega) (by omega) (by omega) hm0 m1).mono ?_
  rintro e w' ⟨rfl, n1, rfl⟩
  go_wp2
  go_ret
  exact Qt.eqN (zar (by rw [H.out]; exact congrArg (· % m) (by omega)))
set_option maxHeartbeats 1000000 in
theorem zhs (a b m : Int) (w : World) (a0 : 0 ≤ a) (a1 : a < 18446744073709551616) (b0 : 0 ≤ b) (b1 : b < 18446744073709551616) (m0 : 0 ≤ m) (m1 : m < 18446744073709551616) :
    Calls Tryz.prog 202 #[.int .u64 a, .int .u64 b, .int .u64 m] w (Qt (.int .u64 (mulS a b m)) w) := by
 by_cases hm : m = 0
 ·subst hm
  go_enter Tryz.func202, Tryz.ntmps202
  go_wp2
  go_ret
  exact Qt.mk0 _ _
 ·have hm0 : 0 < m := by omega
  have hmb : (m == 0) = false := by simpa using hm
  have H := Lib.hid (zb0 (a := a) (b := b) hm)
  have r0 := Int.emod_nonneg a hm
  have r1 := Int.emod_lt_of_pos a hm0
  have s0 := Int.emod_nonneg b hm
  have s1 := Int.emod_lt_of_pos b hm0
  by_cases hs : a % m < 4294967296 ∧ b % m < 4294967296
  ·obtain ⟨hs1, hs2⟩ := hs
   have p := prod_bound (a % m) (b % m) r0 (by omega) s0 (by omega)
   have q0 := Int.emod_nonneg (a % m * (b % m)) hm
   have q1 := Int.emod_lt_of_pos (a % m * (b % m)) hm0
   clear hm
   go_enter Tryz.func202, Tryz.ntmps202
   go_wp2
   go_quiet (fail)
   go_wp2
   go_ret
   exact Qt.eqN (zar (by rw [H.out, ← Int.mul_emod]))
  ·have hinit := Lib.hid (znx a b m b0 b1)
   clear hm
   by_cases hs1 : a % m < 4294967296
   ·have hs2 : decide (b % m < 4294967296) = false := by simp; omega
    clear hs
    go_enter Tryz.func202, Tryz.ntmps202
    go_wp2
    go_loop [7, 8] (fun x i => ∃ k : Nat, k ≤ 64 ∧ i = .int .i64 k ∧ x = .int .u64 (mulTo a b m k)) (fun _ i => 64 - (intOf i).toNat)
    case atStart => exact ⟨0, by omega, rfl, by rw [hinit.out]⟩
    case round =>
     obtain ⟨k, hk, rfl, rfl⟩ := hrel
     have hx := zm9 a b m k hm0
     by_cases hlt : k < 64
     ·have hz := zbp b0 b1 hlt
      have ha := zqp (a := mulTo a b m k) (b := mulTo a b m k) hm0
      by_cases hb : b / 2 ^ (63 - k) % 2 = 1
      ·have hbit : (bits BinOp.and IntKind.u64 (b / 2 ^ (63 - k)) 1 == 1) = true := by rw [zcz _ hz.1 hz.2]; simpa using hb
       have HB := Lib.hid (zip a b m k hlt hm0 hb)
       clear hb
       go_wp2_with (go_at_call 194; refine (ze9 _ _ _ _ (by omega) (by omega) (by omega) (by omega) (by omega) (by omega)).mono ?_; rintro e w' ⟨rfl, rfl⟩)
       exact ⟨⟨k + 1, by omega, by go_num, zar HB.out⟩, by simp [intOf]; omega⟩
      ·have hb0 : b / 2 ^ (63 - k) % 2 = 0 := by omega
       have hbit : (bits BinOp.and IntKind.u64 (b / 2 ^ (63 - k)) 1 == 1) = false := by rw [zcz _ hz.1 hz.2]; simpa using hb
       have HB := Lib.hid (zjm a b m k hlt hm0 hb0)
       clear hb hb0
       go_wp2_with (go_at_call 194; refine (ze9 _ _ _ _ (by omega) (by omega) (by omega) (by omega) (by omega) (by omega)).mono ?_; rintro e w' ⟨rfl, rfl⟩)
       exact ⟨⟨k + 1, by omega, by go_num, zar HB.out⟩, by simp [intOf]; omega⟩
     ·have hk64 : k = 64 := by omega
      subst hk64
      have HD := Lib.hid (zg6 a b m hm0)
      go_wp2
      go_ret
      exact Qt.eq0 (zar HD.out)
   ·have hs2 : decide (a % m < 4294967296) = false := by simp; omega
    clear hs
    go_enter Tryz.func202, Tryz.ntmps202
    go_wp2
    go_loop [7, 8] (fun x i => ∃ k : Nat, k ≤ 64 ∧ i = .int .i64 k ∧ x = .int .u64 (mulTo a b m k)) (fun _ i => 64 - (intOf i).toNat)
    case atStart => exact ⟨0, by omega, rfl, by rw [hinit.out]⟩
    case round =>
     obtain ⟨k, hk, rfl, rfl⟩ := hrel
     have hx := zm9 a b m k hm0
     by_cases hlt : k < 64
     ·have hz := zbp b0 b1 hlt
      have ha := zqp (a := mulTo a b m k) (b := mulTo a b m k) hm0
      by_cases hb : b / 2 ^ (63 - k) % 2 = 1
      ·have hbit : (bits BinOp.and IntKind.u64 (b / 2 ^ (63 - k)) 1 == 1) = true := by rw [zcz _ hz.1 hz.2]; simpa using hb
       have HB := Lib.hid (zip a b m k hlt hm0 hb)
       clear hb
       go_wp2_with (go_at_call 194; refine (ze9 _ _ _ _ (by omega) (by omega) (by omega) (by omega) (by omega) (by omega)).mono ?_; rintro e w' ⟨rfl, rfl⟩)
       exact ⟨⟨k + 1, by omega, by go_num, zar HB.out⟩, by simp [intOf]; omega⟩
      ·have hb0 : b / 2 ^ (63 - k) % 2 = 0 := by omega
       have hbit : (bits BinOp.and IntKind.u64 (b / 2 ^ (63 - k)) 1 == 1) = false := by rw [zcz _ hz.1 hz.2]; simpa using hb
       have HB := Lib.hid (zjm a b m k hlt hm0 hb0)
       clear hb hb0
       go_wp2_with (go_at_call 194; refine (ze9 _ _ _ _ (by omega) (by omega) (by omega) (by omega) (by omega) (by omega)).mono ?_; rintro e w' ⟨rfl, rfl⟩)
       exact ⟨⟨k + 1, by omega, by go_num, zar HB.out⟩, by simp [intOf]; omega⟩
     ·have hk64 : k = 64 := by omega
      subst hk64
      have HD := Lib.hid (zg6 a b m hm0)
      go_wp2
      go_ret
      exact Qt.eq0 (zar HD.out)
set_option maxHeartbeats 1000000 in
theorem zzm (a n m : Int) (w : World) (a0 : 0 ≤ a) (a1 : a < 18446744073709551616) (n0 : 0 ≤ n) (n1 : n < 18446744073709551616) (m0 : 0 ≤ m) (m1 : m < 18446744073709551616) :
    Calls Tryz.prog 249 #[.int .u64 a, .int .u64 n, .int .u64 m] w (Qt (.int .u64 (powS a n m)) w) := by
 by_cases hm : m = 0
 ·subst hm
  go_enter Tryz.func249, Tryz.ntmps249
  go_wp2
  go_ret
  exact Qt.mk0 _ _
 ·have hm0 : 0 < m := by omega
  have hmb : (m == 0) = false := by simpa using hm
  have o0 := Int.emod_nonneg 1 hm
  have o1 := Int.emod_lt_of_pos 1 hm0
  have hst := Lib.hid (zj2 a n m a0 a1 n0 n1 hm0)
  clear hm
  go_enter Tryz.func249, Tryz.ntmps249
  go_wp2
  go_loopw [1, 7, 8] (fun nn p s W => ∃ (N P S : Int) (c : Nat), nn = .int .u64 N ∧ p = .int .u64 P ∧ s = .int .u64 S ∧ W = w.drewN c ∧ PowInv a n m N P S) (fun nn _ _ _ => (intOf nn).toNat)
  case atStart => exact ⟨n, 1 % m, a, 0, rfl, rfl, rfl, rfl, hst.out⟩
  case round =>
   obtain ⟨N, P, S, c, rfl, rfl, rfl, rfl, hinv⟩ := hrel
   obtain ⟨N0, N1, P0, P1, S0, S1⟩ := hinv.bounds m1
   by_cases hN : 0 < N
   ·have hq := zev (a := S) (b := S) hm0
    have hp := zev (a := P) (b := S) hm0
    by_cases hb : N % 2 = 1
    ·have hbit : (bits BinOp.and IntKind.u64 N 1 == 1) = true := by rw [zcz _ N0 N1]; simpa using hb
     have HB := Lib.hid (hinv.odd hm0 m1 hb)
     clear hb
     go_wp2_with (go_at_call 254; refine (zhv _ _ _ _ (by omega) (by omega) (by omega) (by omega) (by omega) (by omega)).mono ?_; rintro e w' ⟨rfl, c1, rfl⟩)
     exact ⟨⟨_, _, _, _, rfl, rfl, rfl, rfl, HB.out⟩, by simp [intOf]; omega⟩
    ·have hb0 : N % 2 = 0 := by omega
     have hbit : (bits BinOp.and IntKind.u64 N 1 == 1) = false := by rw [zcz _ N0 N1]; simpa using hb
     have HB := Lib.hid (hinv.even hm0 m1 hb0)
     clear hb hb0
     go_wp2_with (go_at_call 254; refine (zhv _ _ _ _ (by omega) (by omega) (by omega) (by omega) (by omega) (by omega)).mono ?_; rintro e w' ⟨rfl, c1, rfl⟩)
     exact ⟨⟨_, _, _, _, rfl, rfl, rfl, rfl, HB.out⟩, by simp [intOf]; omega⟩
   ·have HD := Lib.hid (hinv.done hm0 (by omega))
    go_wp2
    go_ret
    exact Qt.eqN (zar HD.out)
set_option maxHeartbeats 1000000 in
theorem zwc (a n m : Int) (w : World) (a0 : 0 ≤ a) (a1 : a < 18446744073709551616) (n0 : 0 ≤ n) (n1 : n < 18446744073709551616) (m0 : 0 ≤ m) (m1 : m < 18446744073709551616) :
    Calls Tryz.prog 201 #[.int .u64 a, .int .u64 n, .int .u64 m] w (Qt (.int .u64 (powS a n m)) w) := by
 by_cases hm : m = 0
 ·subst hm
  go_enter Tryz.func201, Tryz.ntmps201
  go_wp2
  go_ret
  exact Qt.mk0 _ _
 ·have hm0 : 0 < m := by omega
  have hmb : (m == 0) = false := by simpa using hm
  have o0 := Int.emod_nonneg 1 hm
  have o1 := Int.emod_lt_of_pos 1 hm0
  have hinit := Lib.hid (zoa a n m n0 n1)
  clear hm
  go_enter Tryz.func201, Tryz.ntmps201
  go_wp2
  go_loopw [7, 8] (fun x i W => ∃ (k c : Nat), k ≤ 64 ∧ i = .int .i64 k ∧ x = .int .u64 (powTo a n m k) ∧ W = w.drewN c) (fun _ i _ => 64 - (intOf i).toNat)
  case atStart => exact ⟨0, 0, by omega, rfl, by rw [hinit.out], rfl⟩
  case round =>
   obtain ⟨k, c, hk, rfl, rfl, rfl⟩ := hrel
   have hx := zu4 a n m k hm0
   by_cases hlt : k < 64
   ·have hz := zbp n0 n1 hlt
    have ha := zev (a := powTo a n m k) (b := powTo a n m k) hm0
    by_cases hb : n / 2 ^ (63 - k) % 2 = 1
    ·have hbit : (bits BinOp.and IntKind.u64 (n / 2 ^ (63 - k)) 1 == 1) = true := by rw [zcz _ hz.1 hz.2]; simpa using hb
     have HB := Lib.hid (ztg a n m k hlt hm0 n0 hb)
     clear hb
     go_wp2_with (go_at_call 202; refine (zhs _ _ _ _ (by omega) (by omega) (by omega) (by omega) (by omega) (by omega)).mono ?_; rintro e w' ⟨rfl, c1, rfl⟩)
     exact ⟨⟨k + 1, _, by omega, by go_num, zar HB.out, rfl⟩, by simp [intOf]; omega⟩
    ·have hb0 : n / 2 ^ (63 - k) % 2 = 0 := by omega
     have hbit : (bits BinOp.and IntKind.u64 (n / 2 ^ (63 - k)) 1 == 1) = false := by rw [zcz _ hz.1 hz.2]; simpa using hb
     have HB := Lib.hid (zsd a n m k hlt hm0 n0 hb0)
     clear hb hb0
     go_wp2_with (go_at_call 202; refine (zhs _ _ _ _ (by omega) (by omega) (by omega) (by omega) (by omega) (by omega)).mono ?_; rintro e w' ⟨rfl, c1, rfl⟩)
     exact ⟨⟨k + 1, _, by omega, by go_num, zar HB.out, rfl⟩, by simp [intOf]; omega⟩
   ·have hk64 : k = 64 := by omega
    subst hk64
    have HD := Lib.hid (zos a n m hm0)
    go_wp2
    go_ret
    exact Qt.eqN (zar HD.out)
theorem zbr (a : Int) (w : World) (h0 : 0 ≤ a) (h1 : a < 18446744073709551616) :
    Calls Tryz.prog 271 #[.int .u64 a] w fun e w' => e = .returned (.tuple #[.int .u64 (a / 4294967296), .int .u64 (a % 4294967296)]) ∧ w = w' := by
 go_enter Tryz.func271, Tryz.ntmps271
 go_wp2
 go_ret2
 exact ⟨rfl, rfl⟩
theorem zbo (a b : Int) (w : World) (h0 : 0 ≤ a) (h1 : a < 18446744073709551616) (g0 : 0 ≤ b) (g1 : b < 18446744073709551616) :
    Calls Tryz.prog 272 #[.int .u64 a, .int .u64 b] w fun e w' => e = .returned (.int .u64 (a % 4294967296 * 4294967296 + b % 4294967296)) ∧ w = w' := by
 go_enter Tryz.func272, Tryz.ntmps272
 go_wp2
 go_ret
 exact ⟨congrArg Ending.returned (zar (zey a b)), rfl⟩
theorem zcl (a b c : Int) (w : World) (a0 : 0 ≤ a) (a1 : a < 18446744073709551616) (b0 : 0 ≤ b) (b1 : b < 18446744073709551616) (c0 : 0 ≤ c) (c1 : c ≤ 1) :
    Calls Tryz.prog 242 #[.int .u64 a, .int .u64 b, .int .u64 c] w fun e w' => e = .returned (.tuple #[.int .u64 ((a + b + c) % 18446744073709551616), .int .u64 ((a + b + c) / 18446744073709551616)]) ∧ w = w' := by
 go_enter Tryz.func242, Tryz.ntmps242
 go_wp2_with (first
  | (go_at_call 271; refine (zbr _ _ (by omega) (by omega)).mono ?_; rintro e w' ⟨rfl, rfl⟩)
  | (go_at_call 272; refine (zbo _ _ _ (by omega) (by omega) (by omega) (by omega)).mono ?_; rintro e w' ⟨rfl, rfl⟩))
 go_ret2
 exact ⟨congrArg Ending.returned (tup2 (by omega) (by omega)), rfl⟩
theorem zdn (a b c : Int) (w : World) (a0 : 0 ≤ a) (a1 : a < 18446744073709551616) (b0 : 0 ≤ b) (b1 : b < 18446744073709551616) (c0 : 0 ≤ c) (c1 : c ≤ 1) :
    Calls Tryz.prog 286 #[.int .u64 a, .int .u64 b, .int .u64 c] w fun e w' => e = .returned (.tuple #[.int .u64 ((a - b - c) % 18446744073709551616), .int .u64 (-((a - b - c) / 18446744073709551616))]) ∧ w = w' := by
 have H := Lib.hid (zrq a b c a0 a1 b0 b1 c0 c1)
 have s0 := zec (a % 4294967296 - b % 4294967296)
 have s1 := zec (IntKind.u64.wrap (a % 4294967296 - b % 4294967296) - c)
 have s2 := zec (a / 4294967296 - b / 4294967296)
 have s3 := zec (IntKind.u64.wrap (a / 4294967296 - b / 4294967296) - IntKind.u64.wrap (IntKind.u64.wrap (a % 4294967296 - b % 4294967296) - c) / 9223372036854775808)
 go_enter Tryz.func286, Tryz.ntmps286
 go_wp2_with (first
  | (go_at_call 271; refine (zbr _ _ (by omega) (by omega)).mono ?_; rintro e w' ⟨rfl, rfl⟩)
  | (go_at_call 272; refine (zbo _ _ _ (by omega) (by omega) (by omega) (by omega)).mono ?_; rintro e w' ⟨rfl, rfl⟩))
 go_ret2
 exact ⟨congrArg Ending.returned (tup2 H.out.1 H.out.2), rfl⟩
theorem zfz (x y m c : Int) (w : World) (hx0 : 0 ≤ x) (hx : x < 18446744073709551616) (hy0 : 0 ≤ y) (hy : y < 18446744073709551616) (m0 : 0 ≤ m) (m1 : m < 18446744073709551616) (c0 : 0 ≤ c) (c1 : c < 18446744073709551616) :
    Calls Tryz.prog 273 #[.int .u64 x, .int .u64 y, .int .u64 m, .int .u64 c] w fun e w' => e = .returned (.tuple #[.int .u64 ((x * y + m + c) % 18446744073709551616), .int .u64 ((x * y + m + c) / 18446744073709551616)]) ∧ w = w' := by
 obtain ⟨A, B, C, D, rfl, rfl, rfl, rfl, a0, a1, b0, b1, d0, d1, e0, e1, hxy⟩ := zeo x y hx0 hx hy0 hy
 have H := Lib.hid hxy
 clear hxy
 go_enter Tryz.func273, Tryz.ntmps273
 go_wp2_with (first
  | (go_at_call 271; refine (zbr _ _ (by omega) (by omega)).mono ?_; rintro e w' ⟨rfl, rfl⟩)
  | (go_at_call 272; refine (zbo _ _ _ (by omega) (by omega) (by omega) (by omega)).mono ?_; rintro e w' ⟨rfl, rfl⟩))
 go_ret2
 refine ⟨congrArg Ending.returned (tup2 ?_ ?_), rfl⟩
 all_goals (rw [H.out]; omega)
set_option maxHeartbeats 1000000 in
theorem zgj (r n m : Int) (w : World) (r0 : 0 ≤ r) (r1 : r < m) (n0 : 0 ≤ n) (n1 : n < 4294967296) (m0 : 9223372036854775808 ≤ m) (m1 : m < 18446744073709551616) :
    Calls Tryz.prog 283 #[.int .u64 r, .int .u64 n, .int .u64 m] w (Qt (.tuple #[.int .u64 ((r * 4294967296 + n) / m), .int .u64 ((r * 4294967296 + n) % m)]) w) := by
 have hs := Lib.hid (zde r n m r0 r1 n0 n1 m0 m1)
 have ht := zb8 r m r0 r1 m0 m1
 go_enter Tryz.func283, Tryz.ntmps283
 go_wp2_with (go_at_call 271; refine (zbr _ _ (by omega) (by omega)).mono ?_; rintro e w' ⟨rfl, rfl⟩)
 go_quiet (fail)
 go_wp2
 go_loop [10, 11] (fun g l => ∃ G L : Int, g = .int .u64 G ∧ l = .int .u64 L ∧ HalfInv r n m G L) (fun g _ => (intOf g).toNat)
 case atStart => exact ⟨_, _, rfl, rfl, hs.out⟩
 case round =>
  obtain ⟨G, L, rfl, rfl, hinv⟩ := hrel
  obtain ⟨g0, g1, l0, l1, p0, p1⟩ := hinv.bounds m0 m1
  go_wp2_with (go_at_call 272; refine (zbo _ _ _ (by omega) (by omega) (by omega) (by omega)).mono ?_; rintro e w' ⟨rfl, rfl⟩)
  ·rename_i hc hl
   have hg := hinv.pos (by omega)
   have hf := hinv.far m0 m1 (by omega) (by omega)
   go_ret2
   refine Qt.eqN (tup2 ?_ ?_)
   ·rw [zav, ← hf]; omega
   ·simp only [zav]
    rw [show (G - 1) % 18446744073709551616 = G - 1 by omega]
    exact zdz (by omega) m1 hf _ _ (by omega) (Int.emod_emod _ _)
  ·rename_i hc hl
   have hg := hinv.pos (by omega)
   simp only [zav]
   rw [show (G - 1) % 18446744073709551616 = G - 1 by omega]
   exact ⟨⟨_, _, rfl, rfl, hinv.next m0 m1 (by omega) (by omega)⟩, by simp [intOf]; omega⟩
  ·rename_i hc
   have hf := hinv.fits m0 (by omega)
   go_ret2
   refine Qt.eqN (tup2 hf ?_)
   simp only [zav]
   exact zdz (by omega) m1 hf _ _ (by omega) (Int.emod_emod _ _)
set_option maxHeartbeats 1000000 in
theorem zfm (h l m : Int) (w : World) (h0 : 0 ≤ h) (h1 : h < m) (l0 : 0 ≤ l) (l1 : l < 18446744073709551616) (m0 : 0 < m) (m1 : m < 18446744073709551616) :
    Calls Tryz.prog 263 #[.int .u64 h, .int .u64 l, .int .u64 m] w (Qt (.tuple #[.int .u64 ((h * 18446744073709551616 + l) / m), .int .u64 ((h * 18446744073709551616 + l) % m)]) w) := by
 obtain ⟨s, hs, s63, t0, t1⟩ := zfa m m0 m1
 have HS := Lib.hid hs
 clear hs
 have P0 := two_pow_pos s
 have P1 := zby (show s < 64 by omega)
 obtain ⟨hi, lo, e1, e2, i0, i1, j0, j1, q0, q1, e3⟩ := zdc h l m s h0 h1 l0 l1 m0 s63 t1
 obtain ⟨u0, u1, v0, v1, e4⟩ := znz h l m s h0 h1 l0 l1 m0 s63 t0 t1 hi lo e1 e2
 have E1 := Lib.hid e1
 have E2 := Lib.hid e2
 have E3 := Lib.hid e3
 have E4 := Lib.hid e4
 clear e1 e2 e3 e4
 go_enter Tryz.func263, Tryz.ntmps263
 go_wp2_with fail
 refine (zcg _ _ (by omega) (by omega)).mono ?_
 rintro e w' ⟨rfl, rfl⟩
 rw [HS.out]
 go_wp2_with fail
 rw [E1.out, E2.out]
 refine (zbr _ _ (by omega) (by omega)).mono ?_
 rintro e w' ⟨rfl, rfl⟩
 go_wp2_with fail
 refine (zgj _ _ _ _ (by omega) (by omega) (by omega) (by omega) (by omega) (by omega)).mono ?_
 rintro e w' ⟨rfl, n1, rfl⟩
 go_wp2_with fail
 refine (zgj _ _ _ _ (by omega) (by omega) (by omega) (by omega) (by omega) (by omega)).mono ?_
 rintro e w' ⟨rfl, n2, rfl⟩
 go_wp2_with fail
 refine (zbo _ _ _ (by omega) (by omega) (by omega) (by omega)).mono ?_
 rintro e w' ⟨rfl, rfl⟩
 go_wp2
 go_ret2
 refine Qt.eqN (tup2 ?_ E3.out)
 rw [← E4.out]
 omega
theorem zk5 (a m : Nat) (w : World) (a1 : a < 18446744073709551616) (m1 : m < 18446744073709551616) :
    Calls Tryz.prog 207 #[.int .u64 (a : Int), .int .u64 (m : Int)] w (InvPost a m w) := by
 by_cases hm : m < 2
 ·have hd : decide ((m : Int) < 2) = true := by simp; omega
  go_enter Tryz.func207, Tryz.ntmps207
  go_wp2
  go_ret2
  exact InvPost.small hm
 ·have hm2 : 2 ≤ m := by omega
  have hd : decide ((m : Int) < 2) = false := by simp; omega
  have q := Nat.mod_lt a (show 0 < m by omega)
  have hst := Lib.hid (zi7 a m hm2)
  clear hm
  go_enter Tryz.func207, Tryz.ntmps207
  go_wp2
  go_quiet (fail)
  go_wp2
  go_loopw [6, 7, 8, 9] (fun o n ot nt W => ∃ (O N c : Nat) (OT NT : Int), o = .int .u64 (O : Int) ∧ n = .int .u64 (N : Int) ∧ ot = .int .u64 OT ∧ nt = .int .u64 NT ∧ W = w.drewN c ∧ InvInv a m O N OT NT) (fun _ n _ _ _ => (intOf n).toNat)
  case atStart => exact ⟨m, a % m, _, 0, 1, rfl, by go_num, rfl, rfl, rfl, hst.out⟩
  case round =>
   obtain ⟨O, N, c, OT, NT, rfl, rfl, rfl, rfl, rfl, hinv⟩ := hrel
   obtain ⟨o1, n1, ot0, ot1, nt0, nt1⟩ := hinv.bounds m1
   by_cases hN : 0 < N
   ·have hq := zev (a := (O : Int) / (N : Int)) (b := NT) (m := m) (by omega)
    have hs := zth (a := OT) (b := mulS ((O : Int) / (N : Int)) NT m) (m := m) (by omega)
    have q2 := Nat.mod_lt O hN
    have q3 : 0 ≤ (O : Int) / (N : Int) ∧ (O : Int) / (N : Int) ≤ O := by
     rw [← Int.natCast_ediv]; exact ⟨Int.natCast_nonneg _, Int.ofNat_le.2 (Nat.div_le_self O N)⟩
    have HN := Lib.hid (hinv.next hN hm2)
    go_wp2
    go_quiet (fail)
    go_wp2_with fail
    refine (zhv _ _ _ _ (by omega) (by omega) (by omega) (by omega) (by omega) (by omega)).mono ?_
    rintro e w' ⟨rfl, c1, rfl⟩
    go_wp2_with fail
    refine (zkb _ _ _ _ (by omega) (by omega) (by omega) (by omega) (by omega) (by omega)).mono ?_
    rintro e w' ⟨rfl, c2, rfl⟩
    go_wp2
    exact ⟨⟨N, O % N, _, _, _, rfl, by go_num, rfl, rfl, rfl, HN.out⟩, by simp [intOf]; omega⟩
   ·obtain ⟨y, n⟩ := hinv.done (w := w) (c := c) (by omega) hm2
    by_cases ho : (O : Int) = 1
    ·have hob : ((O : Int) != 1) = false := by simpa using ho
     have HD := Lib.hid (y ho)
     clear y n ho
     go_wp2
     go_ret2
     exact HD.out
    ·have hob : ((O : Int) != 1) = true := by simpa using ho
     have HD := Lib.hid (n ho)
     clear y n ho
     go_wp2
     go_ret2
     exact HD.out
theorem znq (a m : Int) (w : World) (a0 : 0 ≤ a) (a1 : a < 18446744073709551616) (m0 : 0 ≤ m) (m1 : m < 18446744073709551616) :
    Calls Tryz.prog 105 #[.int .u64 a, .int .u64 m] w fun e w' => e = .returned (.int .i64 (cenS a m)) ∧ w = w' := by
 by_cases hm : m = 0
 ·subst hm
  go_enter Tryz.func105, Tryz.ntmps105
  go_wp2
  go_ret
  exact ⟨rfl, rfl⟩
 ·have hmb : (m == 0) = false := by simpa using hm
  have hm0 : 0 < m := by omega
  have r0 := Int.emod_nonneg a hm
  have r1 := Int.emod_lt_of_pos a hm0
  by_cases hb : 4611686018427387904 < m
  ·have H := Lib.hid (ztn a m hb)
   clear hm
   go_enter Tryz.func105, Tryz.ntmps105
   go_wp2
   go_ret
   exact ⟨congrArg Ending.returned (zc0 H.out.symm), rfl⟩
  ·have hbd : decide (4611686018427387904 < m) = false := by simpa using hb
   have H := Lib.hid (zra a m hm0 (by omega))
   clear hm
   go_enter Tryz.func105, Tryz.ntmps105
   go_wp2
   all_goals
    go_ret
    refine ⟨congrArg Ending.returned (zc0 ?_), rfl⟩
    rw [H.out]
    first | (rw [if_pos (by omega)]; omega) | (rw [if_neg (by omega)])
theorem zvj (v m : Int) (w : World) (v0 : -9223372036854775808 ≤ v) (v1 : v < 9223372036854775808) (m0 : 0 ≤ m) (m1 : m < 18446744073709551616) :
    Calls Tryz.prog 213 #[.int .i64 v, .int .u64 m] w (Qt (.int .u64 (lifS v m)) w) := by
 by_cases hv : 0 ≤ v
 ·have H := Lib.hid (z0g v m)
  go_enter Tryz.func213, Tryz.ntmps213
  go_wp2_with fail
  refine (zpp _ _ _ _ (by omega) (by omega) (by omega) (by omega) (by omega) (by omega)).mono ?_
  rintro e w' ⟨rfl, c1, rfl⟩
  go_wp2
  go_ret
  exact Qt.eqN (zar H.out)
 ·have H := Lib.hid (zzo v m)
  have e1 := Lib.hid (ztz v (by omega) v0)
  have hv' : v < 0 := by omega
  clear hv
  go_enter Tryz.func213, Tryz.ntmps213
  go_wp2_with fail
  rw [e1.out]
  refine (zkb _ _ _ _ (by omega) (by omega) (by omega) (by omega) (by omega) (by omega)).mono ?_
  rintro e w' ⟨rfl, c1, rfl⟩
  go_wp2
  go_ret
  exact Qt.eqN (zar H.out)
end Go.Proofs.YtopbibfpjgjalaaGreatDoor
