import Derived.Test.YtjikdbcjabopnaaGreatDoorJ6
import Derived.Test.YtjikdbcjabopnaaGreatDoorJPExt
import Derived.Laws.Bits64b
namespace Go.Proofs.YtjikdbcjabopnaaGreatDoor
open Go.RowKit
set_option linter.unusedVariables false
set_option maxRecDepth 100000
theorem mask32 (a : Int) (h0 : 0 ≤ a) (h1 : a < 18446744073709551616) : bits .and .u64 a 4294967295 = a % 4294967296 := by
 obtain ⟨n, rfl⟩ := Int.eq_ofNat_of_zero_le h0
 have h := bits_and_u64_nat n 4294967295 (by omega) (by omega)
 rw [show n &&& 4294967295 = n % 4294967296 from Nat.and_two_pow_sub_one_eq_mod n 32] at h
 exact h.trans (by omega)
def DivPost (h m : Int) (w : World) (e : Ending) (w' : World) : Prop := ∃ (r : Int) (n : Nat), e = .returned (.tuple #[.int .u64 (h * 18446744073709551616 / m), .int .u64 r]) ∧ w' = w.drewN n
theorem or_zero (a : Int) (h0 : 0 ≤ a) (h1 : a < 18446744073709551616) : bits .or .u64 a 0 = a := by
 obtain ⟨n, rfl⟩ := Int.eq_ofNat_of_zero_le h0
 have h := bits_or_u64_nat n 0 (by omega) (by omega)
 rw [Nat.or_zero] at h
 exact h
theorem quot_two (r d : Int) (d0 : 0 < d) : r * 4294967296 / d * 4294967296 + (r * 4294967296 % d * 4294967296 + 0) / d = r * 18446744073709551616 / d := by
 have x1 := Int.mul_ediv_add_emod (r * 4294967296) d
 rw [show r * 18446744073709551616 = r * 4294967296 * 4294967296 by omega]
 generalize r * 4294967296 = X at *
 rw [show X * 4294967296 = (X % d * 4294967296 + 0) + d * (X / d * 4294967296) by
  conv => lhs; rw [← x1]
  rw [Int.add_mul, Int.mul_assoc]
  omega, Int.add_mul_ediv_left _ _ (by omega)]
 omega
theorem quot_shift (h m : Int) (s : Nat) : h * 18446744073709551616 / m = h * 2 ^ s * 18446744073709551616 / (m * 2 ^ s) := by
 rw [show h * 2 ^ s * 18446744073709551616 = 2 ^ s * (h * 18446744073709551616) by rw [Int.mul_right_comm, Int.mul_comm], Int.mul_comm m, Int.mul_ediv_mul_of_pos _ _ (two_pow_pos s)]
theorem rest_guess (r d : Int) : r - r / d * d = r % d := by
 rw [Int.emod_def, Int.mul_comm]
theorem half_quot_lt {r d : Int} (r1 : r < d) (r0 : 0 ≤ r) : (r * 4294967296 + 0) / d < 4294967296 := Int.ediv_lt_of_lt_mul (by omega) (by omega)
set_option maxHeartbeats 8000000 in
set_option maxRecDepth 100000 in
theorem div64_any (h m : Int) (w : World) (h0 : 0 < h) (h1 : h < m) (m1 : m < 18446744073709551616) :
    Calls Tryz.prog 274 #[.int .u64 h, .int .u64 0, .int .u64 m] w (DivPost h m w) := by
 obtain ⟨s, hs, s63, t0, t1⟩ := shift_of m (by omega) m1
 have HS := Lib.hid hs
 clear hs
 have P0 := two_pow_pos s
 have P1 := two_pow_le63 (show s < 64 by omega)
 have hlt : h * 2 ^ s < m * 2 ^ s := Int.mul_lt_mul_of_pos_right h1 P0
 have hnn : 0 ≤ h * 2 ^ s := Int.mul_nonneg (by omega) (by omega)
 have hmz : (m == 0) = false := by simp; omega
 have hhz : (h == 0) = false := by simp; omega
 have hml : decide (m ≤ h) = false := by simp; omega
 have hor := or_zero (h * 2 ^ s) hnn (by omega)
 have hand := mask32 (m * 2 ^ s) (by omega) t1
 have hand0 : bits .and .u64 0 4294967295 = 0 := mask32 0 (by omega) (by omega)
 have QS := Lib.hid (quot_shift h m s)
 obtain ⟨g0, g1, g2, g3⟩ := half_guess (h * 2 ^ s) (m * 2 ^ s) hnn hlt t0 t1
 have ST := Lib.hid (half_start (h * 2 ^ s) 0 (m * 2 ^ s) hnn hlt (by omega) (by omega) t0 t1)
 have hrg := rest_guess (h * 2 ^ s) (m * 2 ^ s / 4294967296)
 have hgl0 := Int.mul_nonneg g0 (show 0 ≤ m * 2 ^ s / 4294967296 by omega)
 have hgl1 : h * 2 ^ s / (m * 2 ^ s / 4294967296) * (m * 2 ^ s / 4294967296) ≤ 18446744073709551615 := by omega
 go_enter Tryz.func274, Tryz.ntmps274
 go_wp2_with fail
 refine (zeros_any _ _ (by omega) (by omega)).mono ?_
 rintro e w' ⟨rfl, rfl⟩
 rw [HS.out]
 go_wp2_with fail
 clear hor hand hrg
 generalize h * 2 ^ s = r at *
 generalize m * 2 ^ s = d at *
 clear hmz hhz hml hgl0 hgl1 g0 g1 g2 g3
 obtain ⟨Q, hQ⟩ : ∃ Q, (r * 4294967296 + 0) / d = Q := ⟨_, rfl⟩
 obtain ⟨r1, hr1⟩ : ∃ r1, (r * 4294967296 + 0) % d = r1 := ⟨_, rfl⟩
 have Qlt := half_quot_lt hlt hnn
 have Qnn : 0 ≤ (r * 4294967296 + 0) / d := Int.ediv_nonneg (by omega) (by omega)
 have r10 := Int.emod_nonneg (r * 4294967296 + 0) (show d ≠ 0 by omega)
 have r11 := Int.emod_lt_of_pos (r * 4294967296 + 0) (show 0 < d by omega)
 have hun : IntKind.u64.wrap (IntKind.u64.wrap (IntKind.u64.wrap (r * 4294967296)) - IntKind.u64.wrap (Q * d)) = r1 := by
  simp only [wrap64u]
  rw [← hr1]
  exact half_end (by omega) t1 hQ.symm _ _ (by omega) (by omega)
 rw [hQ] at Qlt Qnn
 rw [hr1] at r10 r11
 obtain ⟨k0, k1, k2, k3⟩ := half_guess r1 d r10 r11 t0 t1
 have ST1 := Lib.hid (half_start r1 0 d r10 r11 (by omega) (by omega) t0 t1)
 have hrg1 := rest_guess r1 (d / 4294967296)
 have hgl0 := Int.mul_nonneg k0 (show 0 ≤ d / 4294967296 by omega)
 have hgl1 : r1 / (d / 4294967296) * (d / 4294967296) ≤ 18446744073709551615 := by omega
 obtain ⟨Q0, hQ0⟩ : ∃ Q0, (r1 * 4294967296 + 0) / d = Q0 := ⟨_, rfl⟩
 have Q0lt := half_quot_lt r11 r10
 have Q00 : 0 ≤ (r1 * 4294967296 + 0) / d := Int.ediv_nonneg (by omega) (by omega)
 rw [hQ0] at Q0lt Q00
 have FIN := Lib.hid (show Q * 4294967296 + Q0 = h * 18446744073709551616 / m by
  rw [QS.out, ← quot_two r d (by omega), ← hQ0, ← hQ, ← hr1, Int.add_zero])
 have QE := Lib.hid hQ
 have Q0E := Lib.hid hQ0
 clear hQ hQ0 hr1
 go_loop [15, 16] (fun g l => ∃ G L : Int, g = .int .u64 G ∧ l = .int .u64 L ∧ HalfInv r 0 d G L) (fun g _ => (intOf g).toNat)
 case atStart => exact ⟨_, _, rfl, rfl, ST.out⟩
 case round =>
  obtain ⟨G, L, rfl, rfl, hinv⟩ := hrel
  obtain ⟨g0, g1, l0, l1, p0, p1⟩ := hinv.bounds t0 t1
  by_cases hc : L * 4294967296 < G * (d % 4294967296)
  ·have hg := hinv.pos (by omega)
   by_cases hl : L + d / 4294967296 < 4294967296
   ·have hn := Lib.hid (hinv.next t0 t1 (by omega) hl)
    by_cases hG : 4294967296 ≤ G
    all_goals
     go_wp2
     exact ⟨⟨_, _, rfl, rfl, hn.out⟩, by simp [intOf]; omega⟩
   ·have hf := hinv.far t0 t1 (by omega) (by omega)
    rw [QE.out] at hf
    obtain rfl : G = Q + 1 := by omega
    have hG2 : Q + 1 - 1 = Q := by omega
    by_cases hG : 4294967296 ≤ Q + 1
    all_goals
     have hl2 : 4294967296 ≤ L + d / 4294967296 := by omega
     clear hinv hf hl
     go_wp2
     go_loop [18, 16] (fun g l => ∃ G L : Int, g = .int .u64 G ∧ l = .int .u64 L ∧ HalfInv r1 0 d G L) (fun g _ => (intOf g).toNat)
     case atStart => exact ⟨_, _, rfl, rfl, ST1.out⟩
     case round =>
      obtain ⟨G, L, rfl, rfl, hinv⟩ := hrel
      obtain ⟨g0, g1, l0, l1, p0, p1⟩ := hinv.bounds t0 t1
      by_cases hc : L * 4294967296 < G * (d % 4294967296)
      ·have hg := hinv.pos (by omega)
       by_cases hl : L + d / 4294967296 < 4294967296
       ·have hn := Lib.hid (hinv.next t0 t1 (by omega) hl)
        by_cases hG : 4294967296 ≤ G
        all_goals
         go_wp2
         exact ⟨⟨_, _, rfl, rfl, hn.out⟩, by simp [intOf]; omega⟩
       ·have hf := hinv.far t0 t1 (by omega) (by omega)
        rw [Q0E.out] at hf
        obtain rfl : G = Q0 + 1 := by omega
        have hG2 : Q0 + 1 - 1 = Q0 := by omega
        by_cases hG : 4294967296 ≤ Q0 + 1
        all_goals
         have hl2 : 4294967296 ≤ L + d / 4294967296 := by omega
         clear hinv hf hl
         go_wp2
         go_ret2
         exact ⟨_, 0, congrArg Ending.returned (tup2 FIN.out rfl), rfl⟩
      ·have hf := hinv.fits t0 (by omega)
       rw [Q0E.out] at hf
       obtain rfl : G = Q0 := hf
       clear hinv
       go_wp2
       go_ret2
       exact ⟨_, 0, congrArg Ending.returned (tup2 FIN.out rfl), rfl⟩
  ·have hf := hinv.fits t0 (by omega)
   rw [QE.out] at hf
   obtain rfl : G = Q := hf
   clear hinv
   go_wp2
   go_loop [18, 16] (fun g l => ∃ G L : Int, g = .int .u64 G ∧ l = .int .u64 L ∧ HalfInv r1 0 d G L) (fun g _ => (intOf g).toNat)
   case atStart => exact ⟨_, _, rfl, rfl, ST1.out⟩
   case round =>
    obtain ⟨G, L, rfl, rfl, hinv⟩ := hrel
    obtain ⟨g0, g1, l0, l1, p0, p1⟩ := hinv.bounds t0 t1
    by_cases hc : L * 4294967296 < G * (d % 4294967296)
    ·have hg := hinv.pos (by omega)
     by_cases hl : L + d / 4294967296 < 4294967296
     ·have hn := Lib.hid (hinv.next t0 t1 (by omega) hl)
      by_cases hG : 4294967296 ≤ G
      all_goals
       go_wp2
       exact ⟨⟨_, _, rfl, rfl, hn.out⟩, by simp [intOf]; omega⟩
     ·have hf := hinv.far t0 t1 (by omega) (by omega)
      rw [Q0E.out] at hf
      obtain rfl : G = Q0 + 1 := by omega
      have hG2 : Q0 + 1 - 1 = Q0 := by omega
      by_cases hG : 4294967296 ≤ Q0 + 1
      all_goals
       have hl2 : 4294967296 ≤ L + d / 4294967296 := by omega
       clear hinv hf hl
       go_wp2
       go_ret2
       exact ⟨_, 0, congrArg Ending.returned (tup2 FIN.out rfl), rfl⟩
    ·have hf := hinv.fits t0 (by omega)
     rw [Q0E.out] at hf
     obtain rfl : G = Q0 := hf
     clear hinv
     go_wp2
     go_ret2
     exact ⟨_, 0, congrArg Ending.returned (tup2 FIN.out rfl), rfl⟩
def rev : Nat → Nat → Nat
 | 0, _ => 0
 | k + 1, x => (x % 2) * 2 ^ k + rev k (x / 2)
end Go.Proofs.YtjikdbcjabopnaaGreatDoor
