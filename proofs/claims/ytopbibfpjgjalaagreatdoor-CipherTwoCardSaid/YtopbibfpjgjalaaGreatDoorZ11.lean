import Derived.Test.YtopbibfpjgjalaaGreatDoorZ6
import Derived.Test.YtopbibfpjgjalaaGreatDoorZPExt
import Derived.Laws.Bits64b
namespace Go.Proofs.YtopbibfpjgjalaaGreatDoor
open Go.RowKit
set_option linter.unusedVariables false
set_option maxRecDepth 100000
theorem zjp (a : Int) (h0 : 0 ≤ a) (h1 : a < 18446744073709551616) : bits .and .u64 a 4294967295 = a % 4294967296 := by
 obtain ⟨n, rfl⟩ := Int.eq_ofNat_of_zero_le h0
 have h := bits_and_u64_nat n 4294967295 (by omega) (by omega)
 rw [show n &&& 4294967295 = n % 4294967296 from Nat.and_two_pow_sub_one_eq_mod n 32] at h
 exact h.trans (by omega)
theorem maskW (a : Int) : bits .and .u64 (a % 18446744073709551616) 4294967295 = a % 18446744073709551616 % 4294967296 := zjp _ (by omega) (by omega)
set_option maxHeartbeats 1000000 in
theorem zsr (x y : Int) (w : World) (hx0 : 0 ≤ x) (hx : x < 18446744073709551616) (hy0 : 0 ≤ y) (hy : y < 18446744073709551616) :
    Calls Tryz.prog 282 #[.int .u64 x, .int .u64 y] w fun e w' => e = .returned (.tuple #[.int .u64 (x * y / 18446744073709551616), .int .u64 (x * y % 18446744073709551616)]) ∧ w = w' := by
 obtain ⟨A, B, C, D, rfl, rfl, rfl, rfl, a0, a1, b0, b1, c0, c1, d0, d1, hxy⟩ := zeo x y hx0 hx hy0 hy
 have H := Lib.hid hxy
 clear hxy
 go_enter Tryz.func282, Tryz.ntmps282
 go_wp2
 go_ret2
 refine ⟨congrArg Ending.returned (tup2 ?_ ?_), rfl⟩
 ·simp only [zav, zjp x hx0 hx, zjp y hy0 hy, maskW]
  rw [H.out]; omega
 ·rw [zav]
def zr3 (h m : Int) (w : World) (e : Ending) (w' : World) : Prop := ∃ (r : Int) (n : Nat), e = .returned (.tuple #[.int .u64 (h * 18446744073709551616 / m), .int .u64 r]) ∧ w' = w.drewN n
theorem or_zero (a : Int) (h0 : 0 ≤ a) (h1 : a < 18446744073709551616) : bits .or .u64 a 0 = a := by
 obtain ⟨n, rfl⟩ := Int.eq_ofNat_of_zero_le h0
 have h := bits_or_u64_nat n 0 (by omega) (by omega)
 rw [Nat.or_zero] at h
 exact h
theorem ztr (r d : Int) (d0 : 0 < d) : r * 4294967296 / d * 4294967296 + (r * 4294967296 % d * 4294967296 + 0) / d = r * 18446744073709551616 / d := by
 have x1 := Int.mul_ediv_add_emod (r * 4294967296) d
 rw [show r * 18446744073709551616 = r * 4294967296 * 4294967296 by omega]
 generalize r * 4294967296 = X at *
 rw [show X * 4294967296 = (X % d * 4294967296 + 0) + d * (X / d * 4294967296) by
  conv => lhs; rw [← x1]
  rw [Int.add_mul, Int.mul_assoc]
  omega, Int.add_mul_ediv_left _ _ (by omega)]
 omega
theorem zph (h m : Int) (s : Nat) : h * 18446744073709551616 / m = h * 2 ^ s * 18446744073709551616 / (m * 2 ^ s) := by
 rw [show h * 2 ^ s * 18446744073709551616 = 2 ^ s * (h * 18446744073709551616) by rw [Int.mul_right_comm, Int.mul_comm], Int.mul_comm m, Int.mul_ediv_mul_of_pos _ _ (two_pow_pos s)]
theorem zg7 (r d : Int) : r - r / d * d = r % d := by
 rw [Int.emod_def, Int.mul_comm]
theorem ze3 {r d : Int} (r1 : r < d) (r0 : 0 ≤ r) : (r * 4294967296 + 0) / d < 4294967296 := Int.ediv_lt_of_lt_mul (by omega) (by omega)
set_option maxHeartbeats 8000000 in
set_option maxRecDepth 100000 in
theorem zst (h m : Int) (w : World) (h0 : 0 < h) (h1 : h < m) (m1 : m < 18446744073709551616) :
    Calls Tryz.prog 277 #[.int .u64 h, .int .u64 0, .int .u64 m] w (zr3 h m w) := by
 obtain ⟨s, hs, s63, t0, t1⟩ := zfa m (by omega) m1
 have HS := Lib.hid hs
 clear hs
 have P0 := two_pow_pos s
 have P1 := zby (show s < 64 by omega)
 have hlt : h * 2 ^ s < m * 2 ^ s := Int.mul_lt_mul_of_pos_right h1 P0
 have hnn : 0 ≤ h * 2 ^ s := Int.mul_nonneg (by omega) (by omega)
 have hmz : (m == 0) = false := by simp; omega
 have hhz : (h == 0) = false := by simp; omega
 have hml : decide (m ≤ h) = false := by simp; omega
 have hor := or_zero (h * 2 ^ s) hnn (by omega)
 have hand := zjp (m * 2 ^ s) (by omega) t1
 have hand0 : bits .and .u64 0 4294967295 = 0 := zjp 0 (by omega) (by omega)
 have QS := Lib.hid (zph h m s)
 obtain ⟨g0, g1, g2, g3⟩ := zb8 (h * 2 ^ s) (m * 2 ^ s) hnn hlt t0 t1
 have ST := Lib.hid (zde (h * 2 ^ s) 0 (m * 2 ^ s) hnn hlt (by omega) (by omega) t0 t1)
 have hrg := zg7 (h * 2 ^ s) (m * 2 ^ s / 4294967296)
 have hgl0 := Int.mul_nonneg g0 (show 0 ≤ m * 2 ^ s / 4294967296 by omega)
 have hgl1 : h * 2 ^ s / (m * 2 ^ s / 4294967296) * (m * 2 ^ s / 4294967296) ≤ 18446744073709551615 := by omega
 go_enter Tryz.func277, Tryz.ntmps277
 go_wp2_with fail
 refine (zcg _ _ (by omega) (by omega)).mono ?_
 rintro e w' ⟨rfl, rfl⟩
 rw [HS.out]
 go_wp2_with fail
 clear hor hand hrg
 generalize h * 2 ^ s = r at *
 generalize m * 2 ^ s = d at *
 clear hmz hhz hml hgl0 hgl1 g0 g1 g2 g3
 obtain ⟨Q, hQ⟩ : ∃ Q, (r * 4294967296 + 0) / d = Q := ⟨_, rfl⟩
 obtain ⟨r1, hr1⟩ : ∃ r1, (r * 4294967296 + 0) % d = r1 := ⟨_, rfl⟩
 have Qlt := ze3 hlt hnn
 have Qnn : 0 ≤ (r * 4294967296 + 0) / d := Int.ediv_nonneg (by omega) (by omega)
 have r10 := Int.emod_nonneg (r * 4294967296 + 0) (show d ≠ 0 by omega)
 have r11 := Int.emod_lt_of_pos (r * 4294967296 + 0) (show 0 < d by omega)
 have hun : IntKind.u64.wrap (IntKind.u64.wrap (IntKind.u64.wrap (r * 4294967296)) - IntKind.u64.wrap (Q * d)) = r1 := by
  simp only [zav]
  rw [← hr1]
  exact zdz (by omega) t1 hQ.symm _ _ (by omega) (by omega)
 rw [hQ] at Qlt Qnn
 rw [hr1] at r10 r11
 obtain ⟨k0, k1, k2, k3⟩ := zb8 r1 d r10 r11 t0 t1
 have ST1 := Lib.hid (zde r1 0 d r10 r11 (by omega) (by omega) t0 t1)
 have hrg1 := zg7 r1 (d / 4294967296)
 have hgl0 := Int.mul_nonneg k0 (show 0 ≤ d / 4294967296 by omega)
 have hgl1 : r1 / (d / 4294967296) * (d / 4294967296) ≤ 18446744073709551615 := by omega
 obtain ⟨Q0, hQ0⟩ : ∃ Q0, (r1 * 4294967296 + 0) / d = Q0 := ⟨_, rfl⟩
 have Q0lt := ze3 r11 r10
 have Q00 : 0 ≤ (r1 * 4294967296 + 0) / d := Int.ediv_nonneg (by omega) (by omega)
 rw [hQ0] at Q0lt Q00
 have FIN := Lib.hid (show Q * 4294967296 + Q0 = h * 18446744073709551616 / m by
  rw [QS.out, ← ztr r d (by omega), ← hQ0, ← hQ, ← hr1, Int.add_zero])
 have QE := Lib.hid hQ
 have Q0E := Lib.hid hQ0
 clear hQ hQ0 hr1
 go_loop [15, 16] (fun g l => ∃ G L : Int, g = .int .u64 G ∧ l = .int .u64 L ∧ HalfInv r 0 d G L) (fun g _ => (intOf g).toNat)
 case atStart => exact ⟨_, _, rfl, rfl, ST.out⟩
 case round =>
  obtain ⟨G, L, rfl, rfl, hinv⟩ := hrel
  obtain ⟨g0, g1, l0, l1, p0, p1⟩ := hinv.bounds t0 t1
  by_cases hc : L * 4294967296 < G * (d % 4294967296)
  ·have hg := hinv.pos (by omega)
   by_cases hl : L + d / 4294967296 < 4294967296
   ·have hn := Lib.hid (hinv.next t0 t1 (by omega) hl)
    by_cases hG : 4294967296 ≤ G
    all_goals
     go_wp2
     exact ⟨⟨_, _, rfl, rfl, hn.out⟩, by simp [intOf]; omega⟩
   ·have hf := hinv.far t0 t1 (by omega) (by omega)
    rw [QE.out] at hf
    obtain rfl : G = Q + 1 := by omega
    have hG2 : Q + 1 - 1 = Q := by omega
    by_cases hG : 4294967296 ≤ Q + 1
    all_goals
     have hl2 : 4294967296 ≤ L + d / 4294967296 := by omega
     clear hinv hf hl
     go_wp2
     go_loop [18, 16] (fun g l => ∃ G L : Int, g = .int .u64 G ∧ l = .int .u64 L ∧ HalfInv r1 0 d G L) (fun g _ => (intOf g).toNat)
     case atStart => exact ⟨_, _, rfl, rfl, ST1.out⟩
     case round =>
      obtain ⟨G, L, rfl, rfl, hinv⟩ := hrel
      obtain ⟨g0, g1, l0, l1, p0, p1⟩ := hinv.bounds t0 t1
      by_cases hc : L * 4294967296 < G * (d % 4294967296)
      ·have hg := hinv.pos (by omega)
       by_cases hl : L + d / 4294967296 < 4294967296
       ·have hn := Lib.hid (hinv.next t0 t1 (by omega) hl)
        by_cases hG : 4294967296 ≤ G
        all_goals
         go_wp2
         exact ⟨⟨_, _, rfl, rfl, hn.out⟩, by simp [intOf]; omega⟩
       ·have hf := hinv.far t0 t1 (by omega) (by omega)
        rw [Q0E.out] at hf
        obtain rfl : G = Q0 + 1 := by omega
        have hG2 : Q0 + 1 - 1 = Q0 := by omega
        by_cases hG : 4294967296 ≤ Q0 + 1
        all_goals
         have hl2 : 4294967296 ≤ L + d / 4294967296 := by omega
         clear hinv hf hl
         go_wp2
         go_ret2
         exact ⟨_, 0, congrArg Ending.returned (tup2 FIN.out rfl), rfl⟩
      ·have hf := hinv.fits t0 (by omega)
       rw [Q0E.out] at hf
       obtain rfl : G = Q0 := hf
       clear hinv
       go_wp2
       go_ret2
       exact ⟨_, 0, congrArg Ending.returned (tup2 FIN.out rfl), rfl⟩
  ·have hf := hinv.fits t0 (by omega)
   rw [QE.out] at hf
   obtain rfl : G = Q := hf
   clear hinv
   go_wp2
   go_loop [18, 16] (fun g l => ∃ G L : Int, g = .int .u64 G ∧ l = .int .u64 L ∧ HalfInv r1 0 d G L) (fun g _ => (intOf g).toNat)
   case atStart => exact ⟨_, _, rfl, rfl, ST1.out⟩
   case round =>
    obtain ⟨G, L, rfl, rfl, hinv⟩ := hrel
    obtain ⟨g0, g1, l0, l1, p0, p1⟩ := hinv.bounds t0 t1
    by_cases hc : L * 4294967296 < G * (d % 4294967296)
    ·have hg := hinv.pos (by omega)
     by_cases hl : L + d / 4294967296 < 4294967296
     ·have hn := Lib.hid (hinv.next t0 t1 (by omega) hl)
      by_cases hG : 4294967296 ≤ G
      all_goals
       go_wp2
       exact ⟨⟨_, _, rfl, rfl, hn.out⟩, by simp [intOf]; omega⟩
     ·have hf := hinv.far t0 t1 (by omega) (by omega)
      rw [Q0E.out] at hf
      obtain rfl : G = Q0 + 1 := by omega
      have hG2 : Q0 + 1 - 1 = Q0 := by omega
      by_cases hG : 4294967296 ≤ Q0 + 1
      all_goals
       have hl2 : 4294967296 ≤ L + d / 4294967296 := by omega
       clear hinv hf hl
       go_wp2
       go_ret2
       exact ⟨_, 0, congrArg Ending.returned (tup2 FIN.out rfl), rfl⟩
    ·have hf := hinv.fits t0 (by omega)
     rw [Q0E.out] at hf
     obtain rfl : G = Q0 := hf
     clear hinv
     go_wp2
     go_ret2
     exact ⟨_, 0, congrArg Ending.returned (tup2 FIN.out rfl), rfl⟩
def exch (p m x : Nat) : Nat := Nat.lor (Nat.land (x / p) m) (Nat.land x m * p % 18446744073709551616)
theorem zb4 (p m x : Nat) (hx : x < 18446744073709551616) : exch p m x < 18446744073709551616 := by
 have h1 : x / p ≤ x := Nat.div_le_self x p
 have h2 : Nat.land (x / p) m < 2 ^ 64 := Nat.lt_of_le_of_lt Nat.and_le_left (by omega)
 have h3 : Nat.land x m * p % 18446744073709551616 < 2 ^ 64 := by omega
 exact Nat.or_lt_two_pow h2 h3
theorem zef (p m x : Nat) (hx : x < 18446744073709551616) (hm : m < 18446744073709551616) :
    bits .or .u64 (bits .and .u64 ((x : Int) / (p : Int)) (m : Int)) (IntKind.u64.wrap (bits .and .u64 (x : Int) (m : Int) * (p : Int))) = ((exch p m x : Nat) : Int) := by
 have h1 : x / p ≤ x := Nat.div_le_self x p
 have h2 : x / p &&& m ≤ x / p := Nat.and_le_left
 rw [← Int.natCast_ediv, bits_and_u64_nat _ _ (by omega) hm, bits_and_u64_nat _ _ hx hm, zav, ← Int.natCast_mul]
 rw [show (((x &&& m) * p : Nat) : Int) % 18446744073709551616 = (((x &&& m) * p % 18446744073709551616 : Nat) : Int) by omega]
 rw [bits_or_u64_nat _ _ (by omega) (by omega)]
 rfl
def exchH (x : Nat) : Nat := Nat.lor (x / 4294967296) (x * 4294967296 % 18446744073709551616)
theorem zqc (x : Nat) (hx : x < 18446744073709551616) :
    bits .or .u64 ((x : Int) / 4294967296) (IntKind.u64.wrap ((x : Int) * 4294967296)) = ((exchH x : Nat) : Int) := by
 rw [zav, show (x : Int) / 4294967296 = ((x / 4294967296 : Nat) : Int) by omega, show (x : Int) * 4294967296 % 18446744073709551616 = ((x * 4294967296 % 18446744073709551616 : Nat) : Int) by omega]
 rw [bits_or_u64_nat _ _ (by omega) (by omega)]
 rfl
theorem ztm (x : Nat) (hx : x < 18446744073709551616) : exchH x < 18446744073709551616 := by
 have h2 : x / 4294967296 < 2 ^ 64 := by omega
 have h3 : x * 4294967296 % 18446744073709551616 < 2 ^ 64 := by omega
 exact Nat.or_lt_two_pow h2 h3
def revB (x : Nat) : Nat := exchH (exch 65536 281470681808895 (exch 256 71777214294589695 x))
def revW (x : Nat) : Nat := revB (exch 16 1085102592571150095 (exch 4 3689348814741910323 (exch 2 6148914691236517205 x)))
theorem z0d (x : Nat) (hx : x < 18446744073709551616) : revW x < 18446744073709551616 :=
 ztm _ (zb4 _ _ _ (zb4 _ _ _ (zb4 _ _ _ (zb4 _ _ _ (zb4 _ _ _ hx)))))
set_option maxHeartbeats 1000000 in
theorem zim (x : Nat) (w : World) (hx : x < 18446744073709551616) :
    Calls Tryz.prog 293 #[.int .u64 (x : Int)] w fun e w' => e = .returned (.int .u64 ((revB x : Nat) : Int)) ∧ w = w' := by
 have g1 := zef 256 71777214294589695 x hx (by omega)
 have l1 := zb4 256 71777214294589695 x hx
 have g2 := zef 65536 281470681808895 _ l1 (by omega)
 have l2 := zb4 65536 281470681808895 _ l1
 have g3 := zqc _ l2
 have HB := Lib.hid (show revB x = exchH (exch 65536 281470681808895 (exch 256 71777214294589695 x)) from rfl)
 generalize exch 256 71777214294589695 x = x1 at *
 generalize exch 65536 281470681808895 x1 = x2 at *
 generalize exchH x2 = x3 at *
 rw [HB.out]
 clear HB
 simp only [Int.cast_ofNat_Int] at g1 g2
 go_enter Tryz.func293, Tryz.ntmps293
 go_wp2
 go_ret
 exact ⟨rfl, rfl⟩
set_option maxHeartbeats 1000000 in
theorem zxq (x : Nat) (w : World) (hx : x < 18446744073709551616) :
    Calls Tryz.prog 290 #[.int .u64 (x : Int)] w fun e w' => e = .returned (.int .u64 ((revW x : Nat) : Int)) ∧ w = w' := by
 have g1 := zef 2 6148914691236517205 x hx (by omega)
 have l1 := zb4 2 6148914691236517205 x hx
 have g2 := zef 4 3689348814741910323 _ l1 (by omega)
 have l2 := zb4 4 3689348814741910323 _ l1
 have g3 := zef 16 1085102592571150095 _ l2 (by omega)
 have l3 := zb4 16 1085102592571150095 _ l2
 have HB := Lib.hid (show revW x = revB (exch 16 1085102592571150095 (exch 4 3689348814741910323 (exch 2 6148914691236517205 x))) from rfl)
 generalize exch 2 6148914691236517205 x = x1 at *
 generalize exch 4 3689348814741910323 x1 = x2 at *
 generalize exch 16 1085102592571150095 x2 = x3 at *
 rw [HB.out]
 clear HB
 simp only [Int.cast_ofNat_Int] at g1 g2 g3
 go_enter Tryz.func290, Tryz.ntmps290
 go_wp2_with fail
 refine (zim x3 _ l3).mono ?_
 rintro e w' ⟨rfl, rfl⟩
 go_wp2
 go_ret
 exact ⟨rfl, rfl⟩
def rev : Nat → Nat → Nat
 | 0, _ => 0
 | k + 1, x => (x % 2) * 2 ^ k + rev k (x / 2)
def zcw (k : Nat) : Nat → Bool
 | 0 => true
 | n + 1 => (Nat.beq (revW n / 2 ^ (64 - k)) (rev k n)) && zcw k n
theorem za0 {k : Nat} : ∀ n, zcw k n = true → ∀ x, x < n → revW x / 2 ^ (64 - k) = rev k x
 | 0, _, x, hx => by omega
 | n + 1, h, x, hx => by
  rw [zcw, Bool.and_eq_true] at h
  rcases Nat.lt_or_eq_of_le (Nat.le_of_lt_succ hx) with g | g
  ·exact za0 n h.2 x g
  ·subst g; exact Nat.eq_of_beq_eq_true h.1
theorem z0q : (zcw 1 2 && zcw 2 4 && zcw 3 8 && zcw 4 16 && zcw 5 32 && zcw 6 64 && zcw 7 128 && zcw 8 256 && zcw 9 512) = true := by decide +kernel
theorem zyo {k x : Nat} (h0 : 1 ≤ k) (h1 : k ≤ 9) (hx : x < 2 ^ k) : revW x / 2 ^ (64 - k) = rev k x := by
 have h := z0q
 simp only [Bool.and_eq_true] at h
 obtain ⟨⟨⟨⟨⟨⟨⟨⟨a, b⟩, c⟩, d⟩, e⟩, f⟩, g⟩, i⟩, j⟩ := h
 rcases (show k = 1 ∨ k = 2 ∨ k = 3 ∨ k = 4 ∨ k = 5 ∨ k = 6 ∨ k = 7 ∨ k = 8 ∨ k = 9 by omega) with rfl | rfl | rfl | rfl | rfl | rfl | rfl | rfl | rfl
 ·exact za0 2 a x hx
 ·exact za0 4 b x hx
 ·exact za0 8 c x hx
 ·exact za0 16 d x hx
 ·exact za0 32 e x hx
 ·exact za0 64 f x hx
 ·exact za0 128 g x hx
 ·exact za0 256 i x hx
 ·exact za0 512 j x hx
end Go.Proofs.YtopbibfpjgjalaaGreatDoor
