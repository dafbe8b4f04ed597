import Derived.Test.YtopbibfpjgjalaaGreatDoorZ11
import Derived.Test.YtopbibfpjgjalaaGreatDoorZ9
namespace Go.Proofs.YtopbibfpjgjalaaGreatDoor
open Go.RowKit
set_option linter.unusedVariables false
set_option maxRecDepth 100000
set_option maxHeartbeats 1000000 in
theorem zn4 (m : Int) (w : World) (h1 : 0 < m) (m1 : m < 18446744073709551616) :
    Calls Tryz.prog 277 #[.int .u64 0, .int .u64 0, .int .u64 m] w (zr3 0 m w) := by
 have hmz : (m == 0) = false := by simp; omega
 have hmz2 : ¬ m = 0 := by omega
 have hml : decide (m ≤ 0) = false := by simp; omega
 have HZ := Lib.hid (show (0 : Int) * 18446744073709551616 / m = 0 by rw [Int.zero_mul, Int.zero_ediv])
 go_enter Tryz.func277, Tryz.ntmps277
 go_wp2
 go_quiet (fail)
 go_wp2
 go_ret2
 exact ⟨_, _, congrArg Ending.returned (tup2 HZ.out.symm rfl), rfl⟩
def shr (b q : Nat) : Nat := b * 18446744073709551616 / q
theorem z2c {b q : Nat} (h : b < q) : shr b q < 18446744073709551616 := by
 unfold shr
 rw [Nat.div_lt_iff_lt_mul (by omega), Nat.mul_comm]
 exact Nat.mul_lt_mul_of_pos_left h (by omega)
theorem zwq (b q : Nat) (w : World) (h1 : b < q) (m1 : q < 18446744073709551616) :
    Calls Tryz.prog 277 #[.int .u64 (b : Int), .int .u64 0, .int .u64 (q : Int)] w fun e w' => ∃ r : Int, e = .returned (.tuple #[.int .u64 ((shr b q : Nat) : Int), .int .u64 r]) ∧ Ext w w' := by
 have hs : ((shr b q : Nat) : Int) = (b : Int) * 18446744073709551616 / (q : Int) := by
  unfold shr; rw [Int.natCast_ediv, Int.natCast_mul]; rfl
 rw [hs]
 rcases Nat.eq_zero_or_pos b with h0 | h0
 ·subst h0
  exact (zn4 q w (by omega) (by omega)).mono fun e w' ⟨r, n, he, hw⟩ => ⟨r, he, by rw [hw]; exact (Ext.refl w).drewN n⟩
 ·exact (zst b q w (by omega) (by omega) (by omega)).mono fun e w' ⟨r, n, he, hw⟩ => ⟨r, he, by rw [hw]; exact (Ext.refl w).drewN n⟩
theorem zjo (b q : Nat) (w : World) (h1 : b < q) (m1 : q < 18446744073709551616) :
    Calls Tryz.prog 253 #[.int .u64 (b : Int), .int .u64 (q : Int)] w fun e w' => e = .returned (.agg #[.int .u64 (b : Int), .int .u64 ((shr b q : Nat) : Int)]) ∧ Ext w w' := by
 generalize hs : shr b q = s
 have HS := Lib.hid hs
 clear hs
 go_enter Tryz.func253, Tryz.ntmps253
 go_wp2_with fail
 refine (zwq b q _ h1 m1).mono ?_
 rw [HS.out]
 rintro e w1 ⟨r, rfl, k1⟩
 have c0 : w1.cell? ⟨w.heap.size, 0, none⟩ = some (.int .u64 0) := za7 k1 (by simp) (by simp)
 have c1 : w1.cell? ⟨w.heap.size, 1, none⟩ = some (.int .u64 0) := za7 k1 (by simp) (by simp)
 have z0 : w1.frozen? ⟨w.heap.size, 0, none⟩ = false := za9 k1 (by simp) (by simp)
 have z1 : w1.frozen? ⟨w.heap.size, 1, none⟩ = false := za9 k1 (by simp) (by simp)
 have kw : Ext w w1 := ((Ext.refl w).alloc _).trans k1
 go_wp2
 exact bodyPost_ret (v := .agg #[.int .u64 (b : Int), .int .u64 (s : Int)]) (by simp [results, Tryz.results253, go_sem, c0, c1]) rfl ⟨rfl, (kw.set (p := ⟨w.heap.size, 0, none⟩) (Nat.le_refl _) _).set (p := ⟨w.heap.size, 1, none⟩) (Nat.le_refl _) _⟩
theorem zkq (x b q : Nat) (hq0 : 0 < q) (hb : b < q) (hx : x < 18446744073709551616) :
    x * shr b q / 18446744073709551616 * q ≤ x * b ∧ x * b < x * shr b q / 18446744073709551616 * q + 2 * q := by
 unfold shr
 have e1 := Nat.div_add_mod (b * 18446744073709551616) q
 have e2 := Nat.mod_lt (b * 18446744073709551616) hq0
 generalize b * 18446744073709551616 / q = s at *
 generalize hr : b * 18446744073709551616 % q = r at *
 have e3 := Nat.div_add_mod (x * s) 18446744073709551616
 have e4 := Nat.mod_lt (x * s) (show 0 < 18446744073709551616 by omega)
 generalize x * s / 18446744073709551616 = t at *
 generalize x * s % 18446744073709551616 = u at *
 have f1 : x * b * 18446744073709551616 = t * q * 18446744073709551616 + u * q + x * r := by
  calc x * b * 18446744073709551616 = x * (b * 18446744073709551616) := by rw [Nat.mul_assoc]
   _ = x * (q * s + r) := by rw [e1]
   _ = (x * s) * q + x * r := by rw [Nat.mul_add, Nat.mul_comm q s, Nat.mul_assoc]
   _ = (18446744073709551616 * t + u) * q + x * r := by rw [e3]
   _ = t * q * 18446744073709551616 + u * q + x * r := by rw [Nat.add_mul, Nat.mul_assoc, Nat.mul_comm 18446744073709551616]
 have f2 : u * q < 18446744073709551616 * q := Nat.mul_lt_mul_of_pos_right e4 hq0
 have f3 : x * r ≤ 18446744073709551616 * q := Nat.mul_le_mul (by omega) (by omega)
 generalize x * b = A at *
 generalize t * q = B at *
 generalize u * q = C at *
 generalize x * r = D at *
 omega
theorem mod_one {a q : Nat} (h : a < 2 * q) (g : q ≤ a) : a % q = a - q := by
 rw [Nat.mod_eq_sub_mod g]; exact Nat.mod_eq_of_lt (by omega)
set_option maxHeartbeats 1000000 in
theorem zp6 (x b q : Nat) (w : World) (hq0 : 0 < q) (hq : q ≤ 2305843009213693952) (hb : b < q) (hx : x < 18446744073709551616) :
    Calls Tryz.prog 259 #[.agg #[.int .u64 (b : Int), .int .u64 ((shr b q : Nat) : Int)], .int .u64 (x : Int), .int .u64 (q : Int)] w fun e w' => e = .returned (.int .u64 ((x * b % q : Nat) : Int)) ∧ Ext w w' := by
 obtain ⟨t1, t2⟩ := zkq x b q hq0 hb hx
 have hsl := z2c hb
 generalize shr b q = s at *
 obtain ⟨t, ht⟩ : ∃ t, t = x * s / 18446744073709551616 := ⟨_, rfl⟩
 rw [← ht] at t1 t2
 have htl : t < 18446744073709551616 := by
  rw [ht, Nat.div_lt_iff_lt_mul (by omega)]
  exact Nat.lt_of_le_of_lt (Nat.mul_le_mul (Nat.le_of_lt hx) (Nat.le_refl s)) (Nat.mul_lt_mul_of_pos_left hsl (by omega))
 have HM := Lib.hid (show (x : Int) * (s : Int) / 18446744073709551616 = (t : Int) by rw [ht, Int.natCast_ediv, Int.natCast_mul]; rfl)
 obtain ⟨l, hl⟩ : ∃ l, x * b = t * q + l := ⟨x * b - t * q, by omega⟩
 have hl2 : l < 2 * q := by omega
 have hL : IntKind.u64.wrap (IntKind.u64.wrap ((x : Int) * (b : Int)) - IntKind.u64.wrap ((t : Int) * (q : Int))) = (l : Int) := by
  simp only [zav]
  rw [← Int.natCast_mul, ← Int.natCast_mul, hl]
  generalize t * q = B at *
  omega
 have hres : x * b % q = l % q := by rw [hl, Nat.add_comm, Nat.add_mul_mod_self_right]
 have HRES := Lib.hid hres
 clear hres t1 t2 hl ht
 go_enter Tryz.func259, Tryz.ntmps259
 go_wp2_with fail
 refine (zsr x s _ (by omega) (by omega) (by omega) (by omega)).mono ?_
 rw [HM.out]
 rintro e w' ⟨rfl, rfl⟩
 by_cases hg : q ≤ l
 ·have HE := Lib.hid (mod_one hl2 hg)
  go_wp2
  go_ret
  refine ⟨congrArg Ending.returned (zar ?_), (Ext.refl w).alloc _⟩
  rw [HRES.out, HE.out]; omega
 ·have HE := Lib.hid (Nat.mod_eq_of_lt (show l < q by omega))
  go_wp2
  go_ret
  exact ⟨congrArg Ending.returned (zar (by rw [HRES.out, HE.out])), (Ext.refl w).alloc _⟩
def dif (a b q : Nat) : Nat := (a + q - b) % q
set_option maxHeartbeats 1000000 in
theorem zts (a b q : Nat) (w : World) (hq : q ≤ 2305843009213693952) (ha : a < q) (hb : b < q) :
    Calls Tryz.prog 291 #[.int .u64 (a : Int), .int .u64 (b : Int), .int .u64 (q : Int)] w fun e w' => e = .returned (.int .u64 (((a + b) % q : Nat) : Int)) ∧ w = w' := by
 by_cases hg : q ≤ a + b
 ·have HE := Lib.hid (mod_one (show a + b < 2 * q by omega) hg)
  go_enter Tryz.func291, Tryz.ntmps291
  go_wp2
  go_ret
  exact ⟨congrArg Ending.returned (zar (by rw [HE.out]; omega)), rfl⟩
 ·have HE := Lib.hid (Nat.mod_eq_of_lt (show a + b < q by omega))
  go_enter Tryz.func291, Tryz.ntmps291
  go_wp2
  go_ret
  exact ⟨congrArg Ending.returned (zar (by rw [HE.out]; omega)), rfl⟩
set_option maxHeartbeats 1000000 in
theorem zq8 (a b q : Nat) (w : World) (hq : q ≤ 2305843009213693952) (ha : a < q) (hb : b < q) :
    Calls Tryz.prog 292 #[.int .u64 (a : Int), .int .u64 (b : Int), .int .u64 (q : Int)] w fun e w' => e = .returned (.int .u64 ((dif a b q : Nat) : Int)) ∧ w = w' := by
 by_cases hg : b ≤ a
 ·have HE := Lib.hid (show dif a b q = a + q - b - q from mod_one (show a + q - b < 2 * q by omega) (by omega))
  go_enter Tryz.func292, Tryz.ntmps292
  go_wp2
  go_ret
  exact ⟨congrArg Ending.returned (zar (by rw [HE.out]; omega)), rfl⟩
 ·have HE := Lib.hid (show dif a b q = a + q - b from Nat.mod_eq_of_lt (show a + q - b < q by omega))
  go_enter Tryz.func292, Tryz.ntmps292
  go_wp2
  go_ret
  exact ⟨congrArg Ending.returned (zar (by rw [HE.out]; omega)), rfl⟩
end Go.Proofs.YtopbibfpjgjalaaGreatDoor
