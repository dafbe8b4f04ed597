import Derived.Test.YtkbcobjhlpjieaaGreatDoorZPExt
import Derived.Test.YtkbcobjhlpjieaaGreatDoorZ8
import Derived.Laws.Bits64b
import Derived.Test.YtkbcobjhlpjieaaGreatDoorZ6
namespace Go.Proofs.YtkbcobjhlpjieaaGreatDoor
open Go.RowKit
set_option linter.unusedVariables false
set_option maxRecDepth 100000
structure Tabs (w : World) : Prop where
 tz : ∀ j, j < 64 → w.cell? ⟨3, j, none⟩ = some (.int .u8 ((Lib.deBruijn64tab.getD j 0 : Nat) : Int))
 ba : ∀ j, j < 12 → w.cell? ⟨0, j, none⟩ = some (.int .u64 ((L12.getD j 0 : Nat) : Int))
set_option maxHeartbeats 1000000 in
theorem tz64_core (x k idx : Nat) (w : World) (hx0 : ((x : Int) == 0) = false)
    (key : IntKind.u64.wrap (bits BinOp.and IntKind.u64 (x : Int) (IntKind.u64.wrap (-(x : Int))) * 285870213051353865) / 288230376151711744 = (idx : Int))
    (hi : idx < 64) (hk : k < 64) (hcell : w.cell? ⟨3, idx, none⟩ = some (.int .u8 k)) :
    Calls Tryz.prog 178 #[.int .u64 x] w fun e w' => e = .returned (.int .i64 k) ∧ w = w' := by
 go_enter Tryz.func178, Tryz.ntmps178
 go_wp2_with (simp only [key])
 go_ret
 exact ⟨rfl, rfl⟩
theorem tz64_key (x a : Nat) (hx : x < 18446744073709551616) (hx0 : x ≠ 0) (hlow : x &&& (18446744073709551616 - x) = a) :
    IntKind.u64.wrap (bits BinOp.and IntKind.u64 (x : Int) (IntKind.u64.wrap (-(x : Int))) * 285870213051353865) / 288230376151711744 = ((a * 285870213051353865 % 18446744073709551616 / 288230376151711744 : Nat) : Int) := by
 have e1 : IntKind.u64.wrap (-(x : Int)) = ((18446744073709551616 - x : Nat) : Int) := by rw [IntKind.wrap_u64]; omega
 rw [e1, bits_and_u64_nat x _ hx (by omega), hlow, IntKind.wrap_u64]
 omega
theorem tz_any (x : Nat) (w : World) (hx0 : x ≠ 0) (hx : x < 18446744073709551616) (hT : Tabs w) :
    Calls Tryz.prog 178 #[.int .u64 (x : Int)] w fun e w' => e = .returned (.int .i64 ((ctzF 64 x : Nat) : Int)) ∧ w = w' := by
 obtain ⟨hlow, hk⟩ := Lib.lowest_bit 64 x hx0 hx
 obtain ⟨hi, htab⟩ := Lib.deBruijn64_at _ hk
 have hcell := hT.tz _ hi
 rw [htab] at hcell
 have e : Lib.ctz 64 x = ctzF 64 x := by rw [ctzF_lib]; simp [Lib.ctz, hx0]
 rw [← e]
 exact tz64_core x _ _ w (by simp; omega) (tz64_key x _ hx hx0 hlow) hi hk hcell
theorem ctzF_lt (x : Nat) (h0 : 0 < x) (h : x < 18446744073709551616) : ctzF 64 x < 64 ∧ ∃ m, x = 2 ^ ctzF 64 x * (2 * m + 1) := by
 obtain ⟨m, hm, hk⟩ := Lib.ctzFrom_spec 64 x h0 h
 rw [ctzF_lib]
 exact ⟨hk, m, hm⟩
theorem Tabs.ext {a b : World} (h : Tabs a) (k : Ext a b) : Tabs b := ⟨fun j hj => cell_ext k (h.tz j hj), fun j hj => cell_ext k (h.ba j hj)⟩
theorem testOf_any (n : Nat) (w : World) (h0 : 2 ≤ n) (hn : n < 18446744073709551616) (hT : Tabs w) :
    Calls Tryz.prog 171 #[.int .u64 (n : Int)] w fun e w' => e = .returned (.agg #[.int .u64 (n : Int), .int .u64 ((oddS n : Nat) : Int), .int .i64 ((tzS n : Nat) : Int)]) ∧ Ext w w' := by
 have tz_def : ctzF 64 (n - 1) = tzS n := by unfold tzS; rfl
 have hc := (ctzF_lt (n - 1) (by omega) (by omega)).1
 rw [tz_def] at hc
 have e1 : (n : Int) - 1 = ((n - 1 : Nat) : Int) := by omega
 have hd : ((n : Int) - 1) / 2 ^ tzS n = ((oddS n : Nat) : Int) := by
  rw [oddS, e1, Int.natCast_ediv, Int.natCast_pow]; rfl
 have HD := Lib.hid hd
 have HTT := Lib.hid tz_def
 have E1 := Lib.hid e1
 clear tz_def e1 hd
 generalize tzS n = s at *
 generalize oddS n = d at *
 go_enter Tryz.func171, Tryz.ntmps171
 go_wp2_with fail
 have hcall := tz_any (n - 1) (w.alloc (Obj.cells #[Value.int IntKind.u64 0, Value.int IntKind.u64 0, Value.int IntKind.i64 0] 259)) (by omega) (by omega) (hT.ext ((Ext.refl w).alloc _))
 rw [← E1.out, HTT.out] at hcall
 refine hcall.mono ?_
 clear hcall
 rintro e w' ⟨rfl, rfl⟩
 go_wp2
 rw [HD.out]
 exact bodyPost_ret (v := .agg #[.int .u64 (n : Int), .int .u64 (d : Int), .int .i64 (s : Int)]) (by simp [results, Tryz.results171, go_sem]) rfl ⟨rfl, (Ext.refl w).alloc _⟩
theorem powS_nat (a d n : Nat) (hn : 0 < n) : powS a d n = ((a ^ d % n : Nat) : Int) := by
 unfold powS
 rw [if_neg (by omega), Int.toNat_natCast, Int.natCast_emod, Int.natCast_pow]
theorem mulS_nat (a b n : Nat) (hn : 0 < n) : mulS a b n = ((a * b % n : Nat) : Int) := by
 unfold mulS
 rw [if_neg (by omega), Int.natCast_emod, Int.natCast_mul]
theorem powN (a d n : Nat) (w : World) (hn : 0 < n) (a1 : a < 18446744073709551616) (d1 : d < 18446744073709551616) (n1 : n < 18446744073709551616) :
    Calls Tryz.prog 162 #[.int .u64 (a : Int), .int .u64 (d : Int), .int .u64 (n : Int)] w fun e w' => e = .returned (.int .u64 ((a ^ d % n : Nat) : Int)) ∧ Ext w w' := by
 have := pow_any a d n w (by omega) (by omega) (by omega) (by omega) (by omega) (by omega)
 rw [powS_nat a d n hn] at this
 exact this.mono fun e w' ⟨he, q, hw⟩ => ⟨he, by rw [hw]; exact (Ext.refl w).drewN q⟩
theorem rpowN (a d n : Nat) (w : World) (hn : 0 < n) (a1 : a < 18446744073709551616) (d1 : d < 18446744073709551616) (n1 : n < 18446744073709551616) :
    Calls Tryz.prog 133 #[.int .u64 (a : Int), .int .u64 (d : Int), .int .u64 (n : Int)] w fun e w' => e = .returned (.int .u64 ((a ^ d % n : Nat) : Int)) ∧ Ext w w' := by
 have := rpow_any a d n w (by omega) (by omega) (by omega) (by omega) (by omega) (by omega)
 rw [powS_nat a d n hn] at this
 exact this.mono fun e w' ⟨he, q, hw⟩ => ⟨he, by rw [hw]; exact (Ext.refl w).drewN q⟩
theorem mulN (a b n : Nat) (w : World) (hn : 0 < n) (a1 : a < 18446744073709551616) (d1 : b < 18446744073709551616) (n1 : n < 18446744073709551616) :
    Calls Tryz.prog 167 #[.int .u64 (a : Int), .int .u64 (b : Int), .int .u64 (n : Int)] w fun e w' => e = .returned (.int .u64 ((a * b % n : Nat) : Int)) ∧ Ext w w' := by
 have := mul_any a b n w (by omega) (by omega) (by omega) (by omega) (by omega) (by omega)
 rw [mulS_nat a b n hn] at this
 exact this.mono fun e w' ⟨he, q, hw⟩ => ⟨he, by rw [hw]; exact (Ext.refl w).drewN q⟩
theorem rmulN (a b n : Nat) (w : World) (hn : 0 < n) (a1 : a < 18446744073709551616) (d1 : b < 18446744073709551616) (n1 : n < 18446744073709551616) :
    Calls Tryz.prog 134 #[.int .u64 (a : Int), .int .u64 (b : Int), .int .u64 (n : Int)] w fun e w' => e = .returned (.int .u64 ((a * b % n : Nat) : Int)) ∧ Ext w w' := by
 have := rmul_any a b n w (by omega) (by omega) (by omega) (by omega) (by omega) (by omega)
 rw [mulS_nat a b n hn] at this
 exact this.mono fun e w' ⟨he, q, hw⟩ => ⟨he, by rw [hw]; exact (Ext.refl w).drewN q⟩
def passS (n d s a : Nat) : Bool := cond (Nat.beq (a ^ d % n) 1) true (hit n s (a ^ d % n))
theorem hit_yes {n s x : Nat} (h : x + 1 = n) : hit n (s + 1) x = true := by
 unfold hit; rw [beq_iff, decide_eq_true h, cond_true]
theorem hit_no {n s x : Nat} (h : x + 1 ≠ n) : hit n (s + 1) x = hit n s (x * x % n) := by
 rw [hit, beq_iff, decide_eq_false h, cond_false]
set_option maxHeartbeats 1000000 in
theorem passes_any (n d s a : Nat) (w : World) (hn0 : 2 ≤ n) (hn : n < 18446744073709551616) (hd : d < 18446744073709551616) (hs : s < 64) (ha : a < 18446744073709551616) :
    Calls Tryz.prog 172 #[.agg #[.int .u64 (n : Int), .int .u64 (d : Int), .int .i64 (s : Int)], .int .u64 (a : Int)] w fun e w' => e = .returned (.bool (passS n d s a)) ∧ Ext w w' := by
 have hx := Nat.mod_lt (a ^ d) (show 0 < n by omega)
 have HP := Lib.hid (show passS n d s a = cond (Nat.beq (a ^ d % n) 1) true (hit n s (a ^ d % n)) by rfl)
 go_enter Tryz.func172, Tryz.ntmps172
 go_wp2_with fail
 refine (powN a d n _ (by omega) ha hd hn).mono ?_
 rintro e w1 ⟨rfl, k1⟩
 have kw : Ext w w1 := ((Ext.refl w).alloc _).trans k1
 have c0 : w1.cell? ⟨w.heap.size, 0, none⟩ = some (.int .u64 (n : Int)) := kept_cell k1 (by simp) (by simp)
 have c1 : w1.cell? ⟨w.heap.size, 1, none⟩ = some (.int .u64 (d : Int)) := kept_cell k1 (by simp) (by simp)
 have c2 : w1.cell? ⟨w.heap.size, 2, none⟩ = some (.int .i64 (s : Int)) := kept_cell k1 (by simp) (by simp)
 have hsz : w.heap.size < w1.heap.size := World.block_lt_of_cell? _ _ c0
 have HK := Lib.hid kw
 clear k1 kw
 generalize a ^ d % n = x at *
 by_cases hx1 : x = 1
 ·subst hx1
  have HP1 := Lib.hid (show passS n d s a = true by rw [HP.out]; rfl)
  go_wp2
  go_ret
  exact ⟨by rw [HP1.out]; rfl, HK.out⟩
 ·have hxb : ((x : Int) == 1) = false := by simp; omega
  have HP1 := Lib.hid (show passS n d s a = hit n s x by rw [HP.out, beq_iff, decide_eq_false hx1, cond_false])
  clear HP
  go_wp2
  go_loopw [5, 16] (fun p i wr => ∃ k y : Nat, k ≤ s ∧ y < n ∧ i = .int .i64 (k : Int) ∧ p = .int .u64 (y : Int) ∧ Ext w1 wr ∧ Hid (passS n d s a = hit n (s - k) y)) (fun _ i _ => s - (intOf i).toNat)
  case atStart => exact ⟨0, x, by omega, hx, rfl, rfl, Ext.refl _, HP1⟩
  case round =>
   obtain ⟨k, y, hk, hy, rfl, rfl, kr, hp⟩ := hrel
   have c0' := kept_cell kr hsz c0
   by_cases hks : k < s
   ·by_cases hyn : y + 1 = n
    ·have HT := Lib.hid (show passS n d s a = true by rw [hp.out, show s - k = (s - k - 1) + 1 by omega, hit_yes hyn])
     have hyb : ((y : Int) == (n : Int) - 1) = true := by simp; omega
     go_wp2
     go_ret
     exact ⟨by rw [HT.out]; rfl, HK.out.trans kr⟩
    ·have HT := Lib.hid (show passS n d s a = hit n (s - (k + 1)) (y * y % n) by rw [hp.out, show s - k = (s - (k + 1)) + 1 by omega, hit_no hyn])
     have hyb : ((y : Int) == (n : Int) - 1) = false := by simp; omega
     have hlt := Nat.mod_lt (y * y) (show 0 < n by omega)
     go_wp2_with fail
     refine (mulN y y n _ (by omega) (by omega) (by omega) hn).mono ?_
     rintro e w2 ⟨rfl, k2⟩
     generalize y * y % n = z at *
     go_wp2
     exact ⟨⟨k + 1, z, by omega, hlt, by go_num, rfl, kr.trans k2, HT⟩, by simp [intOf] <;> omega⟩
   ·have HT := Lib.hid (show passS n d s a = false by rw [hp.out, show s - k = 0 by omega]; rfl)
    go_wp2
    go_ret
    exact ⟨by rw [HT.out]; rfl, HK.out.trans kr⟩
theorem ctz_odd {f x : Nat} (h : x % 2 = 1) : ctzF (f + 1) x = 0 := by
 unfold ctzF; rw [beq_iff, decide_eq_true h, cond_true]
theorem ctz_even {f x : Nat} (h : x % 2 ≠ 1) : ctzF (f + 1) x = 1 + ctzF f (x / 2) := by
 rw [ctzF, beq_iff, decide_eq_false h, cond_false]
theorem strongS_def (n a : Nat) : strongS n a = passS n (oddS n) (tzS n) a := rfl
set_option maxHeartbeats 1000000 in
theorem strong_any (n a : Nat) (w : World) (hn0 : 3 ≤ n) (hodd : n % 2 = 1) (hn : n < 18446744073709551616) (ha : a < 18446744073709551616) :
    Calls Tryz.prog 114 #[.int .u64 (n : Int), .int .u64 (a : Int)] w fun e w' => e = .returned (.bool (strongS n a)) ∧ Ext w w' := by
 have htz := (ctzF_lt (n - 1) (by omega) (by omega)).1
 have HTZ := Lib.hid (show ctzF 64 (n - 1) = tzS n by unfold tzS; rfl)
 rw [HTZ.out] at htz
 have HO := Lib.hid (show oddS n = (n - 1) / 2 ^ tzS n by rw [oddS])
 go_enter Tryz.func114, Tryz.ntmps114
 go_wp2
 go_loop [5, 6] (fun dv sv => ∃ k D : Nat, k < 64 ∧ 0 < D ∧ D < 18446744073709551616 ∧ dv = .int .u64 (D : Int) ∧ sv = .int .i64 (k : Int) ∧ Hid (D = (n - 1) / 2 ^ k) ∧ Hid (k + ctzF (64 - k) D = tzS n)) (fun dv _ => (intOf dv).toNat)
 case atStart => exact ⟨0, n - 1, by omega, by omega, by omega, u64_eq (by omega), rfl, Lib.hid (by rw [Nat.pow_zero, Nat.div_one]), Lib.hid (by rw [Nat.zero_add]; exact HTZ.out)⟩
 case round =>
  obtain ⟨k, D, hk, hD0, hD1, rfl, rfl, hd, hz⟩ := hrel
  by_cases hDo : D % 2 = 1
  ·have hzz := hz.out
   rw [show 64 - k = (63 - k) + 1 by omega, ctz_odd hDo, Nat.add_zero] at hzz
   have hdd := hd.out
   rw [hzz, ← HO.out] at hdd
   have HS := Lib.hid (strongS_def n a)
   have hb : ((D : Int) % 2 == 0) = false := by simp; omega
   have hs1 : 0 < k := by
    rcases Nat.eq_zero_or_pos k with h0 | h0
    ·have := hd.out
     rw [h0, Nat.pow_zero, Nat.div_one] at this
     omega
    ·exact h0
   rw [← hzz, ← hdd] at HS
   clear hzz hdd hz hd HO HTZ htz
   have hx := Nat.mod_lt (a ^ D) (show 0 < n by omega)
   go_wp2_with fail
   refine (rpowN a D n _ (by omega) ha hD1 hn).mono ?_
   rintro e w1 ⟨rfl, k1⟩
   have HP := Lib.hid (show strongS n a = cond (Nat.beq (a ^ D % n) 1) true (hit n k (a ^ D % n)) by rw [HS.out]; rfl)
   clear HS
   generalize a ^ D % n = x at *
   by_cases hx1 : x = 1
   ·subst hx1
    have HP1 := Lib.hid (show strongS n a = true by rw [HP.out]; rfl)
    go_wp2
    go_ret
    exact ⟨by rw [HP1.out]; rfl, k1⟩
   ·have hxb : ((x : Int) == 1) = false := by simp; omega
    by_cases hxn : x + 1 = n
    ·have HP1 := Lib.hid (show strongS n a = true by rw [HP.out, beq_iff, decide_eq_false hx1, cond_false, show k = (k - 1) + 1 by omega, hit_yes hxn])
     have hyb : ((x : Int) == (n : Int) - 1) = true := by simp; omega
     go_wp2
     go_ret
     exact ⟨by rw [HP1.out]; rfl, k1⟩
    ·have HP1 := Lib.hid (show strongS n a = hit n (k - 1) (x * x % n) by rw [HP.out, beq_iff, decide_eq_false hx1, cond_false, show k = (k - 1) + 1 by omega, hit_no hxn, Nat.add_sub_cancel])
     have hyb : ((x : Int) == (n : Int) - 1) = false := by simp; omega
     clear HP
     go_wp2
     go_loopw [7, 8] (fun p i wr => ∃ j y : Nat, 1 ≤ j ∧ j ≤ k ∧ y < n ∧ i = .int .i64 (j : Int) ∧ p = .int .u64 (y : Int) ∧ Ext w1 wr ∧ Hid (strongS n a = hit n (k - j) (y * y % n))) (fun _ i _ => k - (intOf i).toNat)
     case atStart => exact ⟨1, x, by omega, by omega, hx, rfl, rfl, Ext.refl _, HP1⟩
     case round =>
      obtain ⟨j, y, hj1, hjk, hy, rfl, rfl, kr, hp⟩ := hrel
      by_cases hlt : j < k
      ·have hyl := Nat.mod_lt (y * y) (show 0 < n by omega)
       go_wp2_with fail
       refine (rmulN y y n _ (by omega) (by omega) (by omega) hn).mono ?_
       rintro e w2 ⟨rfl, k2⟩
       have HY := Lib.hid (show strongS n a = hit n (k - j) (y * y % n) from hp.out)
       clear hp
       generalize y * y % n = z at *
       by_cases hzn : z + 1 = n
       ·have HT := Lib.hid (show strongS n a = true by rw [HY.out, show k - j = (k - j - 1) + 1 by omega, hit_yes hzn])
        have hzb : ((z : Int) == (n : Int) - 1) = true := by simp; omega
        go_wp2
        go_ret
        exact ⟨by rw [HT.out]; rfl, k1.trans (kr.trans k2)⟩
       ·have HT := Lib.hid (show strongS n a = hit n (k - (j + 1)) (z * z % n) by rw [HY.out, show k - j = (k - (j + 1)) + 1 by omega, hit_no hzn])
        have hzb : ((z : Int) == (n : Int) - 1) = false := by simp; omega
        go_wp2
        exact ⟨⟨j + 1, z, by omega, by omega, hyl, by go_num, rfl, kr.trans k2, HT⟩, by simp [intOf] <;> omega⟩
      ·have HT := Lib.hid (show strongS n a = false by rw [hp.out, show k - j = 0 by omega]; rfl)
       go_wp2
       go_ret
       exact ⟨by rw [HT.out]; rfl, k1.trans kr⟩
  ·have hb : ((D : Int) % 2 == 0) = true := by simp; omega
   have HD := Lib.hid (show D / 2 = (n - 1) / 2 ^ (k + 1) by rw [hd.out, Nat.div_div_eq_div_mul, Nat.pow_succ])
   have HZ := Lib.hid (show k + 1 + ctzF (64 - (k + 1)) (D / 2) = tzS n by
    have := hz.out
    rw [show 64 - k = (64 - (k + 1)) + 1 by omega, ctz_even hDo] at this
    omega)
   have hk63 : k + 1 < 64 := by
    have := HZ.out
    omega
   go_wp2
   exact ⟨⟨k + 1, D / 2, hk63, by omega, by omega, by go_num, by go_num, HD, HZ⟩, by simp [intOf] <;> omega⟩
def shr (b q : Nat) : Nat := b * 18446744073709551616 / q
def dif (a b q : Nat) : Nat := (a + q - b) % q
theorem l12_lt {j : Nat} (h : j < 12) : 2 ≤ L12.getD j 0 ∧ L12.getD j 0 < 100 := by
 have : ∀ j, j < 12 → 2 ≤ L12.getD j 0 ∧ L12.getD j 0 < 100 := by decide
 exact this j h
theorem small_yes {n b : Nat} {bs : List Nat} {r : Bool} (h : n % b = 0) : smallF n (b :: bs) r = decide (n = b) := by
 rw [smallF, beq_iff, decide_eq_true h, cond_true, beq_iff]
theorem small_no {n b : Nat} {bs : List Nat} {r : Bool} (h : n % b ≠ 0) : smallF n (b :: bs) r = smallF n bs r := by
 rw [smallF, beq_iff, decide_eq_false h, cond_false]
theorem isS_two {n : Nat} (h : 2 ≤ n) : isS n = smallF n L12 (L12.all (strongS n)) := by
 rw [isS, blt_iff, decide_eq_false (by omega), cond_false]
theorem isS_one {n : Nat} (h : n < 2) : isS n = false := by
 rw [isS, blt_iff, decide_eq_true h, cond_true]
theorem drop_all {P : Nat → Bool} {k : Nat} (h : k < 12) : (L12.drop k).all P = (P (L12.getD k 0) && (L12.drop (k + 1)).all P) := by
 have hl : k < L12.length := h
 rw [List.drop_eq_getElem_cons hl, List.all_cons, List.getD_eq_getElem?_getD, List.getElem?_eq_getElem hl, Option.getD_some]
set_option maxHeartbeats 1000000 in
theorem byAll_any (n d s : Nat) (w : World) (hn0 : 2 ≤ n) (hn : n < 18446744073709551616) (hd : d < 18446744073709551616) (hs : s < 64) (hT : Tabs w) :
    Calls Tryz.prog 170 #[.func (.func 172) #[.agg #[.int .u64 (n : Int), .int .u64 (d : Int), .int .i64 (s : Int)]] #[]] w fun e w' => e = .returned (.bool (L12.all (passS n d s))) ∧ Ext w w' := by
 have HT := Lib.hid hT
 clear hT
 obtain ⟨R, hR⟩ : ∃ R, R = L12.all (passS n d s) := ⟨_, rfl⟩
 rw [← hR]
 have HR := Lib.hid hR
 clear hR
 go_enter Tryz.func170, Tryz.ntmps170
 go_wp2
 go_loopw [4] (fun i wr => ∃ k : Nat, k ≤ 12 ∧ i = .int .i64 (k : Int) ∧ Ext w wr ∧ Hid (R = (L12.drop k).all (passS n d s))) (fun i _ => 12 - (intOf i).toNat)
 case atStart => exact ⟨0, by omega, rfl, Ext.refl _, HR⟩
 case round =>
  obtain ⟨k, hk, rfl, kr, hi⟩ := hrel
  by_cases hlt : k < 12
  ·have hc := (HT.out.ext kr).ba k hlt
   obtain ⟨hb0, hb1⟩ := l12_lt hlt
   have HN := Lib.hid (show R = (passS n d s (L12.getD k 0) && (L12.drop (k + 1)).all (passS n d s)) by rw [hi.out, drop_all hlt])
   have e1 : (0 : Int) ≤ k := by omega
   have e2 : (k : Int) < 12 := by omega
   generalize L12.getD k 0 = b at *
   go_wp2_with fail
   refine (passes_any n d s b _ hn0 hn hd hs (by omega)).mono ?_
   rintro e w2 ⟨rfl, k2⟩
   cases hp : passS n d s b
   ·have HF := Lib.hid (show R = false by rw [HN.out, hp, Bool.false_and])
    go_wp2
    go_ret
    exact ⟨by rw [HF.out]; rfl, kr.trans k2⟩
   ·have HF := Lib.hid (show R = (L12.drop (k + 1)).all (passS n d s) by rw [HN.out, hp, Bool.true_and])
    go_wp2
    exact ⟨⟨k + 1, by omega, by go_num, kr.trans k2, HF⟩, by simp [intOf] <;> omega⟩
  ·have HF := Lib.hid (show R = true by rw [hi.out, show k = 12 by omega]; rfl)
   go_wp2
   go_ret
   exact ⟨by rw [HF.out]; rfl, kr⟩
theorem odd_tz {n : Nat} (h0 : 2 ≤ n) (hn : n < 18446744073709551616) : oddS n < 18446744073709551616 ∧ tzS n < 64 := by
 have h1 := (ctzF_lt (n - 1) (by omega) (by omega)).1
 refine ⟨?_, by rw [tzS]; exact h1⟩
 rw [oddS]
 exact Nat.lt_of_le_of_lt (Nat.div_le_self _ _) (by omega)
theorem l12_next : L12.drop 0 = 2 :: L12.drop 1 ∧ L12.drop 1 = 3 :: L12.drop 2 ∧ L12.drop 2 = 5 :: L12.drop 3 ∧ L12.drop 3 = 7 :: L12.drop 4 ∧ L12.drop 4 = 11 :: L12.drop 5 ∧ L12.drop 5 = 13 :: L12.drop 6 ∧ L12.drop 6 = 17 :: L12.drop 7 ∧ L12.drop 7 = 19 :: L12.drop 8 ∧ L12.drop 8 = 23 :: L12.drop 9 ∧ L12.drop 9 = 29 :: L12.drop 10 ∧ L12.drop 10 = 31 :: L12.drop 11 ∧ L12.drop 11 = 37 :: L12.drop 12 := by decide
theorem small_go {n k b : Nat} {R r : Bool} (e : L12.drop k = b :: L12.drop (k + 1)) (h : Hid (R = smallF n (L12.drop k) r)) : (n % b = 0 → R = decide (n = b)) ∧ (n % b ≠ 0 → Hid (R = smallF n (L12.drop (k + 1)) r)) :=
 ⟨fun hb => by rw [h.out, e, small_yes hb], fun hb => Lib.hid (by rw [h.out, e, small_no hb])⟩
theorem eq_dec (n b : Nat) : ((n : Int) == (b : Int)) = decide (n = b) := by
 by_cases h : n = b
 ·subst h; simp
 ·rw [decide_eq_false h]; simp only [beq_eq_false_iff_ne, ne_eq]; omega
theorem ixr0 (w : World) : (Instr.index 256 (.agg #[.int .u64 2, .int .u64 3, .int .u64 5, .int .u64 7, .int .u64 11, .int .u64 13, .int .u64 17, .int .u64 19, .int .u64 23, .int .u64 29, .int .u64 31, .int .u64 37]) (.int .i64 0)).run Tryz.prog w = .ok (.int .u64 2) w := by kernel_rfl
theorem ixr1 (w : World) : (Instr.index 256 (.agg #[.int .u64 2, .int .u64 3, .int .u64 5, .int .u64 7, .int .u64 11, .int .u64 13, .int .u64 17, .int .u64 19, .int .u64 23, .int .u64 29, .int .u64 31, .int .u64 37]) (.int .i64 1)).run Tryz.prog w = .ok (.int .u64 3) w := by kernel_rfl
theorem ixr2 (w : World) : (Instr.index 256 (.agg #[.int .u64 2, .int .u64 3, .int .u64 5, .int .u64 7, .int .u64 11, .int .u64 13, .int .u64 17, .int .u64 19, .int .u64 23, .int .u64 29, .int .u64 31, .int .u64 37]) (.int .i64 2)).run Tryz.prog w = .ok (.int .u64 5) w := by kernel_rfl
theorem ixr3 (w : World) : (Instr.index 256 (.agg #[.int .u64 2, .int .u64 3, .int .u64 5, .int .u64 7, .int .u64 11, .int .u64 13, .int .u64 17, .int .u64 19, .int .u64 23, .int .u64 29, .int .u64 31, .int .u64 37]) (.int .i64 3)).run Tryz.prog w = .ok (.int .u64 7) w := by kernel_rfl
theorem ixr4 (w : World) : (Instr.index 256 (.agg #[.int .u64 2, .int .u64 3, .int .u64 5, .int .u64 7, .int .u64 11, .int .u64 13, .int .u64 17, .int .u64 19, .int .u64 23, .int .u64 29, .int .u64 31, .int .u64 37]) (.int .i64 4)).run Tryz.prog w = .ok (.int .u64 11) w := by kernel_rfl
theorem ixr5 (w : World) : (Instr.index 256 (.agg #[.int .u64 2, .int .u64 3, .int .u64 5, .int .u64 7, .int .u64 11, .int .u64 13, .int .u64 17, .int .u64 19, .int .u64 23, .int .u64 29, .int .u64 31, .int .u64 37]) (.int .i64 5)).run Tryz.prog w = .ok (.int .u64 13) w := by kernel_rfl
theorem ixr6 (w : World) : (Instr.index 256 (.agg #[.int .u64 2, .int .u64 3, .int .u64 5, .int .u64 7, .int .u64 11, .int .u64 13, .int .u64 17, .int .u64 19, .int .u64 23, .int .u64 29, .int .u64 31, .int .u64 37]) (.int .i64 6)).run Tryz.prog w = .ok (.int .u64 17) w := by kernel_rfl
theorem ixr7 (w : World) : (Instr.index 256 (.agg #[.int .u64 2, .int .u64 3, .int .u64 5, .int .u64 7, .int .u64 11, .int .u64 13, .int .u64 17, .int .u64 19, .int .u64 23, .int .u64 29, .int .u64 31, .int .u64 37]) (.int .i64 7)).run Tryz.prog w = .ok (.int .u64 19) w := by kernel_rfl
theorem ixr8 (w : World) : (Instr.index 256 (.agg #[.int .u64 2, .int .u64 3, .int .u64 5, .int .u64 7, .int .u64 11, .int .u64 13, .int .u64 17, .int .u64 19, .int .u64 23, .int .u64 29, .int .u64 31, .int .u64 37]) (.int .i64 8)).run Tryz.prog w = .ok (.int .u64 23) w := by kernel_rfl
theorem ixr9 (w : World) : (Instr.index 256 (.agg #[.int .u64 2, .int .u64 3, .int .u64 5, .int .u64 7, .int .u64 11, .int .u64 13, .int .u64 17, .int .u64 19, .int .u64 23, .int .u64 29, .int .u64 31, .int .u64 37]) (.int .i64 9)).run Tryz.prog w = .ok (.int .u64 29) w := by kernel_rfl
theorem ixr10 (w : World) : (Instr.index 256 (.agg #[.int .u64 2, .int .u64 3, .int .u64 5, .int .u64 7, .int .u64 11, .int .u64 13, .int .u64 17, .int .u64 19, .int .u64 23, .int .u64 29, .int .u64 31, .int .u64 37]) (.int .i64 10)).run Tryz.prog w = .ok (.int .u64 31) w := by kernel_rfl
theorem ixr11 (w : World) : (Instr.index 256 (.agg #[.int .u64 2, .int .u64 3, .int .u64 5, .int .u64 7, .int .u64 11, .int .u64 13, .int .u64 17, .int .u64 19, .int .u64 23, .int .u64 29, .int .u64 31, .int .u64 37]) (.int .i64 11)).run Tryz.prog w = .ok (.int .u64 37) w := by kernel_rfl
set_option maxHeartbeats 4000000 in
theorem is_any (n : Nat) (w : World) (hn : n < 18446744073709551616) (hT : Tabs w) :
    Calls Tryz.prog 155 #[.int .u64 (n : Int)] w fun e w' => e = .returned (.bool (isS n)) ∧ Ext w w' := by
 by_cases h0 : 2 ≤ n
 ·have HS := Lib.hid (isS_two h0)
  have HT := Lib.hid hT
  go_enter Tryz.func155, Tryz.ntmps155
  have t0 := hT.ba 0 (by omega)
  have t1 := hT.ba 1 (by omega)
  have t2 := hT.ba 2 (by omega)
  have t3 := hT.ba 3 (by omega)
  have t4 := hT.ba 4 (by omega)
  have t5 := hT.ba 5 (by omega)
  have t6 := hT.ba 6 (by omega)
  have t7 := hT.ba 7 (by omega)
  have t8 := hT.ba 8 (by omega)
  have t9 := hT.ba 9 (by omega)
  have t10 := hT.ba 10 (by omega)
  have t11 := hT.ba 11 (by omega)
  simp only [L12, List.getD_cons_zero, List.getD_cons_succ] at t0 t1 t2 t3 t4 t5 t6 t7 t8 t9 t10 t11
  go_wp2
  clear t0 t1 t2 t3 t4 t5 t6 t7 t8 t9 t10 t11
  go_loop [8] (fun i => ∃ k : Nat, k ≤ 12 ∧ i = .int .i64 (k : Int) ∧ Hid (isS n = smallF n (L12.drop k) (L12.all (strongS n)))) (fun i => 12 - (intOf i).toNat)
  case atStart => exact ⟨0, by omega, rfl, Lib.hid HS.out⟩
  case round =>
   obtain ⟨k, hk, rfl, hi⟩ := hrel
   clear HS
   rcases (show k = 12 ∨ k = 0 ∨ k = 1 ∨ k = 2 ∨ k = 3 ∨ k = 4 ∨ k = 5 ∨ k = 6 ∨ k = 7 ∨ k = 8 ∨ k = 9 ∨ k = 10 ∨ k = 11 by omega) with rfl | hk2
   ·go_wp2_with fail
    refine (testOf_any n w h0 hn HT.out).mono ?_
    rintro e w1 ⟨rfl, k1⟩
    obtain ⟨o1, o2⟩ := odd_tz h0 hn
    have HE := Lib.hid (show isS n = L12.all (passS n (oddS n) (tzS n)) by rw [hi.out]; exact all_congr L12 (fun a => strongS_def n a))
    go_wp2_with fail
    refine (byAll_any n _ _ w1 h0 hn o1 o2 (HT.out.ext k1)).mono ?_
    rw [← HE.out]
    rintro e w2 ⟨rfl, k2⟩
    go_wp2
    go_ret
    exact ⟨rfl, k1.trans k2⟩
   ·obtain ⟨d0, d1, d2, d3, d4, d5, d6, d7, d8, d9, d10, d11⟩ := l12_next
    rcases hk2 with rfl | rfl | rfl | rfl | rfl | rfl | rfl | rfl | rfl | rfl | rfl | rfl
    ·obtain ⟨y, z⟩ := small_go (b := 2) d0 hi
     clear d0 d1 d2 d3 d4 d5 d6 d7 d8 d9 d10 d11
     by_cases hb : n % 2 = 0
     ·have HE := Lib.hid (y hb)
      have hb' : ((n : Int) % 2 == 0) = true := by simp; omega
      have HF := Lib.hid (eq_dec n 2)
      clear y z hb
      have hix := ixr0 w
      go_wp2
      go_ret
      exact ⟨congrArg Ending.returned (congrArg Value.bool (by rw [HE.out]; exact HF.out)), Ext.refl _⟩
     ·have HZ := z hb
      have hb' : ((n : Int) % 2 == 0) = false := by simp; omega
      clear y z hb
      have hix := ixr0 w
      go_wp2
      exact ⟨⟨1, by omega, by go_num, HZ⟩, by simp [intOf]⟩
    ·obtain ⟨y, z⟩ := small_go (b := 3) d1 hi
     clear d0 d1 d2 d3 d4 d5 d6 d7 d8 d9 d10 d11
     by_cases hb : n % 3 = 0
     ·have HE := Lib.hid (y hb)
      have hb' : ((n : Int) % 3 == 0) = true := by simp; omega
      have HF := Lib.hid (eq_dec n 3)
      clear y z hb
      have hix := ixr1 w
      go_wp2
      go_ret
      exact ⟨congrArg Ending.returned (congrArg Value.bool (by rw [HE.out]; exact HF.out)), Ext.refl _⟩
     ·have HZ := z hb
      have hb' : ((n : Int) % 3 == 0) = false := by simp; omega
      clear y z hb
      have hix := ixr1 w
      go_wp2
      exact ⟨⟨2, by omega, by go_num, HZ⟩, by simp [intOf]⟩
    ·obtain ⟨y, z⟩ := small_go (b := 5) d2 hi
     clear d0 d1 d2 d3 d4 d5 d6 d7 d8 d9 d10 d11
     by_cases hb : n % 5 = 0
     ·have HE := Lib.hid (y hb)
      have hb' : ((n : Int) % 5 == 0) = true := by simp; omega
      have HF := Lib.hid (eq_dec n 5)
      clear y z hb
      have hix := ixr2 w
      go_wp2
      go_ret
      exact ⟨congrArg Ending.returned (congrArg Value.bool (by rw [HE.out]; exact HF.out)), Ext.refl _⟩
     ·have HZ := z hb
      have hb' : ((n : Int) % 5 == 0) = false := by simp; omega
      clear y z hb
      have hix := ixr2 w
      go_wp2
      exact ⟨⟨3, by omega, by go_num, HZ⟩, by simp [intOf]⟩
    ·obtain ⟨y, z⟩ := small_go (b := 7) d3 hi
     clear d0 d1 d2 d3 d4 d5 d6 d7 d8 d9 d10 d11
     by_cases hb : n % 7 = 0
     ·have HE := Lib.hid (y hb)
      have hb' : ((n : Int) % 7 == 0) = true := by simp; omega
      have HF := Lib.hid (eq_dec n 7)
      clear y z hb
      have hix := ixr3 w
      go_wp2
      go_ret
      exact ⟨congrArg Ending.returned (congrArg Value.bool (by rw [HE.out]; exact HF.out)), Ext.refl _⟩
     ·have HZ := z hb
      have hb' : ((n : Int) % 7 == 0) = false := by simp; omega
      clear y z hb
      have hix := ixr3 w
      go_wp2
      exact ⟨⟨4, by omega, by go_num, HZ⟩, by simp [intOf]⟩
    ·obtain ⟨y, z⟩ := small_go (b := 11) d4 hi
     clear d0 d1 d2 d3 d4 d5 d6 d7 d8 d9 d10 d11
     by_cases hb : n % 11 = 0
     ·have HE := Lib.hid (y hb)
      have hb' : ((n : Int) % 11 == 0) = true := by simp; omega
      have HF := Lib.hid (eq_dec n 11)
      clear y z hb
      have hix := ixr4 w
      go_wp2
      go_ret
      exact ⟨congrArg Ending.returned (congrArg Value.bool (by rw [HE.out]; exact HF.out)), Ext.refl _⟩
     ·have HZ := z hb
      have hb' : ((n : Int) % 11 == 0) = false := by simp; omega
      clear y z hb
      have hix := ixr4 w
      go_wp2
      exact ⟨⟨5, by omega, by go_num, HZ⟩, by simp [intOf]⟩
    ·obtain ⟨y, z⟩ := small_go (b := 13) d5 hi
     clear d0 d1 d2 d3 d4 d5 d6 d7 d8 d9 d10 d11
     by_cases hb : n % 13 = 0
     ·have HE := Lib.hid (y hb)
      have hb' : ((n : Int) % 13 == 0) = true := by simp; omega
      have HF := Lib.hid (eq_dec n 13)
      clear y z hb
      have hix := ixr5 w
      go_wp2
      go_ret
      exact ⟨congrArg Ending.returned (congrArg Value.bool (by rw [HE.out]; exact HF.out)), Ext.refl _⟩
     ·have HZ := z hb
      have hb' : ((n : Int) % 13 == 0) = false := by simp; omega
      clear y z hb
      have hix := ixr5 w
      go_wp2
      exact ⟨⟨6, by omega, by go_num, HZ⟩, by simp [intOf]⟩
    ·obtain ⟨y, z⟩ := small_go (b := 17) d6 hi
     clear d0 d1 d2 d3 d4 d5 d6 d7 d8 d9 d10 d11
     by_cases hb : n % 17 = 0
     ·have HE := Lib.hid (y hb)
      have hb' : ((n : Int) % 17 == 0) = true := by simp; omega
      have HF := Lib.hid (eq_dec n 17)
      clear y z hb
      have hix := ixr6 w
      go_wp2
      go_ret
      exact ⟨congrArg Ending.returned (congrArg Value.bool (by rw [HE.out]; exact HF.out)), Ext.refl _⟩
     ·have HZ := z hb
      have hb' : ((n : Int) % 17 == 0) = false := by simp; omega
      clear y z hb
      have hix := ixr6 w
      go_wp2
      exact ⟨⟨7, by omega, by go_num, HZ⟩, by simp [intOf]⟩
    ·obtain ⟨y, z⟩ := small_go (b := 19) d7 hi
     clear d0 d1 d2 d3 d4 d5 d6 d7 d8 d9 d10 d11
     by_cases hb : n % 19 = 0
     ·have HE := Lib.hid (y hb)
      have hb' : ((n : Int) % 19 == 0) = true := by simp; omega
      have HF := Lib.hid (eq_dec n 19)
      clear y z hb
      have hix := ixr7 w
      go_wp2
      go_ret
      exact ⟨congrArg Ending.returned (congrArg Value.bool (by rw [HE.out]; exact HF.out)), Ext.refl _⟩
     ·have HZ := z hb
      have hb' : ((n : Int) % 19 == 0) = false := by simp; omega
      clear y z hb
      have hix := ixr7 w
      go_wp2
      exact ⟨⟨8, by omega, by go_num, HZ⟩, by simp [intOf]⟩
    ·obtain ⟨y, z⟩ := small_go (b := 23) d8 hi
     clear d0 d1 d2 d3 d4 d5 d6 d7 d8 d9 d10 d11
     by_cases hb : n % 23 = 0
     ·have HE := Lib.hid (y hb)
      have hb' : ((n : Int) % 23 == 0) = true := by simp; omega
      have HF := Lib.hid (eq_dec n 23)
      clear y z hb
      have hix := ixr8 w
      go_wp2
      go_ret
      exact ⟨congrArg Ending.returned (congrArg Value.bool (by rw [HE.out]; exact HF.out)), Ext.refl _⟩
     ·have HZ := z hb
      have hb' : ((n : Int) % 23 == 0) = false := by simp; omega
      clear y z hb
      have hix := ixr8 w
      go_wp2
      exact ⟨⟨9, by omega, by go_num, HZ⟩, by simp [intOf]⟩
    ·obtain ⟨y, z⟩ := small_go (b := 29) d9 hi
     clear d0 d1 d2 d3 d4 d5 d6 d7 d8 d9 d10 d11
     by_cases hb : n % 29 = 0
     ·have HE := Lib.hid (y hb)
      have hb' : ((n : Int) % 29 == 0) = true := by simp; omega
      have HF := Lib.hid (eq_dec n 29)
      clear y z hb
      have hix := ixr9 w
      go_wp2
      go_ret
      exact ⟨congrArg Ending.returned (congrArg Value.bool (by rw [HE.out]; exact HF.out)), Ext.refl _⟩
     ·have HZ := z hb
      have hb' : ((n : Int) % 29 == 0) = false := by simp; omega
      clear y z hb
      have hix := ixr9 w
      go_wp2
      exact ⟨⟨10, by omega, by go_num, HZ⟩, by simp [intOf]⟩
    ·obtain ⟨y, z⟩ := small_go (b := 31) d10 hi
     clear d0 d1 d2 d3 d4 d5 d6 d7 d8 d9 d10 d11
     by_cases hb : n % 31 = 0
     ·have HE := Lib.hid (y hb)
      have hb' : ((n : Int) % 31 == 0) = true := by simp; omega
      have HF := Lib.hid (eq_dec n 31)
      clear y z hb
      have hix := ixr10 w
      go_wp2
      go_ret
      exact ⟨congrArg Ending.returned (congrArg Value.bool (by rw [HE.out]; exact HF.out)), Ext.refl _⟩
     ·have HZ := z hb
      have hb' : ((n : Int) % 31 == 0) = false := by simp; omega
      clear y z hb
      have hix := ixr10 w
      go_wp2
      exact ⟨⟨11, by omega, by go_num, HZ⟩, by simp [intOf]⟩
    ·obtain ⟨y, z⟩ := small_go (b := 37) d11 hi
     clear d0 d1 d2 d3 d4 d5 d6 d7 d8 d9 d10 d11
     by_cases hb : n % 37 = 0
     ·have HE := Lib.hid (y hb)
      have hb' : ((n : Int) % 37 == 0) = true := by simp; omega
      have HF := Lib.hid (eq_dec n 37)
      clear y z hb
      have hix := ixr11 w
      go_wp2
      go_ret
      exact ⟨congrArg Ending.returned (congrArg Value.bool (by rw [HE.out]; exact HF.out)), Ext.refl _⟩
     ·have HZ := z hb
      have hb' : ((n : Int) % 37 == 0) = false := by simp; omega
      clear y z hb
      have hix := ixr11 w
      go_wp2
      exact ⟨⟨12, by omega, by go_num, HZ⟩, by simp [intOf]⟩
 ·have H := Lib.hid (isS_one (n := n) (by omega))
  go_enter Tryz.func155, Tryz.ntmps155
  go_wp2
  go_ret
  exact ⟨by rw [H.out]; rfl, Ext.refl _⟩
theorem trial_no {n d : Nat} (h0 : 2 ≤ d) (h1 : d * d ≤ n) (h2 : n < 65536) (h : n % d = 0) : trialS n = false := by
 cases e : trialS n
 ·rfl
 ·have hd : d < 256 := by
     rcases Nat.lt_or_ge d 256 with g | g
     ·exact g
     ·have := Nat.mul_le_mul g g; omega
  exact absurd h ((trialS_spec n).1 e d hd h0 h1)
theorem trial_yes {n D : Nat} (h1 : n < D * D) (h : ∀ d, 2 ≤ d → d < D → n % d ≠ 0) : trialS n = true := by
 refine (trialS_spec n).2 fun d _ hd0 hdn => ?_
 rcases Nat.lt_or_ge d D with g | g
 ·exact h d hd0 g
 ·have := Nat.mul_le_mul g g; omega
set_option maxHeartbeats 1000000 in
theorem ris_any (n : Nat) (w : World) (hn : n < 18446744073709551616) :
    Calls Tryz.prog 85 #[.int .u64 (n : Int)] w fun e w' => e = .returned (.bool (isR n)) ∧ Ext w w' := by
 by_cases h0 : n < 2
 ·have H := Lib.hid (show isR n = false by rw [isR, if_pos h0])
  go_enter Tryz.func85, Tryz.ntmps85
  go_wp2
  go_ret
  exact ⟨by rw [H.out]; rfl, Ext.refl _⟩
 ·by_cases hs : n < 65536
  ·have H := Lib.hid (show isR n = trialS n by rw [isR, if_neg h0, if_pos hs])
   have f1 : decide ((n : Int) < 2) = false := by simp; omega
   have f2 : decide ((n : Int) < 65536) = true := by simp; omega
   have HS := Lib.hid hs
   have H0 := Lib.hid h0
   clear hs h0
   go_enter Tryz.func85, Tryz.ntmps85
   go_wp2
   go_loop [3] (fun dv => ∃ D : Nat, 2 ≤ D ∧ D ≤ 256 ∧ dv = .int .u64 (D : Int) ∧ Hid (∀ d, 2 ≤ d → d < D → n % d ≠ 0)) (fun dv => 256 - (intOf dv).toNat)
   case atStart => exact ⟨2, by omega, by omega, rfl, Lib.hid fun d h1 h2 => by omega⟩
   case round =>
    obtain ⟨D, hD0, hD1, rfl, hi⟩ := hrel
    have hm2 : D * D ≤ 65536 := Nat.mul_le_mul hD1 hD1
    have hm : ((D : Int) * (D : Int)) = ((D * D : Nat) : Int) := (Int.natCast_mul _ _).symm
    have hm0 : (0 : Int) ≤ (D : Int) * (D : Int) := by rw [hm]; omega
    have hm1 : (D : Int) * (D : Int) ≤ 65536 := by rw [hm]; omega
    by_cases hle : D * D ≤ n
    ·have hlt : D < 256 := by
        rcases Nat.lt_or_ge D 256 with g | g
        ·exact g
        ·have := Nat.mul_le_mul g g
         have := HS.out
         omega
     have g1 : decide ((D : Int) * (D : Int) ≤ (n : Int)) = true := by rw [hm]; simp; omega
     by_cases hd : n % D = 0
     ·have HT := Lib.hid (show isR n = false by rw [H.out]; exact trial_no hD0 hle HS.out hd)
      have g2 : ((n : Int) % (D : Int) == 0) = true := by simp; omega
      clear hm hm2 hd hle
      go_wp2
      go_ret
      exact ⟨by rw [HT.out]; rfl, Ext.refl _⟩
     ·have g2 : ((n : Int) % (D : Int) == 0) = false := by simp; omega
      have HI := Lib.hid (show ∀ d, 2 ≤ d → d < D + 1 → n % d ≠ 0 from fun d h1 h2 => by
       rcases Nat.lt_or_eq_of_le (Nat.le_of_lt_succ h2) with g | g
       ·exact hi.out d h1 g
       ·rw [g]; exact hd)
      clear hm hm2 hd hle
      go_wp2
      exact ⟨⟨D + 1, by omega, by omega, by go_num, HI⟩, by simp [intOf] <;> omega⟩
    ·have g1 : decide ((D : Int) * (D : Int) ≤ (n : Int)) = false := by rw [hm]; simp; omega
     have HT := Lib.hid (show isR n = true by rw [H.out]; exact trial_yes (by omega) hi.out)
     clear hm hm2 hle
     go_wp2
     go_ret
     exact ⟨by rw [HT.out]; rfl, Ext.refl _⟩
  ·have H := Lib.hid (show isR n = L12.all (fun a => (!Nat.beq (n % a) 0) && strongS n a) by rw [isR, if_neg h0, if_neg hs])
   obtain ⟨P, hP⟩ : ∃ P : Nat → Bool, P = fun a => (!Nat.beq (n % a) 0) && strongS n a := ⟨_, rfl⟩
   have f1 : decide ((n : Int) < 2) = false := by simp; omega
   have f2 : decide ((n : Int) < 65536) = false := by simp; omega
   have HS := Lib.hid hs
   have H0 := Lib.hid h0
   clear hs h0
   go_enter Tryz.func85, Tryz.ntmps85
   rw [← hP] at H
   have HP := Lib.hid hP
   clear hP
   go_wp2
   have kW : Ext w (w.alloc (Obj.cells #[Value.int IntKind.u64 2, Value.int IntKind.u64 3, Value.int IntKind.u64 5, Value.int IntKind.u64 7, Value.int IntKind.u64 11, Value.int IntKind.u64 13, Value.int IntKind.u64 17, Value.int IntKind.u64 19, Value.int IntKind.u64 23, Value.int IntKind.u64 29, Value.int IntKind.u64 31, Value.int IntKind.u64 37] 22)) := (Ext.refl w).alloc _
   have cW : ∀ j, j < 12 → (w.alloc (Obj.cells #[Value.int IntKind.u64 2, Value.int IntKind.u64 3, Value.int IntKind.u64 5, Value.int IntKind.u64 7, Value.int IntKind.u64 11, Value.int IntKind.u64 13, Value.int IntKind.u64 17, Value.int IntKind.u64 19, Value.int IntKind.u64 23, Value.int IntKind.u64 29, Value.int IntKind.u64 31, Value.int IntKind.u64 37] 22)).cell? ⟨w.heap.size, j, none⟩ = some (.int .u64 ((L12.getD j 0 : Nat) : Int)) := fun j hj => by
    rcases (show j = 0 ∨ j = 1 ∨ j = 2 ∨ j = 3 ∨ j = 4 ∨ j = 5 ∨ j = 6 ∨ j = 7 ∨ j = 8 ∨ j = 9 ∨ j = 10 ∨ j = 11 by omega) with rfl | rfl | rfl | rfl | rfl | rfl | rfl | rfl | rfl | rfl | rfl | rfl
    all_goals simp [L12]
   generalize w.alloc (Obj.cells #[Value.int IntKind.u64 2, Value.int IntKind.u64 3, Value.int IntKind.u64 5, Value.int IntKind.u64 7, Value.int IntKind.u64 11, Value.int IntKind.u64 13, Value.int IntKind.u64 17, Value.int IntKind.u64 19, Value.int IntKind.u64 23, Value.int IntKind.u64 29, Value.int IntKind.u64 31, Value.int IntKind.u64 37] 22) = V at *
   have HC := Lib.hid cW
   clear cW
   go_loopw [23] (fun i wr => ∃ k : Nat, k ≤ 12 ∧ i = .int .i64 (k : Int) ∧ Ext V wr ∧ Hid (isR n = (L12.drop k).all P) ∧ (0 < k → n % 2 = 1)) (fun i _ => 12 - (intOf i).toNat)
   case atStart => exact ⟨0, by omega, rfl, Ext.refl _, H, fun h => by omega⟩
   case round =>
    obtain ⟨k, hk, rfl, kr, hi, hodd⟩ := hrel
    by_cases hlt : k < 12
    ·have hc := cell_ext kr (HC.out k hlt)
     obtain ⟨hb0, hb1⟩ := l12_lt hlt
     have HN := Lib.hid (show isR n = (P (L12.getD k 0) && (L12.drop (k + 1)).all P) by rw [hi.out, drop_all hlt])
     have HB0 : k = 0 → L12.getD k 0 = 2 := fun e => by rw [e]; rfl
     have e1 : (0 : Int) ≤ k := by omega
     have e2 : (k : Int) < 12 := by omega
     have HPb := Lib.hid (show P (L12.getD k 0) = ((!Nat.beq (n % L12.getD k 0) 0) && strongS n (L12.getD k 0)) by rw [HP.out])
     generalize L12.getD k 0 = b at *
     by_cases hd : n % b = 0
     ·have HF := Lib.hid (show isR n = false by rw [HN.out, HPb.out, beq_iff, decide_eq_true hd]; rfl)
      have g2 : ((n : Int) % (b : Int) == 0) = true := by simp; omega
      clear hd hodd HB0
      go_wp2
      go_ret
      exact ⟨by rw [HF.out]; rfl, kW.trans kr⟩
     ·have g2 : ((n : Int) % (b : Int) == 0) = false := by simp; omega
      have hod : n % 2 = 1 := by
       rcases Nat.eq_zero_or_pos k with h | h
       ·have := HB0 h; subst this; omega
       ·exact hodd h
      have HPc := Lib.hid (show P b = strongS n b by rw [HPb.out, beq_iff, decide_eq_false hd]; rfl)
      have h3 : 3 ≤ n := by have := HS.out; omega
      clear hd hodd HB0
      go_wp2_with fail
      refine (strong_any n b _ h3 hod hn (by omega)).mono ?_
      rintro e w2 ⟨rfl, k2⟩
      cases hp : strongS n b
      ·have HF := Lib.hid (show isR n = false by rw [HN.out, HPc.out, hp, Bool.false_and])
       go_wp2
       go_ret
       exact ⟨by rw [HF.out]; rfl, kW.trans (kr.trans k2)⟩
      ·have HF := Lib.hid (show isR n = (L12.drop (k + 1)).all P by rw [HN.out, HPc.out, hp, Bool.true_and])
       go_wp2
       exact ⟨⟨k + 1, by omega, by go_num, kr.trans k2, HF, fun _ => hod⟩, by simp [intOf] <;> omega⟩
    ·obtain rfl : k = 12 := by omega
     have HF := Lib.hid (show isR n = true by rw [hi.out]; rfl)
     clear hodd hlt hk
     go_wp2
     go_ret
     exact ⟨by rw [HF.out]; rfl, kW.trans kr⟩
def stepF (n : Nat) : Nat → Nat → Bool
 | 0, _ => false
 | f + 1, k => cond (Nat.beq n k) true (stepF n f (2 * k))
def stepS (n : Nat) : Bool := stepF n 13 2
def stepRun : Nat → Nat → Bool
 | 0, _ => true
 | k + 1, n => cond (Nat.beq (Nat.land n (n - 1)) 0) (cond (stepS n) (stepRun k (n + 1)) false) (cond (stepS n) false (stepRun k (n + 1)))
theorem stepRun_spec : ∀ k n, stepRun k n = true → ∀ m, n ≤ m → m < n + k → stepS m = Nat.beq (Nat.land m (m - 1)) 0
 | 0, n, _, m, h1, h2 => by omega
 | k + 1, n, h, m, h1, h2 => by
  unfold stepRun at h
  have key : stepS n = Nat.beq (Nat.land n (n - 1)) 0 ∧ stepRun k (n + 1) = true := by
   revert h
   cases Nat.beq (Nat.land n (n - 1)) 0 <;> cases stepS n <;> simp
  rcases Nat.lt_or_eq_of_le h1 with g | g
  ·exact stepRun_spec k (n + 1) key.2 m g (by omega)
  ·rw [← g]; exact key.1
set_option maxRecDepth 100000 in
theorem stepRun_all : stepRun 8191 2 = true := by decide +kernel
theorem stepS_is {n : Nat} (h0 : 2 ≤ n) (h1 : n ≤ 8192) : stepS n = decide ((n &&& (n - 1)) = 0) := by
 rw [stepRun_spec 8191 2 stepRun_all n h0 (by omega), beq_iff]; rfl
theorem info_u64 : (Tryz.prog.info? 22).map (fun i => (i.zero, i.size, i.bytes)) = some (some (.int .u64 0), 1, 8) := by kernel_rfl
def URow (B : Nat) (w0 w : World) (v : Value) (n : Nat) (zs : List Nat) : Prop := w.ownsRow B 22 1 v n (u64s zs) ∧ Below B w0 w ∧ (∀ x ∈ zs, x < W64)
theorem URow.nil (w : World) : URow w.heap.size w w (.slice none 0 0) 0 [] := ⟨World.ownsRow_nil _ _ _ _, Below.refl _ _, by simp⟩
theorem URow.push {B : Nat} {w0 w w1 : World} {v v' : Value} {n : Nat} {zs : List Nat} {z : Nat} {o : Obj} (h : URow B w0 w v n zs) (hB : B ≤ w.heap.size) (hz : z < W64)
    (h1 : w1.ownsRow B 22 1 v' (n + 1) (u64s zs ++ [Value.int .u64 (z : Int)])) (hg : (w.alloc o).grownBy w1 v.ownBlock) : URow B w0 w1 v' (n + 1) (zs ++ [z]) := by
 rw [u64s_snoc] at h1
 exact ⟨h1, (h.2.1.alloc hB o).grown hg (by simp; omega) (fun k e => (h.1.lt k e).1), snoc_lt h.2.2 hz⟩
theorem URow.ext {B : Nat} {w0 w w1 : World} {v : Value} {n : Nat} {zs : List Nat} (h : URow B w0 w v n zs) (hB : B ≤ w.heap.size) (k : Ext w w1) : URow B w0 w1 v n zs := by
 refine ⟨h.1.kept (row := none) ⟨k.os, k.tape, k.output, k.size, fun i hi _ => k.block i hi⟩ ?_, h.2.1.trans (Below.mono k hB), h.2.2⟩
 cases e : v.ownBlock
 ·exact .inl rfl
 ·exact .inr (by simp)
end Go.Proofs.YtkbcobjhlpjieaaGreatDoor
