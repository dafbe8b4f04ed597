import Derived.Test.YtopbibfpjgjalaaGreatDoorZPExt
import Derived.Test.YtopbibfpjgjalaaGreatDoorZ8
import Derived.Laws.Bits64b
namespace Go.Proofs.YtopbibfpjgjalaaGreatDoor
open Go.RowKit
set_option linter.unusedVariables false
set_option maxRecDepth 100000
structure Tabs (w : World) : Prop where
 tz : ∀ j, j < 64 → w.cell? ⟨3, j, none⟩ = some (.int .u8 ((Lib.deBruijn64tab.getD j 0 : Nat) : Int))
 ba : ∀ j, j < 12 → w.cell? ⟨0, j, none⟩ = some (.int .u64 ((L12.getD j 0 : Nat) : Int))
set_option maxHeartbeats 1000000 in
theorem zsb (x k idx : Nat) (w : World) (hx0 : ((x : Int) == 0) = false)
    (key : IntKind.u64.wrap (bits BinOp.and IntKind.u64 (x : Int) (IntKind.u64.wrap (-(x : Int))) * 285870213051353865) / 288230376151711744 = (idx : Int))
    (hi : idx < 64) (hk : k < 64) (hcell : w.cell? ⟨3, idx, none⟩ = some (.int .u8 k)) :
    Calls Tryz.prog 284 #[.int .u64 x] w fun e w' => e = .returned (.int .i64 k) ∧ w = w' := by
 go_enter Tryz.func284, Tryz.ntmps284
 go_wp2_with (simp only [key])
 go_ret
 exact ⟨rfl, rfl⟩
theorem ztk (x a : Nat) (hx : x < 18446744073709551616) (hx0 : x ≠ 0) (hlow : x &&& (18446744073709551616 - x) = a) :
    IntKind.u64.wrap (bits BinOp.and IntKind.u64 (x : Int) (IntKind.u64.wrap (-(x : Int))) * 285870213051353865) / 288230376151711744 = ((a * 285870213051353865 % 18446744073709551616 / 288230376151711744 : Nat) : Int) := by
 have e1 : IntKind.u64.wrap (-(x : Int)) = ((18446744073709551616 - x : Nat) : Int) := by rw [IntKind.wrap_u64]; omega
 rw [e1, bits_and_u64_nat x _ hx (by omega), hlow, IntKind.wrap_u64]
 omega
theorem z2p (x : Nat) (w : World) (hx0 : x ≠ 0) (hx : x < 18446744073709551616) (hT : Tabs w) :
    Calls Tryz.prog 284 #[.int .u64 (x : Int)] w fun e w' => e = .returned (.int .i64 ((ctzF 64 x : Nat) : Int)) ∧ w = w' := by
 obtain ⟨hlow, hk⟩ := Lib.lowest_bit 64 x hx0 hx
 obtain ⟨hi, htab⟩ := Lib.deBruijn64_at _ hk
 have hcell := hT.tz _ hi
 rw [htab] at hcell
 have e : Lib.ctz 64 x = ctzF 64 x := by rw [zh5]; simp [Lib.ctz, hx0]
 rw [← e]
 exact zsb x _ _ w (by simp; omega) (ztk x _ hx hx0 hlow) hi hk hcell
theorem zkl (x : Nat) (h0 : 0 < x) (h : x < 18446744073709551616) : ctzF 64 x < 64 ∧ ∃ m, x = 2 ^ ctzF 64 x * (2 * m + 1) := by
 obtain ⟨m, hm, hk⟩ := Lib.ctzFrom_spec 64 x h0 h
 rw [zh5]
 exact ⟨hk, m, hm⟩
theorem Tabs.ext {a b : World} (h : Tabs a) (k : Ext a b) : Tabs b := ⟨fun j hj => cE k (h.tz j hj), fun j hj => cE k (h.ba j hj)⟩
theorem znr (n : Nat) (w : World) (h0 : 2 ≤ n) (hn : n < 18446744073709551616) (hT : Tabs w) :
    Calls Tryz.prog 265 #[.int .u64 (n : Int)] w fun e w' => e = .returned (.agg #[.int .u64 (n : Int), .int .u64 ((oddS n : Nat) : Int), .int .i64 ((tzS n : Nat) : Int)]) ∧ Ext w w' := by
 have tz_def : ctzF 64 (n - 1) = tzS n := by unfold tzS; rfl
 have hc := (zkl (n - 1) (by omega) (by omega)).1
 rw [tz_def] at hc
 have e1 : (n : Int) - 1 = ((n - 1 : Nat) : Int) := by omega
 have hd : ((n : Int) - 1) / 2 ^ tzS n = ((oddS n : Nat) : Int) := by
  rw [oddS, e1, Int.natCast_ediv, Int.natCast_pow]; rfl
 have HD := Lib.hid hd
 have HTT := Lib.hid tz_def
 have E1 := Lib.hid e1
 clear tz_def e1 hd
 generalize tzS n = s at *
 generalize oddS n = d at *
 go_enter Tryz.func265, Tryz.ntmps265
 go_wp2_with fail
 have hcall := z2p (n - 1) (w.alloc (Obj.cells #[Value.int IntKind.u64 0, Value.int IntKind.u64 0, Value.int IntKind.i64 0] 321)) (by omega) (by omega) (hT.ext ((Ext.refl w).alloc _))
 rw [← E1.out, HTT.out] at hcall
 refine hcall.mono ?_
 clear hcall
 rintro e w' ⟨rfl, rfl⟩
 go_wp2
 rw [HD.out]
 exact bodyPost_ret (v := .agg #[.int .u64 (n : Int), .int .u64 (d : Int), .int .i64 (s : Int)]) (by simp [results, Tryz.results265, go_sem]) rfl ⟨rfl, (Ext.refl w).alloc _⟩
theorem zml (a d n : Nat) (hn : 0 < n) : powS a d n = ((a ^ d % n : Nat) : Int) := by
 unfold powS
 rw [if_neg (by omega), Int.toNat_natCast, Int.natCast_emod, Int.natCast_pow]
theorem zlz (a b n : Nat) (hn : 0 < n) : mulS a b n = ((a * b % n : Nat) : Int) := by
 unfold mulS
 rw [if_neg (by omega), Int.natCast_emod, Int.natCast_mul]
theorem powN (a d n : Nat) (w : World) (hn : 0 < n) (a1 : a < 18446744073709551616) (d1 : d < 18446744073709551616) (n1 : n < 18446744073709551616) :
    Calls Tryz.prog 249 #[.int .u64 (a : Int), .int .u64 (d : Int), .int .u64 (n : Int)] w fun e w' => e = .returned (.int .u64 ((a ^ d % n : Nat) : Int)) ∧ Ext w w' := by
 have := zzm a d n w (by omega) (by omega) (by omega) (by omega) (by omega) (by omega)
 rw [zml a d n hn] at this
 exact this.mono fun e w' ⟨he, q, hw⟩ => ⟨he, by rw [hw]; exact (Ext.refl w).drewN q⟩
theorem rpowN (a d n : Nat) (w : World) (hn : 0 < n) (a1 : a < 18446744073709551616) (d1 : d < 18446744073709551616) (n1 : n < 18446744073709551616) :
    Calls Tryz.prog 201 #[.int .u64 (a : Int), .int .u64 (d : Int), .int .u64 (n : Int)] w fun e w' => e = .returned (.int .u64 ((a ^ d % n : Nat) : Int)) ∧ Ext w w' := by
 have := zwc a d n w (by omega) (by omega) (by omega) (by omega) (by omega) (by omega)
 rw [zml a d n hn] at this
 exact this.mono fun e w' ⟨he, q, hw⟩ => ⟨he, by rw [hw]; exact (Ext.refl w).drewN q⟩
theorem mulN (a b n : Nat) (w : World) (hn : 0 < n) (a1 : a < 18446744073709551616) (d1 : b < 18446744073709551616) (n1 : n < 18446744073709551616) :
    Calls Tryz.prog 254 #[.int .u64 (a : Int), .int .u64 (b : Int), .int .u64 (n : Int)] w fun e w' => e = .returned (.int .u64 ((a * b % n : Nat) : Int)) ∧ Ext w w' := by
 have := zhv a b n w (by omega) (by omega) (by omega) (by omega) (by omega) (by omega)
 rw [zlz a b n hn] at this
 exact this.mono fun e w' ⟨he, q, hw⟩ => ⟨he, by rw [hw]; exact (Ext.refl w).drewN q⟩
theorem rmulN (a b n : Nat) (w : World) (hn : 0 < n) (a1 : a < 18446744073709551616) (d1 : b < 18446744073709551616) (n1 : n < 18446744073709551616) :
    Calls Tryz.prog 202 #[.int .u64 (a : Int), .int .u64 (b : Int), .int .u64 (n : Int)] w fun e w' => e = .returned (.int .u64 ((a * b % n : Nat) : Int)) ∧ Ext w w' := by
 have := zhs a b n w (by omega) (by omega) (by omega) (by omega) (by omega) (by omega)
 rw [zlz a b n hn] at this
 exact this.mono fun e w' ⟨he, q, hw⟩ => ⟨he, by rw [hw]; exact (Ext.refl w).drewN q⟩
def passS (n d s a : Nat) : Bool := cond (Nat.beq (a ^ d % n) 1) true (hit n s (a ^ d % n))
theorem zkj {n s x : Nat} (h : x + 1 = n) : hit n (s + 1) x = true := by
 unfold hit; rw [zak, decide_eq_true h, cond_true]
theorem zq5 {n s x : Nat} (h : x + 1 ≠ n) : hit n (s + 1) x = hit n s (x * x % n) := by
 rw [hit, zak, decide_eq_false h, cond_false]
set_option maxHeartbeats 1000000 in
theorem zpm (n d s a : Nat) (w : World) (hn0 : 2 ≤ n) (hn : n < 18446744073709551616) (hd : d < 18446744073709551616) (hs : s < 64) (ha : a < 18446744073709551616) :
    Calls Tryz.prog 266 #[.agg #[.int .u64 (n : Int), .int .u64 (d : Int), .int .i64 (s : Int)], .int .u64 (a : Int)] w fun e w' => e = .returned (.bool (passS n d s a)) ∧ Ext w w' := by
 have hx := Nat.mod_lt (a ^ d) (show 0 < n by omega)
 have HP := Lib.hid (show passS n d s a = cond (Nat.beq (a ^ d % n) 1) true (hit n s (a ^ d % n)) by rfl)
 go_enter Tryz.func266, Tryz.ntmps266
 go_wp2_with fail
 refine (powN a d n _ (by omega) ha hd hn).mono ?_
 rintro e w1 ⟨rfl, k1⟩
 have kw : Ext w w1 := ((Ext.refl w).alloc _).trans k1
 have c0 : w1.cell? ⟨w.heap.size, 0, none⟩ = some (.int .u64 (n : Int)) := za7 k1 (by simp) (by simp)
 have c1 : w1.cell? ⟨w.heap.size, 1, none⟩ = some (.int .u64 (d : Int)) := za7 k1 (by simp) (by simp)
 have c2 : w1.cell? ⟨w.heap.size, 2, none⟩ = some (.int .i64 (s : Int)) := za7 k1 (by simp) (by simp)
 have hsz : w.heap.size < w1.heap.size := World.block_lt_of_cell? _ _ c0
 have HK := Lib.hid kw
 clear k1 kw
 generalize a ^ d % n = x at *
 by_cases hx1 : x = 1
 ·subst hx1
  have HP1 := Lib.hid (show passS n d s a = true by rw [HP.out]; rfl)
  go_wp2
  go_ret
  exact ⟨by rw [HP1.out]; rfl, HK.out⟩
 ·have hxb : ((x : Int) == 1) = false := by simp; omega
  have HP1 := Lib.hid (show passS n d s a = hit n s x by rw [HP.out, zak, decide_eq_false hx1, cond_false])
  clear HP
  go_wp2
  go_loopw [5, 16] (fun p i wr => ∃ k y : Nat, k ≤ s ∧ y < n ∧ i = .int .i64 (k : Int) ∧ p = .int .u64 (y : Int) ∧ Ext w1 wr ∧ Hid (passS n d s a = hit n (s - k) y)) (fun _ i _ => s - (intOf i).toNat)
  case atStart => exact ⟨0, x, by omega, hx, rfl, rfl, Ext.refl _, HP1⟩
  case round =>
   obtain ⟨k, y, hk, hy, rfl, rfl, kr, hp⟩ := hrel
   have c0' := za7 kr hsz c0
   by_cases hks : k < s
   ·by_cases hyn : y + 1 = n
    ·have HT := Lib.hid (show passS n d s a = true by rw [hp.out, show s - k = (s - k - 1) + 1 by omega, zkj hyn])
     have hyb : ((y : Int) == (n : Int) - 1) = true := by simp; omega
     go_wp2
     go_ret
     exact ⟨by rw [HT.out]; rfl, HK.out.trans kr⟩
    ·have HT := Lib.hid (show passS n d s a = hit n (s - (k + 1)) (y * y % n) by rw [hp.out, show s - k = (s - (k + 1)) + 1 by omega, zq5 hyn])
     have hyb : ((y : Int) == (n : Int) - 1) = false := by simp; omega
     have hlt := Nat.mod_lt (y * y) (show 0 < n by omega)
     go_wp2_with fail
     refine (mulN y y n _ (by omega) (by omega) (by omega) hn).mono ?_
     rintro e w2 ⟨rfl, k2⟩
     generalize y * y % n = z at *
     go_wp2
     exact ⟨⟨k + 1, z, by omega, hlt, by go_num, rfl, kr.trans k2, HT⟩, by simp [intOf] <;> omega⟩
   ·have HT := Lib.hid (show passS n d s a = false by rw [hp.out, show s - k = 0 by omega]; rfl)
    go_wp2
    go_ret
    exact ⟨by rw [HT.out]; rfl, HK.out.trans kr⟩
theorem zxu {f x : Nat} (h : x % 2 = 1) : ctzF (f + 1) x = 0 := by
 unfold ctzF; rw [zak, decide_eq_true h, cond_true]
theorem zuq {f x : Nat} (h : x % 2 ≠ 1) : ctzF (f + 1) x = 1 + ctzF f (x / 2) := by
 rw [ctzF, zak, decide_eq_false h, cond_false]
theorem zfq (n a : Nat) : zao n a = passS n (oddS n) (tzS n) a := rfl
set_option maxHeartbeats 1000000 in
theorem zpj (n a : Nat) (w : World) (hn0 : 3 ≤ n) (hodd : n % 2 = 1) (hn : n < 18446744073709551616) (ha : a < 18446744073709551616) :
    Calls Tryz.prog 129 #[.int .u64 (n : Int), .int .u64 (a : Int)] w fun e w' => e = .returned (.bool (zao n a)) ∧ Ext w w' := by
 have htz := (zkl (n - 1) (by omega) (by omega)).1
 have HTZ := Lib.hid (show ctzF 64 (n - 1) = tzS n by unfold tzS; rfl)
 rw [HTZ.out] at htz
 have HO := Lib.hid (show oddS n = (n - 1) / 2 ^ tzS n by rw [oddS])
 go_enter Tryz.func129, Tryz.ntmps129
 go_wp2
 go_loop [5, 6] (fun dv sv => ∃ k D : Nat, k < 64 ∧ 0 < D ∧ D < 18446744073709551616 ∧ dv = .int .u64 (D : Int) ∧ sv = .int .i64 (k : Int) ∧ Hid (D = (n - 1) / 2 ^ k) ∧ Hid (k + ctzF (64 - k) D = tzS n)) (fun dv _ => (intOf dv).toNat)
 case atStart => exact ⟨0, n - 1, by omega, by omega, by omega, zar (by omega), rfl, Lib.hid (by rw [Nat.pow_zero, Nat.div_one]), Lib.hid (by rw [Nat.zero_add]; exact HTZ.out)⟩
 case round =>
  obtain ⟨k, D, hk, hD0, hD1, rfl, rfl, hd, hz⟩ := hrel
  by_cases hDo : D % 2 = 1
  ·have hzz := hz.out
   rw [show 64 - k = (63 - k) + 1 by omega, zxu hDo, Nat.add_zero] at hzz
   have hdd := hd.out
   rw [hzz, ← HO.out] at hdd
   have HS := Lib.hid (zfq n a)
   have hb : ((D : Int) % 2 == 0) = false := by simp; omega
   have hs1 : 0 < k := by
    rcases Nat.eq_zero_or_pos k with h0 | h0
    ·have := hd.out
     rw [h0, Nat.pow_zero, Nat.div_one] at this
     omega
    ·exact h0
   rw [← hzz, ← hdd] at HS
   clear hzz hdd hz hd HO HTZ htz
   have hx := Nat.mod_lt (a ^ D) (show 0 < n by omega)
   go_wp2_with fail
   refine (rpowN a D n _ (by omega) ha hD1 hn).mono ?_
   rintro e w1 ⟨rfl, k1⟩
   have HP := Lib.hid (show zao n a = cond (Nat.beq (a ^ D % n) 1) true (hit n k (a ^ D % n)) by rw [HS.out]; rfl)
   clear HS
   generalize a ^ D % n = x at *
   by_cases hx1 : x = 1
   ·subst hx1
    have HP1 := Lib.hid (show zao n a = true by rw [HP.out]; rfl)
    go_wp2
    go_ret
    exact ⟨by rw [HP1.out]; rfl, k1⟩
   ·have hxb : ((x : Int) == 1) = false := by simp; omega
    by_cases hxn : x + 1 = n
    ·have HP1 := Lib.hid (show zao n a = true by rw [HP.out, zak, decide_eq_false hx1, cond_false, show k = (k - 1) + 1 by omega, zkj hxn])
     have hyb : ((x : Int) == (n : Int) - 1) = true := by simp; omega
     go_wp2
     go_ret
     exact ⟨by rw [HP1.out]; rfl, k1⟩
    ·have HP1 := Lib.hid (show zao n a = hit n (k - 1) (x * x % n) by rw [HP.out, zak, decide_eq_false hx1, cond_false, show k = (k - 1) + 1 by omega, zq5 hxn, Nat.add_sub_cancel])
     have hyb : ((x : Int) == (n : Int) - 1) = false := by simp; omega
     clear HP
     go_wp2
     go_loopw [7, 8] (fun p i wr => ∃ j y : Nat, 1 ≤ j ∧ j ≤ k ∧ y < n ∧ i = .int .i64 (j : Int) ∧ p = .int .u64 (y : Int) ∧ Ext w1 wr ∧ Hid (zao n a = hit n (k - j) (y * y % n))) (fun _ i _ => k - (intOf i).toNat)
     case atStart => exact ⟨1, x, by omega, by omega, hx, rfl, rfl, Ext.refl _, HP1⟩
     case round =>
      obtain ⟨j, y, hj1, hjk, hy, rfl, rfl, kr, hp⟩ := hrel
      by_cases hlt : j < k
      ·have hyl := Nat.mod_lt (y * y) (show 0 < n by omega)
       go_wp2_with fail
       refine (rmulN y y n _ (by omega) (by omega) (by omega) hn).mono ?_
       rintro e w2 ⟨rfl, k2⟩
       have HY := Lib.hid (show zao n a = hit n (k - j) (y * y % n) from hp.out)
       clear hp
       generalize y * y % n = z at *
       by_cases hzn : z + 1 = n
       ·have HT := Lib.hid (show zao n a = true by rw [HY.out, show k - j = (k - j - 1) + 1 by omega, zkj hzn])
        have hzb : ((z : Int) == (n : Int) - 1) = true := by simp; omega
        go_wp2
        go_ret
        exact ⟨by rw [HT.out]; rfl, k1.trans (kr.trans k2)⟩
       ·have HT := Lib.hid (show zao n a = hit n (k - (j + 1)) (z * z % n) by rw [HY.out, show k - j = (k - (j + 1)) + 1 by omega, zq5 hzn])
        have hzb : ((z : Int) == (n : Int) - 1) = false := by simp; omega
        go_wp2
        exact ⟨⟨j + 1, z, by omega, by omega, hyl, by go_num, rfl, kr.trans k2, HT⟩, by simp [intOf] <;> omega⟩
      ·have HT := Lib.hid (show zao n a = false by rw [hp.out, show k - j = 0 by omega]; rfl)
       go_wp2
       go_ret
       exact ⟨by rw [HT.out]; rfl, k1.trans kr⟩
  ·have hb : ((D : Int) % 2 == 0) = true := by simp; omega
   have HD := Lib.hid (show D / 2 = (n - 1) / 2 ^ (k + 1) by rw [hd.out, Nat.div_div_eq_div_mul, Nat.pow_succ])
   have HZ := Lib.hid (show k + 1 + ctzF (64 - (k + 1)) (D / 2) = tzS n by
    have := hz.out
    rw [show 64 - k = (64 - (k + 1)) + 1 by omega, zuq hDo] at this
    omega)
   have hk63 : k + 1 < 64 := by
    have := HZ.out
    omega
   go_wp2
   exact ⟨⟨k + 1, D / 2, hk63, by omega, by omega, by go_num, by go_num, HD, HZ⟩, by simp [intOf] <;> omega⟩
theorem zw2 {j : Nat} (h : j < 12) : 2 ≤ L12.getD j 0 ∧ L12.getD j 0 < 100 := by
 have : ∀ j, j < 12 → 2 ≤ L12.getD j 0 ∧ L12.getD j 0 < 100 := by decide
 exact this j h
theorem zp4 {n b : Nat} {bs : List Nat} {r : Bool} (h : n % b = 0) : zbv n (b :: bs) r = decide (n = b) := by
 rw [zbv, zak, decide_eq_true h, cond_true, zak]
theorem zvf {n b : Nat} {bs : List Nat} {r : Bool} (h : n % b ≠ 0) : zbv n (b :: bs) r = zbv n bs r := by
 rw [zbv, zak, decide_eq_false h, cond_false]
theorem zyg {n : Nat} (h : 2 ≤ n) : isS n = zbv n L12 (L12.all (zao n)) := by
 rw [isS, zds, decide_eq_false (by omega), cond_false]
theorem zpq {n : Nat} (h : n < 2) : isS n = false := by
 rw [isS, zds, decide_eq_true h, cond_true]
theorem zlx {P : Nat → Bool} {k : Nat} (h : k < 12) : (L12.drop k).all P = (P (L12.getD k 0) && (L12.drop (k + 1)).all P) := by
 have hl : k < L12.length := h
 rw [List.drop_eq_getElem_cons hl, List.all_cons, List.getD_eq_getElem?_getD, List.getElem?_eq_getElem hl, Option.getD_some]
set_option maxHeartbeats 1000000 in
theorem zsl (n d s : Nat) (w : World) (hn0 : 2 ≤ n) (hn : n < 18446744073709551616) (hd : d < 18446744073709551616) (hs : s < 64) (hT : Tabs w) :
    Calls Tryz.prog 264 #[.func (.func 266) #[.agg #[.int .u64 (n : Int), .int .u64 (d : Int), .int .i64 (s : Int)]] #[]] w fun e w' => e = .returned (.bool (L12.all (passS n d s))) ∧ Ext w w' := by
 have HT := Lib.hid hT
 clear hT
 obtain ⟨R, hR⟩ : ∃ R, R = L12.all (passS n d s) := ⟨_, rfl⟩
 rw [← hR]
 have HR := Lib.hid hR
 clear hR
 go_enter Tryz.func264, Tryz.ntmps264
 go_wp2
 go_loopw [4] (fun i wr => ∃ k : Nat, k ≤ 12 ∧ i = .int .i64 (k : Int) ∧ Ext w wr ∧ Hid (R = (L12.drop k).all (passS n d s))) (fun i _ => 12 - (intOf i).toNat)
 case atStart => exact ⟨0, by omega, rfl, Ext.refl _, HR⟩
 case round =>
  obtain ⟨k, hk, rfl, kr, hi⟩ := hrel
  by_cases hlt : k < 12
  ·have hc := (HT.out.ext kr).ba k hlt
   obtain ⟨hb0, hb1⟩ := zw2 hlt
   have HN := Lib.hid (show R = (passS n d s (L12.getD k 0) && (L12.drop (k + 1)).all (passS n d s)) by rw [hi.out, zlx hlt])
   have e1 : (0 : Int) ≤ k := by omega
   have e2 : (k : Int) < 12 := by omega
   generalize L12.getD k 0 = b at *
   go_wp2_with fail
   refine (zpm n d s b _ hn0 hn hd hs (by omega)).mono ?_
   rintro e w2 ⟨rfl, k2⟩
   cases hp : passS n d s b
   ·have HF := Lib.hid (show R = false by rw [HN.out, hp, Bool.false_and])
    go_wp2
    go_ret
    exact ⟨by rw [HF.out]; rfl, kr.trans k2⟩
   ·have HF := Lib.hid (show R = (L12.drop (k + 1)).all (passS n d s) by rw [HN.out, hp, Bool.true_and])
    go_wp2
    exact ⟨⟨k + 1, by omega, by go_num, kr.trans k2, HF⟩, by simp [intOf] <;> omega⟩
  ·have HF := Lib.hid (show R = true by rw [hi.out, show k = 12 by omega]; rfl)
   go_wp2
   go_ret
   exact ⟨by rw [HF.out]; rfl, kr⟩
theorem zxg {n : Nat} (h0 : 2 ≤ n) (hn : n < 18446744073709551616) : oddS n < 18446744073709551616 ∧ tzS n < 64 := by
 have h1 := (zkl (n - 1) (by omega) (by omega)).1
 refine ⟨?_, by rw [tzS]; exact h1⟩
 rw [oddS]
 exact Nat.lt_of_le_of_lt (Nat.div_le_self _ _) (by omega)
theorem zvs : L12.drop 0 = 2 :: L12.drop 1 ∧ L12.drop 1 = 3 :: L12.drop 2 ∧ L12.drop 2 = 5 :: L12.drop 3 ∧ L12.drop 3 = 7 :: L12.drop 4 ∧ L12.drop 4 = 11 :: L12.drop 5 ∧ L12.drop 5 = 13 :: L12.drop 6 ∧ L12.drop 6 = 17 :: L12.drop 7 ∧ L12.drop 7 = 19 :: L12.drop 8 ∧ L12.drop 8 = 23 :: L12.drop 9 ∧ L12.drop 9 = 29 :: L12.drop 10 ∧ L12.drop 10 = 31 :: L12.drop 11 ∧ L12.drop 11 = 37 :: L12.drop 12 := by decide
theorem zbd {n k b : Nat} {R r : Bool} (e : L12.drop k = b :: L12.drop (k + 1)) (h : Hid (R = zbv n (L12.drop k) r)) : (n % b = 0 → R = decide (n = b)) ∧ (n % b ≠ 0 → Hid (R = zbv n (L12.drop (k + 1)) r)) :=
 ⟨fun hb => by rw [h.out, e, zp4 hb], fun hb => Lib.hid (by rw [h.out, e, zvf hb])⟩
theorem zbu (n b : Nat) : ((n : Int) == (b : Int)) = decide (n = b) := by
 by_cases h : n = b
 ·subst h; simp
 ·rw [decide_eq_false h]; simp only [beq_eq_false_iff_ne, ne_eq]; omega
theorem ixr0 (w : World) : (Instr.index 318 (.agg #[.int .u64 2, .int .u64 3, .int .u64 5, .int .u64 7, .int .u64 11, .int .u64 13, .int .u64 17, .int .u64 19, .int .u64 23, .int .u64 29, .int .u64 31, .int .u64 37]) (.int .i64 0)).run Tryz.prog w = .ok (.int .u64 2) w := by kernel_rfl
theorem ixr1 (w : World) : (Instr.index 318 (.agg #[.int .u64 2, .int .u64 3, .int .u64 5, .int .u64 7, .int .u64 11, .int .u64 13, .int .u64 17, .int .u64 19, .int .u64 23, .int .u64 29, .int .u64 31, .int .u64 37]) (.int .i64 1)).run Tryz.prog w = .ok (.int .u64 3) w := by kernel_rfl
theorem ixr2 (w : World) : (Instr.index 318 (.agg #[.int .u64 2, .int .u64 3, .int .u64 5, .int .u64 7, .int .u64 11, .int .u64 13, .int .u64 17, .int .u64 19, .int .u64 23, .int .u64 29, .int .u64 31, .int .u64 37]) (.int .i64 2)).run Tryz.prog w = .ok (.int .u64 5) w := by kernel_rfl
theorem ixr3 (w : World) : (Instr.index 318 (.agg #[.int .u64 2, .int .u64 3, .int .u64 5, .int .u64 7, .int .u64 11, .int .u64 13, .int .u64 17, .int .u64 19, .int .u64 23, .int .u64 29, .int .u64 31, .int .u64 37]) (.int .i64 3)).run Tryz.prog w = .ok (.int .u64 7) w := by kernel_rfl
theorem ixr4 (w : World) : (Instr.index 318 (.agg #[.int .u64 2, .int .u64 3, .int .u64 5, .int .u64 7, .int .u64 11, .int .u64 13, .int .u64 17, .int .u64 19, .int .u64 23, .int .u64 29, .int .u64 31, .int .u64 37]) (.int .i64 4)).run Tryz.prog w = .ok (.int .u64 11) w := by kernel_rfl
theorem ixr5 (w : World) : (Instr.index 318 (.agg #[.int .u64 2, .int .u64 3, .int .u64 5, .int .u64 7, .int .u64 11, .int .u64 13, .int .u64 17, .int .u64 19, .int .u64 23, .int .u64 29, .int .u64 31, .int .u64 37]) (.int .i64 5)).run Tryz.prog w = .ok (.int .u64 13) w := by kernel_rfl
theorem ixr6 (w : World) : (Instr.index 318 (.agg #[.int .u64 2, .int .u64 3, .int .u64 5, .int .u64 7, .int .u64 11, .int .u64 13, .int .u64 17, .int .u64 19, .int .u64 23, .int .u64 29, .int .u64 31, .int .u64 37]) (.int .i64 6)).run Tryz.prog w = .ok (.int .u64 17) w := by kernel_rfl
theorem ixr7 (w : World) : (Instr.index 318 (.agg #[.int .u64 2, .int .u64 3, .int .u64 5, .int .u64 7, .int .u64 11, .int .u64 13, .int .u64 17, .int .u64 19, .int .u64 23, .int .u64 29, .int .u64 31, .int .u64 37]) (.int .i64 7)).run Tryz.prog w = .ok (.int .u64 19) w := by kernel_rfl
theorem ixr8 (w : World) : (Instr.index 318 (.agg #[.int .u64 2, .int .u64 3, .int .u64 5, .int .u64 7, .int .u64 11, .int .u64 13, .int .u64 17, .int .u64 19, .int .u64 23, .int .u64 29, .int .u64 31, .int .u64 37]) (.int .i64 8)).run Tryz.prog w = .ok (.int .u64 23) w := by kernel_rfl
theorem ixr9 (w : World) : (Instr.index 318 (.agg #[.int .u64 2, .int .u64 3, .int .u64 5, .int .u64 7, .int .u64 11, .int .u64 13, .int .u64 17, .int .u64 19, .int .u64 23, .int .u64 29, .int .u64 31, .int .u64 37]) (.int .i64 9)).run Tryz.prog w = .ok (.int .u64 29) w := by kernel_rfl
theorem ixr10 (w : World) : (Instr.index 318 (.agg #[.int .u64 2, .int .u64 3, .int .u64 5, .int .u64 7, .int .u64 11, .int .u64 13, .int .u64 17, .int .u64 19, .int .u64 23, .int .u64 29, .int .u64 31, .int .u64 37]) (.int .i64 10)).run Tryz.prog w = .ok (.int .u64 31) w := by kernel_rfl
theorem ixr11 (w : World) : (Instr.index 318 (.agg #[.int .u64 2, .int .u64 3, .int .u64 5, .int .u64 7, .int .u64 11, .int .u64 13, .int .u64 17, .int .u64 19, .int .u64 23, .int .u64 29, .int .u64 31, .int .u64 37]) (.int .i64 11)).run Tryz.prog w = .ok (.int .u64 37) w := by kernel_rfl
set_option maxHeartbeats 4000000 in
theorem zrh (n : Nat) (w : World) (hn : n < 18446744073709551616) (hT : Tabs w) :
    Calls Tryz.prog 231 #[.int .u64 (n : Int)] w fun e w' => e = .returned (.bool (isS n)) ∧ Ext w w' := by
 by_cases h0 : 2 ≤ n
 ·have HS := Lib.hid (zyg h0)
  have HT := Lib.hid hT
  go_enter Tryz.func231, Tryz.ntmps231
  have t0 := hT.ba 0 (by omega)
  have t1 := hT.ba 1 (by omega)
  have t2 := hT.ba 2 (by omega)
  have t3 := hT.ba 3 (by omega)
  have t4 := hT.ba 4 (by omega)
  have t5 := hT.ba 5 (by omega)
  have t6 := hT.ba 6 (by omega)
  have t7 := hT.ba 7 (by omega)
  have t8 := hT.ba 8 (by omega)
  have t9 := hT.ba 9 (by omega)
  have t10 := hT.ba 10 (by omega)
  have t11 := hT.ba 11 (by omega)
  simp only [L12, List.getD_cons_zero, List.getD_cons_succ] at t0 t1 t2 t3 t4 t5 t6 t7 t8 t9 t10 t11
  go_wp2
  clear t0 t1 t2 t3 t4 t5 t6 t7 t8 t9 t10 t11
  go_loop [8] (fun i => ∃ k : Nat, k ≤ 12 ∧ i = .int .i64 (k : Int) ∧ Hid (isS n = zbv n (L12.drop k) (L12.all (zao n)))) (fun i => 12 - (intOf i).toNat)
  case atStart => exact ⟨0, by omega, rfl, Lib.hid HS.out⟩
  case round =>
   obtain ⟨k, hk, rfl, hi⟩ := hrel
   clear HS
   rcases (show k = 12 ∨ k = 0 ∨ k = 1 ∨ k = 2 ∨ k = 3 ∨ k = 4 ∨ k = 5 ∨ k = 6 ∨ k = 7 ∨ k = 8 ∨ k = 9 ∨ k = 10 ∨ k = 11 by omega) with rfl | hk2
   ·go_wp2_with fail
    refine (znr n w h0 hn HT.out).mono ?_
    rintro e w1 ⟨rfl, k1⟩
    obtain ⟨o1, o2⟩ := zxg h0 hn
    have HE := Lib.hid (show isS n = L12.all (passS n (oddS n) (tzS n)) by rw [hi.out]; exact zgc L12 (fun a => zfq n a))
    go_wp2_with fail
    refine (zsl n _ _ w1 h0 hn o1 o2 (HT.out.ext k1)).mono ?_
    rw [← HE.out]
    rintro e w2 ⟨rfl, k2⟩
    go_wp2
    go_ret
    exact ⟨rfl, k1.trans k2⟩
   ·obtain ⟨d0, d1, d2, d3, d4, d5, d6, d7, d8, d9, d10, d11⟩ := zvs
    rcases hk2 with rfl | rfl | rfl | rfl | rfl | rfl | rfl | rfl | rfl | rfl | rfl | rfl
    ·obtain ⟨y, z⟩ := zbd (b := 2) d0 hi
     clear d0 d1 d2 d3 d4 d5 d6 d7 d8 d9 d10 d11
     by_cases hb : n % 2 = 0
     ·have HE := Lib.hid (y hb)
      have hb' : ((n : Int) % 2 == 0) = true := by simp; omega
      have HF := Lib.hid (zbu n 2)
      clear y z hb
      have hix := ixr0 w
      go_wp2
      go_ret
      exact ⟨congrArg Ending.returned (congrArg Value.bool (by rw [HE.out]; exact HF.out)), Ext.refl _⟩
     ·have HZ := z hb
      have hb' : ((n : Int) % 2 == 0) = false := by simp; omega
      clear y z hb
      have hix := ixr0 w
      go_wp2
      exact ⟨⟨1, by omega, by go_num, HZ⟩, by simp [intOf]⟩
    ·obtain ⟨y, z⟩ := zbd (b := 3) d1 hi
     clear d0 d1 d2 d3 d4 d5 d6 d7 d8 d9 d10 d11
     by_cases hb : n % 3 = 0
     ·have HE := Lib.hid (y hb)
      have hb' : ((n : Int) % 3 == 0) = true := by simp; omega
      have HF := Lib.hid (zbu n 3)
      clear y z hb
      have hix := ixr1 w
      go_wp2
      go_ret
      exact ⟨congrArg Ending.returned (congrArg Value.bool (by rw [HE.out]; exact HF.out)), Ext.refl _⟩
     ·have HZ := z hb
      have hb' : ((n : Int) % 3 == 0) = false := by simp; omega
      clear y z hb
      have hix := ixr1 w
      go_wp2
      exact ⟨⟨2, by omega, by go_num, HZ⟩, by simp [intOf]⟩
    ·obtain ⟨y, z⟩ := zbd (b := 5) d2 hi
     clear d0 d1 d2 d3 d4 d5 d6 d7 d8 d9 d10 d11
     by_cases hb : n % 5 = 0
     ·have HE := Lib.hid (y hb)
      have hb' : ((n : Int) % 5 == 0) = true := by simp; omega
      have HF := Lib.hid (zbu n 5)
      clear y z hb
      have hix := ixr2 w
      go_wp2
      go_ret
      exact ⟨congrArg Ending.returned (congrArg Value.bool (by rw [HE.out]; exact HF.out)), Ext.refl _⟩
     ·have HZ := z hb
      have hb' : ((n : Int) % 5 == 0) = false := by simp; omega
      clear y z hb
      have hix := ixr2 w
      go_wp2
      exact ⟨⟨3, by omega, by go_num, HZ⟩, by simp [intOf]⟩
    ·obtain ⟨y, z⟩ := zbd (b := 7) d3 hi
     clear d0 d1 d2 d3 d4 d5 d6 d7 d8 d9 d10 d11
     by_cases hb : n % 7 = 0
     ·have HE := Lib.hid (y hb)
      have hb' : ((n : Int) % 7 == 0) = true := by simp; omega
      have HF := Lib.hid (zbu n 7)
      clear y z hb
      have hix := ixr3 w
      go_wp2
      go_ret
      exact ⟨congrArg Ending.returned (congrArg Value.bool (by rw [HE.out]; exact HF.out)), Ext.refl _⟩
     ·have HZ := z hb
      have hb' : ((n : Int) % 7 == 0) = false := by simp; omega
      clear y z hb
      have hix := ixr3 w
      go_wp2
      exact ⟨⟨4, by omega, by go_num, HZ⟩, by simp [intOf]⟩
    ·obtain ⟨y, z⟩ := zbd (b := 11) d4 hi
     clear d0 d1 d2 d3 d4 d5 d6 d7 d8 d9 d10 d11
     by_cases hb : n % 11 = 0
     ·have HE := Lib.hid (y hb)
      have hb' : ((n : Int) % 11 == 0) = true := by simp; omega
      have HF := Lib.hid (zbu n 11)
      clear y z hb
      have hix := ixr4 w
      go_wp2
      go_ret
      exact ⟨congrArg Ending.returned (congrArg Value.bool (by rw [HE.out]; exact HF.out)), Ext.refl _⟩
     ·have HZ := z hb
      have hb' : ((n : Int) % 11 == 0) = false := by simp; omega
      clear y z hb
      have hix := ixr4 w
      go_wp2
      exact ⟨⟨5, by omega, by go_num, HZ⟩, by simp [intOf]⟩
    ·obtain ⟨y, z⟩ := zbd (b := 13) d5 hi
     clear d0 d1 d2 d3 d4 d5 d6 d7 d8 d9 d10 d11
     by_cases hb : n % 13 = 0
     ·have HE := Lib.hid (y hb)
      have hb' : ((n : Int) % 13 == 0) = true := by simp; omega
      have HF := Lib.hid (zbu n 13)
      clear y z hb
      have hix := ixr5 w
      go_wp2
      go_ret
      exact ⟨congrArg Ending.returned (congrArg Value.bool (by rw [HE.out]; exact HF.out)), Ext.refl _⟩
     ·have HZ := z hb
      have hb' : ((n : Int) % 13 == 0) = false := by simp; omega
      clear y z hb
      have hix := ixr5 w
      go_wp2
      exact ⟨⟨6, by omega, by go_num, HZ⟩, by simp [intOf]⟩
    ·obtain ⟨y, z⟩ := zbd (b := 17) d6 hi
     clear d0 d1 d2 d3 d4 d5 d6 d7 d8 d9 d10 d11
     by_cases hb : n % 17 = 0
     ·have HE := Lib.hid (y hb)
      have hb' : ((n : Int) % 17 == 0) = true := by simp; omega
      have HF := Lib.hid (zbu n 17)
      clear y z hb
      have hix := ixr6 w
      go_wp2
      go_ret
      exact ⟨congrArg Ending.returned (congrArg Value.bool (by rw [HE.out]; exact HF.out)), Ext.refl _⟩
     ·have HZ := z hb
      have hb' : ((n : Int) % 17 == 0) = false := by simp; omega
      clear y z hb
      have hix := ixr6 w
      go_wp2
      exact ⟨⟨7, by omega, by go_num, HZ⟩, by simp [intOf]⟩
    ·obtain ⟨y, z⟩ := zbd (b := 19) d7 hi
     clear d0 d1 d2 d3 d4 d5 d6 d7 d8 d9 d10 d11
     by_cases hb : n % 19 = 0
     ·have HE := Lib.hid (y hb)
      have hb' : ((n : Int) % 19 == 0) = true := by simp; omega
      have HF := Lib.hid (zbu n 19)
      clear y z hb
      have hix := ixr7 w
      go_wp2
      go_ret
      exact ⟨congrArg Ending.returned (congrArg Value.bool (by rw [HE.out]; exact HF.out)), Ext.refl _⟩
     ·have HZ := z hb
      have hb' : ((n : Int) % 19 == 0) = false := by simp; omega
      clear y z hb
      have hix := ixr7 w
      go_wp2
      exact ⟨⟨8, by omega, by go_num, HZ⟩, by simp [intOf]⟩
    ·obtain ⟨y, z⟩ := zbd (b := 23) d8 hi
     clear d0 d1 d2 d3 d4 d5 d6 d7 d8 d9 d10 d11
     by_cases hb : n % 23 = 0
     ·have HE := Lib.hid (y hb)
      have hb' : ((n : Int) % 23 == 0) = true := by simp; omega
      have HF := Lib.hid (zbu n 23)
      clear y z hb
      have hix := ixr8 w
      go_wp2
      go_ret
      exact ⟨congrArg Ending.returned (congrArg Value.bool (by rw [HE.out]; exact HF.out)), Ext.refl _⟩
     ·have HZ := z hb
      have hb' : ((n : Int) % 23 == 0) = false := by simp; omega
      clear y z hb
      have hix := ixr8 w
      go_wp2
      exact ⟨⟨9, by omega, by go_num, HZ⟩, by simp [intOf]⟩
    ·obtain ⟨y, z⟩ := zbd (b := 29) d9 hi
     clear d0 d1 d2 d3 d4 d5 d6 d7 d8 d9 d10 d11
     by_cases hb : n % 29 = 0
     ·have HE := Lib.hid (y hb)
      have hb' : ((n : Int) % 29 == 0) = true := by simp; omega
      have HF := Lib.hid (zbu n 29)
      clear y z hb
      have hix := ixr9 w
      go_wp2
      go_ret
      exact ⟨congrArg Ending.returned (congrArg Value.bool (by rw [HE.out]; exact HF.out)), Ext.refl _⟩
     ·have HZ := z hb
      have hb' : ((n : Int) % 29 == 0) = false := by simp; omega
      clear y z hb
      have hix := ixr9 w
      go_wp2
      exact ⟨⟨10, by omega, by go_num, HZ⟩, by simp [intOf]⟩
    ·obtain ⟨y, z⟩ := zbd (b := 31) d10 hi
     clear d0 d1 d2 d3 d4 d5 d6 d7 d8 d9 d10 d11
     by_cases hb : n % 31 = 0
     ·have HE := Lib.hid (y hb)
      have hb' : ((n : Int) % 31 == 0) = true := by simp; omega
      have HF := Lib.hid (zbu n 31)
      clear y z hb
      have hix := ixr10 w
      go_wp2
      go_ret
      exact ⟨congrArg Ending.returned (congrArg Value.bool (by rw [HE.out]; exact HF.out)), Ext.refl _⟩
     ·have HZ := z hb
      have hb' : ((n : Int) % 31 == 0) = false := by simp; omega
      clear y z hb
      have hix := ixr10 w
      go_wp2
      exact ⟨⟨11, by omega, by go_num, HZ⟩, by simp [intOf]⟩
    ·obtain ⟨y, z⟩ := zbd (b := 37) d11 hi
     clear d0 d1 d2 d3 d4 d5 d6 d7 d8 d9 d10 d11
     by_cases hb : n % 37 = 0
     ·have HE := Lib.hid (y hb)
      have hb' : ((n : Int) % 37 == 0) = true := by simp; omega
      have HF := Lib.hid (zbu n 37)
      clear y z hb
      have hix := ixr11 w
      go_wp2
      go_ret
      exact ⟨congrArg Ending.returned (congrArg Value.bool (by rw [HE.out]; exact HF.out)), Ext.refl _⟩
     ·have HZ := z hb
      have hb' : ((n : Int) % 37 == 0) = false := by simp; omega
      clear y z hb
      have hix := ixr11 w
      go_wp2
      exact ⟨⟨12, by omega, by go_num, HZ⟩, by simp [intOf]⟩
 ·have H := Lib.hid (zpq (n := n) (by omega))
  go_enter Tryz.func231, Tryz.ntmps231
  go_wp2
  go_ret
  exact ⟨by rw [H.out]; rfl, Ext.refl _⟩
theorem zt6 {n d : Nat} (h0 : 2 ≤ d) (h1 : d * d ≤ n) (h2 : n < 65536) (h : n % d = 0) : zc3 n = false := by
 cases e : zc3 n
 ·rfl
 ·have hd : d < 256 := by
     rcases Nat.lt_or_ge d 256 with g | g
     ·exact g
     ·have := Nat.mul_le_mul g g; omega
  exact absurd h ((zcp n).1 e d hd h0 h1)
theorem zqq {n D : Nat} (h1 : n < D * D) (h : ∀ d, 2 ≤ d → d < D → n % d ≠ 0) : zc3 n = true := by
 refine (zcp n).2 fun d _ hd0 hdn => ?_
 rcases Nat.lt_or_ge d D with g | g
 ·exact h d hd0 g
 ·have := Nat.mul_le_mul g g; omega
set_option maxHeartbeats 1000000 in
theorem zyw (n : Nat) (w : World) (hn : n < 18446744073709551616) :
    Calls Tryz.prog 74 #[.int .u64 (n : Int)] w fun e w' => e = .returned (.bool (isR n)) ∧ Ext w w' := by
 by_cases h0 : n < 2
 ·have H := Lib.hid (show isR n = false by rw [isR, if_pos h0])
  go_enter Tryz.func74, Tryz.ntmps74
  go_wp2
  go_ret
  exact ⟨by rw [H.out]; rfl, Ext.refl _⟩
 ·by_cases hs : n < 65536
  ·have H := Lib.hid (show isR n = zc3 n by rw [isR, if_neg h0, if_pos hs])
   have f1 : decide ((n : Int) < 2) = false := by simp; omega
   have f2 : decide ((n : Int) < 65536) = true := by simp; omega
   have HS := Lib.hid hs
   have H0 := Lib.hid h0
   clear hs h0
   go_enter Tryz.func74, Tryz.ntmps74
   go_wp2
   go_loop [3] (fun dv => ∃ D : Nat, 2 ≤ D ∧ D ≤ 256 ∧ dv = .int .u64 (D : Int) ∧ Hid (∀ d, 2 ≤ d → d < D → n % d ≠ 0)) (fun dv => 256 - (intOf dv).toNat)
   case atStart => exact ⟨2, by omega, by omega, rfl, Lib.hid fun d h1 h2 => by omega⟩
   case round =>
    obtain ⟨D, hD0, hD1, rfl, hi⟩ := hrel
    have hm2 : D * D ≤ 65536 := Nat.mul_le_mul hD1 hD1
    have hm : ((D : Int) * (D : Int)) = ((D * D : Nat) : Int) := (Int.natCast_mul _ _).symm
    have hm0 : (0 : Int) ≤ (D : Int) * (D : Int) := by rw [hm]; omega
    have hm1 : (D : Int) * (D : Int) ≤ 65536 := by rw [hm]; omega
    by_cases hle : D * D ≤ n
    ·have hlt : D < 256 := by
        rcases Nat.lt_or_ge D 256 with g | g
        ·exact g
        ·have := Nat.mul_le_mul g g
         have := HS.out
         omega
     have g1 : decide ((D : Int) * (D : Int) ≤ (n : Int)) = true := by rw [hm]; simp; omega
     by_cases hd : n % D = 0
     ·have HT := Lib.hid (show isR n = false by rw [H.out]; exact zt6 hD0 hle HS.out hd)
      have g2 : ((n : Int) % (D : Int) == 0) = true := by simp; omega
      clear hm hm2 hd hle
      go_wp2
      go_ret
      exact ⟨by rw [HT.out]; rfl, Ext.refl _⟩
     ·have g2 : ((n : Int) % (D : Int) == 0) = false := by simp; omega
      have HI := Lib.hid (show ∀ d, 2 ≤ d → d < D + 1 → n % d ≠ 0 from fun d h1 h2 => by
       rcases Nat.lt_or_eq_of_le (Nat.le_of_lt_succ h2) with g | g
       ·exact hi.out d h1 g
       ·rw [g]; exact hd)
      clear hm hm2 hd hle
      go_wp2
      exact ⟨⟨D + 1, by omega, by omega, by go_num, HI⟩, by simp [intOf] <;> omega⟩
    ·have g1 : decide ((D : Int) * (D : Int) ≤ (n : Int)) = false := by rw [hm]; simp; omega
     have HT := Lib.hid (show isR n = true by rw [H.out]; exact zqq (by omega) hi.out)
     clear hm hm2 hle
     go_wp2
     go_ret
     exact ⟨by rw [HT.out]; rfl, Ext.refl _⟩
  ·have H := Lib.hid (show isR n = L12.all (fun a => (!Nat.beq (n % a) 0) && zao n a) by rw [isR, if_neg h0, if_neg hs])
   obtain ⟨P, hP⟩ : ∃ P : Nat → Bool, P = fun a => (!Nat.beq (n % a) 0) && zao n a := ⟨_, rfl⟩
   have f1 : decide ((n : Int) < 2) = false := by simp; omega
   have f2 : decide ((n : Int) < 65536) = false := by simp; omega
   have HS := Lib.hid hs
   have H0 := Lib.hid h0
   clear hs h0
   go_enter Tryz.func74, Tryz.ntmps74
   rw [← hP] at H
   have HP := Lib.hid hP
   clear hP
   go_wp2
   have kW : Ext w (w.alloc (Obj.cells #[Value.int IntKind.u64 2, Value.int IntKind.u64 3, Value.int IntKind.u64 5, Value.int IntKind.u64 7, Value.int IntKind.u64 11, Value.int IntKind.u64 13, Value.int IntKind.u64 17, Value.int IntKind.u64 19, Value.int IntKind.u64 23, Value.int IntKind.u64 29, Value.int IntKind.u64 31, Value.int IntKind.u64 37] 26)) := (Ext.refl w).alloc _
   have cW : ∀ j, j < 12 → (w.alloc (Obj.cells #[Value.int IntKind.u64 2, Value.int IntKind.u64 3, Value.int IntKind.u64 5, Value.int IntKind.u64 7, Value.int IntKind.u64 11, Value.int IntKind.u64 13, Value.int IntKind.u64 17, Value.int IntKind.u64 19, Value.int IntKind.u64 23, Value.int IntKind.u64 29, Value.int IntKind.u64 31, Value.int IntKind.u64 37] 26)).cell? ⟨w.heap.size, j, none⟩ = some (.int .u64 ((L12.getD j 0 : Nat) : Int)) := fun j hj => by
    rcases (show j = 0 ∨ j = 1 ∨ j = 2 ∨ j = 3 ∨ j = 4 ∨ j = 5 ∨ j = 6 ∨ j = 7 ∨ j = 8 ∨ j = 9 ∨ j = 10 ∨ j = 11 by omega) with rfl | rfl | rfl | rfl | rfl | rfl | rfl | rfl | rfl | rfl | rfl | rfl
    all_goals simp [L12]
   generalize w.alloc (Obj.cells #[Value.int IntKind.u64 2, Value.int IntKind.u64 3, Value.int IntKind.u64 5, Value.int IntKind.u64 7, Value.int IntKind.u64 11, Value.int IntKind.u64 13, Value.int IntKind.u64 17, Value.int IntKind.u64 19, Value.int IntKind.u64 23, Value.int IntKind.u64 29, Value.int IntKind.u64 31, Value.int IntKind.u64 37] 26) = V at *
   have HC := Lib.hid cW
   clear cW
   go_loopw [23] (fun i wr => ∃ k : Nat, k ≤ 12 ∧ i = .int .i64 (k : Int) ∧ Ext V wr ∧ Hid (isR n = (L12.drop k).all P) ∧ (0 < k → n % 2 = 1)) (fun i _ => 12 - (intOf i).toNat)
   case atStart => exact ⟨0, by omega, rfl, Ext.refl _, H, fun h => by omega⟩
   case round =>
    obtain ⟨k, hk, rfl, kr, hi, hodd⟩ := hrel
    by_cases hlt : k < 12
    ·have hc := cE kr (HC.out k hlt)
     obtain ⟨hb0, hb1⟩ := zw2 hlt
     have HN := Lib.hid (show isR n = (P (L12.getD k 0) && (L12.drop (k + 1)).all P) by rw [hi.out, zlx hlt])
     have HB0 : k = 0 → L12.getD k 0 = 2 := fun e => by rw [e]; rfl
     have e1 : (0 : Int) ≤ k := by omega
     have e2 : (k : Int) < 12 := by omega
     have HPb := Lib.hid (show P (L12.getD k 0) = ((!Nat.beq (n % L12.getD k 0) 0) && zao n (L12.getD k 0)) by rw [HP.out])
     generalize L12.getD k 0 = b at *
     by_cases hd : n % b = 0
     ·have HF := Lib.hid (show isR n = false by rw [HN.out, HPb.out, zak, decide_eq_true hd]; rfl)
      have g2 : ((n : Int) % (b : Int) == 0) = true := by simp; omega
      clear hd hodd HB0
      go_wp2
      go_ret
      exact ⟨by rw [HF.out]; rfl, kW.trans kr⟩
     ·have g2 : ((n : Int) % (b : Int) == 0) = false := by simp; omega
      have hod : n % 2 = 1 := by
       rcases Nat.eq_zero_or_pos k with h | h
       ·have := HB0 h; subst this; omega
       ·exact hodd h
      have HPc := Lib.hid (show P b = zao n b by rw [HPb.out, zak, decide_eq_false hd]; rfl)
      have h3 : 3 ≤ n := by have := HS.out; omega
      clear hd hodd HB0
      go_wp2_with fail
      refine (zpj n b _ h3 hod hn (by omega)).mono ?_
      rintro e w2 ⟨rfl, k2⟩
      cases hp : zao n b
      ·have HF := Lib.hid (show isR n = false by rw [HN.out, HPc.out, hp, Bool.false_and])
       go_wp2
       go_ret
       exact ⟨by rw [HF.out]; rfl, kW.trans (kr.trans k2)⟩
      ·have HF := Lib.hid (show isR n = (L12.drop (k + 1)).all P by rw [HN.out, HPc.out, hp, Bool.true_and])
       go_wp2
       exact ⟨⟨k + 1, by omega, by go_num, kr.trans k2, HF, fun _ => hod⟩, by simp [intOf] <;> omega⟩
    ·obtain rfl : k = 12 := by omega
     have HF := Lib.hid (show isR n = true by rw [hi.out]; rfl)
     clear hodd hlt hk
     go_wp2
     go_ret
     exact ⟨by rw [HF.out]; rfl, kW.trans kr⟩
def stepF (n : Nat) : Nat → Nat → Bool
 | 0, _ => false
 | f + 1, k => cond (Nat.beq n k) true (stepF n f (2 * k))
def stepS (n : Nat) : Bool := stepF n 13 2
def zes : Nat → Nat → Bool
 | 0, _ => true
 | k + 1, n => cond (Nat.beq (Nat.land n (n - 1)) 0) (cond (stepS n) (zes k (n + 1)) false) (cond (stepS n) false (zes k (n + 1)))
theorem zew : ∀ k n, zes k n = true → ∀ m, n ≤ m → m < n + k → stepS m = Nat.beq (Nat.land m (m - 1)) 0
 | 0, n, _, m, h1, h2 => by omega
 | k + 1, n, h, m, h1, h2 => by
  unfold zes at h
  have key : stepS n = Nat.beq (Nat.land n (n - 1)) 0 ∧ zes k (n + 1) = true := by
   revert h
   cases Nat.beq (Nat.land n (n - 1)) 0 <;> cases stepS n <;> simp
  rcases Nat.lt_or_eq_of_le h1 with g | g
  ·exact zew k (n + 1) key.2 m g (by omega)
  ·rw [← g]; exact key.1
set_option maxRecDepth 100000 in
theorem zkt : zes 8191 2 = true := by decide +kernel
theorem zfc {n : Nat} : ∀ f k, stepF n f k = true → k ≤ n ∧ n * 2 ≤ k * 2 ^ f
 | 0, k, h => by simp [stepF] at h
 | f + 1, k, h => by
  unfold stepF at h
  rw [zak] at h
  by_cases hk : n = k
  ·subst hk
   exact ⟨Nat.le_refl _, Nat.mul_le_mul_left _ (by rw [Nat.pow_succ]; have := Nat.two_pow_pos f; omega)⟩
  ·rw [decide_eq_false hk, cond_false] at h
   obtain ⟨a, b⟩ := zfc f (2 * k) h
   refine ⟨by omega, ?_⟩
   rw [Nat.pow_succ, show k * (2 ^ f * 2) = 2 * k * 2 ^ f by rw [Nat.mul_comm (2 ^ f), ← Nat.mul_assoc, Nat.mul_comm k]]
   exact b
theorem zbq {n : Nat} (h : stepS n = true) : 2 ≤ n ∧ n ≤ 8192 := by
 obtain ⟨a, b⟩ := zfc 13 2 h
 exact ⟨a, by omega⟩
theorem zmy {n : Nat} (h0 : 2 ≤ n) (h1 : n ≤ 8192) : stepS n = decide ((n &&& (n - 1)) = 0) := by
 rw [zew 8191 2 zkt n h0 (by omega), zak]; rfl
theorem zjj {n : Nat} (h : ¬ (2 ≤ n ∧ n ≤ 8192)) : stepS n = false := by
 cases e : stepS n
 ·rfl
 ·exact absurd (zbq e) h
theorem zfl (n : Nat) (w : World) (hn : n < 18446744073709551616) :
    Calls Tryz.prog 248 #[.int .u64 (n : Int)] w fun e w' => e = .returned (.bool (stepS n)) ∧ w = w' := by
 by_cases h0 : 2 ≤ n
 ·by_cases h1 : n ≤ 8192
  ·have H := Lib.hid (zmy h0 h1)
   have hb := bits_and_u64_nat n (n - 1) (by omega) (by omega)
   rw [show ((n - 1 : Nat) : Int) = (n : Int) - 1 by omega] at hb
   have HL := Lib.hid (show ((((n &&& (n - 1)) : Nat) : Int) == 0) = decide ((n &&& (n - 1)) = 0) by rw [show (0 : Int) = ((0 : Nat) : Int) from rfl]; exact zbu _ 0)
   generalize (n &&& (n - 1)) = q at *
   go_enter Tryz.func248, Tryz.ntmps248
   go_wp2_with (simp only [hb])
   go_ret
   exact ⟨congrArg Ending.returned (congrArg Value.bool (by rw [H.out]; exact HL.out)), rfl⟩
  ·have H := Lib.hid (zjj (n := n) (by omega))
   go_enter Tryz.func248, Tryz.ntmps248
   go_wp2
   go_ret
   exact ⟨by rw [H.out]; rfl, rfl⟩
 ·have H := Lib.hid (zjj (n := n) (by omega))
  go_enter Tryz.func248, Tryz.ntmps248
  go_wp2
  go_ret
  exact ⟨by rw [H.out]; rfl, rfl⟩
theorem zd1 (n : Nat) (w : World) (hn : n < 18446744073709551616) :
    Calls Tryz.prog 73 #[.int .u64 (n : Int)] w fun e w' => e = .returned (.bool (stepS n)) ∧ w = w' := by
 go_enter Tryz.func73, Tryz.ntmps73
 go_wp2
 go_loop [3] (fun kv => ∃ f k : Nat, 2 ≤ k ∧ k ≤ 16384 ∧ kv = .int .u64 (k : Int) ∧ Hid (k * 2 ^ f = 16384) ∧ Hid (stepS n = stepF n f k)) (fun kv => 16384 - (intOf kv).toNat)
 case atStart => exact ⟨13, 2, by omega, by omega, rfl, Lib.hid (by decide), Lib.hid rfl⟩
 case round =>
  obtain ⟨f, k, hk0, hk1, rfl, hp, hs⟩ := hrel
  cases f with
  | zero =>
   have hk : k = 16384 := by have := hp.out; omega
   subst hk
   have HF := Lib.hid (show stepS n = false by rw [hs.out]; rfl)
   clear hk0 hk1
   go_wp2
   go_ret
   exact ⟨by rw [HF.out]; rfl, rfl⟩
  | succ f =>
   have hpp : 2 * k * 2 ^ f = 16384 := by rw [← hp.out, Nat.pow_succ, Nat.mul_comm (2 ^ f), ← Nat.mul_assoc, Nat.mul_comm k]
   have hk8 : k ≤ 8192 := by
    have h1 := Nat.two_pow_pos f
    have := Nat.mul_le_mul_left (2 * k) h1
    omega
   by_cases hnk : n = k
   ·subst hnk
    have HF := Lib.hid (show stepS n = true by rw [hs.out, stepF, zak, decide_eq_true rfl, cond_true])
    clear hpp
    go_wp2
    go_ret
    exact ⟨by rw [HF.out]; rfl, rfl⟩
   ·have HF := Lib.hid (show stepS n = stepF n f (2 * k) by rw [hs.out, stepF, zak, decide_eq_false hnk, cond_false])
    have hb : ((n : Int) == (k : Int)) = false := by simp only [beq_eq_false_iff_ne, ne_eq]; omega
    have HPP := Lib.hid hpp
    clear hpp hnk
    go_wp2
    exact ⟨⟨f, 2 * k, by omega, by omega, by go_num, HPP, HF⟩, by simp [intOf] <;> omega⟩
def num (b q k : Nat) : Nat := (q - k) * b + 1
def filt (b q : Nat) : Nat → List Nat
 | 0 => []
 | k + 1 => filt b q k ++ (if isS (num b q k) = true then [num b q k] else [])
theorem zwi {b q k : Nat} (h : isS (num b q k) = true) : filt b q (k + 1) = filt b q k ++ [num b q k] := by rw [filt, if_pos h]
theorem zro {b q k : Nat} (h : isS (num b q k) = false) : filt b q (k + 1) = filt b q k := by rw [filt, if_neg (by rw [h]; decide), List.append_nil]
theorem zsa {b q : Nat} {j k : Nat} (h : j ≤ k) : (filt b q j).length ≤ (filt b q k).length := by
 induction k with
 | zero => rw [show j = 0 by omega]; exact Nat.le_refl _
 | succ k ih =>
  rcases Nat.lt_or_eq_of_le h with g | g
  ·have := ih (by omega)
   rw [filt, List.length_append]; omega
  ·rw [g]; exact Nat.le_refl _
theorem zvq {b q k lo : Nat} (hk : k ≤ q) (hb : 2 ≤ b) (hlo : 1 ≤ lo) (h : lo < num b q k) : k + 1 ≤ q ∧ b < num b q k ∧ num b q k - b = num b q (k + 1) := by
 unfold num at *
 rcases Nat.eq_zero_or_pos (q - k) with h0 | h0
 ·rw [h0, Nat.zero_mul] at h; omega
 ·obtain ⟨m, hm⟩ : ∃ m, q - k = m + 1 := ⟨q - k - 1, by omega⟩
  rw [hm, Nat.add_mul, Nat.one_mul] at h
  rw [show q - (k + 1) = m by omega, hm, Nat.add_mul, Nat.one_mul]
  refine ⟨by omega, by omega, by omega⟩
def BadS (z : Int) (b : Nat) (c : Int) : Prop := z < 4 ∨ 61 < z ∨ stepS b = false ∨ c < 1 ∨ 16 < c
def Gone (lo b q c k : Nat) : Prop := k ≤ q ∧ ∀ j, j < k → lo < num b q j ∧ (filt b q j).length < c
def SPost (z : Int) (b : Nat) (c : Int) (w : World) (e : Ending) (w' : World) : Prop :=
 (BadS z b c ∧ e = .returned (.tuple #[.slice none 0 0, .int .i64 1]) ∧ Ext w w') ∨
 (¬ BadS z b c ∧ ∃ k, Gone (2 ^ (z.toNat - 1)) b ((2 ^ z.toNat - 2) / b) c.toNat k ∧
  ((num b ((2 ^ z.toNat - 2) / b) k ≤ 2 ^ (z.toNat - 1) ∧ (filt b ((2 ^ z.toNat - 2) / b) k).length < c.toNat ∧ e = .returned (.tuple #[.slice none 0 0, .int .i64 7]) ∧ Ext w w') ∨
   ((filt b ((2 ^ z.toNat - 2) / b) k).length = c.toNat ∧ ∃ A n cp, e = .returned (.tuple #[.slice A n cp, .int .i64 0]) ∧ NX w' A n cp (filt b ((2 ^ z.toNat - 2) / b) k) ∧ Ext w w')))
theorem zdw : (Tryz.prog.info? 26).map (fun i => (i.zero, i.size, i.bytes)) = some (some (.int .u64 0), 1, 8) := by kernel_rfl
def URow (B : Nat) (w0 w : World) (v : Value) (n : Nat) (zs : List Nat) : Prop := w.ownsRow B 26 1 v n (u64s zs) ∧ Below B w0 w ∧ (∀ x ∈ zs, x < W64)
theorem URow.nil (w : World) : URow w.heap.size w w (.slice none 0 0) 0 [] := ⟨World.ownsRow_nil _ _ _ _, Below.refl _ _, by simp⟩
theorem URow.push {B : Nat} {w0 w w1 : World} {v v' : Value} {n : Nat} {zs : List Nat} {z : Nat} {o : Obj} (h : URow B w0 w v n zs) (hB : B ≤ w.heap.size) (hz : z < W64)
    (h1 : w1.ownsRow B 26 1 v' (n + 1) (u64s zs ++ [Value.int .u64 (z : Int)])) (hg : (w.alloc o).grownBy w1 v.ownBlock) : URow B w0 w1 v' (n + 1) (zs ++ [z]) := by
 rw [ziy] at h1
 exact ⟨h1, (h.2.1.alloc hB o).grown hg (by simp; omega) (fun k e => (h.1.lt k e).1), zb6 h.2.2 hz⟩
theorem URow.ext {B : Nat} {w0 w w1 : World} {v : Value} {n : Nat} {zs : List Nat} (h : URow B w0 w v n zs) (hB : B ≤ w.heap.size) (k : Ext w w1) : URow B w0 w1 v n zs := by
 refine ⟨h.1.kept (row := none) ⟨k.os, k.tape, k.output, k.size, fun i hi _ => k.block i hi⟩ ?_, h.2.1.trans (Below.mono k hB), h.2.2⟩
 cases e : v.ownBlock
 ·exact .inl rfl
 ·exact .inr (by simp)
theorem zup (n : Nat) (w : World) (hn : n < 18446744073709551616) :
    Calls Tryz.prog 74 #[.int .u64 (n : Int)] w fun e w' => e = .returned (.bool (isS n)) ∧ Ext w w' := by
 rw [zsi n]; exact zyw n w hn
set_option maxHeartbeats 2000000 in
theorem zfw (z : Int) (b : Nat) (c : Int) (w : World) (hz0 : -9223372036854775808 ≤ z) (hz1 : z < 9223372036854775808) (hb : b < 18446744073709551616) (hc0 : -9223372036854775808 ≤ c) (hc1 : c < 9223372036854775808) (hT : Tabs w) :
    Calls Tryz.prog 32 #[.int .i64 z, .int .u64 (b : Int), .int .i64 c] w (SPost z b c w) := by
 obtain ⟨i0, hi, hzz0, hzz1, hzz2⟩ := info_parts zdw
 have HT := Lib.hid hT
 clear hT
 by_cases h1 : z < 4
 ·go_enter Tryz.func32, Tryz.ntmps32
  go_wp2
  go_ret2
  exact .inl ⟨.inl h1, rfl, Ext.refl _⟩
 by_cases h2 : 61 < z
 ·go_enter Tryz.func32, Tryz.ntmps32
  go_wp2
  go_ret2
  exact .inl ⟨.inr (.inl h2), rfl, Ext.refl _⟩
 cases h3 : stepS b
 ·go_enter Tryz.func32, Tryz.ntmps32
  go_wp2_with fail
  refine (zd1 b w hb).mono ?_
  rw [h3]
  rintro e w' ⟨rfl, rfl⟩
  go_wp2
  go_ret2
  exact .inl ⟨.inr (.inr (.inl h3)), rfl, Ext.refl _⟩
 by_cases h4 : c < 1
 ·go_enter Tryz.func32, Tryz.ntmps32
  go_wp2_with fail
  refine (zd1 b w hb).mono ?_
  rw [h3]
  rintro e w' ⟨rfl, rfl⟩
  go_wp2
  go_ret2
  exact .inl ⟨.inr (.inr (.inr (.inl h4))), rfl, Ext.refl _⟩
 by_cases h5 : 16 < c
 ·go_enter Tryz.func32, Tryz.ntmps32
  go_wp2_with fail
  refine (zd1 b w hb).mono ?_
  rw [h3]
  rintro e w' ⟨rfl, rfl⟩
  go_wp2
  go_ret2
  exact .inl ⟨.inr (.inr (.inr (.inr h5))), rfl, Ext.refl _⟩
 obtain ⟨s, rfl⟩ := Int.eq_ofNat_of_zero_le (show 0 ≤ z by omega)
 obtain ⟨m, rfl⟩ := Int.eq_ofNat_of_zero_le (show 0 ≤ c by omega)
 have HBAD := Lib.hid (show ¬ BadS (s : Int) b (m : Int) by
  rintro (h | h | h | h | h)
  ·omega
  ·omega
  ·rw [h3] at h; cases h
  ·omega
  ·omega)
 have hs0 : 4 ≤ s := by omega
 have hs1 : s ≤ 61 := by omega
 have hm0 : 1 ≤ m := by omega
 have hm1 : m ≤ 16 := by omega
 have d1 : decide ((s : Int) < 4) = false := by simp; omega
 have d2 : decide ((61 : Int) < (s : Int)) = false := by simp; omega
 have d3 : decide ((m : Int) < 1) = false := by simp; omega
 have d4 : decide ((16 : Int) < (m : Int)) = false := by simp; omega
 obtain ⟨hb0, hb1⟩ := zbq h3
 have hS64 : (s : Int) < 64 := by omega
 clear h1 h2 h4 h5 hz0 hz1 hc0 hc1
 obtain ⟨P, hP⟩ : ∃ P : Nat, P = 2 ^ s := ⟨_, rfl⟩
 have hP0 : 16 ≤ P := by rw [hP]; exact Nat.le_trans (by decide) (Nat.pow_le_pow_right (show 0 < 2 by omega) hs0)
 have hP1 : P ≤ 2305843009213693952 := by rw [hP]; exact Nat.le_trans (Nat.pow_le_pow_right (show 0 < 2 by omega) hs1) (by decide)
 obtain ⟨Q, hQ⟩ : ∃ Q : Nat, Q = 2 ^ (s - 1) := ⟨_, rfl⟩
 have hPQ : P = 2 * Q := by rw [hP, hQ, ← Nat.pow_succ']; congr 1; omega
 have hE : IntKind.u64.wrap ((2 : Int) ^ (s - 1)) = (Q : Int) := by
  rw [IntKind.wrap_u64, show ((2 : Int) ^ (s - 1)) = (Q : Int) by rw [hQ, Int.natCast_pow]; rfl]
  omega
 obtain ⟨q, hq⟩ : ∃ q : Nat, q = (P - 2) / b := ⟨_, rfl⟩
 have hqi : (2 * (Q : Int) - 2) / (b : Int) = (q : Int) := by rw [hq, Int.natCast_ediv]; congr 1; omega
 have hqb : q * b ≤ P - 2 := by rw [hq]; exact Nat.div_mul_le_self _ _
 have hqc : (q : Int) * (b : Int) = ((q * b : Nat) : Int) := (Int.natCast_mul _ _).symm
 have hqb0 : (0 : Int) ≤ (q : Int) * (b : Int) := by rw [hqc]; omega
 have hqb1 : (q : Int) * (b : Int) ≤ 2 * (Q : Int) - 2 := by rw [hqc]; omega
 have HQC := Lib.hid hqc
 have HPP := Lib.hid hP
 have HQQ := Lib.hid hq
 have hlo : (2 : Nat) ^ (s - 1) = P / 2 := by
  rw [hP, show s = (s - 1) + 1 by omega, Nat.pow_succ, Nat.add_sub_cancel, Nat.mul_div_cancel _ (by omega)]
 have HSP := Lib.hid (show ∀ e w', (∃ k, Gone (P / 2) b q m k ∧ ((num b q k ≤ P / 2 ∧ (filt b q k).length < m ∧ e = .returned (.tuple #[.slice none 0 0, .int .i64 7]) ∧ Ext w w') ∨ ((filt b q k).length = m ∧ ∃ A n cp, e = .returned (.tuple #[.slice A n cp, .int .i64 0]) ∧ NX w' A n cp (filt b q k) ∧ Ext w w'))) → SPost (s : Int) b (m : Int) w e w' from fun e w' hh => by
  refine .inr ⟨HBAD.out, ?_⟩
  rw [Int.toNat_natCast, Int.toNat_natCast, hlo, ← hP, ← hq]
  exact hh)
 have HNB := Lib.hid (show ∀ k, k ≤ q → num b q k ≤ 2305843009213693951 from fun k hk => by
  unfold num
  have := Nat.mul_le_mul_right b (show q - k ≤ q by omega)
  omega)
 have hPh : P / 2 = Q := by omega
 have hQ0 : 8 ≤ Q := by omega
 have hQ1 : Q ≤ 1152921504606846976 := by omega
 rw [hPh] at HSP
 have hsm : ((s : Int) - 1) = ((s - 1 : Nat) : Int) := by omega
 have hsb : s - 1 < 64 := by omega
 clear hP hq hqc hlo hqb hPQ hQ hP0 hP1 hPh HPP
 go_enter Tryz.func32, Tryz.ntmps32
 go_wp2_with fail
 refine (zd1 b w hb).mono ?_
 rw [h3]
 rintro e w' ⟨rfl, rfl⟩
 go_wp2
 try rw [hqi]
 clear hqi hsm hE
 go_loopw [8, 10] (fun v nv wr => ∃ (k : Nat), nv = .int .u64 ((num b q k : Nat) : Int) ∧ URow w.heap.size w wr v (filt b q k).length (filt b q k) ∧ Gone Q b q m k ∧ (filt b q k).length ≤ m) (fun _ nv _ => (intOf nv).toNat)
 case atStart =>
  refine ⟨0, zar ?_, URow.nil w, ⟨by omega, fun j hj => by omega⟩, by simp [filt]⟩
  unfold num
  have := HQC.out
  rw [Nat.sub_zero]
  omega
 case round =>
  obtain ⟨k, rfl, hrow, hg, hlen⟩ := hrel
  obtain ⟨A1, c1, rfl, hr1⟩ := zc2 hrow.1 hrow.2.2
  have hNB := HNB.out k hg.1
  have HG := Lib.hid hg
  have HNX := Lib.hid (fun h => zvq (b := b) (q := q) (k := k) (lo := Q) hg.1 hb0 (by omega) h)
  have hsz := hrow.2.1.size
  have HL := Lib.hid (show ∀ r, isS (num b q k) = r → r = true → filt b q (k + 1) = filt b q k ++ [num b q k] from fun r h1 h2 => zwi (h1.trans h2))
  have HL2 := Lib.hid (show ∀ r, isS (num b q k) = r → r = false → filt b q (k + 1) = filt b q k from fun r h1 h2 => zro (h1.trans h2))
  obtain ⟨N, hN⟩ : ∃ N, N = num b q k := ⟨_, rfl⟩
  rw [← hN] at hNB HL HL2 ⊢
  have HN := Lib.hid hN
  obtain ⟨F, hF⟩ : ∃ F, F = filt b q k := ⟨_, rfl⟩
  rw [← hF] at hrow hr1 hlen HL HL2 ⊢
  have HF := Lib.hid hF
  obtain ⟨L, hLL⟩ : ∃ L, L = F.length := ⟨_, rfl⟩
  rw [← hLL] at hrow hr1 hlen ⊢
  have HLL := Lib.hid hLL
  clear hN hF hLL hg
  by_cases hLm : L < m
  ·by_cases hle : N ≤ Q
   ·have HX := Lib.hid (show num b q k ≤ Q ∧ (filt b q k).length < m by rw [← HN.out, ← HF.out, ← HLL.out]; exact ⟨hle, hLm⟩)
    go_wp2
    go_ret2
    exact HSP.out _ _ ⟨k, HG.out, .inl ⟨HX.out.1, HX.out.2, rfl, hrow.2.1⟩⟩
   ·obtain ⟨n1, n2, n3⟩ := HNX.out (by rw [← HN.out]; omega)
    rw [← HN.out] at n2 n3
    have HG2 := Lib.hid (show Gone Q b q m (k + 1) from ⟨n1, fun j hj => by
     rcases Nat.lt_or_eq_of_le (Nat.le_of_lt_succ hj) with h | h
     ·exact HG.out.2 j h
     ·rw [h, ← HN.out, ← HF.out, ← HLL.out]; exact ⟨by omega, hLm⟩⟩)
    have HN3 := Lib.hid n3
    clear n3
    go_wp2_with fail
    refine (zup N _ (by omega)).mono ?_
    rintro e w2 ⟨rfl, k2⟩
    have hrow2 := hrow.ext hsz k2
    have hsz2 := hrow2.2.1.size
    cases hp : isS N
    ·have HF2 := Lib.hid (HL2.out _ hp rfl)
     go_wp2
     refine ⟨⟨k + 1, by rw [← HN3.out]; go_num, ?_, HG2.out, ?_⟩, by simp [intOf] <;> omega⟩
     ·rw [HF2.out, ← HLL.out]; exact hrow2
     ·rw [HF2.out, ← HLL.out]; omega
    ·have HF2 := Lib.hid (HL.out _ hp rfl)
     go_wp2_with (at_builtin; go_loud (refine wpList_append_own _ rfl _ _ 22 rfl w.heap.size 26 i0 (.int .u64 0) 1 8 Tryz.underlying22 hi hzz0 hzz1 hzz2 rfl (by decide) _ _ _ rfl (hrow2.1.alloc _) ⟨_, 0, none⟩ 1 1 [.int .u64 (N : Int)] rfl rfl zaz zba (by unfold maxLen; omega) (by omega) (by simp; omega) ?_; intro v2 w3 hown2 hgrow2 _))
     refine ⟨⟨k + 1, by rw [← HN3.out]; go_num, ?_, HG2.out, ?_⟩, by simp [intOf] <;> omega⟩
     ·rw [HF2.out, List.length_append, ← HLL.out]; exact hrow2.push hsz2 (by rw [zad]; omega) hown2 hgrow2
     ·rw [HF2.out, List.length_append, ← HLL.out]; simp; omega
  ·have hLe : L = m := by omega
   subst hLe
   have HX := Lib.hid (show (filt b q k).length = L by rw [← HF.out, ← HLL.out])
   clear hLm
   go_wp2
   go_ret2
   exact HSP.out _ _ ⟨k, HG.out, .inr ⟨HX.out, A1, L, c1, rfl, by rw [← HF.out]; exact hr1, hrow.2.1⟩⟩
end Go.Proofs.YtopbibfpjgjalaaGreatDoor
