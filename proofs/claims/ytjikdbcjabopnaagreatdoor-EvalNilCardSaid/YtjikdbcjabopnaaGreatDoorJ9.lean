import Derived.Test.YtjikdbcjabopnaaGreatDoorJPExt
import Derived.Test.YtjikdbcjabopnaaGreatDoorJ8
import Derived.Laws.Bits64b
namespace Go.Proofs.YtjikdbcjabopnaaGreatDoor
open Go.RowKit
set_option linter.unusedVariables false
set_option maxRecDepth 100000
structure Tabs (w : World) : Prop where
 tz : ∀ j, j < 64 → w.cell? ⟨3, j, none⟩ = some (.int .u8 ((Lib.deBruijn64tab.getD j 0 : Nat) : Int))
 ba : ∀ j, j < 12 → w.cell? ⟨0, j, none⟩ = some (.int .u64 ((L12.getD j 0 : Nat) : Int))
set_option maxHeartbeats 1000000 in
theorem tz64_core (x k idx : Nat) (w : World) (hx0 : ((x : Int) == 0) = false)
    (key : IntKind.u64.wrap (bits BinOp.and IntKind.u64 (x : Int) (IntKind.u64.wrap (-(x : Int))) * 285870213051353865) / 288230376151711744 = (idx : Int))
    (hi : idx < 64) (hk : k < 64) (hcell : w.cell? ⟨3, idx, none⟩ = some (.int .u8 k)) :
    Calls Tryz.prog 287 #[.int .u64 x] w fun e w' => e = .returned (.int .i64 k) ∧ w = w' := by
 go_enter Tryz.func287, Tryz.ntmps287
 go_wp2_with (simp only [key])
 go_ret
 exact ⟨rfl, rfl⟩
theorem tz64_key (x a : Nat) (hx : x < 18446744073709551616) (hx0 : x ≠ 0) (hlow : x &&& (18446744073709551616 - x) = a) :
    IntKind.u64.wrap (bits BinOp.and IntKind.u64 (x : Int) (IntKind.u64.wrap (-(x : Int))) * 285870213051353865) / 288230376151711744 = ((a * 285870213051353865 % 18446744073709551616 / 288230376151711744 : Nat) : Int) := by
 have e1 : IntKind.u64.wrap (-(x : Int)) = ((18446744073709551616 - x : Nat) : Int) := by rw [IntKind.wrap_u64]; omega
 rw [e1, bits_and_u64_nat x _ hx (by omega), hlow, IntKind.wrap_u64]
 omega
theorem tz_any (x : Nat) (w : World) (hx0 : x ≠ 0) (hx : x < 18446744073709551616) (hT : Tabs w) :
    Calls Tryz.prog 287 #[.int .u64 (x : Int)] w fun e w' => e = .returned (.int .i64 ((ctzF 64 x : Nat) : Int)) ∧ w = w' := by
 obtain ⟨hlow, hk⟩ := Lib.lowest_bit 64 x hx0 hx
 obtain ⟨hi, htab⟩ := Lib.deBruijn64_at _ hk
 have hcell := hT.tz _ hi
 rw [htab] at hcell
 have e : Lib.ctz 64 x = ctzF 64 x := by rw [ctzF_lib]; simp [Lib.ctz, hx0]
 rw [← e]
 exact tz64_core x _ _ w (by simp; omega) (tz64_key x _ hx hx0 hlow) hi hk hcell
theorem ctzF_lt (x : Nat) (h0 : 0 < x) (h : x < 18446744073709551616) : ctzF 64 x < 64 ∧ ∃ m, x = 2 ^ ctzF 64 x * (2 * m + 1) := by
 obtain ⟨m, hm, hk⟩ := Lib.ctzFrom_spec 64 x h0 h
 rw [ctzF_lib]
 exact ⟨hk, m, hm⟩
theorem Tabs.ext {a b : World} (h : Tabs a) (k : Ext a b) : Tabs b := ⟨fun j hj => cell_ext k (h.tz j hj), fun j hj => cell_ext k (h.ba j hj)⟩
theorem testOf_any (n : Nat) (w : World) (h0 : 2 ≤ n) (hn : n < 18446744073709551616) (hT : Tabs w) :
    Calls Tryz.prog 272 #[.int .u64 (n : Int)] w fun e w' => e = .returned (.agg #[.int .u64 (n : Int), .int .u64 ((oddS n : Nat) : Int), .int .i64 ((tzS n : Nat) : Int)]) ∧ Ext w w' := by
 have tz_def : ctzF 64 (n - 1) = tzS n := by unfold tzS; rfl
 have hc := (ctzF_lt (n - 1) (by omega) (by omega)).1
 rw [tz_def] at hc
 have e1 : (n : Int) - 1 = ((n - 1 : Nat) : Int) := by omega
 have hd : ((n : Int) - 1) / 2 ^ tzS n = ((oddS n : Nat) : Int) := by
  rw [oddS, e1, Int.natCast_ediv, Int.natCast_pow]; rfl
 have HD := Lib.hid hd
 have HTT := Lib.hid tz_def
 have E1 := Lib.hid e1
 clear tz_def e1 hd
 generalize tzS n = s at *
 generalize oddS n = d at *
 go_enter Tryz.func272, Tryz.ntmps272
 go_wp2_with fail
 have hcall := tz_any (n - 1) (w.alloc (Obj.cells #[Value.int IntKind.u64 0, Value.int IntKind.u64 0, Value.int IntKind.i64 0] 302)) (by omega) (by omega) (hT.ext ((Ext.refl w).alloc _))
 rw [← E1.out, HTT.out] at hcall
 refine hcall.mono ?_
 clear hcall
 rintro e w' ⟨rfl, rfl⟩
 go_wp2
 rw [HD.out]
 exact bodyPost_ret (v := .agg #[.int .u64 (n : Int), .int .u64 (d : Int), .int .i64 (s : Int)]) (by simp [results, Tryz.results272, go_sem]) rfl ⟨rfl, (Ext.refl w).alloc _⟩
theorem powS_nat (a d n : Nat) (hn : 0 < n) : powS a d n = ((a ^ d % n : Nat) : Int) := by
 unfold powS
 rw [if_neg (by omega), Int.toNat_natCast, Int.natCast_emod, Int.natCast_pow]
theorem mulS_nat (a b n : Nat) (hn : 0 < n) : mulS a b n = ((a * b % n : Nat) : Int) := by
 unfold mulS
 rw [if_neg (by omega), Int.natCast_emod, Int.natCast_mul]
theorem powN (a d n : Nat) (w : World) (hn : 0 < n) (a1 : a < 18446744073709551616) (d1 : d < 18446744073709551616) (n1 : n < 18446744073709551616) :
    Calls Tryz.prog 235 #[.int .u64 (a : Int), .int .u64 (d : Int), .int .u64 (n : Int)] w fun e w' => e = .returned (.int .u64 ((a ^ d % n : Nat) : Int)) ∧ Ext w w' := by
 have := pow_any a d n w (by omega) (by omega) (by omega) (by omega) (by omega) (by omega)
 rw [powS_nat a d n hn] at this
 exact this.mono fun e w' ⟨he, q, hw⟩ => ⟨he, by rw [hw]; exact (Ext.refl w).drewN q⟩
theorem mulN (a b n : Nat) (w : World) (hn : 0 < n) (a1 : a < 18446744073709551616) (d1 : b < 18446744073709551616) (n1 : n < 18446744073709551616) :
    Calls Tryz.prog 189 #[.int .u64 (a : Int), .int .u64 (b : Int), .int .u64 (n : Int)] w fun e w' => e = .returned (.int .u64 ((a * b % n : Nat) : Int)) ∧ Ext w w' := by
 have := mul_any a b n w (by omega) (by omega) (by omega) (by omega) (by omega) (by omega)
 rw [mulS_nat a b n hn] at this
 exact this.mono fun e w' ⟨he, q, hw⟩ => ⟨he, by rw [hw]; exact (Ext.refl w).drewN q⟩
def passS (n d s a : Nat) : Bool := cond (Nat.beq (a ^ d % n) 1) true (hit n s (a ^ d % n))
theorem hit_yes {n s x : Nat} (h : x + 1 = n) : hit n (s + 1) x = true := by
 unfold hit; rw [beq_iff, decide_eq_true h, cond_true]
theorem hit_no {n s x : Nat} (h : x + 1 ≠ n) : hit n (s + 1) x = hit n s (x * x % n) := by
 rw [hit, beq_iff, decide_eq_false h, cond_false]
set_option maxHeartbeats 1000000 in
theorem passes_any (n d s a : Nat) (w : World) (hn0 : 2 ≤ n) (hn : n < 18446744073709551616) (hd : d < 18446744073709551616) (hs : s < 64) (ha : a < 18446744073709551616) :
    Calls Tryz.prog 273 #[.agg #[.int .u64 (n : Int), .int .u64 (d : Int), .int .i64 (s : Int)], .int .u64 (a : Int)] w fun e w' => e = .returned (.bool (passS n d s a)) ∧ Ext w w' := by
 have hx := Nat.mod_lt (a ^ d) (show 0 < n by omega)
 have HP := Lib.hid (show passS n d s a = cond (Nat.beq (a ^ d % n) 1) true (hit n s (a ^ d % n)) by rfl)
 go_enter Tryz.func273, Tryz.ntmps273
 go_wp2_with fail
 refine (powN a d n _ (by omega) ha hd hn).mono ?_
 rintro e w1 ⟨rfl, k1⟩
 have kw : Ext w w1 := ((Ext.refl w).alloc _).trans k1
 have c0 : w1.cell? ⟨w.heap.size, 0, none⟩ = some (.int .u64 (n : Int)) := kept_cell k1 (by simp) (by simp)
 have c1 : w1.cell? ⟨w.heap.size, 1, none⟩ = some (.int .u64 (d : Int)) := kept_cell k1 (by simp) (by simp)
 have c2 : w1.cell? ⟨w.heap.size, 2, none⟩ = some (.int .i64 (s : Int)) := kept_cell k1 (by simp) (by simp)
 have hsz : w.heap.size < w1.heap.size := World.block_lt_of_cell? _ _ c0
 have HK := Lib.hid kw
 clear k1 kw
 generalize a ^ d % n = x at *
 by_cases hx1 : x = 1
 ·subst hx1
  have HP1 := Lib.hid (show passS n d s a = true by rw [HP.out]; rfl)
  go_wp2
  go_ret
  exact ⟨by rw [HP1.out]; rfl, HK.out⟩
 ·have hxb : ((x : Int) == 1) = false := by simp; omega
  have HP1 := Lib.hid (show passS n d s a = hit n s x by rw [HP.out, beq_iff, decide_eq_false hx1, cond_false])
  clear HP
  go_wp2
  go_loopw [5, 16] (fun p i wr => ∃ k y : Nat, k ≤ s ∧ y < n ∧ i = .int .i64 (k : Int) ∧ p = .int .u64 (y : Int) ∧ Ext w1 wr ∧ Hid (passS n d s a = hit n (s - k) y)) (fun _ i _ => s - (intOf i).toNat)
  case atStart => exact ⟨0, x, by omega, hx, rfl, rfl, Ext.refl _, HP1⟩
  case round =>
   obtain ⟨k, y, hk, hy, rfl, rfl, kr, hp⟩ := hrel
   have c0' := kept_cell kr hsz c0
   by_cases hks : k < s
   ·by_cases hyn : y + 1 = n
    ·have HT := Lib.hid (show passS n d s a = true by rw [hp.out, show s - k = (s - k - 1) + 1 by omega, hit_yes hyn])
     have hyb : ((y : Int) == (n : Int) - 1) = true := by simp; omega
     go_wp2
     go_ret
     exact ⟨by rw [HT.out]; rfl, HK.out.trans kr⟩
    ·have HT := Lib.hid (show passS n d s a = hit n (s - (k + 1)) (y * y % n) by rw [hp.out, show s - k = (s - (k + 1)) + 1 by omega, hit_no hyn])
     have hyb : ((y : Int) == (n : Int) - 1) = false := by simp; omega
     have hlt := Nat.mod_lt (y * y) (show 0 < n by omega)
     go_wp2_with fail
     refine (mulN y y n _ (by omega) (by omega) (by omega) hn).mono ?_
     rintro e w2 ⟨rfl, k2⟩
     generalize y * y % n = z at *
     go_wp2
     exact ⟨⟨k + 1, z, by omega, hlt, by go_num, rfl, kr.trans k2, HT⟩, by simp [intOf] <;> omega⟩
   ·have HT := Lib.hid (show passS n d s a = false by rw [hp.out, show s - k = 0 by omega]; rfl)
    go_wp2
    go_ret
    exact ⟨by rw [HT.out]; rfl, HK.out.trans kr⟩
theorem strongS_def (n a : Nat) : strongS n a = passS n (oddS n) (tzS n) a := rfl
theorem l12_lt {j : Nat} (h : j < 12) : 2 ≤ L12.getD j 0 ∧ L12.getD j 0 < 100 := by
 have : ∀ j, j < 12 → 2 ≤ L12.getD j 0 ∧ L12.getD j 0 < 100 := by decide
 exact this j h
theorem small_yes {n b : Nat} {bs : List Nat} {r : Bool} (h : n % b = 0) : smallF n (b :: bs) r = decide (n = b) := by
 rw [smallF, beq_iff, decide_eq_true h, cond_true, beq_iff]
theorem small_no {n b : Nat} {bs : List Nat} {r : Bool} (h : n % b ≠ 0) : smallF n (b :: bs) r = smallF n bs r := by
 rw [smallF, beq_iff, decide_eq_false h, cond_false]
theorem isS_two {n : Nat} (h : 2 ≤ n) : isS n = smallF n L12 (L12.all (strongS n)) := by
 rw [isS, blt_iff, decide_eq_false (by omega), cond_false]
theorem isS_one {n : Nat} (h : n < 2) : isS n = false := by
 rw [isS, blt_iff, decide_eq_true h, cond_true]
theorem drop_all {P : Nat → Bool} {k : Nat} (h : k < 12) : (L12.drop k).all P = (P (L12.getD k 0) && (L12.drop (k + 1)).all P) := by
 have hl : k < L12.length := h
 rw [List.drop_eq_getElem_cons hl, List.all_cons, List.getD_eq_getElem?_getD, List.getElem?_eq_getElem hl, Option.getD_some]
set_option maxHeartbeats 1000000 in
theorem byAll_any (n d s : Nat) (w : World) (hn0 : 2 ≤ n) (hn : n < 18446744073709551616) (hd : d < 18446744073709551616) (hs : s < 64) (hT : Tabs w) :
    Calls Tryz.prog 271 #[.func (.func 273) #[.agg #[.int .u64 (n : Int), .int .u64 (d : Int), .int .i64 (s : Int)]] #[]] w fun e w' => e = .returned (.bool (L12.all (passS n d s))) ∧ Ext w w' := by
 have HT := Lib.hid hT
 clear hT
 obtain ⟨R, hR⟩ : ∃ R, R = L12.all (passS n d s) := ⟨_, rfl⟩
 rw [← hR]
 have HR := Lib.hid hR
 clear hR
 go_enter Tryz.func271, Tryz.ntmps271
 go_wp2
 go_loopw [4] (fun i wr => ∃ k : Nat, k ≤ 12 ∧ i = .int .i64 (k : Int) ∧ Ext w wr ∧ Hid (R = (L12.drop k).all (passS n d s))) (fun i _ => 12 - (intOf i).toNat)
 case atStart => exact ⟨0, by omega, rfl, Ext.refl _, HR⟩
 case round =>
  obtain ⟨k, hk, rfl, kr, hi⟩ := hrel
  by_cases hlt : k < 12
  ·have hc := (HT.out.ext kr).ba k hlt
   obtain ⟨hb0, hb1⟩ := l12_lt hlt
   have HN := Lib.hid (show R = (passS n d s (L12.getD k 0) && (L12.drop (k + 1)).all (passS n d s)) by rw [hi.out, drop_all hlt])
   have e1 : (0 : Int) ≤ k := by omega
   have e2 : (k : Int) < 12 := by omega
   generalize L12.getD k 0 = b at *
   go_wp2_with fail
   refine (passes_any n d s b _ hn0 hn hd hs (by omega)).mono ?_
   rintro e w2 ⟨rfl, k2⟩
   cases hp : passS n d s b
   ·have HF := Lib.hid (show R = false by rw [HN.out, hp, Bool.false_and])
    go_wp2
    go_ret
    exact ⟨by rw [HF.out]; rfl, kr.trans k2⟩
   ·have HF := Lib.hid (show R = (L12.drop (k + 1)).all (passS n d s) by rw [HN.out, hp, Bool.true_and])
    go_wp2
    exact ⟨⟨k + 1, by omega, by go_num, kr.trans k2, HF⟩, by simp [intOf] <;> omega⟩
  ·have HF := Lib.hid (show R = true by rw [hi.out, show k = 12 by omega]; rfl)
   go_wp2
   go_ret
   exact ⟨by rw [HF.out]; rfl, kr⟩
theorem odd_tz {n : Nat} (h0 : 2 ≤ n) (hn : n < 18446744073709551616) : oddS n < 18446744073709551616 ∧ tzS n < 64 := by
 have h1 := (ctzF_lt (n - 1) (by omega) (by omega)).1
 refine ⟨?_, by rw [tzS]; exact h1⟩
 rw [oddS]
 exact Nat.lt_of_le_of_lt (Nat.div_le_self _ _) (by omega)
theorem l12_next : L12.drop 0 = 2 :: L12.drop 1 ∧ L12.drop 1 = 3 :: L12.drop 2 ∧ L12.drop 2 = 5 :: L12.drop 3 ∧ L12.drop 3 = 7 :: L12.drop 4 ∧ L12.drop 4 = 11 :: L12.drop 5 ∧ L12.drop 5 = 13 :: L12.drop 6 ∧ L12.drop 6 = 17 :: L12.drop 7 ∧ L12.drop 7 = 19 :: L12.drop 8 ∧ L12.drop 8 = 23 :: L12.drop 9 ∧ L12.drop 9 = 29 :: L12.drop 10 ∧ L12.drop 10 = 31 :: L12.drop 11 ∧ L12.drop 11 = 37 :: L12.drop 12 := by decide
theorem small_go {n k b : Nat} {R r : Bool} (e : L12.drop k = b :: L12.drop (k + 1)) (h : Hid (R = smallF n (L12.drop k) r)) : (n % b = 0 → R = decide (n = b)) ∧ (n % b ≠ 0 → Hid (R = smallF n (L12.drop (k + 1)) r)) :=
 ⟨fun hb => by rw [h.out, e, small_yes hb], fun hb => Lib.hid (by rw [h.out, e, small_no hb])⟩
theorem eq_dec (n b : Nat) : ((n : Int) == (b : Int)) = decide (n = b) := by
 by_cases h : n = b
 ·subst h; simp
 ·rw [decide_eq_false h]; simp only [beq_eq_false_iff_ne, ne_eq]; omega
theorem ixr0 (w : World) : (Instr.index 299 (.agg #[.int .u64 2, .int .u64 3, .int .u64 5, .int .u64 7, .int .u64 11, .int .u64 13, .int .u64 17, .int .u64 19, .int .u64 23, .int .u64 29, .int .u64 31, .int .u64 37]) (.int .i64 0)).run Tryz.prog w = .ok (.int .u64 2) w := by kernel_rfl
theorem ixr1 (w : World) : (Instr.index 299 (.agg #[.int .u64 2, .int .u64 3, .int .u64 5, .int .u64 7, .int .u64 11, .int .u64 13, .int .u64 17, .int .u64 19, .int .u64 23, .int .u64 29, .int .u64 31, .int .u64 37]) (.int .i64 1)).run Tryz.prog w = .ok (.int .u64 3) w := by kernel_rfl
theorem ixr2 (w : World) : (Instr.index 299 (.agg #[.int .u64 2, .int .u64 3, .int .u64 5, .int .u64 7, .int .u64 11, .int .u64 13, .int .u64 17, .int .u64 19, .int .u64 23, .int .u64 29, .int .u64 31, .int .u64 37]) (.int .i64 2)).run Tryz.prog w = .ok (.int .u64 5) w := by kernel_rfl
theorem ixr3 (w : World) : (Instr.index 299 (.agg #[.int .u64 2, .int .u64 3, .int .u64 5, .int .u64 7, .int .u64 11, .int .u64 13, .int .u64 17, .int .u64 19, .int .u64 23, .int .u64 29, .int .u64 31, .int .u64 37]) (.int .i64 3)).run Tryz.prog w = .ok (.int .u64 7) w := by kernel_rfl
theorem ixr4 (w : World) : (Instr.index 299 (.agg #[.int .u64 2, .int .u64 3, .int .u64 5, .int .u64 7, .int .u64 11, .int .u64 13, .int .u64 17, .int .u64 19, .int .u64 23, .int .u64 29, .int .u64 31, .int .u64 37]) (.int .i64 4)).run Tryz.prog w = .ok (.int .u64 11) w := by kernel_rfl
theorem ixr5 (w : World) : (Instr.index 299 (.agg #[.int .u64 2, .int .u64 3, .int .u64 5, .int .u64 7, .int .u64 11, .int .u64 13, .int .u64 17, .int .u64 19, .int .u64 23, .int .u64 29, .int .u64 31, .int .u64 37]) (.int .i64 5)).run Tryz.prog w = .ok (.int .u64 13) w := by kernel_rfl
theorem ixr6 (w : World) : (Instr.index 299 (.agg #[.int .u64 2, .int .u64 3, .int .u64 5, .int .u64 7, .int .u64 11, .int .u64 13, .int .u64 17, .int .u64 19, .int .u64 23, .int .u64 29, .int .u64 31, .int .u64 37]) (.int .i64 6)).run Tryz.prog w = .ok (.int .u64 17) w := by kernel_rfl
theorem ixr7 (w : World) : (Instr.index 299 (.agg #[.int .u64 2, .int .u64 3, .int .u64 5, .int .u64 7, .int .u64 11, .int .u64 13, .int .u64 17, .int .u64 19, .int .u64 23, .int .u64 29, .int .u64 31, .int .u64 37]) (.int .i64 7)).run Tryz.prog w = .ok (.int .u64 19) w := by kernel_rfl
theorem ixr8 (w : World) : (Instr.index 299 (.agg #[.int .u64 2, .int .u64 3, .int .u64 5, .int .u64 7, .int .u64 11, .int .u64 13, .int .u64 17, .int .u64 19, .int .u64 23, .int .u64 29, .int .u64 31, .int .u64 37]) (.int .i64 8)).run Tryz.prog w = .ok (.int .u64 23) w := by kernel_rfl
theorem ixr9 (w : World) : (Instr.index 299 (.agg #[.int .u64 2, .int .u64 3, .int .u64 5, .int .u64 7, .int .u64 11, .int .u64 13, .int .u64 17, .int .u64 19, .int .u64 23, .int .u64 29, .int .u64 31, .int .u64 37]) (.int .i64 9)).run Tryz.prog w = .ok (.int .u64 29) w := by kernel_rfl
theorem ixr10 (w : World) : (Instr.index 299 (.agg #[.int .u64 2, .int .u64 3, .int .u64 5, .int .u64 7, .int .u64 11, .int .u64 13, .int .u64 17, .int .u64 19, .int .u64 23, .int .u64 29, .int .u64 31, .int .u64 37]) (.int .i64 10)).run Tryz.prog w = .ok (.int .u64 31) w := by kernel_rfl
theorem ixr11 (w : World) : (Instr.index 299 (.agg #[.int .u64 2, .int .u64 3, .int .u64 5, .int .u64 7, .int .u64 11, .int .u64 13, .int .u64 17, .int .u64 19, .int .u64 23, .int .u64 29, .int .u64 31, .int .u64 37]) (.int .i64 11)).run Tryz.prog w = .ok (.int .u64 37) w := by kernel_rfl
set_option maxHeartbeats 4000000 in
theorem is_any (n : Nat) (w : World) (hn : n < 18446744073709551616) (hT : Tabs w) :
    Calls Tryz.prog 232 #[.int .u64 (n : Int)] w fun e w' => e = .returned (.bool (isS n)) ∧ Ext w w' := by
 by_cases h0 : 2 ≤ n
 ·have HS := Lib.hid (isS_two h0)
  have HT := Lib.hid hT
  go_enter Tryz.func232, Tryz.ntmps232
  have t0 := hT.ba 0 (by omega)
  have t1 := hT.ba 1 (by omega)
  have t2 := hT.ba 2 (by omega)
  have t3 := hT.ba 3 (by omega)
  have t4 := hT.ba 4 (by omega)
  have t5 := hT.ba 5 (by omega)
  have t6 := hT.ba 6 (by omega)
  have t7 := hT.ba 7 (by omega)
  have t8 := hT.ba 8 (by omega)
  have t9 := hT.ba 9 (by omega)
  have t10 := hT.ba 10 (by omega)
  have t11 := hT.ba 11 (by omega)
  simp only [L12, List.getD_cons_zero, List.getD_cons_succ] at t0 t1 t2 t3 t4 t5 t6 t7 t8 t9 t10 t11
  go_wp2
  clear t0 t1 t2 t3 t4 t5 t6 t7 t8 t9 t10 t11
  go_loop [8] (fun i => ∃ k : Nat, k ≤ 12 ∧ i = .int .i64 (k : Int) ∧ Hid (isS n = smallF n (L12.drop k) (L12.all (strongS n)))) (fun i => 12 - (intOf i).toNat)
  case atStart => exact ⟨0, by omega, rfl, Lib.hid HS.out⟩
  case round =>
   obtain ⟨k, hk, rfl, hi⟩ := hrel
   clear HS
   rcases (show k = 12 ∨ k = 0 ∨ k = 1 ∨ k = 2 ∨ k = 3 ∨ k = 4 ∨ k = 5 ∨ k = 6 ∨ k = 7 ∨ k = 8 ∨ k = 9 ∨ k = 10 ∨ k = 11 by omega) with rfl | hk2
   ·go_wp2_with fail
    refine (testOf_any n w h0 hn HT.out).mono ?_
    rintro e w1 ⟨rfl, k1⟩
    obtain ⟨o1, o2⟩ := odd_tz h0 hn
    have HE := Lib.hid (show isS n = L12.all (passS n (oddS n) (tzS n)) by rw [hi.out]; exact all_congr L12 (fun a => strongS_def n a))
    go_wp2_with fail
    refine (byAll_any n _ _ w1 h0 hn o1 o2 (HT.out.ext k1)).mono ?_
    rw [← HE.out]
    rintro e w2 ⟨rfl, k2⟩
    go_wp2
    go_ret
    exact ⟨rfl, k1.trans k2⟩
   ·obtain ⟨d0, d1, d2, d3, d4, d5, d6, d7, d8, d9, d10, d11⟩ := l12_next
    rcases hk2 with rfl | rfl | rfl | rfl | rfl | rfl | rfl | rfl | rfl | rfl | rfl | rfl
    ·obtain ⟨y, z⟩ := small_go (b := 2) d0 hi
     clear d0 d1 d2 d3 d4 d5 d6 d7 d8 d9 d10 d11
     by_cases hb : n % 2 = 0
     ·have HE := Lib.hid (y hb)
      have hb' : ((n : Int) % 2 == 0) = true := by simp; omega
      have HF := Lib.hid (eq_dec n 2)
      clear y z hb
      have hix := ixr0 w
      go_wp2
      go_ret
      exact ⟨congrArg Ending.returned (congrArg Value.bool (by rw [HE.out]; exact HF.out)), Ext.refl _⟩
     ·have HZ := z hb
      have hb' : ((n : Int) % 2 == 0) = false := by simp; omega
      clear y z hb
      have hix := ixr0 w
      go_wp2
      exact ⟨⟨1, by omega, by go_num, HZ⟩, by simp [intOf]⟩
    ·obtain ⟨y, z⟩ := small_go (b := 3) d1 hi
     clear d0 d1 d2 d3 d4 d5 d6 d7 d8 d9 d10 d11
     by_cases hb : n % 3 = 0
     ·have HE := Lib.hid (y hb)
      have hb' : ((n : Int) % 3 == 0) = true := by simp; omega
      have HF := Lib.hid (eq_dec n 3)
      clear y z hb
      have hix := ixr1 w
      go_wp2
      go_ret
      exact ⟨congrArg Ending.returned (congrArg Value.bool (by rw [HE.out]; exact HF.out)), Ext.refl _⟩
     ·have HZ := z hb
      have hb' : ((n : Int) % 3 == 0) = false := by simp; omega
      clear y z hb
      have hix := ixr1 w
      go_wp2
      exact ⟨⟨2, by omega, by go_num, HZ⟩, by simp [intOf]⟩
    ·obtain ⟨y, z⟩ := small_go (b := 5) d2 hi
     clear d0 d1 d2 d3 d4 d5 d6 d7 d8 d9 d10 d11
     by_cases hb : n % 5 = 0
     ·have HE := Lib.hid (y hb)
      have hb' : ((n : Int) % 5 == 0) = true := by simp; omega
      have HF := Lib.hid (eq_dec n 5)
      clear y z hb
      have hix := ixr2 w
      go_wp2
      go_ret
      exact ⟨congrArg Ending.returned (congrArg Value.bool (by rw [HE.out]; exact HF.out)), Ext.refl _⟩
     ·have HZ := z hb
      have hb' : ((n : Int) % 5 == 0) = false := by simp; omega
      clear y z hb
      have hix := ixr2 w
      go_wp2
      exact ⟨⟨3, by omega, by go_num, HZ⟩, by simp [intOf]⟩
    ·obtain ⟨y, z⟩ := small_go (b := 7) d3 hi
     clear d0 d1 d2 d3 d4 d5 d6 d7 d8 d9 d10 d11
     by_cases hb : n % 7 = 0
     ·have HE := Lib.hid (y hb)
      have hb' : ((n : Int) % 7 == 0) = true := by simp; omega
      have HF := Lib.hid (eq_dec n 7)
      clear y z hb
      have hix := ixr3 w
      go_wp2
      go_ret
      exact ⟨congrArg Ending.returned (congrArg Value.bool (by rw [HE.out]; exact HF.out)), Ext.refl _⟩
     ·have HZ := z hb
      have hb' : ((n : Int) % 7 == 0) = false := by simp; omega
      clear y z hb
      have hix := ixr3 w
      go_wp2
      exact ⟨⟨4, by omega, by go_num, HZ⟩, by simp [intOf]⟩
    ·obtain ⟨y, z⟩ := small_go (b := 11) d4 hi
     clear d0 d1 d2 d3 d4 d5 d6 d7 d8 d9 d10 d11
     by_cases hb : n % 11 = 0
     ·have HE := Lib.hid (y hb)
      have hb' : ((n : Int) % 11 == 0) = true := by simp; omega
      have HF := Lib.hid (eq_dec n 11)
      clear y z hb
      have hix := ixr4 w
      go_wp2
      go_ret
      exact ⟨congrArg Ending.returned (congrArg Value.bool (by rw [HE.out]; exact HF.out)), Ext.refl _⟩
     ·have HZ := z hb
      have hb' : ((n : Int) % 11 == 0) = false := by simp; omega
      clear y z hb
      have hix := ixr4 w
      go_wp2
      exact ⟨⟨5, by omega, by go_num, HZ⟩, by simp [intOf]⟩
    ·obtain ⟨y, z⟩ := small_go (b := 13) d5 hi
     clear d0 d1 d2 d3 d4 d5 d6 d7 d8 d9 d10 d11
     by_cases hb : n % 13 = 0
     ·have HE := Lib.hid (y hb)
      have hb' : ((n : Int) % 13 == 0) = true := by simp; omega
      have HF := Lib.hid (eq_dec n 13)
      clear y z hb
      have hix := ixr5 w
      go_wp2
      go_ret
      exact ⟨congrArg Ending.returned (congrArg Value.bool (by rw [HE.out]; exact HF.out)), Ext.refl _⟩
     ·have HZ := z hb
      have hb' : ((n : Int) % 13 == 0) = false := by simp; omega
      clear y z hb
      have hix := ixr5 w
      go_wp2
      exact ⟨⟨6, by omega, by go_num, HZ⟩, by simp [intOf]⟩
    ·obtain ⟨y, z⟩ := small_go (b := 17) d6 hi
     clear d0 d1 d2 d3 d4 d5 d6 d7 d8 d9 d10 d11
     by_cases hb : n % 17 = 0
     ·have HE := Lib.hid (y hb)
      have hb' : ((n : Int) % 17 == 0) = true := by simp; omega
      have HF := Lib.hid (eq_dec n 17)
      clear y z hb
      have hix := ixr6 w
      go_wp2
      go_ret
      exact ⟨congrArg Ending.returned (congrArg Value.bool (by rw [HE.out]; exact HF.out)), Ext.refl _⟩
     ·have HZ := z hb
      have hb' : ((n : Int) % 17 == 0) = false := by simp; omega
      clear y z hb
      have hix := ixr6 w
      go_wp2
      exact ⟨⟨7, by omega, by go_num, HZ⟩, by simp [intOf]⟩
    ·obtain ⟨y, z⟩ := small_go (b := 19) d7 hi
     clear d0 d1 d2 d3 d4 d5 d6 d7 d8 d9 d10 d11
     by_cases hb : n % 19 = 0
     ·have HE := Lib.hid (y hb)
      have hb' : ((n : Int) % 19 == 0) = true := by simp; omega
      have HF := Lib.hid (eq_dec n 19)
      clear y z hb
      have hix := ixr7 w
      go_wp2
      go_ret
      exact ⟨congrArg Ending.returned (congrArg Value.bool (by rw [HE.out]; exact HF.out)), Ext.refl _⟩
     ·have HZ := z hb
      have hb' : ((n : Int) % 19 == 0) = false := by simp; omega
      clear y z hb
      have hix := ixr7 w
      go_wp2
      exact ⟨⟨8, by omega, by go_num, HZ⟩, by simp [intOf]⟩
    ·obtain ⟨y, z⟩ := small_go (b := 23) d8 hi
     clear d0 d1 d2 d3 d4 d5 d6 d7 d8 d9 d10 d11
     by_cases hb : n % 23 = 0
     ·have HE := Lib.hid (y hb)
      have hb' : ((n : Int) % 23 == 0) = true := by simp; omega
      have HF := Lib.hid (eq_dec n 23)
      clear y z hb
      have hix := ixr8 w
      go_wp2
      go_ret
      exact ⟨congrArg Ending.returned (congrArg Value.bool (by rw [HE.out]; exact HF.out)), Ext.refl _⟩
     ·have HZ := z hb
      have hb' : ((n : Int) % 23 == 0) = false := by simp; omega
      clear y z hb
      have hix := ixr8 w
      go_wp2
      exact ⟨⟨9, by omega, by go_num, HZ⟩, by simp [intOf]⟩
    ·obtain ⟨y, z⟩ := small_go (b := 29) d9 hi
     clear d0 d1 d2 d3 d4 d5 d6 d7 d8 d9 d10 d11
     by_cases hb : n % 29 = 0
     ·have HE := Lib.hid (y hb)
      have hb' : ((n : Int) % 29 == 0) = true := by simp; omega
      have HF := Lib.hid (eq_dec n 29)
      clear y z hb
      have hix := ixr9 w
      go_wp2
      go_ret
      exact ⟨congrArg Ending.returned (congrArg Value.bool (by rw [HE.out]; exact HF.out)), Ext.refl _⟩
     ·have HZ := z hb
      have hb' : ((n : Int) % 29 == 0) = false := by simp; omega
      clear y z hb
      have hix := ixr9 w
      go_wp2
      exact ⟨⟨10, by omega, by go_num, HZ⟩, by simp [intOf]⟩
    ·obtain ⟨y, z⟩ := small_go (b := 31) d10 hi
     clear d0 d1 d2 d3 d4 d5 d6 d7 d8 d9 d10 d11
     by_cases hb : n % 31 = 0
     ·have HE := Lib.hid (y hb)
      have hb' : ((n : Int) % 31 == 0) = true := by simp; omega
      have HF := Lib.hid (eq_dec n 31)
      clear y z hb
      have hix := ixr10 w
      go_wp2
      go_ret
      exact ⟨congrArg Ending.returned (congrArg Value.bool (by rw [HE.out]; exact HF.out)), Ext.refl _⟩
     ·have HZ := z hb
      have hb' : ((n : Int) % 31 == 0) = false := by simp; omega
      clear y z hb
      have hix := ixr10 w
      go_wp2
      exact ⟨⟨11, by omega, by go_num, HZ⟩, by simp [intOf]⟩
    ·obtain ⟨y, z⟩ := small_go (b := 37) d11 hi
     clear d0 d1 d2 d3 d4 d5 d6 d7 d8 d9 d10 d11
     by_cases hb : n % 37 = 0
     ·have HE := Lib.hid (y hb)
      have hb' : ((n : Int) % 37 == 0) = true := by simp; omega
      have HF := Lib.hid (eq_dec n 37)
      clear y z hb
      have hix := ixr11 w
      go_wp2
      go_ret
      exact ⟨congrArg Ending.returned (congrArg Value.bool (by rw [HE.out]; exact HF.out)), Ext.refl _⟩
     ·have HZ := z hb
      have hb' : ((n : Int) % 37 == 0) = false := by simp; omega
      clear y z hb
      have hix := ixr11 w
      go_wp2
      exact ⟨⟨12, by omega, by go_num, HZ⟩, by simp [intOf]⟩
 ·have H := Lib.hid (isS_one (n := n) (by omega))
  go_enter Tryz.func232, Tryz.ntmps232
  go_wp2
  go_ret
  exact ⟨by rw [H.out]; rfl, Ext.refl _⟩
def stepF (n : Nat) : Nat → Nat → Bool
 | 0, _ => false
 | f + 1, k => cond (Nat.beq n k) true (stepF n f (2 * k))
def stepS (n : Nat) : Bool := stepF n 13 2
def stepRun : Nat → Nat → Bool
 | 0, _ => true
 | k + 1, n => cond (Nat.beq (Nat.land n (n - 1)) 0) (cond (stepS n) (stepRun k (n + 1)) false) (cond (stepS n) false (stepRun k (n + 1)))
theorem stepRun_spec : ∀ k n, stepRun k n = true → ∀ m, n ≤ m → m < n + k → stepS m = Nat.beq (Nat.land m (m - 1)) 0
 | 0, n, _, m, h1, h2 => by omega
 | k + 1, n, h, m, h1, h2 => by
  unfold stepRun at h
  have key : stepS n = Nat.beq (Nat.land n (n - 1)) 0 ∧ stepRun k (n + 1) = true := by
   revert h
   cases Nat.beq (Nat.land n (n - 1)) 0 <;> cases stepS n <;> simp
  rcases Nat.lt_or_eq_of_le h1 with g | g
  ·exact stepRun_spec k (n + 1) key.2 m g (by omega)
  ·rw [← g]; exact key.1
set_option maxRecDepth 100000 in
theorem stepRun_all : stepRun 8191 2 = true := by decide +kernel
theorem stepF_range {n : Nat} : ∀ f k, stepF n f k = true → k ≤ n ∧ n * 2 ≤ k * 2 ^ f
 | 0, k, h => by simp [stepF] at h
 | f + 1, k, h => by
  unfold stepF at h
  rw [beq_iff] at h
  by_cases hk : n = k
  ·subst hk
   exact ⟨Nat.le_refl _, Nat.mul_le_mul_left _ (by rw [Nat.pow_succ]; have := Nat.two_pow_pos f; omega)⟩
  ·rw [decide_eq_false hk, cond_false] at h
   obtain ⟨a, b⟩ := stepF_range f (2 * k) h
   refine ⟨by omega, ?_⟩
   rw [Nat.pow_succ, show k * (2 ^ f * 2) = 2 * k * 2 ^ f by rw [Nat.mul_comm (2 ^ f), ← Nat.mul_assoc, Nat.mul_comm k]]
   exact b
theorem stepS_range {n : Nat} (h : stepS n = true) : 2 ≤ n ∧ n ≤ 8192 := by
 obtain ⟨a, b⟩ := stepF_range 13 2 h
 exact ⟨a, by omega⟩
theorem stepS_is {n : Nat} (h0 : 2 ≤ n) (h1 : n ≤ 8192) : stepS n = decide ((n &&& (n - 1)) = 0) := by
 rw [stepRun_spec 8191 2 stepRun_all n h0 (by omega), beq_iff]; rfl
theorem stepS_out {n : Nat} (h : ¬ (2 ≤ n ∧ n ≤ 8192)) : stepS n = false := by
 cases e : stepS n
 ·rfl
 ·exact absurd (stepS_range e) h
theorem order_any (n : Nat) (w : World) (hn : n < 18446744073709551616) :
    Calls Tryz.prog 231 #[.int .u64 (n : Int)] w fun e w' => e = .returned (.bool (stepS n)) ∧ w = w' := by
 by_cases h0 : 2 ≤ n
 ·by_cases h1 : n ≤ 8192
  ·have H := Lib.hid (stepS_is h0 h1)
   have hb := bits_and_u64_nat n (n - 1) (by omega) (by omega)
   rw [show ((n - 1 : Nat) : Int) = (n : Int) - 1 by omega] at hb
   have HL := Lib.hid (show ((((n &&& (n - 1)) : Nat) : Int) == 0) = decide ((n &&& (n - 1)) = 0) by rw [show (0 : Int) = ((0 : Nat) : Int) from rfl]; exact eq_dec _ 0)
   generalize (n &&& (n - 1)) = q at *
   go_enter Tryz.func231, Tryz.ntmps231
   go_wp2_with (simp only [hb])
   go_ret
   exact ⟨congrArg Ending.returned (congrArg Value.bool (by rw [H.out]; exact HL.out)), rfl⟩
  ·have H := Lib.hid (stepS_out (n := n) (by omega))
   go_enter Tryz.func231, Tryz.ntmps231
   go_wp2
   go_ret
   exact ⟨by rw [H.out]; rfl, rfl⟩
 ·have H := Lib.hid (stepS_out (n := n) (by omega))
  go_enter Tryz.func231, Tryz.ntmps231
  go_wp2
  go_ret
  exact ⟨by rw [H.out]; rfl, rfl⟩
def num (b q k : Nat) : Nat := (q - k) * b + 1
def filt (b q : Nat) : Nat → List Nat
 | 0 => []
 | k + 1 => filt b q k ++ (if isS (num b q k) = true then [num b q k] else [])
theorem filt_yes {b q k : Nat} (h : isS (num b q k) = true) : filt b q (k + 1) = filt b q k ++ [num b q k] := by rw [filt, if_pos h]
theorem filt_no {b q k : Nat} (h : isS (num b q k) = false) : filt b q (k + 1) = filt b q k := by rw [filt, if_neg (by rw [h]; decide), List.append_nil]
theorem filt_mono {b q : Nat} {j k : Nat} (h : j ≤ k) : (filt b q j).length ≤ (filt b q k).length := by
 induction k with
 | zero => rw [show j = 0 by omega]; exact Nat.le_refl _
 | succ k ih =>
  rcases Nat.lt_or_eq_of_le h with g | g
  ·have := ih (by omega)
   rw [filt, List.length_append]; omega
  ·rw [g]; exact Nat.le_refl _
theorem num_next {b q k lo : Nat} (hk : k ≤ q) (hb : 2 ≤ b) (hlo : 1 ≤ lo) (h : lo < num b q k) : k + 1 ≤ q ∧ b < num b q k ∧ num b q k - b = num b q (k + 1) := by
 unfold num at *
 rcases Nat.eq_zero_or_pos (q - k) with h0 | h0
 ·rw [h0, Nat.zero_mul] at h; omega
 ·obtain ⟨m, hm⟩ : ∃ m, q - k = m + 1 := ⟨q - k - 1, by omega⟩
  rw [hm, Nat.add_mul, Nat.one_mul] at h
  rw [show q - (k + 1) = m by omega, hm, Nat.add_mul, Nat.one_mul]
  refine ⟨by omega, by omega, by omega⟩
def BadS (z : Int) (b : Nat) (c : Int) : Prop := z < 4 ∨ 61 < z ∨ stepS b = false ∨ c < 1 ∨ 16 < c
def Gone (lo b q c k : Nat) : Prop := k ≤ q ∧ ∀ j, j < k → lo < num b q j ∧ (filt b q j).length < c
def SPost (z : Int) (b : Nat) (c : Int) (w : World) (e : Ending) (w' : World) : Prop :=
 (BadS z b c ∧ e = .returned (.tuple #[.slice none 0 0, .int .i64 1]) ∧ Ext w w') ∨
 (¬ BadS z b c ∧ ∃ k, Gone (2 ^ (z.toNat - 1)) b ((2 ^ z.toNat - 2) / b) c.toNat k ∧
  ((num b ((2 ^ z.toNat - 2) / b) k ≤ 2 ^ (z.toNat - 1) ∧ (filt b ((2 ^ z.toNat - 2) / b) k).length < c.toNat ∧ e = .returned (.tuple #[.slice none 0 0, .int .i64 7]) ∧ Ext w w') ∨
   ((filt b ((2 ^ z.toNat - 2) / b) k).length = c.toNat ∧ ∃ A n cp, e = .returned (.tuple #[.slice A n cp, .int .i64 0]) ∧ NX w' A n cp (filt b ((2 ^ z.toNat - 2) / b) k) ∧ Ext w w')))
theorem info_u64 : (Tryz.prog.info? 22).map (fun i => (i.zero, i.size, i.bytes)) = some (some (.int .u64 0), 1, 8) := by kernel_rfl
def URow (B : Nat) (w0 w : World) (v : Value) (n : Nat) (zs : List Nat) : Prop := w.ownsRow B 22 1 v n (u64s zs) ∧ Below B w0 w ∧ (∀ x ∈ zs, x < W64)
theorem URow.nil (w : World) : URow w.heap.size w w (.slice none 0 0) 0 [] := ⟨World.ownsRow_nil _ _ _ _, Below.refl _ _, by simp⟩
theorem URow.push {B : Nat} {w0 w w1 : World} {v v' : Value} {n : Nat} {zs : List Nat} {z : Nat} {o : Obj} (h : URow B w0 w v n zs) (hB : B ≤ w.heap.size) (hz : z < W64)
    (h1 : w1.ownsRow B 22 1 v' (n + 1) (u64s zs ++ [Value.int .u64 (z : Int)])) (hg : (w.alloc o).grownBy w1 v.ownBlock) : URow B w0 w1 v' (n + 1) (zs ++ [z]) := by
 rw [u64s_snoc] at h1
 exact ⟨h1, (h.2.1.alloc hB o).grown hg (by simp; omega) (fun k e => (h.1.lt k e).1), snoc_lt h.2.2 hz⟩
theorem URow.ext {B : Nat} {w0 w w1 : World} {v : Value} {n : Nat} {zs : List Nat} (h : URow B w0 w v n zs) (hB : B ≤ w.heap.size) (k : Ext w w1) : URow B w0 w1 v n zs := by
 refine ⟨h.1.kept (row := none) ⟨k.os, k.tape, k.output, k.size, fun i hi _ => k.block i hi⟩ ?_, h.2.1.trans (Below.mono k hB), h.2.2⟩
 cases e : v.ownBlock
 ·exact .inl rfl
 ·exact .inr (by simp)
set_option maxHeartbeats 2000000 in
theorem search_any (z : Int) (b : Nat) (c : Int) (w : World) (hz0 : -9223372036854775808 ≤ z) (hz1 : z < 9223372036854775808) (hb : b < 18446744073709551616) (hc0 : -9223372036854775808 ≤ c) (hc1 : c < 9223372036854775808) (hT : Tabs w) :
    Calls Tryz.prog 168 #[.int .i64 z, .int .u64 (b : Int), .int .i64 c] w (SPost z b c w) := by
 obtain ⟨i0, hi, hzz0, hzz1, hzz2⟩ := info_parts info_u64
 have HT := Lib.hid hT
 clear hT
 by_cases h1 : z < 4
 ·go_enter Tryz.func168, Tryz.ntmps168
  go_wp2
  go_ret2
  exact .inl ⟨.inl h1, rfl, Ext.refl _⟩
 by_cases h2 : 61 < z
 ·go_enter Tryz.func168, Tryz.ntmps168
  go_wp2
  go_ret2
  exact .inl ⟨.inr (.inl h2), rfl, Ext.refl _⟩
 cases h3 : stepS b
 ·go_enter Tryz.func168, Tryz.ntmps168
  go_wp2_with fail
  refine (order_any b w hb).mono ?_
  rw [h3]
  rintro e w' ⟨rfl, rfl⟩
  go_wp2
  go_ret2
  exact .inl ⟨.inr (.inr (.inl h3)), rfl, Ext.refl _⟩
 by_cases h4 : c < 1
 ·go_enter Tryz.func168, Tryz.ntmps168
  go_wp2_with fail
  refine (order_any b w hb).mono ?_
  rw [h3]
  rintro e w' ⟨rfl, rfl⟩
  go_wp2
  go_ret2
  exact .inl ⟨.inr (.inr (.inr (.inl h4))), rfl, Ext.refl _⟩
 by_cases h5 : 16 < c
 ·go_enter Tryz.func168, Tryz.ntmps168
  go_wp2_with fail
  refine (order_any b w hb).mono ?_
  rw [h3]
  rintro e w' ⟨rfl, rfl⟩
  go_wp2
  go_ret2
  exact .inl ⟨.inr (.inr (.inr (.inr h5))), rfl, Ext.refl _⟩
 obtain ⟨s, rfl⟩ := Int.eq_ofNat_of_zero_le (show 0 ≤ z by omega)
 obtain ⟨m, rfl⟩ := Int.eq_ofNat_of_zero_le (show 0 ≤ c by omega)
 have HBAD := Lib.hid (show ¬ BadS (s : Int) b (m : Int) by
  rintro (h | h | h | h | h)
  ·omega
  ·omega
  ·rw [h3] at h; cases h
  ·omega
  ·omega)
 have hs0 : 4 ≤ s := by omega
 have hs1 : s ≤ 61 := by omega
 have hm0 : 1 ≤ m := by omega
 have hm1 : m ≤ 16 := by omega
 have d1 : decide ((s : Int) < 4) = false := by simp; omega
 have d2 : decide ((61 : Int) < (s : Int)) = false := by simp; omega
 have d3 : decide ((m : Int) < 1) = false := by simp; omega
 have d4 : decide ((16 : Int) < (m : Int)) = false := by simp; omega
 obtain ⟨hb0, hb1⟩ := stepS_range h3
 have hS64 : (s : Int) < 64 := by omega
 clear h1 h2 h4 h5 hz0 hz1 hc0 hc1
 obtain ⟨P, hP⟩ : ∃ P : Nat, P = 2 ^ s := ⟨_, rfl⟩
 have hP0 : 16 ≤ P := by rw [hP]; exact Nat.le_trans (by decide) (Nat.pow_le_pow_right (show 0 < 2 by omega) hs0)
 have hP1 : P ≤ 2305843009213693952 := by rw [hP]; exact Nat.le_trans (Nat.pow_le_pow_right (show 0 < 2 by omega) hs1) (by decide)
 have hE : IntKind.u64.wrap ((2 : Int) ^ s) = (P : Int) := by
  rw [IntKind.wrap_u64, show ((2 : Int) ^ s) = (P : Int) by rw [hP, Int.natCast_pow]; rfl]
  omega
 obtain ⟨q, hq⟩ : ∃ q : Nat, q = (P - 2) / b := ⟨_, rfl⟩
 have hqi : ((P : Int) - 2) / (b : Int) = (q : Int) := by rw [hq, Int.natCast_ediv]; congr 1; omega
 have hqb : q * b ≤ P - 2 := by rw [hq]; exact Nat.div_mul_le_self _ _
 have hqc : (q : Int) * (b : Int) = ((q * b : Nat) : Int) := (Int.natCast_mul _ _).symm
 have hqb0 : (0 : Int) ≤ (q : Int) * (b : Int) := by rw [hqc]; omega
 have hqb1 : (q : Int) * (b : Int) ≤ (P : Int) - 2 := by rw [hqc]; omega
 have HQC := Lib.hid hqc
 have HPP := Lib.hid hP
 have HQQ := Lib.hid hq
 have hlo : (2 : Nat) ^ (s - 1) = P / 2 := by
  rw [hP, show s = (s - 1) + 1 by omega, Nat.pow_succ, Nat.add_sub_cancel, Nat.mul_div_cancel _ (by omega)]
 have HSP := Lib.hid (show ∀ e w', (∃ k, Gone (P / 2) b q m k ∧ ((num b q k ≤ P / 2 ∧ (filt b q k).length < m ∧ e = .returned (.tuple #[.slice none 0 0, .int .i64 7]) ∧ Ext w w') ∨ ((filt b q k).length = m ∧ ∃ A n cp, e = .returned (.tuple #[.slice A n cp, .int .i64 0]) ∧ NX w' A n cp (filt b q k) ∧ Ext w w'))) → SPost (s : Int) b (m : Int) w e w' from fun e w' hh => by
  refine .inr ⟨HBAD.out, ?_⟩
  rw [Int.toNat_natCast, Int.toNat_natCast, hlo, ← hP, ← hq]
  exact hh)
 have HNB := Lib.hid (show ∀ k, k ≤ q → num b q k ≤ 2305843009213693951 from fun k hk => by
  unfold num
  have := Nat.mul_le_mul_right b (show q - k ≤ q by omega)
  omega)
 clear hP hq hqc hlo hqb
 go_enter Tryz.func168, Tryz.ntmps168
 go_wp2_with fail
 refine (order_any b w hb).mono ?_
 rw [h3]
 rintro e w' ⟨rfl, rfl⟩
 go_wp2
 try rw [hqi]
 clear hqi
 go_loopw [9, 10] (fun v nv wr => ∃ (k : Nat), nv = .int .u64 ((num b q k : Nat) : Int) ∧ URow w.heap.size w wr v (filt b q k).length (filt b q k) ∧ Gone (P / 2) b q m k ∧ (filt b q k).length ≤ m) (fun _ nv _ => (intOf nv).toNat)
 case atStart =>
  refine ⟨0, u64_eq ?_, URow.nil w, ⟨by omega, fun j hj => by omega⟩, by simp [filt]⟩
  unfold num
  have := HQC.out
  rw [Nat.sub_zero]
  omega
 case round =>
  obtain ⟨k, rfl, hrow, hg, hlen⟩ := hrel
  obtain ⟨A1, c1, rfl, hr1⟩ := rd_of_own hrow.1 hrow.2.2
  have hNB := HNB.out k hg.1
  have HG := Lib.hid hg
  have HNX := Lib.hid (fun h => num_next (b := b) (q := q) (k := k) (lo := P / 2) hg.1 hb0 (by omega) h)
  have hsz := hrow.2.1.size
  have HL := Lib.hid (show ∀ r, isS (num b q k) = r → r = true → filt b q (k + 1) = filt b q k ++ [num b q k] from fun r h1 h2 => filt_yes (h1.trans h2))
  have HL2 := Lib.hid (show ∀ r, isS (num b q k) = r → r = false → filt b q (k + 1) = filt b q k from fun r h1 h2 => filt_no (h1.trans h2))
  obtain ⟨N, hN⟩ : ∃ N, N = num b q k := ⟨_, rfl⟩
  rw [← hN] at hNB HL HL2 ⊢
  have HN := Lib.hid hN
  obtain ⟨F, hF⟩ : ∃ F, F = filt b q k := ⟨_, rfl⟩
  rw [← hF] at hrow hr1 hlen HL HL2 ⊢
  have HF := Lib.hid hF
  obtain ⟨L, hLL⟩ : ∃ L, L = F.length := ⟨_, rfl⟩
  rw [← hLL] at hrow hr1 hlen ⊢
  have HLL := Lib.hid hLL
  clear hN hF hLL hg
  by_cases hgo : P / 2 < N ∧ L < m
  ·obtain ⟨g1, g2⟩ := hgo
   obtain ⟨n1, n2, n3⟩ := HNX.out (by rw [← HN.out]; exact g1)
   rw [← HN.out] at n2 n3
   have HG2 := Lib.hid (show Gone (P / 2) b q m (k + 1) from ⟨n1, fun j hj => by
    rcases Nat.lt_or_eq_of_le (Nat.le_of_lt_succ hj) with h | h
    ·exact HG.out.2 j h
    ·rw [h, ← HN.out, ← HF.out, ← HLL.out]; exact ⟨g1, g2⟩⟩)
   have HN3 := Lib.hid n3
   clear n3
   go_wp2_with fail
   refine (is_any N _ (by omega) (HT.out.ext (show Ext w _ from hrow.2.1))).mono ?_
   rintro e w2 ⟨rfl, k2⟩
   have hrow2 := hrow.ext hsz k2
   have hsz2 := hrow2.2.1.size
   cases hp : isS N
   ·have HF2 := Lib.hid (HL2.out _ hp rfl)
    go_wp2
    refine ⟨⟨k + 1, by rw [← HN3.out]; go_num, ?_, HG2.out, ?_⟩, by simp [intOf] <;> omega⟩
    ·rw [HF2.out, ← HLL.out]; exact hrow2
    ·rw [HF2.out, ← HLL.out]; omega
   ·have HF2 := Lib.hid (HL.out _ hp rfl)
    go_wp2_with (at_builtin; go_loud (refine wpList_append_own _ rfl _ _ 23 rfl w.heap.size 22 i0 (.int .u64 0) 1 8 Tryz.underlying23 hi hzz0 hzz1 hzz2 rfl (by decide) _ _ _ rfl (hrow2.1.alloc _) ⟨_, 0, none⟩ 1 1 [.int .u64 (N : Int)] rfl rfl one_cell one_int (by unfold maxLen; omega) (by omega) (by simp; omega) ?_; intro v2 w3 hown2 hgrow2 _))
    refine ⟨⟨k + 1, by rw [← HN3.out]; go_num, ?_, HG2.out, ?_⟩, by simp [intOf] <;> omega⟩
    ·rw [HF2.out, List.length_append, ← HLL.out]; exact hrow2.push hsz2 (by rw [W64_eq]; omega) hown2 hgrow2
    ·rw [HF2.out, List.length_append, ← HLL.out]; simp; omega
  ·by_cases hLm : L < m
   ·have hle : N ≤ P / 2 := by omega
    have HX := Lib.hid (show num b q k ≤ P / 2 ∧ (filt b q k).length < m by rw [← HN.out, ← HF.out, ← HLL.out]; exact ⟨hle, hLm⟩)
    clear hgo
    go_wp2
    go_ret2
    exact HSP.out _ _ ⟨k, HG.out, .inl ⟨HX.out.1, HX.out.2, rfl, hrow.2.1⟩⟩
   ·have hLe : L = m := by omega
    subst hLe
    have HX := Lib.hid (show (filt b q k).length = L by rw [← HF.out, ← HLL.out])
    clear hgo hLm
    by_cases hle : P / 2 < N
    ·go_wp2
     go_ret2
     exact HSP.out _ _ ⟨k, HG.out, .inr ⟨HX.out, A1, L, c1, rfl, by rw [← HF.out]; exact hr1, hrow.2.1⟩⟩
    ·go_wp2
     go_ret2
     exact HSP.out _ _ ⟨k, HG.out, .inr ⟨HX.out, A1, L, c1, rfl, by rw [← HF.out]; exact hr1, hrow.2.1⟩⟩
end Go.Proofs.YtjikdbcjabopnaaGreatDoor
