import Derived.Test.YtopbibfpjgjalaaGreatDoorZTProg
import Derived.Test.YtopbibfpjgjalaaGreatDoorZTFft
import Derived.Deep.RegionHeld3
namespace Go.Proofs.YtopbibfpjgjalaaGreatDoor
open Go.RowKit
set_option linter.unusedVariables false
set_option maxRecDepth 100000
theorem zbe {w : World} {g i X o : Nat} {v u : Value} (h : w.cell? ⟨X, o, none⟩ = some v) (hne : X ≠ g) : (w.setCell ⟨g, i, none⟩ u).cell? ⟨X, o, none⟩ = some v := by
 rw [zdp]
 ·exact h
 ·intro e; injection e with e1; exact hne e1.symm
theorem UW.below {w w' : World} {g n B : Nat} {f : Nat → Nat} (h : UW w g n f) (k : Ext w w') : UW w' g n f := RW.ext h k
theorem zku (x b q : Nat) (w : World) (hq0 : 0 < q) (hq : q ≤ 2305843009213693952) (hb : b < q) (hx : x < 18446744073709551616) :
    Calls Tryz.prog 259 #[.agg #[.int .u64 (b : Int), .int .u64 ((shr b q : Nat) : Int)], .int .u64 (x : Int), .int .u64 (q : Int)] w fun e w' => ∃ m : Nat, Hid (m = x * b % q) ∧ m < q ∧ e = .returned (.int .u64 (m : Int)) ∧ Ext w w' :=
 (zp6 x b q w hq0 hq hb hx).mono fun e w' ⟨he, hw⟩ => ⟨_, Lib.hid rfl, Nat.mod_lt _ hq0, he, hw⟩
theorem zw7 (a b q : Nat) (w : World) (hq : q ≤ 2305843009213693952) (ha : a < q) (hb : b < q) :
    Calls Tryz.prog 291 #[.int .u64 (a : Int), .int .u64 (b : Int), .int .u64 (q : Int)] w fun e w' => ∃ m : Nat, Hid (m = (a + b) % q) ∧ e = .returned (.int .u64 (m : Int)) ∧ w = w' :=
 (zts a b q w hq ha hb).mono fun e w' ⟨he, hw⟩ => ⟨_, Lib.hid rfl, he, hw⟩
theorem zq1 (a b q : Nat) (w : World) (hq : q ≤ 2305843009213693952) (ha : a < q) (hb : b < q) :
    Calls Tryz.prog 292 #[.int .u64 (a : Int), .int .u64 (b : Int), .int .u64 (q : Int)] w fun e w' => ∃ m : Nat, Hid (m = dif a b q) ∧ e = .returned (.int .u64 (m : Int)) ∧ w = w' :=
 (zq8 a b q w hq ha hb).mono fun e w' ⟨he, hw⟩ => ⟨_, Lib.hid rfl, he, hw⟩
set_option maxHeartbeats 8000000 in
set_option maxRecDepth 100000 in
theorem zyd (B p n q h K : Nat) (a e : Nat → Nat) (gp ge g : Nat) (f : Nat → Nat) (w : World) (hT : Tb w B p n q a e gp ge) (hU : UW w g n f) (hB : B ≤ w.heap.size) (hg : B ≤ g) (hn : Hid (n = K * (2 * h))) (h0 : 0 < h) (hhn : h ≤ n) (hnb : n ≤ 10000)
    (hq0 : 0 < q) (hq : q ≤ 2305843009213693952) (hf : Hid (∀ i, i < n → f i < q)) (ha : Hid (∀ i, i < 2 * n → a i < q)) :
    Calls Tryz.prog 281 #[.pointer (some ⟨p, 0, none⟩), .slice (some ⟨g, 0, none⟩) n n, .int .i64 (h : Int), .func (.func 257) #[.pointer (some ⟨p, 0, none⟩)] #[]] w fun ee w' => ee = .returned (.tuple #[]) ∧ UW w' g n (joinF q h (fun P => a ((2 * P + 1) * K)) f) ∧ Below B w w' := by
 obtain ⟨b, hb⟩ : ∃ b : Nat → Nat, b = (fun P => a ((2 * P + 1) * K)) := ⟨_, rfl⟩
 rw [← hb]
 have HB := Lib.hid hb
 clear hb
 have hK0 : 0 < K := by
  rcases Nat.eq_zero_or_pos K with h1 | h1
  ·have := hn.out; rw [h1, Nat.zero_mul] at this; omega
  ·exact h1
 have hKn : K ≤ n := by
  rw [hn.out]; exact Nat.le_mul_of_pos_right K (by omega)
 have hstep : IntKind.i64.wrap ((n : Int).tdiv (2 * (h : Int))) = (K : Int) := by
  have : (n : Int).tdiv (2 * (h : Int)) = (K : Int) := by
   rw [Int.tdiv_eq_ediv_of_nonneg (by omega), hn.out, Int.natCast_mul, show ((2 * h : Nat) : Int) = 2 * (h : Int) by omega, Int.mul_ediv_cancel _ (by omega)]
  rw [this, IntKind.wrap_i64]; omega
 have hstep2 : (n : Int) / (2 * (h : Int)) = (K : Int) := by
  rw [hn.out, Int.natCast_mul, show ((2 * h : Nat) : Int) = 2 * (h : Int) by omega, Int.mul_ediv_cancel _ (by omega)]
 have hz1 : (2 * (h : Int) == 0) = false := by simp; omega
 have hz2 : ¬ (2 * (h : Int) = 0) := by omega
 have HT := Lib.hid hT
 have hp := hT.hp
 have t0 := hT.size
 have t1 := hT.prime
 clear hT
 go_enter Tryz.func281, Tryz.ntmps281
 go_wp2
 clear hstep hstep2 hz1 hz2
 go_loopw [24] (fun i wr => ∃ P : Nat, P ≤ h ∧ i = .int .i64 (P : Int) ∧ UW wr g n (midF q h b f P 0) ∧ Below B w wr) (fun i _ => h - (intOf i).toNat)
 case atStart => exact ⟨0, by omega, rfl, hU.congr fun i _ => (ziq q h b f i).symm, Below.refl _ _⟩
 case round =>
  obtain ⟨P, hP, rfl, hu, kr⟩ := hrel
  have hsr := kr.size
  have gsr := RW.lt hu
  by_cases hlt : P < h
  ·go_wp2_with fail
   have hidx : (2 * P + 1) * K < 2 * n := by
    rw [hn.out, show 2 * (K * (2 * h)) = (2 * (2 * h)) * K by rw [Nat.mul_comm K, ← Nat.mul_assoc]]
    exact Nat.mul_lt_mul_of_pos_right (by omega) hK0
   have HX := Lib.hid (show a ((2 * P + 1) * K) = b P by rw [HB.out])
   have hbP : b P < q := by rw [← HX.out]; exact ha.out _ hidx
   refine (znu B p n q K P a e gp ge wr (HT.out.below kr) (by omega) (by omega) (by omega) (by omega) hidx).mono ?_
   rw [HX.out]
   rintro ee w1 ⟨rfl, k1⟩
   have hu1 := hu.below (B := B) k1
   have kr1 : Below B w w1 := zcf kr (by omega) k1
   clear hu k1
   have gs1 := RW.lt hu1
   go_wp2
   have kV : Ext w1 (w1.alloc (Obj.cells #[Value.int IntKind.u64 (b P : Int), Value.int IntKind.u64 (shr (b P) q : Int)] 278)) := (Ext.refl w1).alloc _
   have x0 : (w1.alloc (Obj.cells #[Value.int IntKind.u64 (b P : Int), Value.int IntKind.u64 (shr (b P) q : Int)] 278)).cell? ⟨w1.heap.size, 0, none⟩ = some (.int .u64 (b P : Int)) := by simp
   have x1 : (w1.alloc (Obj.cells #[Value.int IntKind.u64 (b P : Int), Value.int IntKind.u64 (shr (b P) q : Int)] 278)).cell? ⟨w1.heap.size, 1, none⟩ = some (.int .u64 (shr (b P) q : Int)) := by simp
   generalize w1.alloc (Obj.cells #[Value.int IntKind.u64 (b P : Int), Value.int IntKind.u64 (shr (b P) q : Int)] 278) = V at *
   have huV := hu1.below (B := B) kV
   have krV : Below B w V := zcf kr1 (by have := kr1.size; omega) kV
   clear hu1
   obtain ⟨X, hX⟩ : ∃ X, X = w1.heap.size := ⟨_, rfl⟩
   rw [← hX] at x0 x1 gs1 ⊢
   have hXB : B ≤ X := by rw [hX]; exact Nat.le_trans hB kr1.size
   have hXg : X ≠ g := by omega
   clear kV hX
   go_loopw [12] (fun i wr => ∃ t : Nat, P + t * (2 * h) < n + 2 * h ∧ i = .int .i64 ((P + t * (2 * h) : Nat) : Int) ∧ UW wr g n (midF q h b f P (P + t * (2 * h))) ∧ wr.cell? ⟨X, 0, none⟩ = some (.int .u64 (b P : Int)) ∧ wr.cell? ⟨X, 1, none⟩ = some (.int .u64 (shr (b P) q : Int)) ∧ Below B w wr) (fun i _ => n - (intOf i).toNat)
   case atStart => exact ⟨0, by omega, by rw [Nat.zero_mul, Nat.add_zero], huV.congr fun i _ => by rw [Nat.zero_mul, Nat.add_zero, zdy q h b f P P i (Nat.le_refl P)], x0, x1, krV⟩
   case round =>
    obtain ⟨t, ht, rfl, hu2, y0, y1, kr2⟩ := hrel
    clear x0 x1 huV krV
    have HA := Lib.hid (zpz q h b f P t hlt)
    have HS := Lib.hid (zin q h b f P t hlt)
    have HE : P + t * (2 * h) < n → P + t * (2 * h) + h < n := fun h1 => by
     rw [hn.out] at h1 ⊢
     have h2 : t * (2 * h) < K * (2 * h) := by omega
     have h3 : t < K := Nat.lt_of_mul_lt_mul_right h2
     have h4 := Nat.mul_le_mul_right (2 * h) (show t + 1 ≤ K by omega)
     rw [Nat.add_mul] at h4
     omega
    have HT1 := Lib.hid (show P + t * (2 * h) + 2 * h = P + (t + 1) * (2 * h) by rw [Nat.add_mul]; omega)
    generalize P + t * (2 * h) = E at *
    by_cases hE : E < n
    ·have hF0 := HE hE
     have e0 := RW.cell hu2 hE
     have e1 := RW.cell hu2 hF0
     have z0 := RW.frozen hu2 E
     have z1 := RW.frozen hu2 (E + h)
     have p1 := (kr2.cell (p := ⟨p, 1, none⟩) hp).trans t1
     have p0 := (kr2.cell (p := ⟨p, 0, none⟩) hp).trans t0
     rw [HA.out.1] at e0
     rw [HA.out.2] at e1
     have l0 := hf.out E hE
     have l1 := hf.out _ hF0
     obtain ⟨F, hF⟩ : ∃ F, F = E + h := ⟨_, rfl⟩
     have HF := Lib.hid hF
     rw [← hF] at e1 z1 l1 hF0
     have hFE : F ≠ E := by omega
     have HS2 := Lib.hid (show ∀ i, (if i = F then dif (f E) (f F * b P % q) q else if i = E then (f E + f F * b P % q) % q else midF q h b f P E i) = midF q h b f P (E + 2 * h) i by rw [hF]; exact HS.out)
     have hpg : p ≠ g := by omega
     have hgp2 : g ≠ p := by omega
     clear hF HE HS HA
     have hw1 : IntKind.i64.wrap ((E : Int) + (h : Int)) = (F : Int) := by rw [IntKind.wrap_i64, HF.out]; omega
     have i0 : (0 : Int) ≤ (E : Int) := by omega
     have i1 : (E : Int) < (n : Int) := by omega
     have i2 : (0 : Int) ≤ (F : Int) := by omega
     have i3 : (F : Int) < (n : Int) := by omega
     have hsz2 := kr2.size
     generalize f E = fE at *
     generalize f F = fF at *
     generalize b P = bP at *
     go_wp2_with fail
     go_region_held3 (fun w' => w'.cell? ⟨g, E, none⟩ = some (.int .u64 (fE : Int)) ∧ w'.cell? ⟨g, F, none⟩ = some (.int .u64 (fF : Int)) ∧ w'.cell? ⟨X, 0, none⟩ = some (.int .u64 (bP : Int)) ∧ w'.cell? ⟨X, 1, none⟩ = some (.int .u64 (shr bP q : Int)) ∧ w'.cell? ⟨p, 1, none⟩ = some (.int .u64 (q : Int))) (go_keep)
      (first
       | (go_at_call 259; refine (zku fF bP q _ hq0 hq hbP (by omega)).mono ?_; rintro e2 w3 ⟨m, HM, hlm, rfl, k3⟩; have k3' := (Ext.refl _).drew.trans k3; have d0 := cE k3' e0; have d1 := cE k3' e1; have d2 := cE k3' y0; have d3 := cE k3' y1; have d4 := cE k3' p1)
       | fail)
     have z0' := za9 k3' (RW.lt hu2) z0
     have z1' := za9 k3' (RW.lt hu2) z1
     have hu3 := hu2.below (B := B) k3'
     have kr3 : Below B w w3 := zcf kr2 (by omega) k3'
     have hXs : X < w3.heap.size := World.block_lt_of_cell? _ _ d2
     clear hu2 kr2 e0 e1 y0 y1 p1 p0 z0 z1 k3 k3'
     go_wp2_with fail
     go_region_held3 (fun w' => w'.cell? ⟨p, 1, none⟩ = some (.int .u64 (q : Int))) (go_keep)
      (first
       | (go_at_call 291; refine (zw7 fE m q _ hq l0 hlm).mono ?_; rintro e2 w4 ⟨m1, H1, rfl, rfl⟩)
       | (go_at_call 292; refine (zq1 fE m q _ hq l0 hlm).mono ?_; rintro e2 w4 ⟨m2, H2, rfl, rfl⟩)
       | fail)
     have u5 : UW ((w3.setCell ⟨g, E, none⟩ (.int .u64 (m1 : Int))).setCell ⟨g, F, none⟩ (.int .u64 (m2 : Int))).drew g n (midF q h b f P (E + 2 * h)) := ((hu3.set hE m1).set hF0 m2).congr fun i _ => by
      rw [← HS2.out, H1.out, H2.out, HM.out]
     have s0 : ((w3.setCell ⟨g, E, none⟩ (.int .u64 (m1 : Int))).setCell ⟨g, F, none⟩ (.int .u64 (m2 : Int))).drew.cell? ⟨X, 0, none⟩ = some (.int .u64 (bP : Int)) := zbe (zbe d2 hXg) hXg
     have s1 : ((w3.setCell ⟨g, E, none⟩ (.int .u64 (m1 : Int))).setCell ⟨g, F, none⟩ (.int .u64 (m2 : Int))).drew.cell? ⟨X, 1, none⟩ = some (.int .u64 (shr bP q : Int)) := zbe (zbe d3 hXg) hXg
     have kr5 : Below B w ((w3.setCell ⟨g, E, none⟩ (.int .u64 (m1 : Int))).setCell ⟨g, F, none⟩ (.int .u64 (m2 : Int))).drew := ((kr3.setCell (p := ⟨g, E, none⟩) hg _).setCell (p := ⟨g, F, none⟩) hg _).drew
     generalize ((w3.setCell ⟨g, E, none⟩ (.int .u64 (m1 : Int))).setCell ⟨g, F, none⟩ (.int .u64 (m2 : Int))).drew = w5 at *
     clear hu3 kr3 d0 d1 d2 d3 d4 z0' z1'
     go_wp2
     refine ⟨⟨t + 1, ?_, ?_, ?_, s0, s1, kr5⟩, ?_⟩
     ·rw [← HT1.out]; omega
     ·rw [← HT1.out]; go_num
     ·rw [← HT1.out]; exact u5
     ·simp [intOf]; omega
    ·have p0 := (kr2.cell (p := ⟨p, 0, none⟩) hp).trans t0
     have u6 := hu2.congr (f' := midF q h b f (P + 1) 0) fun i hi => by rw [zih q h n b f P E (by omega) hlt i hi, zdy q h b f (P + 1) (P + 1) i (Nat.le_refl _)]
     have U6 := Lib.hid u6
     clear hu2 u6 HE
     go_wp2
     exact ⟨⟨P + 1, by omega, by go_num, U6.out, kr2⟩, by simp [intOf]; omega⟩
  ·obtain rfl : P = h := by omega
   have hfin := hu.congr (f' := joinF q P b f) fun i _ => zii q P n b f h0 i
   have HF := Lib.hid hfin
   clear hfin hu
   go_wp2
   go_end0
   exact ⟨rfl, HF.out, kr⟩
set_option maxHeartbeats 8000000 in
set_option maxRecDepth 100000 in
theorem zq7 (B p n q h K : Nat) (a e : Nat → Nat) (gp ge g : Nat) (f : Nat → Nat) (w : World) (hT : Tb w B p n q a e gp ge) (hU : UW w g n f) (hB : B ≤ w.heap.size) (hg : B ≤ g) (hn : Hid (n = K * (2 * h))) (h0 : 0 < h) (hhn : h ≤ n) (hnb : n ≤ 10000)
    (hq0 : 0 < q) (hq : q ≤ 2305843009213693952) (hf : Hid (∀ i, i < n → f i < q)) (ha : Hid (∀ i, i < 2 * n → a i < q)) :
    Calls Tryz.prog 281 #[.pointer (some ⟨p, 0, none⟩), .slice (some ⟨g, 0, none⟩) n n, .int .i64 (h : Int), .func (.func 258) #[.pointer (some ⟨p, 0, none⟩)] #[]] w fun ee w' => ee = .returned (.tuple #[]) ∧ UW w' g n (joinF q h (fun P => a ((2 * n - 2 * P * K) % (2 * n))) f) ∧ Below B w w' := by
 obtain ⟨b, hb⟩ : ∃ b : Nat → Nat, b = (fun P => a ((2 * n - 2 * P * K) % (2 * n))) := ⟨_, rfl⟩
 rw [← hb]
 have HB := Lib.hid hb
 clear hb
 have hK0 : 0 < K := by
  rcases Nat.eq_zero_or_pos K with h1 | h1
  ·have := hn.out; rw [h1, Nat.zero_mul] at this; omega
  ·exact h1
 have hKn : K ≤ n := by
  rw [hn.out]; exact Nat.le_mul_of_pos_right K (by omega)
 have hstep : IntKind.i64.wrap ((n : Int).tdiv (2 * (h : Int))) = (K : Int) := by
  have : (n : Int).tdiv (2 * (h : Int)) = (K : Int) := by
   rw [Int.tdiv_eq_ediv_of_nonneg (by omega), hn.out, Int.natCast_mul, show ((2 * h : Nat) : Int) = 2 * (h : Int) by omega, Int.mul_ediv_cancel _ (by omega)]
  rw [this, IntKind.wrap_i64]; omega
 have hstep2 : (n : Int) / (2 * (h : Int)) = (K : Int) := by
  rw [hn.out, Int.natCast_mul, show ((2 * h : Nat) : Int) = 2 * (h : Int) by omega, Int.mul_ediv_cancel _ (by omega)]
 have hz1 : (2 * (h : Int) == 0) = false := by simp; omega
 have hz2 : ¬ (2 * (h : Int) = 0) := by omega
 have HT := Lib.hid hT
 have hp := hT.hp
 have t0 := hT.size
 have t1 := hT.prime
 clear hT
 go_enter Tryz.func281, Tryz.ntmps281
 go_wp2
 clear hstep hstep2 hz1 hz2
 go_loopw [24] (fun i wr => ∃ P : Nat, P ≤ h ∧ i = .int .i64 (P : Int) ∧ UW wr g n (midF q h b f P 0) ∧ Below B w wr) (fun i _ => h - (intOf i).toNat)
 case atStart => exact ⟨0, by omega, rfl, hU.congr fun i _ => (ziq q h b f i).symm, Below.refl _ _⟩
 case round =>
  obtain ⟨P, hP, rfl, hu, kr⟩ := hrel
  have hsr := kr.size
  have gsr := RW.lt hu
  by_cases hlt : P < h
  ·go_wp2_with fail
   have hidx : 2 * P * K ≤ 2 * n := by
    rw [hn.out, show 2 * (K * (2 * h)) = (2 * (2 * h)) * K by rw [Nat.mul_comm K, ← Nat.mul_assoc]]
    exact Nat.mul_le_mul_right K (by omega)
   have HX := Lib.hid (show a ((2 * n - 2 * P * K) % (2 * n)) = b P by rw [HB.out])
   have hbP : b P < q := by rw [← HX.out]; exact ha.out _ (Nat.mod_lt _ (by omega))
   refine (zi8 B p n q K P a e gp ge wr (HT.out.below kr) (by omega) (by omega) (by omega) (by omega) (by omega) hidx).mono ?_
   rw [HX.out]
   rintro ee w1 ⟨rfl, k1⟩
   have hu1 := hu.below (B := B) k1
   have kr1 : Below B w w1 := zcf kr (by omega) k1
   clear hu k1
   have gs1 := RW.lt hu1
   go_wp2
   have kV : Ext w1 (w1.alloc (Obj.cells #[Value.int IntKind.u64 (b P : Int), Value.int IntKind.u64 (shr (b P) q : Int)] 278)) := (Ext.refl w1).alloc _
   have x0 : (w1.alloc (Obj.cells #[Value.int IntKind.u64 (b P : Int), Value.int IntKind.u64 (shr (b P) q : Int)] 278)).cell? ⟨w1.heap.size, 0, none⟩ = some (.int .u64 (b P : Int)) := by simp
   have x1 : (w1.alloc (Obj.cells #[Value.int IntKind.u64 (b P : Int), Value.int IntKind.u64 (shr (b P) q : Int)] 278)).cell? ⟨w1.heap.size, 1, none⟩ = some (.int .u64 (shr (b P) q : Int)) := by simp
   generalize w1.alloc (Obj.cells #[Value.int IntKind.u64 (b P : Int), Value.int IntKind.u64 (shr (b P) q : Int)] 278) = V at *
   have huV := hu1.below (B := B) kV
   have krV : Below B w V := zcf kr1 (by have := kr1.size; omega) kV
   clear hu1
   obtain ⟨X, hX⟩ : ∃ X, X = w1.heap.size := ⟨_, rfl⟩
   rw [← hX] at x0 x1 gs1 ⊢
   have hXB : B ≤ X := by rw [hX]; exact Nat.le_trans hB kr1.size
   have hXg : X ≠ g := by omega
   clear kV hX
   go_loopw [12] (fun i wr => ∃ t : Nat, P + t * (2 * h) < n + 2 * h ∧ i = .int .i64 ((P + t * (2 * h) : Nat) : Int) ∧ UW wr g n (midF q h b f P (P + t * (2 * h))) ∧ wr.cell? ⟨X, 0, none⟩ = some (.int .u64 (b P : Int)) ∧ wr.cell? ⟨X, 1, none⟩ = some (.int .u64 (shr (b P) q : Int)) ∧ Below B w wr) (fun i _ => n - (intOf i).toNat)
   case atStart => exact ⟨0, by omega, by rw [Nat.zero_mul, Nat.add_zero], huV.congr fun i _ => by rw [Nat.zero_mul, Nat.add_zero, zdy q h b f P P i (Nat.le_refl P)], x0, x1, krV⟩
   case round =>
    obtain ⟨t, ht, rfl, hu2, y0, y1, kr2⟩ := hrel
    clear x0 x1 huV krV
    have HA := Lib.hid (zpz q h b f P t hlt)
    have HS := Lib.hid (zin q h b f P t hlt)
    have HE : P + t * (2 * h) < n → P + t * (2 * h) + h < n := fun h1 => by
     rw [hn.out] at h1 ⊢
     have h2 : t * (2 * h) < K * (2 * h) := by omega
     have h3 : t < K := Nat.lt_of_mul_lt_mul_right h2
     have h4 := Nat.mul_le_mul_right (2 * h) (show t + 1 ≤ K by omega)
     rw [Nat.add_mul] at h4
     omega
    have HT1 := Lib.hid (show P + t * (2 * h) + 2 * h = P + (t + 1) * (2 * h) by rw [Nat.add_mul]; omega)
    generalize P + t * (2 * h) = E at *
    by_cases hE : E < n
    ·have hF0 := HE hE
     have e0 := RW.cell hu2 hE
     have e1 := RW.cell hu2 hF0
     have z0 := RW.frozen hu2 E
     have z1 := RW.frozen hu2 (E + h)
     have p1 := (kr2.cell (p := ⟨p, 1, none⟩) hp).trans t1
     have p0 := (kr2.cell (p := ⟨p, 0, none⟩) hp).trans t0
     rw [HA.out.1] at e0
     rw [HA.out.2] at e1
     have l0 := hf.out E hE
     have l1 := hf.out _ hF0
     obtain ⟨F, hF⟩ : ∃ F, F = E + h := ⟨_, rfl⟩
     have HF := Lib.hid hF
     rw [← hF] at e1 z1 l1 hF0
     have hFE : F ≠ E := by omega
     have HS2 := Lib.hid (show ∀ i, (if i = F then dif (f E) (f F * b P % q) q else if i = E then (f E + f F * b P % q) % q else midF q h b f P E i) = midF q h b f P (E + 2 * h) i by rw [hF]; exact HS.out)
     have hpg : p ≠ g := by omega
     have hgp2 : g ≠ p := by omega
     clear hF HE HS HA
     have hw1 : IntKind.i64.wrap ((E : Int) + (h : Int)) = (F : Int) := by rw [IntKind.wrap_i64, HF.out]; omega
     have i0 : (0 : Int) ≤ (E : Int) := by omega
     have i1 : (E : Int) < (n : Int) := by omega
     have i2 : (0 : Int) ≤ (F : Int) := by omega
     have i3 : (F : Int) < (n : Int) := by omega
     have hsz2 := kr2.size
     generalize f E = fE at *
     generalize f F = fF at *
     generalize b P = bP at *
     go_wp2_with fail
     go_region_held3 (fun w' => w'.cell? ⟨g, E, none⟩ = some (.int .u64 (fE : Int)) ∧ w'.cell? ⟨g, F, none⟩ = some (.int .u64 (fF : Int)) ∧ w'.cell? ⟨X, 0, none⟩ = some (.int .u64 (bP : Int)) ∧ w'.cell? ⟨X, 1, none⟩ = some (.int .u64 (shr bP q : Int)) ∧ w'.cell? ⟨p, 1, none⟩ = some (.int .u64 (q : Int))) (go_keep)
      (first
       | (go_at_call 259; refine (zku fF bP q _ hq0 hq hbP (by omega)).mono ?_; rintro e2 w3 ⟨m, HM, hlm, rfl, k3⟩; have k3' := (Ext.refl _).drew.trans k3; have d0 := cE k3' e0; have d1 := cE k3' e1; have d2 := cE k3' y0; have d3 := cE k3' y1; have d4 := cE k3' p1)
       | fail)
     have z0' := za9 k3' (RW.lt hu2) z0
     have z1' := za9 k3' (RW.lt hu2) z1
     have hu3 := hu2.below (B := B) k3'
     have kr3 : Below B w w3 := zcf kr2 (by omega) k3'
     have hXs : X < w3.heap.size := World.block_lt_of_cell? _ _ d2
     clear hu2 kr2 e0 e1 y0 y1 p1 p0 z0 z1 k3 k3'
     go_wp2_with fail
     go_region_held3 (fun w' => w'.cell? ⟨p, 1, none⟩ = some (.int .u64 (q : Int))) (go_keep)
      (first
       | (go_at_call 291; refine (zw7 fE m q _ hq l0 hlm).mono ?_; rintro e2 w4 ⟨m1, H1, rfl, rfl⟩)
       | (go_at_call 292; refine (zq1 fE m q _ hq l0 hlm).mono ?_; rintro e2 w4 ⟨m2, H2, rfl, rfl⟩)
       | fail)
     have u5 : UW ((w3.setCell ⟨g, E, none⟩ (.int .u64 (m1 : Int))).setCell ⟨g, F, none⟩ (.int .u64 (m2 : Int))).drew g n (midF q h b f P (E + 2 * h)) := ((hu3.set hE m1).set hF0 m2).congr fun i _ => by
      rw [← HS2.out, H1.out, H2.out, HM.out]
     have s0 : ((w3.setCell ⟨g, E, none⟩ (.int .u64 (m1 : Int))).setCell ⟨g, F, none⟩ (.int .u64 (m2 : Int))).drew.cell? ⟨X, 0, none⟩ = some (.int .u64 (bP : Int)) := zbe (zbe d2 hXg) hXg
     have s1 : ((w3.setCell ⟨g, E, none⟩ (.int .u64 (m1 : Int))).setCell ⟨g, F, none⟩ (.int .u64 (m2 : Int))).drew.cell? ⟨X, 1, none⟩ = some (.int .u64 (shr bP q : Int)) := zbe (zbe d3 hXg) hXg
     have kr5 : Below B w ((w3.setCell ⟨g, E, none⟩ (.int .u64 (m1 : Int))).setCell ⟨g, F, none⟩ (.int .u64 (m2 : Int))).drew := ((kr3.setCell (p := ⟨g, E, none⟩) hg _).setCell (p := ⟨g, F, none⟩) hg _).drew
     generalize ((w3.setCell ⟨g, E, none⟩ (.int .u64 (m1 : Int))).setCell ⟨g, F, none⟩ (.int .u64 (m2 : Int))).drew = w5 at *
     clear hu3 kr3 d0 d1 d2 d3 d4 z0' z1'
     go_wp2
     refine ⟨⟨t + 1, ?_, ?_, ?_, s0, s1, kr5⟩, ?_⟩
     ·rw [← HT1.out]; omega
     ·rw [← HT1.out]; go_num
     ·rw [← HT1.out]; exact u5
     ·simp [intOf]; omega
    ·have p0 := (kr2.cell (p := ⟨p, 0, none⟩) hp).trans t0
     have u6 := hu2.congr (f' := midF q h b f (P + 1) 0) fun i hi => by rw [zih q h n b f P E (by omega) hlt i hi, zdy q h b f (P + 1) (P + 1) i (Nat.le_refl _)]
     have U6 := Lib.hid u6
     clear hu2 u6 HE
     go_wp2
     exact ⟨⟨P + 1, by omega, by go_num, U6.out, kr2⟩, by simp [intOf]; omega⟩
  ·obtain rfl : P = h := by omega
   have hfin := hu.congr (f' := joinF q P b f) fun i _ => zii q P n b f h0 i
   have HF := Lib.hid hfin
   clear hfin hu
   go_wp2
   go_end0
   exact ⟨rfl, HF.out, kr⟩
end Go.Proofs.YtopbibfpjgjalaaGreatDoor
