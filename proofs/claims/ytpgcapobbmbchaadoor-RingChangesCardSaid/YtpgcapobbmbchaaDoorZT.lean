/-
  What join of package ntt makes of a list, by either way's factors.
-/
import Derived.Test.YtpgcapobbmbchaaDoorTProg
import Derived.Test.YtpgcapobbmbchaaDoorTFft
import Derived.Deep.RegionHeld3
import Derived.Test.YtpgcapobbmbchaaDoorTMem
import Derived.Deep.RegionLaw
import Derived.Test.YtpgcapobbmbchaaDoorTRoot
import Derived.Test.YtpgcapobbmbchaaDoorWLast
import Derived.Test.YtpgcapobbmbchaaDoorPStep
import Derived.Deep.RegionLawGrows
namespace Go.Proofs.YtpgcapobbmbchaaDoor
open Go.RowKit
set_option linter.unusedVariables false
set_option maxRecDepth 100000

theorem far_cell {w : World} {g i X o : Nat} {v u : Value} (h : w.cell? ⟨X, o, none⟩ = some v) (hne : X ≠ g) : (w.setCell ⟨g, i, none⟩ u).cell? ⟨X, o, none⟩ = some v := by
  rw [set_far]
  · exact h
  · intro e; injection e with e1; exact hne e1.symm
theorem midF_lt {q h : Nat} {b f : Nat → Nat} {n P e : Nat} (hq : 0 < q) (hf : ∀ i, i < n → f i < q) (i : Nat) (hi : i < n) : midF q h b f P e i < q := by
  unfold midF
  split
  · exact joinF_lt hq i
  · exact hf i hi
theorem UW.below {w w' : World} {g n B : Nat} {f : Nat → Nat} (h : UW w g n f) (k : Ext w w') : UW w' g n f := RW.ext h k

theorem times_m (x b q : Nat) (w : World) (hq0 : 0 < q) (hq : q ≤ 2305843009213693952) (hb : b < q) (hx : x < 18446744073709551616) :
    Calls Tryd.prog 161 #[.agg #[.int .u64 (b : Int), .int .u64 ((shr b q : Nat) : Int)], .int .u64 (x : Int), .int .u64 (q : Int)] w fun e w' => ∃ m : Nat, Hid (m = x * b % q) ∧ m < q ∧ e = .returned (.int .u64 (m : Int)) ∧ Ext w w' :=
  (times_any x b q w hq0 hq hb hx).mono fun e w' ⟨he, hw⟩ => ⟨_, Lib.hid rfl, Nat.mod_lt _ hq0, he, hw⟩
theorem plus_m (a b q : Nat) (w : World) (hq : q ≤ 2305843009213693952) (ha : a < q) (hb : b < q) :
    Calls Tryd.prog 181 #[.int .u64 (a : Int), .int .u64 (b : Int), .int .u64 (q : Int)] w fun e w' => ∃ m : Nat, Hid (m = (a + b) % q) ∧ e = .returned (.int .u64 (m : Int)) ∧ w = w' :=
  (plus_any a b q w hq ha hb).mono fun e w' ⟨he, hw⟩ => ⟨_, Lib.hid rfl, he, hw⟩
theorem minus_m (a b q : Nat) (w : World) (hq : q ≤ 2305843009213693952) (ha : a < q) (hb : b < q) :
    Calls Tryd.prog 182 #[.int .u64 (a : Int), .int .u64 (b : Int), .int .u64 (q : Int)] w fun e w' => ∃ m : Nat, Hid (m = dif a b q) ∧ e = .returned (.int .u64 (m : Int)) ∧ w = w' :=
  (minus_any a b q w hq ha hb).mono fun e w' ⟨he, hw⟩ => ⟨_, Lib.hid rfl, he, hw⟩

set_option maxHeartbeats 8000000 in
set_option maxRecDepth 100000 in
theorem join_on (B p n q h K : Nat) (a e : Nat → Nat) (gp ge g : Nat) (f : Nat → Nat) (w : World) (hT : Tb w B p n q a e gp ge) (hU : UW w g n f) (hB : B ≤ w.heap.size) (hg : B ≤ g) (hn : Hid (n = K * (2 * h))) (h0 : 0 < h) (hhn : h ≤ n) (hnb : n ≤ 10000)
    (hq0 : 0 < q) (hq : q ≤ 2305843009213693952) (hf : Hid (∀ i, i < n → f i < q)) (ha : Hid (∀ i, i < 2 * n → a i < q)) :
    Calls Tryd.prog 176 #[.pointer (some ⟨p, 0, none⟩), .slice (some ⟨g, 0, none⟩) n n, .int .i64 (h : Int), .func (.func 159) #[.pointer (some ⟨p, 0, none⟩)] #[]] w fun ee w' => ee = .returned (.tuple #[]) ∧ UW w' g n (joinF q h (fun P => a ((2 * P + 1) * K)) f) ∧ Below B w w' := by
  obtain ⟨b, hb⟩ : ∃ b : Nat → Nat, b = (fun P => a ((2 * P + 1) * K)) := ⟨_, rfl⟩
  rw [← hb]
  have HB := Lib.hid hb
  clear hb
  have hK0 : 0 < K := by
    rcases Nat.eq_zero_or_pos K with h1 | h1
    · have := hn.out; rw [h1, Nat.zero_mul] at this; omega
    · exact h1
  have hKn : K ≤ n := by
    rw [hn.out]; exact Nat.le_mul_of_pos_right K (by omega)
  have hstep : IntKind.i64.wrap ((n : Int).tdiv (2 * (h : Int))) = (K : Int) := by
    have : (n : Int).tdiv (2 * (h : Int)) = (K : Int) := by
      rw [Int.tdiv_eq_ediv_of_nonneg (by omega), hn.out, Int.natCast_mul, show ((2 * h : Nat) : Int) = 2 * (h : Int) by omega, Int.mul_ediv_cancel _ (by omega)]
    rw [this, IntKind.wrap_i64]; omega
  have hstep2 : (n : Int) / (2 * (h : Int)) = (K : Int) := by
    rw [hn.out, Int.natCast_mul, show ((2 * h : Nat) : Int) = 2 * (h : Int) by omega, Int.mul_ediv_cancel _ (by omega)]
  have hz1 : (2 * (h : Int) == 0) = false := by simp; omega
  have hz2 : ¬ (2 * (h : Int) = 0) := by omega
  have HT := Lib.hid hT
  have hp := hT.hp
  have t0 := hT.size
  have t1 := hT.prime
  clear hT
  go_enter Tryd.func176, Tryd.ntmps176
  go_wp2
  clear hstep hstep2 hz1 hz2
  go_loopw [24] (fun i wr => ∃ P : Nat, P ≤ h ∧ i = .int .i64 (P : Int) ∧ UW wr g n (midF q h b f P 0) ∧ Below B w wr) (fun i _ => h - (intOf i).toNat)
  case atStart => exact ⟨0, by omega, rfl, hU.congr fun i _ => (midF_zero q h b f i).symm, Below.refl _ _⟩
  case round =>
    obtain ⟨P, hP, rfl, hu, kr⟩ := hrel
    have hsr := kr.size
    have gsr := RW.lt hu
    by_cases hlt : P < h
    · go_wp2_with fail
      have hidx : (2 * P + 1) * K < 2 * n := by
        rw [hn.out, show 2 * (K * (2 * h)) = (2 * (2 * h)) * K by rw [Nat.mul_comm K, ← Nat.mul_assoc]]
        exact Nat.mul_lt_mul_of_pos_right (by omega) hK0
      have HX := Lib.hid (show a ((2 * P + 1) * K) = b P by rw [HB.out])
      have hbP : b P < q := by rw [← HX.out]; exact ha.out _ hidx
      refine (onward_any B p n q K P a e gp ge wr (HT.out.below kr) (by omega) (by omega) (by omega) (by omega) hidx).mono ?_
      rw [HX.out]
      rintro ee w1 ⟨rfl, k1⟩
      have hu1 := hu.below (B := B) k1
      have kr1 : Below B w w1 := below_ext kr (by omega) k1
      clear hu k1
      have gs1 := RW.lt hu1
      go_wp2
      have kV : Ext w1 (w1.alloc (Obj.cells #[Value.int IntKind.u64 (b P : Int), Value.int IntKind.u64 (shr (b P) q : Int)] 147)) := (Ext.refl w1).alloc _
      have x0 : (w1.alloc (Obj.cells #[Value.int IntKind.u64 (b P : Int), Value.int IntKind.u64 (shr (b P) q : Int)] 147)).cell? ⟨w1.heap.size, 0, none⟩ = some (.int .u64 (b P : Int)) := by simp
      have x1 : (w1.alloc (Obj.cells #[Value.int IntKind.u64 (b P : Int), Value.int IntKind.u64 (shr (b P) q : Int)] 147)).cell? ⟨w1.heap.size, 1, none⟩ = some (.int .u64 (shr (b P) q : Int)) := by simp
      generalize w1.alloc (Obj.cells #[Value.int IntKind.u64 (b P : Int), Value.int IntKind.u64 (shr (b P) q : Int)] 147) = V at *
      have huV := hu1.below (B := B) kV
      have krV : Below B w V := below_ext kr1 (by have := kr1.size; omega) kV
      clear hu1
      obtain ⟨X, hX⟩ : ∃ X, X = w1.heap.size := ⟨_, rfl⟩
      rw [← hX] at x0 x1 gs1 ⊢
      have hXB : B ≤ X := by rw [hX]; exact Nat.le_trans hB kr1.size
      have hXg : X ≠ g := by omega
      clear kV hX
      go_loopw [12] (fun i wr => ∃ t : Nat, P + t * (2 * h) < n + 2 * h ∧ i = .int .i64 ((P + t * (2 * h) : Nat) : Int) ∧ UW wr g n (midF q h b f P (P + t * (2 * h))) ∧ wr.cell? ⟨X, 0, none⟩ = some (.int .u64 (b P : Int)) ∧ wr.cell? ⟨X, 1, none⟩ = some (.int .u64 (shr (b P) q : Int)) ∧ Below B w wr) (fun i _ => n - (intOf i).toNat)
      case atStart => exact ⟨0, by omega, by rw [Nat.zero_mul, Nat.add_zero], huV.congr fun i _ => by rw [Nat.zero_mul, Nat.add_zero, midF_head q h b f P P i (Nat.le_refl P)], x0, x1, krV⟩
      case round =>
        obtain ⟨t, ht, rfl, hu2, y0, y1, kr2⟩ := hrel
        clear x0 x1 huV krV
        have HA := Lib.hid (midF_at q h b f P t hlt)
        have HS := Lib.hid (midF_step q h b f P t hlt)
        have HE : P + t * (2 * h) < n → P + t * (2 * h) + h < n := fun h1 => by
          rw [hn.out] at h1 ⊢
          have h2 : t * (2 * h) < K * (2 * h) := by omega
          have h3 : t < K := Nat.lt_of_mul_lt_mul_right h2
          have h4 := Nat.mul_le_mul_right (2 * h) (show t + 1 ≤ K by omega)
          rw [Nat.add_mul] at h4
          omega
        have HT1 := Lib.hid (show P + t * (2 * h) + 2 * h = P + (t + 1) * (2 * h) by rw [Nat.add_mul]; omega)
        generalize P + t * (2 * h) = E at *
        by_cases hE : E < n
        · have hF0 := HE hE
          have e0 := RW.cell hu2 hE
          have e1 := RW.cell hu2 hF0
          have z0 := RW.frozen hu2 E
          have z1 := RW.frozen hu2 (E + h)
          have p1 := (kr2.cell (p := ⟨p, 1, none⟩) hp).trans t1
          have p0 := (kr2.cell (p := ⟨p, 0, none⟩) hp).trans t0
          rw [HA.out.1] at e0
          rw [HA.out.2] at e1
          have l0 := hf.out E hE
          have l1 := hf.out _ hF0
          obtain ⟨F, hF⟩ : ∃ F, F = E + h := ⟨_, rfl⟩
          have HF := Lib.hid hF
          rw [← hF] at e1 z1 l1 hF0
          have hFE : F ≠ E := by omega
          have HS2 := Lib.hid (show ∀ i, (if i = F then dif (f E) (f F * b P % q) q else if i = E then (f E + f F * b P % q) % q else midF q h b f P E i) = midF q h b f P (E + 2 * h) i by rw [hF]; exact HS.out)
          have hpg : p ≠ g := by omega
          have hgp2 : g ≠ p := by omega
          clear hF HE HS HA
          have hw1 : IntKind.i64.wrap ((E : Int) + (h : Int)) = (F : Int) := by rw [IntKind.wrap_i64, HF.out]; omega
          have i0 : (0 : Int) ≤ (E : Int) := by omega
          have i1 : (E : Int) < (n : Int) := by omega
          have i2 : (0 : Int) ≤ (F : Int) := by omega
          have i3 : (F : Int) < (n : Int) := by omega
          have hsz2 := kr2.size
          generalize f E = fE at *
          generalize f F = fF at *
          generalize b P = bP at *
          go_wp2_with fail
          go_region_held3 (fun w' => w'.cell? ⟨g, E, none⟩ = some (.int .u64 (fE : Int)) ∧ w'.cell? ⟨g, F, none⟩ = some (.int .u64 (fF : Int)) ∧ w'.cell? ⟨X, 0, none⟩ = some (.int .u64 (bP : Int)) ∧ w'.cell? ⟨X, 1, none⟩ = some (.int .u64 (shr bP q : Int)) ∧ w'.cell? ⟨p, 1, none⟩ = some (.int .u64 (q : Int))) (go_keep)
            (first
              | (go_at_call 161; refine (times_m fF bP q _ hq0 hq hbP (by omega)).mono ?_; rintro e2 w3 ⟨m, HM, hlm, rfl, k3⟩; have k3' := (Ext.refl _).drew.trans k3; have d0 := cell_ext k3' e0; have d1 := cell_ext k3' e1; have d2 := cell_ext k3' y0; have d3 := cell_ext k3' y1; have d4 := cell_ext k3' p1)
              | fail)
          have z0' := kept_free k3' (RW.lt hu2) z0
          have z1' := kept_free k3' (RW.lt hu2) z1
          have hu3 := hu2.below (B := B) k3'
          have kr3 : Below B w w3 := below_ext kr2 (by omega) k3'
          have hXs : X < w3.heap.size := World.block_lt_of_cell? _ _ d2
          clear hu2 kr2 e0 e1 y0 y1 p1 p0 z0 z1 k3 k3'
          go_wp2_with fail
          go_region_held3 (fun w' => w'.cell? ⟨p, 1, none⟩ = some (.int .u64 (q : Int))) (go_keep)
            (first
              | (go_at_call 181; refine (plus_m fE m q _ hq l0 hlm).mono ?_; rintro e2 w4 ⟨m1, H1, rfl, rfl⟩)
              | (go_at_call 182; refine (minus_m fE m q _ hq l0 hlm).mono ?_; rintro e2 w4 ⟨m2, H2, rfl, rfl⟩)
              | fail)
          have u5 : UW ((w3.setCell ⟨g, E, none⟩ (.int .u64 (m1 : Int))).setCell ⟨g, F, none⟩ (.int .u64 (m2 : Int))).drew g n (midF q h b f P (E + 2 * h)) := ((hu3.set hE m1).set hF0 m2).congr fun i _ => by
            rw [← HS2.out, H1.out, H2.out, HM.out]
          have s0 : ((w3.setCell ⟨g, E, none⟩ (.int .u64 (m1 : Int))).setCell ⟨g, F, none⟩ (.int .u64 (m2 : Int))).drew.cell? ⟨X, 0, none⟩ = some (.int .u64 (bP : Int)) := far_cell (far_cell d2 hXg) hXg
          have s1 : ((w3.setCell ⟨g, E, none⟩ (.int .u64 (m1 : Int))).setCell ⟨g, F, none⟩ (.int .u64 (m2 : Int))).drew.cell? ⟨X, 1, none⟩ = some (.int .u64 (shr bP q : Int)) := far_cell (far_cell d3 hXg) hXg
          have kr5 : Below B w ((w3.setCell ⟨g, E, none⟩ (.int .u64 (m1 : Int))).setCell ⟨g, F, none⟩ (.int .u64 (m2 : Int))).drew := ((kr3.setCell (p := ⟨g, E, none⟩) hg _).setCell (p := ⟨g, F, none⟩) hg _).drew
          generalize ((w3.setCell ⟨g, E, none⟩ (.int .u64 (m1 : Int))).setCell ⟨g, F, none⟩ (.int .u64 (m2 : Int))).drew = w5 at *
          clear hu3 kr3 d0 d1 d2 d3 d4 z0' z1'
          go_wp2
          refine ⟨⟨t + 1, ?_, ?_, ?_, s0, s1, kr5⟩, ?_⟩
          · rw [← HT1.out]; omega
          · rw [← HT1.out]; go_num
          · rw [← HT1.out]; exact u5
          · simp [intOf]; omega
        · have p0 := (kr2.cell (p := ⟨p, 0, none⟩) hp).trans t0
          have u6 := hu2.congr (f' := midF q h b f (P + 1) 0) fun i hi => by rw [midF_next q h n b f P E (by omega) hlt i hi, midF_head q h b f (P + 1) (P + 1) i (Nat.le_refl _)]
          have U6 := Lib.hid u6
          clear hu2 u6 HE
          go_wp2
          exact ⟨⟨P + 1, by omega, by go_num, U6.out, kr2⟩, by simp [intOf]; omega⟩
    · obtain rfl : P = h := by omega
      have hfin := hu.congr (f' := joinF q P b f) fun i _ => midF_done q P n b f h0 i
      have HF := Lib.hid hfin
      clear hfin hu
      go_wp2
      go_end0
      exact ⟨rfl, HF.out, kr⟩

set_option maxHeartbeats 8000000 in
set_option maxRecDepth 100000 in
theorem join_back (B p n q h K : Nat) (a e : Nat → Nat) (gp ge g : Nat) (f : Nat → Nat) (w : World) (hT : Tb w B p n q a e gp ge) (hU : UW w g n f) (hB : B ≤ w.heap.size) (hg : B ≤ g) (hn : Hid (n = K * (2 * h))) (h0 : 0 < h) (hhn : h ≤ n) (hnb : n ≤ 10000)
    (hq0 : 0 < q) (hq : q ≤ 2305843009213693952) (hf : Hid (∀ i, i < n → f i < q)) (ha : Hid (∀ i, i < 2 * n → a i < q)) :
    Calls Tryd.prog 176 #[.pointer (some ⟨p, 0, none⟩), .slice (some ⟨g, 0, none⟩) n n, .int .i64 (h : Int), .func (.func 160) #[.pointer (some ⟨p, 0, none⟩)] #[]] w fun ee w' => ee = .returned (.tuple #[]) ∧ UW w' g n (joinF q h (fun P => a ((2 * n - 2 * P * K) % (2 * n))) f) ∧ Below B w w' := by
  obtain ⟨b, hb⟩ : ∃ b : Nat → Nat, b = (fun P => a ((2 * n - 2 * P * K) % (2 * n))) := ⟨_, rfl⟩
  rw [← hb]
  have HB := Lib.hid hb
  clear hb
  have hK0 : 0 < K := by
    rcases Nat.eq_zero_or_pos K with h1 | h1
    · have := hn.out; rw [h1, Nat.zero_mul] at this; omega
    · exact h1
  have hKn : K ≤ n := by
    rw [hn.out]; exact Nat.le_mul_of_pos_right K (by omega)
  have hstep : IntKind.i64.wrap ((n : Int).tdiv (2 * (h : Int))) = (K : Int) := by
    have : (n : Int).tdiv (2 * (h : Int)) = (K : Int) := by
      rw [Int.tdiv_eq_ediv_of_nonneg (by omega), hn.out, Int.natCast_mul, show ((2 * h : Nat) : Int) = 2 * (h : Int) by omega, Int.mul_ediv_cancel _ (by omega)]
    rw [this, IntKind.wrap_i64]; omega
  have hstep2 : (n : Int) / (2 * (h : Int)) = (K : Int) := by
    rw [hn.out, Int.natCast_mul, show ((2 * h : Nat) : Int) = 2 * (h : Int) by omega, Int.mul_ediv_cancel _ (by omega)]
  have hz1 : (2 * (h : Int) == 0) = false := by simp; omega
  have hz2 : ¬ (2 * (h : Int) = 0) := by omega
  have HT := Lib.hid hT
  have hp := hT.hp
  have t0 := hT.size
  have t1 := hT.prime
  clear hT
  go_enter Tryd.func176, Tryd.ntmps176
  go_wp2
  clear hstep hstep2 hz1 hz2
  go_loopw [24] (fun i wr => ∃ P : Nat, P ≤ h ∧ i = .int .i64 (P : Int) ∧ UW wr g n (midF q h b f P 0) ∧ Below B w wr) (fun i _ => h - (intOf i).toNat)
  case atStart => exact ⟨0, by omega, rfl, hU.congr fun i _ => (midF_zero q h b f i).symm, Below.refl _ _⟩
  case round =>
    obtain ⟨P, hP, rfl, hu, kr⟩ := hrel
    have hsr := kr.size
    have gsr := RW.lt hu
    by_cases hlt : P < h
    · go_wp2_with fail
      have hidx : 2 * P * K ≤ 2 * n := by
        rw [hn.out, show 2 * (K * (2 * h)) = (2 * (2 * h)) * K by rw [Nat.mul_comm K, ← Nat.mul_assoc]]
        exact Nat.mul_le_mul_right K (by omega)
      have HX := Lib.hid (show a ((2 * n - 2 * P * K) % (2 * n)) = b P by rw [HB.out])
      have hbP : b P < q := by rw [← HX.out]; exact ha.out _ (Nat.mod_lt _ (by omega))
      refine (backward_any B p n q K P a e gp ge wr (HT.out.below kr) (by omega) (by omega) (by omega) (by omega) (by omega) hidx).mono ?_
      rw [HX.out]
      rintro ee w1 ⟨rfl, k1⟩
      have hu1 := hu.below (B := B) k1
      have kr1 : Below B w w1 := below_ext kr (by omega) k1
      clear hu k1
      have gs1 := RW.lt hu1
      go_wp2
      have kV : Ext w1 (w1.alloc (Obj.cells #[Value.int IntKind.u64 (b P : Int), Value.int IntKind.u64 (shr (b P) q : Int)] 147)) := (Ext.refl w1).alloc _
      have x0 : (w1.alloc (Obj.cells #[Value.int IntKind.u64 (b P : Int), Value.int IntKind.u64 (shr (b P) q : Int)] 147)).cell? ⟨w1.heap.size, 0, none⟩ = some (.int .u64 (b P : Int)) := by simp
      have x1 : (w1.alloc (Obj.cells #[Value.int IntKind.u64 (b P : Int), Value.int IntKind.u64 (shr (b P) q : Int)] 147)).cell? ⟨w1.heap.size, 1, none⟩ = some (.int .u64 (shr (b P) q : Int)) := by simp
      generalize w1.alloc (Obj.cells #[Value.int IntKind.u64 (b P : Int), Value.int IntKind.u64 (shr (b P) q : Int)] 147) = V at *
      have huV := hu1.below (B := B) kV
      have krV : Below B w V := below_ext kr1 (by have := kr1.size; omega) kV
      clear hu1
      obtain ⟨X, hX⟩ : ∃ X, X = w1.heap.size := ⟨_, rfl⟩
      rw [← hX] at x0 x1 gs1 ⊢
      have hXB : B ≤ X := by rw [hX]; exact Nat.le_trans hB kr1.size
      have hXg : X ≠ g := by omega
      clear kV hX
      go_loopw [12] (fun i wr => ∃ t : Nat, P + t * (2 * h) < n + 2 * h ∧ i = .int .i64 ((P + t * (2 * h) : Nat) : Int) ∧ UW wr g n (midF q h b f P (P + t * (2 * h))) ∧ wr.cell? ⟨X, 0, none⟩ = some (.int .u64 (b P : Int)) ∧ wr.cell? ⟨X, 1, none⟩ = some (.int .u64 (shr (b P) q : Int)) ∧ Below B w wr) (fun i _ => n - (intOf i).toNat)
      case atStart => exact ⟨0, by omega, by rw [Nat.zero_mul, Nat.add_zero], huV.congr fun i _ => by rw [Nat.zero_mul, Nat.add_zero, midF_head q h b f P P i (Nat.le_refl P)], x0, x1, krV⟩
      case round =>
        obtain ⟨t, ht, rfl, hu2, y0, y1, kr2⟩ := hrel
        clear x0 x1 huV krV
        have HA := Lib.hid (midF_at q h b f P t hlt)
        have HS := Lib.hid (midF_step q h b f P t hlt)
        have HE : P + t * (2 * h) < n → P + t * (2 * h) + h < n := fun h1 => by
          rw [hn.out] at h1 ⊢
          have h2 : t * (2 * h) < K * (2 * h) := by omega
          have h3 : t < K := Nat.lt_of_mul_lt_mul_right h2
          have h4 := Nat.mul_le_mul_right (2 * h) (show t + 1 ≤ K by omega)
          rw [Nat.add_mul] at h4
          omega
        have HT1 := Lib.hid (show P + t * (2 * h) + 2 * h = P + (t + 1) * (2 * h) by rw [Nat.add_mul]; omega)
        generalize P + t * (2 * h) = E at *
        by_cases hE : E < n
        · have hF0 := HE hE
          have e0 := RW.cell hu2 hE
          have e1 := RW.cell hu2 hF0
          have z0 := RW.frozen hu2 E
          have z1 := RW.frozen hu2 (E + h)
          have p1 := (kr2.cell (p := ⟨p, 1, none⟩) hp).trans t1
          have p0 := (kr2.cell (p := ⟨p, 0, none⟩) hp).trans t0
          rw [HA.out.1] at e0
          rw [HA.out.2] at e1
          have l0 := hf.out E hE
          have l1 := hf.out _ hF0
          obtain ⟨F, hF⟩ : ∃ F, F = E + h := ⟨_, rfl⟩
          have HF := Lib.hid hF
          rw [← hF] at e1 z1 l1 hF0
          have hFE : F ≠ E := by omega
          have HS2 := Lib.hid (show ∀ i, (if i = F then dif (f E) (f F * b P % q) q else if i = E then (f E + f F * b P % q) % q else midF q h b f P E i) = midF q h b f P (E + 2 * h) i by rw [hF]; exact HS.out)
          have hpg : p ≠ g := by omega
          have hgp2 : g ≠ p := by omega
          clear hF HE HS HA
          have hw1 : IntKind.i64.wrap ((E : Int) + (h : Int)) = (F : Int) := by rw [IntKind.wrap_i64, HF.out]; omega
          have i0 : (0 : Int) ≤ (E : Int) := by omega
          have i1 : (E : Int) < (n : Int) := by omega
          have i2 : (0 : Int) ≤ (F : Int) := by omega
          have i3 : (F : Int) < (n : Int) := by omega
          have hsz2 := kr2.size
          generalize f E = fE at *
          generalize f F = fF at *
          generalize b P = bP at *
          go_wp2_with fail
          go_region_held3 (fun w' => w'.cell? ⟨g, E, none⟩ = some (.int .u64 (fE : Int)) ∧ w'.cell? ⟨g, F, none⟩ = some (.int .u64 (fF : Int)) ∧ w'.cell? ⟨X, 0, none⟩ = some (.int .u64 (bP : Int)) ∧ w'.cell? ⟨X, 1, none⟩ = some (.int .u64 (shr bP q : Int)) ∧ w'.cell? ⟨p, 1, none⟩ = some (.int .u64 (q : Int))) (go_keep)
            (first
              | (go_at_call 161; refine (times_m fF bP q _ hq0 hq hbP (by omega)).mono ?_; rintro e2 w3 ⟨m, HM, hlm, rfl, k3⟩; have k3' := (Ext.refl _).drew.trans k3; have d0 := cell_ext k3' e0; have d1 := cell_ext k3' e1; have d2 := cell_ext k3' y0; have d3 := cell_ext k3' y1; have d4 := cell_ext k3' p1)
              | fail)
          have z0' := kept_free k3' (RW.lt hu2) z0
          have z1' := kept_free k3' (RW.lt hu2) z1
          have hu3 := hu2.below (B := B) k3'
          have kr3 : Below B w w3 := below_ext kr2 (by omega) k3'
          have hXs : X < w3.heap.size := World.block_lt_of_cell? _ _ d2
          clear hu2 kr2 e0 e1 y0 y1 p1 p0 z0 z1 k3 k3'
          go_wp2_with fail
          go_region_held3 (fun w' => w'.cell? ⟨p, 1, none⟩ = some (.int .u64 (q : Int))) (go_keep)
            (first
              | (go_at_call 181; refine (plus_m fE m q _ hq l0 hlm).mono ?_; rintro e2 w4 ⟨m1, H1, rfl, rfl⟩)
              | (go_at_call 182; refine (minus_m fE m q _ hq l0 hlm).mono ?_; rintro e2 w4 ⟨m2, H2, rfl, rfl⟩)
              | fail)
          have u5 : UW ((w3.setCell ⟨g, E, none⟩ (.int .u64 (m1 : Int))).setCell ⟨g, F, none⟩ (.int .u64 (m2 : Int))).drew g n (midF q h b f P (E + 2 * h)) := ((hu3.set hE m1).set hF0 m2).congr fun i _ => by
            rw [← HS2.out, H1.out, H2.out, HM.out]
          have s0 : ((w3.setCell ⟨g, E, none⟩ (.int .u64 (m1 : Int))).setCell ⟨g, F, none⟩ (.int .u64 (m2 : Int))).drew.cell? ⟨X, 0, none⟩ = some (.int .u64 (bP : Int)) := far_cell (far_cell d2 hXg) hXg
          have s1 : ((w3.setCell ⟨g, E, none⟩ (.int .u64 (m1 : Int))).setCell ⟨g, F, none⟩ (.int .u64 (m2 : Int))).drew.cell? ⟨X, 1, none⟩ = some (.int .u64 (shr bP q : Int)) := far_cell (far_cell d3 hXg) hXg
          have kr5 : Below B w ((w3.setCell ⟨g, E, none⟩ (.int .u64 (m1 : Int))).setCell ⟨g, F, none⟩ (.int .u64 (m2 : Int))).drew := ((kr3.setCell (p := ⟨g, E, none⟩) hg _).setCell (p := ⟨g, F, none⟩) hg _).drew
          generalize ((w3.setCell ⟨g, E, none⟩ (.int .u64 (m1 : Int))).setCell ⟨g, F, none⟩ (.int .u64 (m2 : Int))).drew = w5 at *
          clear hu3 kr3 d0 d1 d2 d3 d4 z0' z1'
          go_wp2
          refine ⟨⟨t + 1, ?_, ?_, ?_, s0, s1, kr5⟩, ?_⟩
          · rw [← HT1.out]; omega
          · rw [← HT1.out]; go_num
          · rw [← HT1.out]; exact u5
          · simp [intOf]; omega
        · have p0 := (kr2.cell (p := ⟨p, 0, none⟩) hp).trans t0
          have u6 := hu2.congr (f' := midF q h b f (P + 1) 0) fun i hi => by rw [midF_next q h n b f P E (by omega) hlt i hi, midF_head q h b f (P + 1) (P + 1) i (Nat.le_refl _)]
          have U6 := Lib.hid u6
          clear hu2 u6 HE
          go_wp2
          exact ⟨⟨P + 1, by omega, by go_num, U6.out, kr2⟩, by simp [intOf]; omega⟩
    · obtain rfl : P = h := by omega
      have hfin := hu.congr (f' := joinF q P b f) fun i _ => midF_done q P n b f h0 i
      have HF := Lib.hid hfin
      clear hfin hu
      go_wp2
      go_end0
      exact ⟨rfl, HF.out, kr⟩
end Go.Proofs.YtpgcapobbmbchaaDoor

/-
  What scattered of package ntt answers.
-/
namespace Go.Proofs.YtpgcapobbmbchaaDoor
open Go.RowKit
set_option linter.unusedVariables false
set_option maxRecDepth 100000

def newU (n : Nat) : Array Value := ((List.range n).map fun _ => Value.int .u64 0).toArray
theorem newU_uw (w : World) (n : Nat) : UW (w.alloc (.cells (newU n) 79)) w.heap.size n (fun _ => 0) := heap_alloc_new w _
theorem make_u64 (n : Nat) (hn : n ≤ 1000000) (w : World) :
    (Instr.makeSlice 22 (.int .i64 (n : Int)) (.int .i64 (n : Int))).run Tryd.prog w = .ok (.slice (some ⟨w.heap.size, 0, none⟩) n n) (w.alloc (.cells (newU n) 79)) := by
  obtain ⟨i0, hi, hz0, hz1, hz2⟩ := info_parts info_u64
  have hr := run_make (P := Tryd.prog) w 22 79 i0 (.int .u64 0) Tryd.underlying22 hi hz0 .i64 .i64 (n : Int) (n : Int) (by omega) (by omega) (by rw [hz2]; omega) (by omega)
  rw [hz1] at hr
  simp only [Int.toNat_natCast] at hr
  rw [hr]
  have e : madeCells (Value.int .u64 0).cells (n * 1) = newU n := by
    apply Array.toList_inj.1
    unfold newU madeCells
    apply List.ext_getElem?
    intro j
    by_cases hj : j < n
    · simp [hj, Value.cells, Nat.mod_one]
    · simp [hj]
  rw [e]
theorem bitLen_top {k : Nat} (h0 : 1 ≤ k) (h1 : k ≤ 9) : Lib.bitLen (2 ^ k - 1) = k := by
  rcases (show k = 1 ∨ k = 2 ∨ k = 3 ∨ k = 4 ∨ k = 5 ∨ k = 6 ∨ k = 7 ∨ k = 8 ∨ k = 9 by omega) with rfl | rfl | rfl | rfl | rfl | rfl | rfl | rfl | rfl <;> decide
theorem two_le {k : Nat} (h0 : 1 ≤ k) (h1 : k ≤ 9) : 2 ≤ 2 ^ k ∧ 2 ^ k ≤ 512 := by
  rcases (show k = 1 ∨ k = 2 ∨ k = 3 ∨ k = 4 ∨ k = 5 ∨ k = 6 ∨ k = 7 ∨ k = 8 ∨ k = 9 by omega) with rfl | rfl | rfl | rfl | rfl | rfl | rfl | rfl | rfl <;> decide
/-- The list while it is scattered. -/
def scatF (k : Nat) (f : Nat → Nat) (m i : Nat) : Nat := if rev k i < m then f (rev k i) else 0
theorem scatF_step {k : Nat} (h0 : 1 ≤ k) (h1 : k ≤ 9) (f : Nat → Nat) (m i : Nat) (hm : m < 2 ^ k) (hi : i < 2 ^ k) : (if i = rev k m then f m else scatF k f m i) = scatF k f (m + 1) i := by
  unfold scatF
  by_cases h : i = rev k m
  · subst h
    rw [if_pos rfl, (rev_two h0 h1 hm).1, if_pos (by omega)]
  · rw [if_neg h]
    have : rev k i ≠ m := fun e => h (by rw [← e, (rev_two h0 h1 hi).1])
    by_cases h2 : rev k i < m
    · rw [if_pos h2, if_pos (by omega)]
    · rw [if_neg h2, if_neg (by omega)]
set_option maxHeartbeats 1000000 in
theorem scattered_any (A : Option Addr) (n c k : Nat) (f : Nat → Nat) (w : World) (hX : FX w A n c f) (hk : Hid (n = 2 ^ k)) (h0 : 1 ≤ k) (h1 : k ≤ 9) :
    Calls Tryd.prog 175 #[.slice A n c] w fun e w' => e = .returned (.slice (some ⟨w.heap.size, 0, none⟩) n n) ∧ UW w' w.heap.size n (fun i => f (rev k i)) ∧ Ext w w' := by
  have hn := two_le h0 h1
  rw [← hk.out] at hn
  obtain ⟨hn0, hn1⟩ := hn
  have hmk := make_u64 n (by omega)
  have HL := Lib.hid (show (64 - (Lib.bitLen ((n : Int) - 1).toNat : Int)) = ((64 - k : Nat) : Int) by
    rw [show ((n : Int) - 1).toNat = n - 1 by omega, hk.out, bitLen_top h0 h1]; omega)
  have HR : ∀ i, i < n → revW i / 2 ^ (64 - k) = rev k i := fun i hi => rev_top h0 h1 (by rw [← hk.out]; exact hi)
  have hs : 64 - k ≤ 63 := by omega
  obtain ⟨s, hsd⟩ : ∃ s, s = 64 - k := ⟨_, rfl⟩
  rw [← hsd] at HL HR hs
  have HRR := Lib.hid HR
  clear HR hsd
  have hw1 : IntKind.u64.wrap ((n : Int) - 1) = (n : Int) - 1 := by rw [IntKind.wrap_u64]; omega
  go_enter Tryd.func175, Tryd.ntmps175
  go_wp2_with fail
  refine (zeros_any _ _ (by omega) (by omega)).mono ?_
  rw [HL.out]
  rintro e w1 ⟨rfl, rfl⟩
  go_wp2_with fail
  clear hmk hw1
  go_loopw [17] (fun i wr => ∃ m : Nat, m ≤ n ∧ i = .int .i64 (m : Int) ∧ UW wr w.heap.size n (scatF k f m) ∧ Ext w wr) (fun i _ => n - (intOf i).toNat)
  case atStart => exact ⟨0, by omega, rfl, (newU_uw w n).congr fun i _ => by unfold scatF; rw [if_neg (by omega)], (Ext.refl w).alloc _⟩
  case round =>
    obtain ⟨m, hm, rfl, hu, kr⟩ := hrel
    have hsz := RW.lt hu
    by_cases hlt : m < n
    · obtain ⟨ad, rfl, hc⟩ := hX.cells (by omega)
      have hcell := cell_ext kr (hc m hlt)
      have hrl := (rev_two h0 h1 (show m < 2 ^ k by rw [← hk.out]; exact hlt)).2
      rw [← hk.out] at hrl
      have r0 := RW.cell hu hrl
      have z0 := RW.frozen hu (rev k m)
      have HS := Lib.hid (fun i (hi : i < n) => scatF_step h0 h1 f m i (by rw [← hk.out]; exact hlt) (by rw [← hk.out]; exact hi))
      have HRm := HRR.out m hlt
      have hdiv : (revW m : Int) / 2 ^ s = (rev k m : Int) := by
        rw [← HRm, Int.natCast_ediv, Int.natCast_pow]; rfl
      have hrw := revW_lt m (by omega)
      clear HRm hc
      generalize rev k m = y at *
      have i0 : (0 : Int) ≤ (y : Int) := by omega
      have i1 : (y : Int) < (n : Int) := by omega
      go_wp2_with fail
      refine (rev_any m _ (by omega)).mono ?_
      rintro e w2 ⟨rfl, rfl⟩
      generalize revW m = x at *
      go_wp2_with fail
      have hu2 := (hu.set hrl (f m)).congr HS.out
      have kr2 := kr.set (p := ⟨w.heap.size, y, none⟩) (Nat.le_refl _) (.int .u64 (f m : Int))
      exact ⟨⟨m + 1, by omega, by go_num, hu2, kr2⟩, by simp [intOf]; omega⟩
    · obtain rfl : m = n := by omega
      have hfin := hu.congr (f' := fun i => f (rev k i)) fun i hi => by
        have := (rev_two h0 h1 (show i < 2 ^ k by rw [← hk.out]; exact hi)).2
        rw [← hk.out] at this
        unfold scatF; rw [if_pos this]
      have HF := Lib.hid hfin
      clear hfin hu
      go_wp2
      go_ret
      exact ⟨rfl, HF.out, kr⟩
end Go.Proofs.YtpgcapobbmbchaaDoor

/-
  What transform, values and coefficients of package ntt answer.
-/
namespace Go.Proofs.YtpgcapobbmbchaaDoor
open Go.RowKit
set_option linter.unusedVariables false
set_option maxRecDepth 100000

theorem pow_split {n k s : Nat} (h : n = 2 ^ k) (hs : s < k) : n = 2 ^ (k - s - 1) * (2 * 2 ^ s) := by
  rw [h, ← Nat.pow_succ', ← Nat.pow_add]; congr 1; omega
/-- What a table must be that makes values: a root of -1, and its powers. -/
structure Good (n q k : Nat) (r v : Nat) (a : Nat → Nat) : Prop where
  nk : n = 2 ^ k
  k0 : 1 ≤ k
  k9 : k ≤ 9
  q0 : 2 ≤ q
  q1 : q ≤ 2305843009213693952
  hr : M (q : Int) ((r : Int) ^ n) (-1)
  hv : M (q : Int) ((v : Int) ^ n) (-1)
  rv : M (q : Int) ((r : Int) * (v : Int)) 1
  pw : ∀ i, i < 2 * n → a i = r ^ i % q
theorem Good.lt {n q k r v : Nat} {a : Nat → Nat} (h : Good n q k r v a) (i : Nat) (hi : i < 2 * n) : a i < q := by
  rw [h.pw i hi]; exact Nat.mod_lt _ (by have := h.q0; omega)
theorem one_side {q x y z : Int} (h1 : M q (x * z) 1) (h2 : M q (y * z) 1) : M q x y := by
  have e1 : M q (x * (y * z)) x := by have := (M.rfl (q := q) (a := x)).mul h2; rwa [Int.mul_one] at this
  have e2 : M q (x * (y * z)) y := by
    have := (M.rfl (q := q) (a := y)).mul h1
    rw [Int.mul_one] at this
    refine (M.of ?_).trans this
    rw [← Int.mul_assoc, ← Int.mul_assoc, Int.mul_comm x y]
  exact e1.symm.trans e2
theorem Good.on {n q k r v : Nat} {a : Nat → Nat} (h : Good n q k r v a) {K p hh : Nat} (hn : n = K * (2 * hh)) (hp : p < hh) : M (q : Int) (a ((2 * p + 1) * K) : Int) (pt (r : Int) (r : Int) K p) := by
  rw [h.pw _ (by
    rw [hn, show 2 * (K * (2 * hh)) = (2 * (2 * hh)) * K by rw [Nat.mul_comm K, ← Nat.mul_assoc]]
    refine Nat.mul_lt_mul_of_pos_right (by omega) ?_
    rcases Nat.eq_zero_or_pos K with h1 | h1
    · rw [h1, Nat.zero_mul] at hn; have := h.nk; have := Nat.two_pow_pos k; omega
    · exact h1)]
  refine (M.pow_nat _ _).trans (M.of ?_)
  unfold pt
  rw [← Int.pow_add]; congr 1
  rw [Nat.add_mul, Nat.one_mul, Nat.add_comm, Nat.mul_right_comm]
theorem Good.back {n q k r v : Nat} {a : Nat → Nat} (h : Good n q k r v a) {K p hh : Nat} (hn : n = K * (2 * hh)) (hp : p < hh) : M (q : Int) (a ((2 * n - 2 * p * K) % (2 * n)) : Int) (pt 1 (v : Int) K p) := by
  have hn0 : 0 < n := by rw [h.nk]; exact Nat.two_pow_pos k
  have hle : 2 * p * K ≤ 2 * n := by
    rw [hn, show 2 * (K * (2 * hh)) = (2 * (2 * hh)) * K by rw [Nat.mul_comm K, ← Nat.mul_assoc]]
    exact Nat.mul_le_mul_right K (by omega)
  rw [h.pw _ (Nat.mod_lt _ (by omega))]
  refine (M.pow_nat _ _).trans ?_
  have hone : M (q : Int) ((r : Int) ^ (2 * n)) 1 := by
    rw [Nat.mul_comm, Int.pow_mul]
    exact (h.hr.pow 2).trans (M.of rfl)
  have e1 : pt 1 (v : Int) K p = (v : Int) ^ (2 * p * K) := by
    unfold pt; rw [Int.one_pow, Int.one_mul, Nat.mul_right_comm]
  rw [e1]
  refine one_side (z := (r : Int) ^ (2 * p * K)) ?_ ?_
  · rw [← Int.pow_add]
    rcases Nat.eq_zero_or_pos (2 * p * K) with h0 | h0
    · rw [h0, Nat.sub_zero, Nat.mod_self]; exact M.of rfl
    · rw [Nat.mod_eq_of_lt (by omega), show 2 * n - 2 * p * K + 2 * p * K = 2 * n by omega]
      exact hone
  · rw [Int.mul_comm]; exact cancel h.rv _

set_option maxHeartbeats 2000000 in
theorem transform_on (p n q k r v : Nat) (a e : Nat → Nat) (gp ge : Nat) (A : Option Addr) (cp : Nat) (f : Nat → Nat) (w : World) (hT : Tb w w.heap.size p n q a e gp ge) (hG : Hid (Good n q k r v a)) (hX : FX w A n cp f) (hf : Hid (∀ i, i < n → f i < q)) :
    Calls Tryd.prog 158 #[.pointer (some ⟨p, 0, none⟩), .slice A n cp, .func (.func 159) #[.pointer (some ⟨p, 0, none⟩)] #[]] w fun ee w' => ∃ F : Nat → Nat, ee = .returned (.slice (some ⟨w.heap.size, 0, none⟩) n n) ∧ UW w' w.heap.size n F ∧ Hid (∀ i, i < n → F i < q ∧ M (q : Int) (F i : Int) (S n (fun j => (f j : Int) * ((r : Int) * (r : Int) ^ (2 * i)) ^ j))) ∧ Ext w w' := by
  have HT := Lib.hid hT
  have hp := hT.hp
  have t0 := hT.size
  have hk0 := hG.out.k0
  have hk9 := hG.out.k9
  have hq0 := hG.out.q0
  have hq1 := hG.out.q1
  have HN := Lib.hid hG.out.nk
  have hn2 := two_le hk0 hk9
  rw [← HN.out] at hn2
  obtain ⟨hn0, hn1⟩ := hn2
  clear hT
  go_enter Tryd.func158, Tryd.ntmps158
  go_wp2_with fail
  refine (scattered_any A n cp k f w hX HN hk0 hk9).mono ?_
  rintro ee w1 ⟨rfl, hu, k1⟩
  have hst : Joined q ((r : Int) : Int) ((r : Int) : Int) (fun i => (f i : Int)) k 1 (fun i => f (rev k i)) := Joined.start fun b _ => rfl
  have hlt0 : ∀ i, i < n → f (rev k i) < q := fun i hi => by
    have := (rev_two hk0 hk9 (show i < 2 ^ k by rw [← HN.out]; exact hi)).2
    rw [← HN.out] at this
    exact hf.out _ this
  have HST := Lib.hid hst
  have HLT := Lib.hid hlt0
  clear hst hlt0
  go_wp2_with fail
  go_loopw [8] (fun i wr => ∃ (s : Nat) (F : Nat → Nat), s ≤ k ∧ i = .int .i64 ((2 ^ s : Nat) : Int) ∧ UW wr w.heap.size n F ∧ Hid (∀ i, i < n → F i < q) ∧ Hid (Joined q ((r : Int) : Int) ((r : Int) : Int) (fun i => (f i : Int)) (k - s) (2 ^ s) F) ∧ Ext w wr) (fun i _ => n - (intOf i).toNat)
  case atStart => exact ⟨0, _, by omega, rfl, hu, HLT, HST, k1⟩
  case round =>
    obtain ⟨s, F, hs, rfl, hu2, hl2, hj2, kr⟩ := hrel
    clear hu HST HLT k1
    have p0 := cell_ext kr t0
    have hsz := RW.lt hu2
    have hh0 := Nat.two_pow_pos s
    by_cases hlt : s < k
    · have HK := Lib.hid (pow_split HN.out hlt)
      have hhn : 2 ^ s < n := by rw [HN.out]; exact Nat.pow_lt_pow_right (by omega) hlt
      have hnx := Joined.next (q := q) (c := ((r : Int) : Int)) (g := ((r : Int) : Int)) (a := fun i => (f i : Int)) (k := k - s - 1) (h := 2 ^ s) (f := F) (b := fun P => a ((2 * P + 1) * 2 ^ (k - s - 1))) (by omega) (by
        rw [show 2 * 2 ^ (k - s - 1) * 2 ^ s = n by rw [HK.out, Nat.mul_comm 2 (2 ^ (k - s - 1)), Nat.mul_assoc]]
        exact hG.out.hr) (fun p hp => hG.out.on HK.out hp) (by rw [show k - s - 1 + 1 = k - s by omega]; exact hj2.out)
      rw [show k - s - 1 = k - (s + 1) by omega, show 2 * 2 ^ s = 2 ^ (s + 1) by rw [Nat.pow_succ, Nat.mul_comm]] at hnx
      have HNX := Lib.hid hnx
      have HL := Lib.hid (fun i (_ : i < n) => joinF_lt (q := q) (h := 2 ^ s) (b := fun P => a ((2 * P + 1) * 2 ^ (k - (s + 1)))) (f := F) (by omega) i)
      have HP := Lib.hid (show 2 ^ (s + 1) = 2 ^ s * 2 by rw [Nat.pow_succ])
      clear hnx
      have e1 : k - s - 1 = k - (s + 1) := by omega
      rw [e1] at HK
      clear e1
      generalize 2 ^ (k - (s + 1)) = K at *
      generalize 2 ^ s = hf2 at *
      go_wp2_with fail
      refine (join_on w.heap.size p n q hf2 K a e gp ge w.heap.size F wr (HT.out.below kr) hu2 (by omega) (Nat.le_refl _) HK hh0 (by omega) (by omega) (by omega) hq1 hl2 (Lib.hid hG.out.lt)).mono ?_
      rintro ee w2 ⟨rfl, hu3, k3⟩
      go_wp2
      refine ⟨⟨s + 1, _, by omega, ?_, hu3, HL, HNX, Below.trans kr k3⟩, ?_⟩
      · rw [HP.out]; go_num
      · simp [intOf]; omega
    · obtain rfl : s = k := by omega
      have hfin : ∀ i, i < n → F i < q ∧ M (q : Int) (F i : Int) (S n (fun j => (f j : Int) * ((r : Int) * (r : Int) ^ (2 * i)) ^ j)) := fun i hi => ⟨hl2.out i hi, by
        have h1 := hj2.out
        rw [Nat.sub_self, ← HN.out] at h1
        exact h1.done hi⟩
      have HF := Lib.hid hfin
      have hge : ((2 ^ s : Nat) : Int) = (n : Int) := by rw [HN.out]
      rw [hge]
      clear hge hfin
      go_wp2
      go_ret
      exact ⟨F, rfl, hu2, HF, kr⟩

set_option maxHeartbeats 2000000 in
theorem transform_back (p n q k r v : Nat) (a e : Nat → Nat) (gp ge : Nat) (A : Option Addr) (cp : Nat) (f : Nat → Nat) (w : World) (hT : Tb w w.heap.size p n q a e gp ge) (hG : Hid (Good n q k r v a)) (hX : FX w A n cp f) (hf : Hid (∀ i, i < n → f i < q)) :
    Calls Tryd.prog 158 #[.pointer (some ⟨p, 0, none⟩), .slice A n cp, .func (.func 160) #[.pointer (some ⟨p, 0, none⟩)] #[]] w fun ee w' => ∃ F : Nat → Nat, ee = .returned (.slice (some ⟨w.heap.size, 0, none⟩) n n) ∧ UW w' w.heap.size n F ∧ Hid (∀ i, i < n → F i < q ∧ M (q : Int) (F i : Int) (S n (fun j => (f j : Int) * ((1 : Int) * (v : Int) ^ (2 * i)) ^ j))) ∧ Ext w w' := by
  have HT := Lib.hid hT
  have hp := hT.hp
  have t0 := hT.size
  have hk0 := hG.out.k0
  have hk9 := hG.out.k9
  have hq0 := hG.out.q0
  have hq1 := hG.out.q1
  have HN := Lib.hid hG.out.nk
  have hn2 := two_le hk0 hk9
  rw [← HN.out] at hn2
  obtain ⟨hn0, hn1⟩ := hn2
  clear hT
  go_enter Tryd.func158, Tryd.ntmps158
  go_wp2_with fail
  refine (scattered_any A n cp k f w hX HN hk0 hk9).mono ?_
  rintro ee w1 ⟨rfl, hu, k1⟩
  have hst : Joined q ((1 : Int) : Int) ((v : Int) : Int) (fun i => (f i : Int)) k 1 (fun i => f (rev k i)) := Joined.start fun b _ => rfl
  have hlt0 : ∀ i, i < n → f (rev k i) < q := fun i hi => by
    have := (rev_two hk0 hk9 (show i < 2 ^ k by rw [← HN.out]; exact hi)).2
    rw [← HN.out] at this
    exact hf.out _ this
  have HST := Lib.hid hst
  have HLT := Lib.hid hlt0
  clear hst hlt0
  go_wp2_with fail
  go_loopw [8] (fun i wr => ∃ (s : Nat) (F : Nat → Nat), s ≤ k ∧ i = .int .i64 ((2 ^ s : Nat) : Int) ∧ UW wr w.heap.size n F ∧ Hid (∀ i, i < n → F i < q) ∧ Hid (Joined q ((1 : Int) : Int) ((v : Int) : Int) (fun i => (f i : Int)) (k - s) (2 ^ s) F) ∧ Ext w wr) (fun i _ => n - (intOf i).toNat)
  case atStart => exact ⟨0, _, by omega, rfl, hu, HLT, HST, k1⟩
  case round =>
    obtain ⟨s, F, hs, rfl, hu2, hl2, hj2, kr⟩ := hrel
    clear hu HST HLT k1
    have p0 := cell_ext kr t0
    have hsz := RW.lt hu2
    have hh0 := Nat.two_pow_pos s
    by_cases hlt : s < k
    · have HK := Lib.hid (pow_split HN.out hlt)
      have hhn : 2 ^ s < n := by rw [HN.out]; exact Nat.pow_lt_pow_right (by omega) hlt
      have hnx := Joined.next (q := q) (c := ((1 : Int) : Int)) (g := ((v : Int) : Int)) (a := fun i => (f i : Int)) (k := k - s - 1) (h := 2 ^ s) (f := F) (b := fun P => a ((2 * n - 2 * P * 2 ^ (k - s - 1)) % (2 * n))) (by omega) (by
        rw [show 2 * 2 ^ (k - s - 1) * 2 ^ s = n by rw [HK.out, Nat.mul_comm 2 (2 ^ (k - s - 1)), Nat.mul_assoc]]
        exact hG.out.hv) (fun p hp => hG.out.back HK.out hp) (by rw [show k - s - 1 + 1 = k - s by omega]; exact hj2.out)
      rw [show k - s - 1 = k - (s + 1) by omega, show 2 * 2 ^ s = 2 ^ (s + 1) by rw [Nat.pow_succ, Nat.mul_comm]] at hnx
      have HNX := Lib.hid hnx
      have HL := Lib.hid (fun i (_ : i < n) => joinF_lt (q := q) (h := 2 ^ s) (b := fun P => a ((2 * n - 2 * P * 2 ^ (k - (s + 1))) % (2 * n))) (f := F) (by omega) i)
      have HP := Lib.hid (show 2 ^ (s + 1) = 2 ^ s * 2 by rw [Nat.pow_succ])
      clear hnx
      have e1 : k - s - 1 = k - (s + 1) := by omega
      rw [e1] at HK
      clear e1
      generalize 2 ^ (k - (s + 1)) = K at *
      generalize 2 ^ s = hf2 at *
      go_wp2_with fail
      refine (join_back w.heap.size p n q hf2 K a e gp ge w.heap.size F wr (HT.out.below kr) hu2 (by omega) (Nat.le_refl _) HK hh0 (by omega) (by omega) (by omega) hq1 hl2 (Lib.hid hG.out.lt)).mono ?_
      rintro ee w2 ⟨rfl, hu3, k3⟩
      go_wp2
      refine ⟨⟨s + 1, _, by omega, ?_, hu3, HL, HNX, Below.trans kr k3⟩, ?_⟩
      · rw [HP.out]; go_num
      · simp [intOf]; omega
    · obtain rfl : s = k := by omega
      have hfin : ∀ i, i < n → F i < q ∧ M (q : Int) (F i : Int) (S n (fun j => (f j : Int) * ((1 : Int) * (v : Int) ^ (2 * i)) ^ j)) := fun i hi => ⟨hl2.out i hi, by
        have h1 := hj2.out
        rw [Nat.sub_self, ← HN.out] at h1
        exact h1.done hi⟩
      have HF := Lib.hid hfin
      have hge : ((2 ^ s : Nat) : Int) = (n : Int) := by rw [HN.out]
      rw [hge]
      clear hge hfin
      go_wp2
      go_ret
      exact ⟨F, rfl, hu2, HF, kr⟩
end Go.Proofs.YtpgcapobbmbchaaDoor

/-
  What values and coefficients of package ntt answer.
-/
namespace Go.Proofs.YtpgcapobbmbchaaDoor
open Go.RowKit
set_option linter.unusedVariables false
set_option maxRecDepth 100000

set_option maxHeartbeats 1000000 in
theorem values_in (p n q k r v : Nat) (a e : Nat → Nat) (gp ge : Nat) (A : Option Addr) (cp : Nat) (f : Nat → Nat) (w : World) (hT : Tb w w.heap.size p n q a e gp ge) (hG : Hid (Good n q k r v a)) (hX : FX w A n cp f) (hf : Hid (∀ i, i < n → f i < q)) :
    Calls Tryd.prog 142 #[.pointer (some ⟨p, 0, none⟩), .slice A n cp] w fun ee w' => ∃ F : Nat → Nat, ee = .returned (.slice (some ⟨w.heap.size, 0, none⟩) n n) ∧ UW w' w.heap.size n F ∧ Hid (∀ i, i < n → F i < q ∧ M (q : Int) (F i : Int) (vals (r : Int) n (fun j => (f j : Int)) i)) ∧ Ext w w' := by
  have HT := Lib.hid hT
  clear hT
  go_enter Tryd.func142, Tryd.ntmps142
  go_wp2_with fail
  refine (transform_on p n q k r v a e gp ge A cp f w HT.out hG hX hf).mono ?_
  rintro ee w1 ⟨F, rfl, hu, hF, k1⟩
  have HF := Lib.hid (show ∀ i, i < n → F i < q ∧ M (q : Int) (F i : Int) (vals (r : Int) n (fun j => (f j : Int)) i) from fun i hi => ⟨(hF.out i hi).1, (hF.out i hi).2.trans (M.of (by
    unfold vals
    refine S_congr fun j _ => ?_
    rw [show (r : Int) * (r : Int) ^ (2 * i) = (r : Int) ^ (2 * i + 1) by rw [Int.pow_succ, Int.mul_comm], ← Int.pow_mul]))⟩)
  go_wp2
  go_ret
  exact ⟨F, rfl, hu, HF, k1⟩
/-- What the ends make good: each a power of the root's inverse, divided by n. -/
def Ends (n q v : Nat) (e : Nat → Nat) : Prop := ∃ u : Nat, M (q : Int) ((n : Int) * (u : Int)) 1 ∧ ∀ i, i < n → e i < q ∧ M (q : Int) (e i : Int) ((u : Int) * (v : Int) ^ i)
set_option maxHeartbeats 2000000 in
theorem coefficients_in (p n q k r v : Nat) (a e : Nat → Nat) (gp ge : Nat) (A : Option Addr) (cp : Nat) (f : Nat → Nat) (w : World) (hT : Tb w w.heap.size p n q a e gp ge) (hG : Hid (Good n q k r v a)) (hE : Hid (Ends n q v e)) (hX : FX w A n cp f) (hf : Hid (∀ i, i < n → f i < q)) :
    Calls Tryd.prog 143 #[.pointer (some ⟨p, 0, none⟩), .slice A n cp] w fun ee w' => ∃ F : Nat → Nat, ee = .returned (.slice (some ⟨w.heap.size, 0, none⟩) n n) ∧ UW w' w.heap.size n F ∧ Hid (∀ i, i < n → F i < q ∧ M (q : Int) ((n : Int) * (F i : Int)) (back (v : Int) n (fun j => (f j : Int)) i)) ∧ Ext w w' := by
  have HT := Lib.hid hT
  have t1 := hT.prime
  have t3 := hT.ends
  have hp := hT.hp
  have hge := hT.hge
  have hq0 := hG.out.q0
  have hq1 := hG.out.q1
  have hn2 := two_le hG.out.k0 hG.out.k9
  rw [← hG.out.nk] at hn2
  obtain ⟨hn0, hn1⟩ := hn2
  clear hT
  obtain ⟨u, hu1, he⟩ := hE.out
  have HU := Lib.hid hu1
  have HEE := Lib.hid he
  clear hu1 he hE
  go_enter Tryd.func143, Tryd.ntmps143
  go_wp2_with fail
  refine (transform_back p n q k r v a e gp ge A cp f w HT.out hG hX hf).mono ?_
  rintro ee w1 ⟨F, rfl, hu, hF, k1⟩
  have t3' := cell_ext k1 t3
  go_wp2_with fail
  clear t3'
  go_loopw [18] (fun i wr => ∃ m : Nat, m ≤ n ∧ i = .int .i64 (m : Int) ∧ UW wr w.heap.size n (fun i => if i < m then F i * e i % q else F i) ∧ Ext w wr) (fun i _ => n - (intOf i).toNat)
  case atStart => exact ⟨0, by omega, rfl, hu.congr fun i _ => by rw [if_neg (by omega)], k1⟩
  case round =>
    obtain ⟨m, hm, rfl, hu2, kr⟩ := hrel
    clear hu
    have hsz := RW.lt hu2
    by_cases hlt : m < n
    · have hen := HT.out.en
      have c0 := cell_ext kr (hen.by_ hlt)
      have c1 := cell_ext kr (hen.share hlt)
      have t1' := cell_ext kr t1
      have f0 := RW.cell hu2 hlt
      have z0 := RW.frozen hu2 m
      have hFl := (hF.out m hlt).1
      have hel := (HEE.out m hlt).1
      simp only [Nat.lt_irrefl, if_false] at f0
      have HS := Lib.hid (show ∀ i, i < n → (if i = m then F m * e m % q else if i < m then F i * e i % q else F i) = if i < m + 1 then F i * e i % q else F i from fun i _ => by
        by_cases h1 : i = m
        · subst h1; rw [if_pos rfl, if_pos (by omega)]
        · rw [if_neg h1]
          by_cases h2 : i < m
          · rw [if_pos h2, if_pos (by omega)]
          · rw [if_neg h2, if_neg (by omega)])
      generalize F m = Fm at *
      generalize e m = em at *
      have i0 : (0 : Int) ≤ (m : Int) := by omega
      have i1 : (m : Int) < (n : Int) := by omega
      clear hen
      go_wp2_with fail
      have kV : Ext wr (wr.alloc (Obj.cells #[Value.int IntKind.u64 (em : Int), Value.int IntKind.u64 (shr em q : Int)] 147)) := (Ext.refl wr).alloc _
      have x0 : (wr.alloc (Obj.cells #[Value.int IntKind.u64 (em : Int), Value.int IntKind.u64 (shr em q : Int)] 147)).cell? ⟨wr.heap.size, 0, none⟩ = some (.int .u64 (em : Int)) := by simp
      have x1 : (wr.alloc (Obj.cells #[Value.int IntKind.u64 (em : Int), Value.int IntKind.u64 (shr em q : Int)] 147)).cell? ⟨wr.heap.size, 1, none⟩ = some (.int .u64 (shr em q : Int)) := by simp
      generalize wr.alloc (Obj.cells #[Value.int IntKind.u64 (em : Int), Value.int IntKind.u64 (shr em q : Int)] 147) = V at *
      have v0 := cell_ext kV f0
      have v1 := cell_ext kV t1'
      have zV := kept_free kV hsz z0
      have huV := hu2.below (B := 0) kV
      have krV := kr.trans kV
      obtain ⟨X, hX0⟩ : ∃ X, X = wr.heap.size := ⟨_, rfl⟩
      rw [← hX0] at x0 x1 hsz ⊢
      have hXg : X ≠ w.heap.size := by omega
      have hpg : p ≠ w.heap.size := by omega
      clear hX0 f0 z0 t1' c0 c1 kr hu2 kV
      go_region_law (first
          | (go_simp; go_at_call 161; refine (times_m Fm em q _ (by omega) hq1 hel (by omega)).mono ?_; rintro e2 w3 ⟨y, HM, hlm, rfl, k3⟩; have k3' := (Ext.refl _).drew.trans k3; have d0 := cell_ext k3' v0; have z3 := kept_free k3' (RW.lt huV) zV)
          | fail)
      all_goals
        have hu4 := (UW.below (B := 0) huV k3').set hlt y
        have kr4 := (krV.trans k3').set (p := ⟨w.heap.size, m, none⟩) (Nat.le_refl _) (.int .u64 (y : Int))
        have hu5 := hu4.congr (f' := fun i => if i < m + 1 then F i * e i % q else F i) fun i hi => by rw [HM.out]; exact HS.out i hi
        clear hu4 huV
        go_wp2
        exact ⟨⟨m + 1, by omega, by go_num, hu5, kr4⟩, by simp [intOf]; omega⟩
    · obtain rfl : m = n := by omega
      have hfin := hu2.congr (f' := fun i => F i * e i % q) fun i hi => by rw [if_pos hi]
      have HF := Lib.hid (show ∀ i, i < m → F i * e i % q < q ∧ M (q : Int) ((m : Int) * ((F i * e i % q : Nat) : Int)) (back (v : Int) m (fun j => (f j : Int)) i) from fun i hi => ⟨Nat.mod_lt _ (by omega), by
        have h1 := (hF.out i hi).2
        have h2 := (HEE.out i hi).2
        refine (M.rfl.mul ((M.nat _).trans ((M.of (Int.natCast_mul _ _)).trans (h1.mul h2)))).trans ?_
        have e1 : back (v : Int) m (fun j => (f j : Int)) i = S m (fun j => (f j : Int) * (1 * (v : Int) ^ (2 * i)) ^ j) * (v : Int) ^ i := by
          unfold back
          rw [S_mul_right]
          refine S_congr fun j _ => ?_
          rw [Int.one_mul, ← Int.pow_mul, Int.mul_assoc, ← Int.pow_add]
          congr 2
          rw [Nat.add_mul, Nat.one_mul, Nat.mul_right_comm]
        rw [e1]
        generalize S m (fun j => (f j : Int) * (1 * (v : Int) ^ (2 * i)) ^ j) = X at *
        generalize (v : Int) ^ i = Y at *
        have e2 : (m : Int) * (X * ((u : Int) * Y)) = (m : Int) * (u : Int) * (X * Y) := by
          rw [← Int.mul_assoc X, Int.mul_comm X (u : Int), Int.mul_assoc, Int.mul_assoc]
        rw [e2]
        have := HU.out.mul (M.rfl (a := X * Y))
        rwa [Int.one_mul] at this⟩)
      clear hu2
      go_wp2
      go_ret
      exact ⟨_, rfl, hfin, HF, kr⟩
end Go.Proofs.YtpgcapobbmbchaaDoor

/-
  What the calls of package ntt answer: Values, Back, Mul, of lists that fit; of a nil table.
-/
namespace Go.Proofs.YtpgcapobbmbchaaDoor
open Go.RowKit
set_option linter.unusedVariables false
set_option maxRecDepth 100000

set_option maxHeartbeats 1000000 in
theorem takes_yes (B p n q : Nat) (a e : Nat → Nat) (gp ge : Nat) (A : Option Addr) (c : Nat) (f : Nat → Nat) (w : World) (hT : Tb w B p n q a e gp ge) (hX : FX w A n c f) (hn : n ≤ 100000) (hq : q < 18446744073709551616) (hf : Hid (∀ i, i < n → f i < q)) :
    Calls Tryd.prog 157 #[.pointer (some ⟨p, 0, none⟩), .slice A n c] w fun ee w' => ee = .returned (.bool true) ∧ w = w' := by
  have t0 := hT.size
  have t1 := hT.prime
  go_enter Tryd.func157, Tryd.ntmps157
  go_wp2
  go_loop [16] (fun i => ∃ m : Nat, m ≤ n ∧ i = .int .i64 (m : Int)) (fun i => n - (intOf i).toNat)
  case atStart => exact ⟨0, by omega, rfl⟩
  case round =>
    obtain ⟨m, hm, rfl⟩ := hrel
    by_cases hlt : m < n
    · obtain ⟨ad, rfl, hc⟩ := hX.cells (by omega)
      have hcell := hc m hlt
      have hl := hf.out m hlt
      clear hc
      generalize f m = x at *
      go_wp2
      exact ⟨⟨m + 1, by omega, by go_num⟩, by simp [intOf]; omega⟩
    · go_wp2
      go_ret
      exact ⟨rfl, rfl⟩
set_option maxHeartbeats 1000000 in
theorem check_yes (B p n q g m : Nat) (a e : Nat → Nat) (gp ge : Nat) (A : Nat → Option Addr) (c : Nat → Nat) (f : Nat → Nat → Nat) (w : World) (hT : Tb w B p n q a e gp ge) (hm : m ≤ 1000) (hn0 : 0 < n) (hn : n ≤ 100000) (hq : q < 18446744073709551616)
    (hX : Hid (∀ j, j < m → w.cell? ⟨g, j, none⟩ = some (.slice (A j) n (c j)) ∧ FX w (A j) n (c j) (f j) ∧ ∀ i, i < n → f j i < q)) :
    Calls Tryd.prog 141 #[.pointer (some ⟨p, 0, none⟩), .slice (some ⟨g, 0, none⟩) m m] w fun ee w' => ee = .returned (.int .i64 0) ∧ w = w' := by
  have t0 := hT.size
  have HT := Lib.hid hT
  clear hT
  have hz : ((n : Int) == 0) = false := by simp; omega
  go_enter Tryd.func141, Tryd.ntmps141
  go_wp2
  go_loop [18] (fun i => ∃ k : Nat, k ≤ m ∧ i = .int .i64 (k : Int)) (fun i => m - (intOf i).toNat)
  case atStart => exact ⟨0, by omega, rfl⟩
  case round =>
    obtain ⟨k, hk, rfl⟩ := hrel
    by_cases hlt : k < m
    · obtain ⟨h1, h2, h3⟩ := hX.out k hlt
      have H3 := Lib.hid h3
      clear h3
      go_wp2_with fail
      refine (takes_yes B p n q a e gp ge (A k) (c k) (f k) w HT.out h2 hn hq H3).mono ?_
      rintro ee w' ⟨rfl, rfl⟩
      go_wp2
      exact ⟨⟨k + 1, by omega, by go_num⟩, by simp [intOf]; omega⟩
    · go_wp2
      go_ret
      exact ⟨rfl, rfl⟩
theorem check_nil (g : Option Addr) (m c : Nat) (w : World) :
    Calls Tryd.prog 141 #[.pointer none, .slice g m c] w fun ee w' => ee = .returned (.int .i64 1) ∧ w = w' := by
  go_enter Tryd.func141, Tryd.ntmps141
  go_wp2
  go_ret
  exact ⟨rfl, rfl⟩
/-- What a table that New made gives: its memory, its root and the ends. -/
structure Table (w : World) (p n q k r v : Nat) : Prop where
  ex : ∃ (a e : Nat → Nat) (gp ge : Nat), Tb w w.heap.size p n q a e gp ge ∧ Good n q k r v a ∧ Ends n q v e
theorem Table.ext {w w' : World} {p n q k r v : Nat} (h : Table w p n q k r v) (k1 : Ext w w') : Table w' p n q k r v := by
  obtain ⟨a, e, gp, ge, h1, h2, h3⟩ := h.ex
  exact ⟨a, e, gp, ge, h1.ext k1, h2, h3⟩
/-- The slice that holds one list, or two, behind the table. -/
theorem one_list {w : World} {A : Option Addr} {n c q : Nat} {f : Nat → Nat} (hX : FX w A n c f) (hf : ∀ i, i < n → f i < q) :
    ∀ j, j < 1 → (w.alloc (.cells #[.slice A n c] 22)).cell? ⟨w.heap.size, j, none⟩ = some (.slice A n c) ∧ FX (w.alloc (.cells #[.slice A n c] 22)) A n c f ∧ ∀ i, i < n → f i < q := fun j hj => by
  obtain rfl : j = 0 := by omega
  exact ⟨by simp, hX.ext ((Ext.refl w).alloc _), hf⟩
theorem mulNil_any (A A' : Option Addr) (n c n' c' : Nat) (w : World) : Calls Tryd.prog 114 #[.pointer none, .slice A n c, .slice A' n' c'] w fun ee w' => ee = .returned (.tuple #[.slice none 0 0, .int .i64 1]) ∧ Ext w w' := by
  go_enter Tryd.func114, Tryd.ntmps114
  go_wp2_with fail
  refine (check_nil _ _ _ _).mono ?_
  rintro ee w' ⟨rfl, rfl⟩
  go_wp2
  go_ret2
  exact ⟨rfl, (Ext.refl w).alloc _⟩
theorem two_lists {w : World} {A A' : Option Addr} {n c c' q : Nat} {f f' : Nat → Nat} (hX : FX w A n c f) (hf : ∀ i, i < n → f i < q) (hX' : FX w A' n c' f') (hf' : ∀ i, i < n → f' i < q) :
    ∀ j, j < 2 → (w.alloc (.cells #[.slice A n c, .slice A' n c'] 22)).cell? ⟨w.heap.size, j, none⟩ = some (.slice (if j = 0 then A else A') n (if j = 0 then c else c')) ∧ FX (w.alloc (.cells #[.slice A n c, .slice A' n c'] 22)) (if j = 0 then A else A') n (if j = 0 then c else c') (if j = 0 then f else f') ∧ ∀ i, i < n → (if j = 0 then f else f') i < q := fun j hj => by
  rcases (show j = 0 ∨ j = 1 by omega) with rfl | rfl
  · exact ⟨by simp, hX.ext ((Ext.refl w).alloc _), hf⟩
  · exact ⟨by simp, hX'.ext ((Ext.refl w).alloc _), hf'⟩
theorem mul_m (x b q : Nat) (w : World) (hq0 : 0 < q) (hq : q ≤ 2305843009213693952) (hb : b < q) (hx : x < q) :
    Calls Tryd.prog 139 #[.int .u64 (x : Int), .int .u64 (b : Int), .int .u64 (q : Int)] w fun e w' => ∃ m : Nat, Hid (m = x * b % q) ∧ m < q ∧ e = .returned (.int .u64 (m : Int)) ∧ Ext w w' :=
  (mulN x b q w hq0 (by omega) (by omega) (by omega)).mono fun e w' ⟨he, hw⟩ => ⟨_, Lib.hid rfl, Nat.mod_lt _ hq0, he, hw⟩
set_option maxHeartbeats 4000000 in
theorem mulT_any (p n q k r v : Nat) (A A' : Option Addr) (c c' : Nat) (f f' : Nat → Nat) (w : World) (hT : Table w p n q k r v) (hX : FX w A n c f) (hf : Hid (∀ i, i < n → f i < q)) (hX' : FX w A' n c' f') (hf' : Hid (∀ i, i < n → f' i < q)) :
    Calls Tryd.prog 114 #[.pointer (some ⟨p, 0, none⟩), .slice A n c, .slice A' n c'] w fun ee w' => ∃ (g : Nat) (F : Nat → Nat), ee = .returned (.tuple #[.slice (some ⟨g, 0, none⟩) n n, .int .i64 0]) ∧ UW w' g n F ∧ Hid (∀ i, i < n → F i < q ∧ M (q : Int) ((n : Int) * (F i : Int)) (back (v : Int) n (fun j => vals (r : Int) n (fun j => (f j : Int)) j * vals (r : Int) n (fun j => (f' j : Int)) j) i)) ∧ Ext w w' := by
  obtain ⟨a, e, gp, ge, h1, h2, h3⟩ := hT.ex
  have hn2 := two_le h2.k0 h2.k9
  rw [← h2.nk] at hn2
  obtain ⟨hn0, hn1⟩ := hn2
  have hq1 := h2.q1
  have hq0 := h2.q0
  have H2 := Lib.hid h2
  have H3 := Lib.hid h3
  have HT := Lib.hid h1
  have HX := Lib.hid hX
  have HX' := Lib.hid hX'
  have H1 := Lib.hid (two_lists hX hf.out hX' hf'.out)
  clear h1 h2 h3 hT hX hX'
  go_enter Tryd.func114, Tryd.ntmps114
  go_wp2_with fail
  have kV : Ext w (w.alloc (.cells #[.slice A n c, .slice A' n c'] 22)) := (Ext.refl w).alloc _
  refine (check_yes _ p n q w.heap.size 2 a e gp ge (fun j => if j = 0 then A else A') (fun j => if j = 0 then c else c') (fun j => if j = 0 then f else f') _ (HT.out.ext kV) (by omega) (by omega) (by omega) (by omega) H1).mono ?_
  rintro ee w' ⟨rfl, rfl⟩
  clear H1
  go_wp2_with fail
  refine (values_in p n q k r v a e gp ge A c f _ (HT.out.ext kV) H2 (HX.out.ext kV) hf).mono ?_
  rintro ee w2 ⟨F, rfl, hu, hF, k2⟩
  rw [show (w.alloc (.cells #[.slice A n c, .slice A' n c'] 22)).heap.size = w.heap.size + 1 by simp] at hu
  have kw2 := kV.trans k2
  clear kV k2
  go_wp2_with fail
  refine (values_in p n q k r v a e gp ge A' c' f' _ (HT.out.ext kw2) H2 (HX'.out.ext kw2) hf').mono ?_
  rintro ee w3 ⟨G, rfl, hv, hG, k3⟩
  have hgs := RW.lt hu
  have hu3 := hu.below (B := 0) k3
  have kw3 := kw2.trans k3
  have hvs := RW.lt hv
  have hne : w2.heap.size ≠ w.heap.size + 1 := by omega
  clear hu kw2 k3
  obtain ⟨g1, hg1⟩ : ∃ g1, g1 = w.heap.size + 1 := ⟨_, rfl⟩
  obtain ⟨g2, hg2⟩ : ∃ g2, g2 = w2.heap.size := ⟨_, rfl⟩
  rw [← hg1] at hu3 hgs hne ⊢
  rw [← hg2] at hv hvs hne hgs ⊢
  have hg1w : w.heap.size ≤ g1 := by omega
  have hg2w : w.heap.size ≤ g2 := by omega
  clear hg1 hg2
  go_wp2_with fail
  go_loopw [27] (fun i wr => ∃ m : Nat, m ≤ n ∧ i = .int .i64 (m : Int) ∧ UW wr g1 n (fun i => if i < m then F i * G i % q else F i) ∧ UW wr g2 n G ∧ Ext w wr) (fun i _ => n - (intOf i).toNat)
  case atStart => exact ⟨0, by omega, rfl, hu3.congr fun i _ => by rw [if_neg (by omega)], hv, kw3⟩
  case round =>
    obtain ⟨m, hm, rfl, hu4, hv4, kr⟩ := hrel
    clear hu3 hv kw3
    have hsz := RW.lt hu4
    by_cases hlt : m < n
    · have t1 := (HT.out.ext kr).prime
      have hp := (HT.out).hp
      have hp2 := kr.size
      have f0 := RW.cell hu4 hlt
      have z0 := RW.frozen hu4 m
      have e0 := RW.cell hv4 hlt
      have hFl := (hF.out m hlt).1
      have hGl := (hG.out m hlt).1
      simp only [Nat.lt_irrefl, if_false] at f0
      have HS := Lib.hid (show ∀ i, i < n → (if i = m then F m * G m % q else if i < m then F i * G i % q else F i) = if i < m + 1 then F i * G i % q else F i from fun i _ => by
        by_cases h1 : i = m
        · subst h1; rw [if_pos rfl, if_pos (by omega)]
        · rw [if_neg h1]
          by_cases h2 : i < m
          · rw [if_pos h2, if_pos (by omega)]
          · rw [if_neg h2, if_neg (by omega)])
      generalize F m = Fm at *
      generalize G m = Gm at *
      have i0 : (0 : Int) ≤ (m : Int) := by omega
      have i1 : (m : Int) < (n : Int) := by omega
      have hpg : p ≠ g1 := by omega
      go_wp2_with fail
      go_region_law (first
          | (go_simp; go_at_call 139; refine (mul_m Fm Gm q _ (by omega) hq1 hGl hFl).mono ?_; rintro e2 w5 ⟨y, HM, hlm, rfl, k5⟩; have k5' := (Ext.refl _).drew.trans k5; have d0 := cell_ext k5' f0; have z3 := kept_free k5' hsz z0)
          | fail)
      all_goals
        have hu5 := (UW.below (B := 0) hu4 k5').set hlt y
        have hv5 := UW.below (B := 0) hv4 k5'
        have hv6 : UW (w5.setCell ⟨g1, m, none⟩ (.int .u64 (y : Int))) g2 n G := RW.keep hv5 (Below.heap_setCell _ _ _ _ (fun e => hne e))
        have kr5 := (kr.trans k5').set (p := ⟨g1, m, none⟩) hg1w (.int .u64 (y : Int))
        have hu6 := hu5.congr (f' := fun i => if i < m + 1 then F i * G i % q else F i) fun i hi => by rw [HM.out]; exact HS.out i hi
        clear hu5 hu4 hv4 hv5
        go_wp2
        exact ⟨⟨m + 1, by omega, by go_num, hu6, hv6, kr5⟩, by simp [intOf]; omega⟩
    · obtain rfl : m = n := by omega
      have hfin := hu4.congr (f' := fun i => F i * G i % q) fun i hi => by rw [if_pos hi]
      have HL := Lib.hid (show ∀ i, i < m → F i * G i % q < q from fun i _ => Nat.mod_lt _ (by omega))
      clear hu4 hv4
      go_wp2_with fail
      refine (coefficients_in p m q k r v a e gp ge (some ⟨g1, 0, none⟩) m _ _ (HT.out.ext kr) H2 H3 hfin.fx HL).mono ?_
      rintro ee w6 ⟨R, rfl, hr6, hR, k6⟩
      have HR := Lib.hid (show ∀ i, i < m → R i < q ∧ M (q : Int) ((m : Int) * (R i : Int)) (back (v : Int) m (fun j => vals (r : Int) m (fun j => (f j : Int)) j * vals (r : Int) m (fun j => (f' j : Int)) j) i) from fun i hi => ⟨(hR.out i hi).1, (hR.out i hi).2.trans (S_M fun j hj => M.mul ((M.nat _).trans ((M.of (Int.natCast_mul _ _)).trans ((hF.out j hj).2.mul (hG.out j hj).2))) M.rfl)⟩)
      go_wp2
      go_ret2
      exact ⟨_, R, rfl, hr6, HR, kr.trans k6⟩
end Go.Proofs.YtpgcapobbmbchaaDoor

/-
  What New of package ntt answers for moduli that pass the test and have a number that is no square.
-/
namespace Go.Proofs.YtpgcapobbmbchaaDoor
open Go.RowKit
set_option linter.unusedVariables false
set_option maxRecDepth 100000

/-- What is asked of n and q. -/
structure Fit (n q k : Nat) : Prop where
  nk : n = 2 ^ k
  k0 : 1 ≤ k
  k9 : k ≤ 9
  q1 : q < 2305843009213693952
  step : stepS (2 * n) = true
  one : q % (2 * n) = 1
  is_ : isS q = true
  sq : ∃ x, x < q ∧ noSq q x = true
/-- The root that is taken. -/
def rootS (q n x : Nat) : Nat := lr q (x ^ ((q - 1) / n) % q * (x ^ ((q - 1) / n) % q) % q) (n / 2 - 1) (x ^ ((q - 1) / n) % q) (x ^ ((q - 1) / n) % q)
theorem minus_one {q : Nat} (hq : 2 ≤ q) : M (q : Int) ((q - 1 : Nat) : Int) (-1) := by
  unfold M
  rw [show ((q - 1 : Nat) : Int) = -1 + (q : Int) by omega, Int.add_emod_right]
theorem first_sq {q x : Nat} (h : First q x) (hs : ∃ x, x < q ∧ noSq q x = true) : noSq q x = true := by
  rcases h with h | h
  · exact h.2.1
  · obtain ⟨y, hy, he⟩ := hs
    rw [h.2 y hy] at he; cases he
theorem Fit.good {n q k x : Nat} (h : Fit n q k) (hx : First q x) (a : Nat → Nat) (ha : ∀ i, a i = 1 * rootS q (2 * n) x ^ i % q) : rootS q (2 * n) x < q ∧ Good n q k (rootS q (2 * n) x) (a (2 * n - 1)) a := by
  have hq2 := isS_ge h.is_
  obtain ⟨r1, r2⟩ := root_good hq2 h.step h.one (first_sq hx h.sq)
  rw [show 2 * n / 2 = n by omega] at r2
  have hr : M (q : Int) ((rootS q (2 * n) x : Int) ^ n) (-1) := by
    have h1 := (M.pow_nat (q := q) (rootS q (2 * n) x) n).symm
    refine h1.trans ?_
    rw [show rootS q (2 * n) x ^ n % q = q - 1 by unfold rootS; rw [show 2 * n / 2 - 1 = n - 1 by omega]; exact r2]
    exact minus_one hq2
  have hn0 : 0 < n := by rw [h.nk]; exact Nat.two_pow_pos k
  refine ⟨by unfold rootS; exact r1, ?_⟩
  generalize rootS q (2 * n) x = r at *
  have hv1 : M (q : Int) (a (2 * n - 1) : Int) ((r : Int) ^ (2 * n - 1)) := by
    rw [ha, Nat.one_mul]; exact M.pow_nat _ _
  have hone : M (q : Int) ((r : Int) ^ (2 * n)) 1 := by
    rw [Nat.mul_comm, Int.pow_mul]
    exact (hr.pow 2).trans (M.of rfl)
  refine ⟨h.nk, h.k0, h.k9, hq2, by have := h.q1; omega, hr, ?_, ?_, fun i _ => by rw [ha, Nat.one_mul]⟩
  · refine (hv1.pow n).trans ?_
    rw [← Int.pow_mul, Nat.mul_comm, Int.pow_mul]
    exact (hr.pow (2 * n - 1)).trans (M.of (odd_minus (by omega)))
  · refine (M.rfl.mul hv1).trans ?_
    rw [Int.mul_comm, ← Int.pow_succ, show (2 * n - 1).succ = 2 * n by omega]
    exact hone
theorem gcd_one {n q : Nat} (h : q % (2 * n) = 1) : Nat.gcd n q = 1 := by
  have h1 := Nat.div_add_mod q (2 * n)
  rw [h] at h1
  have h2 : Nat.gcd n q ∣ q := Nat.gcd_dvd_right n q
  have h3 : Nat.gcd n q ∣ n := Nat.gcd_dvd_left n q
  have h4 : Nat.gcd n q ∣ 2 * n * (q / (2 * n)) := Nat.dvd_trans h3 (Nat.dvd_trans (Nat.dvd_mul_left n 2) (Nat.dvd_mul_right _ _))
  have h5 : Nat.gcd n q ∣ 1 := (Nat.dvd_add_right h4).1 (by rw [h1]; exact h2)
  exact Nat.dvd_one.1 h5
theorem rootN (q n : Nat) (w : World) (hq : q < 18446744073709551616) (hn : n ≤ 8192) (hT : Tabs w) (hs : stepS n = true) (h1 : q % n = 1) (hi : isS q = true) :
    Calls Tryd.prog 105 #[.int .u64 (q : Int), .int .u64 (n : Int)] w fun e w' => ∃ x, First q x ∧ e = .returned (.tuple #[.int .u64 ((rootS q n x : Nat) : Int), .int .i64 0]) ∧ Ext w w' := by
  refine (root_any q n w hq (by omega) hT).mono ?_
  rintro e w' (⟨h, _⟩ | ⟨_, _, _, x, hx, he, hw⟩)
  · rcases h with h | h | h
    · rw [hs] at h; cases h
    · exact absurd h1 h
    · rw [hi] at h; cases h
  · exact ⟨x, hx, he, hw⟩
set_option maxHeartbeats 4000000 in
theorem new_any (n q k : Nat) (w : World) (hF : Hid (Fit n q k)) (hT : Tabs w) :
    Calls Tryd.prog 62 #[.int .i64 (n : Int), .int .u64 (q : Int)] w fun ee w' => ∃ p r v x : Nat, First q x ∧ Hid (r = rootS q (2 * n) x) ∧ ee = .returned (.tuple #[.pointer (some ⟨p, 0, none⟩), .int .i64 0]) ∧ Table w' p n q k r v ∧ Ext w w' := by
  have hn2 := two_le hF.out.k0 hF.out.k9
  rw [← hF.out.nk] at hn2
  obtain ⟨hn0, hn1⟩ := hn2
  have hq1 := hF.out.q1
  have hq2 := isS_ge hF.out.is_
  have HT := Lib.hid hT
  clear hT
  go_enter Tryd.func62, Tryd.ntmps62
  go_wp2_with fail
  have hR := rootN q (2 * n) w (by omega) (by omega) HT.out hF.out.step hF.out.one hF.out.is_
  rw [show ((2 * n : Nat) : Int) = 2 * (n : Int) by omega] at hR
  refine hR.mono ?_
  clear hR
  rintro ee w1 ⟨x, hx, rfl, k1⟩
  have hg := hF.out.good hx (fun i => 1 * rootS q (2 * n) x ^ i % q) (fun _ => rfl)
  obtain ⟨hr, hgood⟩ := hg
  have HG := Lib.hid hgood
  have HR := Lib.hid (show rootS q (2 * n) x = rootS q (2 * n) x from rfl)
  clear hgood
  obtain ⟨r, hrd⟩ : ∃ r, r = rootS q (2 * n) x := ⟨_, rfl⟩
  rw [← hrd] at hr HG ⊢
  have HRD := Lib.hid hrd
  clear hrd HR
  go_wp2_with fail
  have hP := progression_any 1 r q (2 * n) w1 (by omega) (by omega) hr (by omega)
  rw [show ((2 * n : Nat) : Int) = 2 * (n : Int) by omega, show ((1 : Nat) : Int) = 1 from rfl] at hP
  refine hP.mono ?_
  clear hP
  rintro ee w2 ⟨rfl, hpw, k2⟩
  go_wp2_with fail
  refine (inv_any n q _ (by omega) (by omega)).mono ?_
  rintro ee w3 ⟨u, ok, m, hok, rfl, rfl⟩
  have hok2 : 0 ≤ u ∧ u < q ∧ ((n : Int) * u) % (q : Int) = 1 := by
    rcases hok with ⟨_, _, _, h3, h4, h5⟩ | ⟨h, _⟩
    · exact ⟨h3, h4, h5⟩
    · have := gcd_one hF.out.one
      rcases h with h | h
      · omega
      · exact absurd this h
  obtain ⟨u0, u1, hu⟩ := hok2
  obtain ⟨u, rfl⟩ := Int.eq_ofNat_of_zero_le u0
  have HU := Lib.hid hu
  clear hu hok
  have hpw3 : FC (w2.drewN m) w1.heap.size (2 * n) q (fun i => 1 * r ^ i % q) := hpw
  have c0 := hpw3.by_ (i := 2 * n - 1) (by omega)
  have hvl : 1 * r ^ (2 * n - 1) % q < q := Nat.mod_lt _ (by omega)
  obtain ⟨v, hvd⟩ : ∃ v, v = 1 * r ^ (2 * n - 1) % q := ⟨_, rfl⟩
  obtain ⟨j, hj⟩ : ∃ j, j = 2 * n - 1 := ⟨_, rfl⟩
  have hj2 : 2 * (n : Int) - 1 = (j : Int) := by omega
  have c1 : (w2.drewN m).cell? ⟨w1.heap.size, j * 2, none⟩ = some (.int .u64 (v : Int)) := by rw [hj, hvd]; exact c0
  have hvl2 : v < q := by rw [hvd]; exact hvl
  have HG2 : Hid (Good n q k r v (fun i => 1 * r ^ i % q)) := Lib.hid (by rw [hvd]; exact HG.out)
  have hjl : j < 2 * n := by omega
  clear c0 hvl hj hvd HG
  have i0 : (0 : Int) ≤ (j : Int) := by omega
  have i1 : (j : Int) < 2 * (n : Int) := by omega
  go_wp2_with fail
  refine (progression_any u v q n _ (by omega) (by omega) hvl2 (by omega)).mono ?_
  rintro ee w4 ⟨rfl, hen, k4⟩
  have kw : Ext w w4 := k1.trans (k2.trans (((Ext.refl w2).drewN m).trans k4))
  have hpw4 := RW.ext hpw3 k4
  have hb1 := RW.lt hpw4
  have hb2 := RW.lt hen
  have HEN := Lib.hid (show Ends n q v (fun i => u * v ^ i % q) from ⟨u, by
    have := HU.out
    unfold M; rw [this]; exact (Int.emod_eq_of_lt (by omega) (by omega)).symm, fun i _ => ⟨Nat.mod_lt _ (by omega), by
    refine (M.nat _).trans (M.of ?_); rw [Int.natCast_mul, Int.natCast_pow]⟩⟩)
  go_wp2
  go_ret2
  have kV := kw.alloc (Obj.cells #[Value.int IntKind.i64 (n : Int), Value.int IntKind.u64 (q : Int), Value.slice (some ⟨w1.heap.size, 0, none⟩) (2 * n) (2 * n), Value.slice (some ⟨(w2.drewN m).heap.size, 0, none⟩) n n] 149)
  refine ⟨w4.heap.size, r, v, x, hx, HRD, rfl, ⟨_, _, w1.heap.size, (w2.drewN m).heap.size, ⟨by simp, by simp; omega, by simp; exact Nat.lt_succ_of_lt hb2, by simp, by simp, by simp, by simp, RW.ext hpw4 ((Ext.refl w4).alloc _), RW.ext hen ((Ext.refl w4).alloc _)⟩, HG2.out, HEN.out⟩, kV⟩
end Go.Proofs.YtpgcapobbmbchaaDoor

/-
  The moduli that the laws of layer 4 name: each passes the test, and has a number that is no square. What the inner calls of the laws answer.
-/
namespace Go.Proofs.YtpgcapobbmbchaaDoor
open Go.RowKit
set_option linter.unusedVariables false
set_option maxRecDepth 100000

/-- The test, by squares. -/
def strongP (n a : Nat) : Bool := (fun x => cond (Nat.beq x 1) true (hit n (tzS n) x)) (pm n a 64 (oddS n))
def isP (n : Nat) : Bool := cond (Nat.blt n 2) false (smallF n L12 (L12.all (strongP n)))
theorem isP_eq {n : Nat} (h0 : 2 ≤ n) (h : n < 18446744073709551616) : isS n = isP n := by
  have e : ∀ a, strongS n a = strongP n a := fun a => by
    unfold strongS strongP
    rw [pm_eq n a 64 (oddS n) (odd_tz h0 h).1]
  unfold isS isP
  rw [show strongS n = strongP n from funext e]
theorem noSq_pm {q x : Nat} (h : q < 18446744073709551616) (e : Nat.beq (pm q x 64 ((q - 1) / 2)) (q - 1) = true) : noSq q x = true := by
  unfold noSq
  rw [← pm_eq q x 64 ((q - 1) / 2) (by omega)]
  exact decide_eq_true (Nat.eq_of_beq_eq_true e)
theorem is5 : isS 5 = true := by decide +kernel
theorem isA : isS 12289 = true := by decide +kernel
theorem isB : isS 40961 = true := by decide +kernel
theorem isC : isS 1152921504606830593 = true := by rw [isP_eq (by omega) (by omega)]; decide +kernel
theorem sq5 : ∃ x, x < 5 ∧ noSq 5 x = true := ⟨2, by omega, noSq_pm (by omega) (by decide +kernel)⟩
theorem sqA : ∃ x, x < 12289 ∧ noSq 12289 x = true := ⟨11, by omega, noSq_pm (by omega) (by decide +kernel)⟩
theorem sqB : ∃ x, x < 40961 ∧ noSq 40961 x = true := ⟨3, by omega, noSq_pm (by omega) (by decide +kernel)⟩
theorem sqC : ∃ x, x < 1152921504606830593 ∧ noSq 1152921504606830593 x = true := ⟨5, by omega, noSq_pm (by omega) (by decide +kernel)⟩
theorem fit5 : Fit 2 5 1 := ⟨rfl, by omega, by omega, by omega, by decide +kernel, by decide, is5, sq5⟩
/-- The law's modulus. -/
def lawQ (k : Nat) : Nat := if k % 3 = 0 then 12289 else if k % 3 = 1 then 40961 else 1152921504606830593
theorem fit_law (k : Nat) : Fit (2 ^ (k % 9 + 1)) (lawQ k) (k % 9 + 1) := by
  have h : k % 9 < 9 := Nat.mod_lt _ (by omega)
  have h3 : k % 3 = k % 9 % 3 := by omega
  unfold lawQ
  rw [h3]
  rcases (show k % 9 = 0 ∨ k % 9 = 1 ∨ k % 9 = 2 ∨ k % 9 = 3 ∨ k % 9 = 4 ∨ k % 9 = 5 ∨ k % 9 = 6 ∨ k % 9 = 7 ∨ k % 9 = 8 by omega) with e | e | e | e | e | e | e | e | e <;> rw [e]
  · exact ⟨rfl, by omega, by omega, by decide, by decide +kernel, by decide, isA, sqA⟩
  · exact ⟨rfl, by omega, by omega, by decide, by decide +kernel, by decide, isB, sqB⟩
  · exact ⟨rfl, by omega, by omega, by decide, by decide +kernel, by decide, isC, sqC⟩
  · exact ⟨rfl, by omega, by omega, by decide, by decide +kernel, by decide, isA, sqA⟩
  · exact ⟨rfl, by omega, by omega, by decide, by decide +kernel, by decide, isB, sqB⟩
  · exact ⟨rfl, by omega, by omega, by decide, by decide +kernel, by decide, isC, sqC⟩
  · exact ⟨rfl, by omega, by omega, by decide, by decide +kernel, by decide, isA, sqA⟩
  · exact ⟨rfl, by omega, by omega, by decide, by decide +kernel, by decide, isB, sqB⟩
  · exact ⟨rfl, by omega, by omega, by decide, by decide +kernel, by decide, isC, sqC⟩
set_option maxHeartbeats 1000000 in
theorem same_any (A A' : Option Addr) (n c c' : Nat) (f f' : Nat → Nat) (w : World) (hX : FX w A n c f) (hX' : FX w A' n c' f') (hn : n ≤ 100000) (he : Hid (∀ i, i < n → f i = f' i)) :
    Calls Tryd.prog 47 #[.slice A n c, .slice A' n c'] w fun ee w' => ee = .returned (.bool true) ∧ Ext w w' := by
  go_enter Tryd.func47, Tryd.ntmps47
  go_wp2
  go_loopw [13] (fun i wr => ∃ m d : Nat, m ≤ n ∧ i = .int .i64 (m : Int) ∧ wr = w.drewN d) (fun i _ => n - (intOf i).toNat)
  case atStart => exact ⟨0, 0, by omega, rfl, rfl⟩
  case round =>
    obtain ⟨m, d, hm, rfl, rfl⟩ := hrel
    by_cases hlt : m < n
    · obtain ⟨ad, rfl, hc⟩ := hX.cells (by omega)
      obtain ⟨ad', rfl, hc'⟩ := hX'.cells (by omega)
      have h1 := hc m hlt
      have h2 := hc' m hlt
      rw [← he.out m hlt] at h2
      clear hc hc'
      generalize f m = x at *
      have i0 : (0 : Int) ≤ (m : Int) := by omega
      have i1 : (m : Int) < (n : Int) := by omega
      go_wp2
      go_quiet (fail)
      go_wp2
      exact ⟨⟨m + 1, _, by omega, by go_num, rfl⟩, by simp [intOf]; omega⟩
    · go_wp2
      go_ret
      exact ⟨rfl, (Ext.refl w).drewN d⟩
set_option maxHeartbeats 1000000 in
set_option maxRecDepth 100000 in
theorem chk_any (n q k : Nat) (w : World) (hF : Hid (Fit n q k)) :
    Calls Tryd.prog 63 #[.int .i64 (n : Int), .int .u64 (q : Int)] w fun ee w' => ∃ z : Int, ee = .returned (.int .i64 z) ∧ Ext w w' := by
  have hn2 := two_le hF.out.k0 hF.out.k9
  rw [← hF.out.nk] at hn2
  obtain ⟨hn0, hn1⟩ := hn2
  have hq1 := hF.out.q1
  have hone : ((q : Int) % (2 * (n : Int)) != 1) = false := by
    have := hF.out.one
    have e : (q : Int) % (2 * (n : Int)) = 1 := by
      rw [show 2 * (n : Int) = ((2 * n : Nat) : Int) by omega, ← Int.natCast_emod, this]; rfl
    rw [e]; rfl
  have hqd : decide (2305843009213693952 ≤ (q : Int)) = false := by simp; omega
  have hqd2 : (2305843009213693952 ≤ (q : Int)) = False := by simp; omega
  cases hs : stepS n
  · have HS := Lib.hid hs
    clear hs
    go_enter Tryd.func63, Tryd.ntmps63
    go_wp2_with fail
    refine (rstep_any n w (by omega)).mono ?_
    rw [HS.out]
    rintro ee w' ⟨rfl, rfl⟩
    go_wp2
    go_ret
    exact ⟨_, rfl, Ext.refl _⟩
  cases hi : isR q
  all_goals
    have HS := Lib.hid hs
    have HI := Lib.hid hi
    clear hs hi
    go_enter Tryd.func63, Tryd.ntmps63
    go_wp2_with fail
    refine (rstep_any n w (by omega)).mono ?_
    rw [HS.out]
    rintro ee w' ⟨rfl, rfl⟩
    go_wp2_with fail
    refine (ris_any q _ (by omega)).mono ?_
    rw [HI.out]
    rintro ee w2 ⟨rfl, k2⟩
    go_wp2
    go_ret
    exact ⟨_, rfl, k2⟩
end Go.Proofs.YtpgcapobbmbchaaDoor

/-
  The calls of layer 4 whose answers the document fixes; the law NttNil walked.
-/
namespace Go.Proofs.YtpgcapobbmbchaaDoor
open Go.RowKit
set_option linter.unusedVariables false
set_option maxRecDepth 100000

theorem unit_n {q n u : Nat} (hu : M (q : Int) ((n : Int) * (u : Int)) 1) {x y : Int} (h : M (q : Int) ((n : Int) * x) ((n : Int) * y)) : M (q : Int) x y := by
  have one : ∀ z : Int, M (q : Int) ((n : Int) * z * (u : Int)) z := fun z => by
    rw [mul_four]
    have := hu.mul (M.rfl (a := z))
    rwa [Int.one_mul] at this
  exact (one x).symm.trans ((h.mul M.rfl).trans (one y))
theorem Table.unit {w : World} {p n q k r v : Nat} (h : Table w p n q k r v) : ∃ u : Nat, M (q : Int) ((n : Int) * (u : Int)) 1 := by
  obtain ⟨_, e, _, _, _, _, u, hu, _⟩ := h.ex
  exact ⟨u, hu⟩
structure Root (n q k r v : Nat) : Prop where
  nk : n = 2 ^ k
  q0 : 2 ≤ q
  q1 : q ≤ 2305843009213693952
  n0 : 2 ≤ n
  n1 : n ≤ 512
  hr : M (q : Int) ((r : Int) ^ (2 ^ k)) (-1)
  hv : M (q : Int) ((v : Int) ^ (2 ^ k)) (-1)
  rv : M (q : Int) ((r : Int) * (v : Int)) 1
theorem Table.root {w : World} {p n q k r v : Nat} (h : Table w p n q k r v) : Root n q k r v := by
  obtain ⟨a, e, _, _, _, g, _⟩ := h.ex
  have h2 := two_le g.k0 g.k9
  rw [← g.nk] at h2
  exact ⟨g.nk, g.q0, g.q1, h2.1, h2.2, by rw [← g.nk]; exact g.hr, by rw [← g.nk]; exact g.hv, g.rv⟩
theorem Root.backVals {n q k r v : Nat} (h : Root n q k r v) (a : Nat → Int) {i : Nat} (hi : i < n) : M (q : Int) (back (v : Int) n (vals (r : Int) n a) i) ((n : Int) * a i) := by
  have e := h.nk
  subst e
  exact back_vals h.hr h.hv h.rv a hi
theorem Root.valsBack {n q k r v : Nat} (h : Root n q k r v) (a : Nat → Int) {i : Nat} (hi : i < n) : M (q : Int) (vals (r : Int) n (back (v : Int) n a) i) ((n : Int) * a i) := by
  have e := h.nk
  subst e
  exact vals_back h.hr h.hv h.rv a hi
theorem Root.valsNega {n q k r v : Nat} (h : Root n q k r v) (a b : Nat → Int) (j : Nat) : M (q : Int) (vals (r : Int) n (nega n a b) j) (vals (r : Int) n a j * vals (r : Int) n b j) :=
  vals_nega (by rw [h.nk]; exact h.hr) a b j
theorem vals_M {q r : Int} {n : Nat} {a b : Nat → Int} (h : ∀ i, i < n → M q (a i) (b i)) (j : Nat) : M q (vals r n a j) (vals r n b j) := S_M fun i hi => (h i hi).mul M.rfl
theorem back_M {q r : Int} {n : Nat} {a b : Nat → Int} (h : ∀ i, i < n → M q (a i) (b i)) (j : Nat) : M q (back r n a j) (back r n b j) := S_M fun i hi => (h i hi).mul M.rfl
theorem vals_scale (r c : Int) (n : Nat) (a : Nat → Int) (j : Nat) : vals r n (fun i => c * a i) j = c * vals r n a j := by
  unfold vals
  rw [S_mul]
  exact S_congr fun i _ => by rw [Int.mul_assoc]
/-- What Mul answers, as a product modulo X^n + 1. -/
theorem mulP_any (p n q k r v : Nat) (A A' : Option Addr) (c c' : Nat) (f f' : Nat → Nat) (w : World) (hT : Table w p n q k r v) (hX : FX w A n c f) (hf : Hid (∀ i, i < n → f i < q)) (hX' : FX w A' n c' f') (hf' : Hid (∀ i, i < n → f' i < q)) :
    Calls Tryd.prog 114 #[.pointer (some ⟨p, 0, none⟩), .slice A n c, .slice A' n c'] w fun ee w' => ∃ (g : Nat) (F : Nat → Nat), ee = .returned (.tuple #[.slice (some ⟨g, 0, none⟩) n n, .int .i64 0]) ∧ UW w' g n F ∧ Hid (∀ i, i < n → F i < q ∧ M (q : Int) (F i : Int) (nega n (fun j => (f j : Int)) (fun j => (f' j : Int)) i)) ∧ Ext w w' := by
  refine (mulT_any p n q k r v A A' c c' f f' w hT hX hf hX' hf').mono ?_
  rintro ee w' ⟨g, F, he, hu, hF, hk⟩
  obtain ⟨u, hun⟩ := hT.unit
  refine ⟨g, F, he, hu, Lib.hid fun i hi => ⟨(hF.out i hi).1, unit_n hun ?_⟩, hk⟩
  refine (hF.out i hi).2.trans ?_
  refine (back_M (fun j _ => (hT.root.valsNega _ _ j).symm) i).trans ?_
  exact hT.root.backVals _ hi
theorem first5 {x : Nat} (h : First 5 x) : x = 2 := by
  rcases h with ⟨h1, h2, h3⟩ | ⟨_, h3⟩
  · have n0 : noSq 5 0 = false := by decide +kernel
    have n1 : noSq 5 1 = false := by decide +kernel
    have y2 : noSq 5 2 = true := by decide +kernel
    rcases (show x = 0 ∨ x = 1 ∨ x = 2 ∨ 2 < x by omega) with rfl | rfl | rfl | h
    · rw [n0] at h2; cases h2
    · rw [n1] at h2; cases h2
    · rfl
    · rw [h3 2 h] at y2; cases y2
  · have y2 : noSq 5 2 = true := by decide +kernel
    rw [h3 2 (by omega)] at y2; cases y2
theorem root5 : rootS 5 (2 * 2) 2 = 2 := by decide +kernel
theorem new5 (w : World) (hT : Tabs w) : Calls Tryd.prog 62 #[.int .i64 2, .int .u64 5] w fun ee w' => ∃ p v : Nat, ee = .returned (.tuple #[.pointer (some ⟨p, 0, none⟩), .int .i64 0]) ∧ Table w' p 2 5 1 2 v ∧ Ext w w' := by
  have h := new_any 2 5 1 w (Lib.hid fit5) hT
  refine Calls.mono h ?_
  rintro ee w' ⟨p, r, v, x, hx, hr, he, ht, hk⟩
  rw [first5 hx, root5] at hr
  rw [hr.out] at ht
  exact ⟨p, v, he, ht, hk⟩
theorem fx_two (w : World) (a b : Nat) (za zb : Int) (ha : za = a) (hb : zb = b) : FX (w.alloc (.cells #[.int .u64 za, .int .u64 zb] 79)) (some ⟨w.heap.size, 0, none⟩) 2 2 (fun i => if i = 0 then a else b) := by
  subst ha hb
  refine ⟨Nat.le_refl _, fun _ => ⟨_, rfl, fun j hj => ?_⟩⟩
  rw [Addr.add_lit, Nat.zero_add]
  rcases (show j = 0 ∨ j = 1 by omega) with rfl | rfl <;> simp
theorem all_two {P : Nat → Prop} (h0 : P 0) (h1 : P 1) : ∀ i, i < 2 → P i := fun i hi => by
  rcases (show i = 0 ∨ i = 1 by omega) with rfl | rfl
  · exact h0
  · exact h1
end Go.Proofs.YtpgcapobbmbchaaDoor

/-
  The law NttShifts walked.
-/
namespace Go.Proofs.YtpgcapobbmbchaaDoor
open Go.RowKit
set_option linter.unusedVariables false
set_option maxRecDepth 100000

/-- X times a polynomial. -/
theorem nega_up {n : Nat} (hn : 2 ≤ n) (a : Nat → Int) {m : Nat} (hm : m < n) : nega n a (fun l => ((if l = 1 then 1 else 0 : Nat) : Int)) m = if m = 0 then -a (n - 1) else a (m - 1) := by
  have inner : ∀ i, i < n → S n (fun l => if i + l = m then a i * ((if l = 1 then 1 else 0 : Nat) : Int) else if i + l = m + n then -(a i * ((if l = 1 then 1 else 0 : Nat) : Int)) else 0) = if i + 1 = m then a i else if i + 1 = m + n then -a i else 0 := fun i _ => by
    rw [S_one (k := 1) (by omega)]
    · rw [if_pos (rfl : 1 = 1), show (((1 : Nat)) : Int) = 1 from rfl, Int.mul_one]
    · intro l _ hl
      rw [if_neg hl, show (((0 : Nat)) : Int) = 0 from rfl, Int.mul_zero, Int.neg_zero]
      split
      · rfl
      · split <;> rfl
  unfold nega
  rw [S_congr inner]
  by_cases h : m = 0
  · subst h
    rw [if_pos rfl, S_one (k := n - 1) (by omega)]
    · rw [if_neg (by omega), if_pos (by omega)]
    · intro i hi hne
      rw [if_neg (by omega), if_neg (by omega)]
  · rw [if_neg h, S_one (k := m - 1) (by omega)]
    · rw [if_pos (by omega)]
    · intro i hi hne
      rw [if_neg (by omega), if_neg (by omega)]
theorem rsub0 (x q y : Nat) (w : World) (hq0 : 0 < q) (hx : x < q) (hq : q < 18446744073709551616) (hy : Hid (y = dif 0 x q)) :
    Calls Tryd.prog 79 #[.int .u64 0, .int .u64 (x : Int), .int .u64 (q : Int)] w fun e w' => e = .returned (.int .u64 (y : Int)) ∧ Ext w w' := by
  refine (rsub_any 0 x q w (by omega) (by omega) (by omega) (by omega) (by omega) (by omega)).mono ?_
  have e : subS 0 (x : Int) (q : Int) = (y : Int) := by
    rw [subS_pos (by omega), hy.out]
    unfold dif
    rw [Int.natCast_emod, show ((0 + q - x : Nat) : Int) = (0 - (x : Int)) + (q : Int) by omega, Int.add_emod_right]
  rw [e]
  rintro ee w' ⟨he, rfl⟩
  exact ⟨he, Ext.refl _⟩
theorem one_drew {w : World} {z : Value} {t : TypeId} : ∀ (j : Nat) (u : Value), [z][j]? = some u → (w.alloc (.cells #[z] t)).drew.cell? ((⟨w.heap.size, 0, none⟩ : Addr).add j) = some u := one_cell
theorem row_cells {w : World} {g n z : Nat} {X : Nat → Nat} {v : Value} {t : TypeId} (h : UW w g n X) (hz : z < n) : ∀ (j : Nat) (u : Value), (u64s ((List.range z).map X))[j]? = some u → (w.alloc (.cells #[v] t)).drew.cell? ((⟨g, 0, none⟩ : Addr).add j) = some u := fun j u hu => by
  have h1 := RW.cell (RW.ext h ((Ext.refl w).alloc (.cells #[v] t))) (i := j)
  unfold u64s at hu
  rw [List.getElem?_map, List.getElem?_map] at hu
  by_cases hj : j < z
  · rw [List.getElem?_range hj] at hu
    simp only [Option.map_some, Option.some.injEq] at hu
    rw [Addr.add_lit, Nat.zero_add, ← hu]
    exact h1 (by omega)
  · rw [List.getElem?_eq_none (by simp; omega)] at hu
    cases hu
theorem fx_of_rd {w : World} {B : Nat} {A : Option Addr} {n c : Nat} {xs : List Nat} (h : NR w B A n c xs) : FX w A n c (fun i => xs.getD i 0) :=
  ⟨h.room, fun hn => by
    obtain ⟨ad, e, _, hc⟩ := h.cells hn
    refine ⟨ad, e, fun j hj => ?_⟩
    have hl : j < xs.length := by have := h.len; omega
    rw [hc j xs[j] (List.getElem?_eq_getElem hl), List.getD_eq_getElem?_getD, List.getElem?_eq_getElem hl, Option.getD_some]⟩
end Go.Proofs.YtpgcapobbmbchaaDoor
