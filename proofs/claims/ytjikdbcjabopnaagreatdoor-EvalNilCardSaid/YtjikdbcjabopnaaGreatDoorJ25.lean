import Derived.Test.YtjikdbcjabopnaaGreatDoorJTTrans
import Derived.Deep.RegionLaw
import Derived.Test.YtjikdbcjabopnaaGreatDoorJ13
import Derived.Test.YtjikdbcjabopnaaGreatDoorJ6
import Derived.Test.YtjikdbcjabopnaaGreatDoorJ9
import Derived.Test.YtjikdbcjabopnaaGreatDoorJ8
import Derived.Deep.RegionHeld3
namespace Go.Proofs.YtjikdbcjabopnaaGreatDoor
open Go.RowKit
set_option linter.unusedVariables false
set_option maxRecDepth 100000
def Ends (n q v : Nat) (e : Nat → Nat) : Prop := ∃ u : Nat, M (q : Int) ((n : Int) * (u : Int)) 1 ∧ ∀ i, i < n → e i < q ∧ M (q : Int) (e i : Int) ((u : Int) * (v : Int) ^ i)
structure Table (w : World) (p n q k r v : Nat) : Prop where
 ex : ∃ (a e : Nat → Nat) (gp ge : Nat), Tb w w.heap.size p n q a e gp ge ∧ Good n q k r v a ∧ Ends n q v e
theorem Table.ext {w w' : World} {p n q k r v : Nat} (h : Table w p n q k r v) (k1 : Ext w w') : Table w' p n q k r v := by
 obtain ⟨a, e, gp, ge, h1, h2, h3⟩ := h.ex
 exact ⟨a, e, gp, ge, h1.ext k1, h2, h3⟩
structure Fit (n q k : Nat) : Prop where
 nk : n = 2 ^ k
 k0 : 1 ≤ k
 k9 : k ≤ 9
 q1 : q < 2305843009213693952
 step : stepS (2 * n) = true
 one : q % (2 * n) = 1
 is_ : isS q = true
 sq : ∃ x, x < q ∧ noSq q x = true
def rootS (q n x : Nat) : Nat := lr q (x ^ ((q - 1) / n) % q * (x ^ ((q - 1) / n) % q) % q) (n / 2 - 1) (x ^ ((q - 1) / n) % q) (x ^ ((q - 1) / n) % q)
theorem minus_one {q : Nat} (hq : 2 ≤ q) : M (q : Int) ((q - 1 : Nat) : Int) (-1) := by
 unfold M
 rw [show ((q - 1 : Nat) : Int) = -1 + (q : Int) by omega, Int.add_emod_right]
theorem first_sq {q x : Nat} (h : First q x) (hs : ∃ x, x < q ∧ noSq q x = true) : noSq q x = true := by
 rcases h with h | h
 ·exact h.2.1
 ·obtain ⟨y, hy, he⟩ := hs
  rw [h.2 y hy] at he; cases he
theorem Fit.good {n q k x : Nat} (h : Fit n q k) (hx : First q x) (a : Nat → Nat) (ha : ∀ i, a i = 1 * rootS q (2 * n) x ^ i % q) : rootS q (2 * n) x < q ∧ Good n q k (rootS q (2 * n) x) (a (2 * n - 1)) a := by
 have hq2 := isS_ge h.is_
 obtain ⟨r1, r2⟩ := root_good hq2 h.step h.one (first_sq hx h.sq)
 rw [show 2 * n / 2 = n by omega] at r2
 have hr : M (q : Int) ((rootS q (2 * n) x : Int) ^ n) (-1) := by
  have h1 := (M.pow_nat (q := q) (rootS q (2 * n) x) n).symm
  refine h1.trans ?_
  rw [show rootS q (2 * n) x ^ n % q = q - 1 by unfold rootS; rw [show 2 * n / 2 - 1 = n - 1 by omega]; exact r2]
  exact minus_one hq2
 have hn0 : 0 < n := by rw [h.nk]; exact Nat.two_pow_pos k
 refine ⟨by unfold rootS; exact r1, ?_⟩
 generalize rootS q (2 * n) x = r at *
 have hv1 : M (q : Int) (a (2 * n - 1) : Int) ((r : Int) ^ (2 * n - 1)) := by
  rw [ha, Nat.one_mul]; exact M.pow_nat _ _
 have hone : M (q : Int) ((r : Int) ^ (2 * n)) 1 := by
  rw [Nat.mul_comm, Int.pow_mul]
  exact (hr.pow 2).trans (M.of rfl)
 refine ⟨h.nk, h.k0, h.k9, hq2, by have := h.q1; omega, hr, ?_, ?_, fun i _ => by rw [ha, Nat.one_mul]⟩
 ·refine (hv1.pow n).trans ?_
  rw [← Int.pow_mul, Nat.mul_comm, Int.pow_mul]
  exact (hr.pow (2 * n - 1)).trans (M.of (odd_minus (by omega)))
 ·refine (M.rfl.mul hv1).trans ?_
  rw [Int.mul_comm, ← Int.pow_succ, show (2 * n - 1).succ = 2 * n by omega]
  exact hone
theorem gcd_one {n q : Nat} (h : q % (2 * n) = 1) : Nat.gcd n q = 1 := by
 have h1 := Nat.div_add_mod q (2 * n)
 rw [h] at h1
 have h2 : Nat.gcd n q ∣ q := Nat.gcd_dvd_right n q
 have h3 : Nat.gcd n q ∣ n := Nat.gcd_dvd_left n q
 have h4 : Nat.gcd n q ∣ 2 * n * (q / (2 * n)) := Nat.dvd_trans h3 (Nat.dvd_trans (Nat.dvd_mul_left n 2) (Nat.dvd_mul_right _ _))
 have h5 : Nat.gcd n q ∣ 1 := (Nat.dvd_add_right h4).1 (by rw [h1]; exact h2)
 exact Nat.dvd_one.1 h5
theorem rootN (q n : Nat) (w : World) (hq : q < 18446744073709551616) (hn : n ≤ 8192) (hT : Tabs w) (hs : stepS n = true) (h1 : q % n = 1) (hi : isS q = true) :
    Calls Tryz.prog 172 #[.int .u64 (q : Int), .int .u64 (n : Int)] w fun e w' => ∃ x, First q x ∧ e = .returned (.tuple #[.int .u64 ((rootS q n x : Nat) : Int), .int .i64 0]) ∧ Ext w w' := by
 refine (root_any q n w hq (by omega) hT).mono ?_
 rintro e w' (⟨h, _⟩ | ⟨_, _, _, x, hx, he, hw⟩)
 ·rcases h with h | h | h
  ·rw [hs] at h; cases h
  ·exact absurd h1 h
  ·rw [hi] at h; cases h
 ·exact ⟨x, hx, he, hw⟩
set_option maxHeartbeats 4000000 in
theorem new_any (n q k : Nat) (w : World) (hF : Hid (Fit n q k)) (hT : Tabs w) :
    Calls Tryz.prog 110 #[.int .i64 (n : Int), .int .u64 (q : Int)] w fun ee w' => ∃ p r v x : Nat, First q x ∧ Hid (r = rootS q (2 * n) x) ∧ ee = .returned (.tuple #[.pointer (some ⟨p, 0, none⟩), .int .i64 0]) ∧ Table w' p n q k r v ∧ Ext w w' := by
 have hn2 := two_le hF.out.k0 hF.out.k9
 rw [← hF.out.nk] at hn2
 obtain ⟨hn0, hn1⟩ := hn2
 have hq1 := hF.out.q1
 have hq2 := isS_ge hF.out.is_
 have HT := Lib.hid hT
 clear hT
 go_enter Tryz.func110, Tryz.ntmps110
 go_wp2_with fail
 have hR := rootN q (2 * n) w (by omega) (by omega) HT.out hF.out.step hF.out.one hF.out.is_
 rw [show ((2 * n : Nat) : Int) = 2 * (n : Int) by omega] at hR
 refine hR.mono ?_
 clear hR
 rintro ee w1 ⟨x, hx, rfl, k1⟩
 have hg := hF.out.good hx (fun i => 1 * rootS q (2 * n) x ^ i % q) (fun _ => rfl)
 obtain ⟨hr, hgood⟩ := hg
 have HG := Lib.hid hgood
 have HR := Lib.hid (show rootS q (2 * n) x = rootS q (2 * n) x from rfl)
 clear hgood
 obtain ⟨r, hrd⟩ : ∃ r, r = rootS q (2 * n) x := ⟨_, rfl⟩
 rw [← hrd] at hr HG ⊢
 have HRD := Lib.hid hrd
 clear hrd HR
 go_wp2_with fail
 have hP := progression_any 1 r q (2 * n) w1 (by omega) (by omega) hr (by omega)
 rw [show ((2 * n : Nat) : Int) = 2 * (n : Int) by omega, show ((1 : Nat) : Int) = 1 from rfl] at hP
 refine hP.mono ?_
 clear hP
 rintro ee w2 ⟨rfl, hpw, k2⟩
 go_wp2_with fail
 refine (inv_any n q _ (by omega) (by omega)).mono ?_
 rintro ee w3 ⟨u, ok, m, hok, rfl, rfl⟩
 have hok2 : 0 ≤ u ∧ u < q ∧ ((n : Int) * u) % (q : Int) = 1 := by
  rcases hok with ⟨_, _, _, h3, h4, h5⟩ | ⟨h, _⟩
  ·exact ⟨h3, h4, h5⟩
  ·have := gcd_one hF.out.one
   rcases h with h | h
   ·omega
   ·exact absurd this h
 obtain ⟨u0, u1, hu⟩ := hok2
 obtain ⟨u, rfl⟩ := Int.eq_ofNat_of_zero_le u0
 have HU := Lib.hid hu
 clear hu hok
 have hpw3 : FC (w2.drewN m) w1.heap.size (2 * n) q (fun i => 1 * r ^ i % q) := hpw
 have c0 := hpw3.by_ (i := 2 * n - 1) (by omega)
 have hvl : 1 * r ^ (2 * n - 1) % q < q := Nat.mod_lt _ (by omega)
 obtain ⟨v, hvd⟩ : ∃ v, v = 1 * r ^ (2 * n - 1) % q := ⟨_, rfl⟩
 obtain ⟨j, hj⟩ : ∃ j, j = 2 * n - 1 := ⟨_, rfl⟩
 have hj2 : 2 * (n : Int) - 1 = (j : Int) := by omega
 have c1 : (w2.drewN m).cell? ⟨w1.heap.size, j * 2, none⟩ = some (.int .u64 (v : Int)) := by rw [hj, hvd]; exact c0
 have hvl2 : v < q := by rw [hvd]; exact hvl
 have HG2 : Hid (Good n q k r v (fun i => 1 * r ^ i % q)) := Lib.hid (by rw [hvd]; exact HG.out)
 have hjl : j < 2 * n := by omega
 clear c0 hvl hj hvd HG
 have i0 : (0 : Int) ≤ (j : Int) := by omega
 have i1 : (j : Int) < 2 * (n : Int) := by omega
 go_wp2_with fail
 refine (progression_any u v q n _ (by omega) (by omega) hvl2 (by omega)).mono ?_
 rintro ee w4 ⟨rfl, hen, k4⟩
 have kw : Ext w w4 := k1.trans (k2.trans (((Ext.refl w2).drewN m).trans k4))
 have hpw4 := RW.ext hpw3 k4
 have hb1 := RW.lt hpw4
 have hb2 := RW.lt hen
 have HEN := Lib.hid (show Ends n q v (fun i => u * v ^ i % q) from ⟨u, by
  have := HU.out
  unfold M; rw [this]; exact (Int.emod_eq_of_lt (by omega) (by omega)).symm, fun i _ => ⟨Nat.mod_lt _ (by omega), by
  refine (M.nat _).trans (M.of ?_); rw [Int.natCast_mul, Int.natCast_pow]⟩⟩)
 go_wp2
 go_ret2
 have kV := kw.alloc (Obj.cells #[Value.int IntKind.i64 (n : Int), Value.int IntKind.u64 (q : Int), Value.slice (some ⟨w1.heap.size, 0, none⟩) (2 * n) (2 * n), Value.slice (some ⟨(w2.drewN m).heap.size, 0, none⟩) n n] 231)
 refine ⟨w4.heap.size, r, v, x, hx, HRD, rfl, ⟨_, _, w1.heap.size, (w2.drewN m).heap.size, ⟨by simp, by simp; omega, by simp; exact Nat.lt_succ_of_lt hb2, by simp, by simp, by simp, by simp, RW.ext hpw4 ((Ext.refl w4).alloc _), RW.ext hen ((Ext.refl w4).alloc _)⟩, HG2.out, HEN.out⟩, kV⟩
def strongP (n a : Nat) : Bool := (fun x => cond (Nat.beq x 1) true (hit n (tzS n) x)) (pm n a 64 (oddS n))
def isP (n : Nat) : Bool := cond (Nat.blt n 2) false (smallF n L12 (L12.all (strongP n)))
theorem isP_eq {n : Nat} (h0 : 2 ≤ n) (h : n < 18446744073709551616) : isS n = isP n := by
 have e : ∀ a, strongS n a = strongP n a := fun a => by
  unfold strongS strongP
  rw [pm_eq n a 64 (oddS n) (odd_tz h0 h).1]
 unfold isS isP
 rw [show strongS n = strongP n from funext e]
structure Root (n q k r v : Nat) : Prop where
 nk : n = 2 ^ k
 q0 : 2 ≤ q
 q1 : q ≤ 2305843009213693952
 n0 : 2 ≤ n
 n1 : n ≤ 512
 hr : M (q : Int) ((r : Int) ^ (2 ^ k)) (-1)
 hv : M (q : Int) ((v : Int) ^ (2 ^ k)) (-1)
 rv : M (q : Int) ((r : Int) * (v : Int)) 1
theorem Table.root {w : World} {p n q k r v : Nat} (h : Table w p n q k r v) : Root n q k r v := by
 obtain ⟨a, e, _, _, _, g, _⟩ := h.ex
 have h2 := two_le g.k0 g.k9
 rw [← g.nk] at h2
 exact ⟨g.nk, g.q0, g.q1, h2.1, h2.2, by rw [← g.nk]; exact g.hr, by rw [← g.nk]; exact g.hv, g.rv⟩
theorem fx_two (w : World) (a b : Nat) (za zb : Int) (ha : za = a) (hb : zb = b) : FX (w.alloc (.cells #[.int .u64 za, .int .u64 zb] 22)) (some ⟨w.heap.size, 0, none⟩) 2 2 (fun i => if i = 0 then a else b) := by
 subst ha hb
 refine ⟨Nat.le_refl _, fun _ => ⟨_, rfl, fun j hj => ?_⟩⟩
 rw [Addr.add_lit, Nat.zero_add]
 rcases (show j = 0 ∨ j = 1 by omega) with rfl | rfl <;> simp
def FitP (n : Int) (q : Nat) : Prop := 2 ≤ n ∧ q < 2305843009213693952 ∧ stepS (2 * n.toNat) = true ∧ q % (2 * n.toNat) = 1 ∧ isS q = true
theorem fit_ks : ∀ n, n < 33 → 2 ≤ n → stepS (2 * n) = true → n = 2 ∨ n = 4 ∨ n = 8 ∨ n = 16 ∨ n = 32 := by decide +kernel
theorem step_two : ∀ n, n < 33 → 2 ≤ n → stepS (2 * n) = stepS n := by decide +kernel
theorem fit_k {n : Nat} (h : n ≤ 32) (h2 : 2 ≤ n) (hs : stepS (2 * n) = true) : ∃ k, 1 ≤ k ∧ k ≤ 9 ∧ n = 2 ^ k := by
 rcases fit_ks n (by omega) h2 hs with rfl | rfl | rfl | rfl | rfl
 ·exact ⟨1, by omega, by omega, rfl⟩
 ·exact ⟨2, by omega, by omega, rfl⟩
 ·exact ⟨3, by omega, by omega, rfl⟩
 ·exact ⟨4, by omega, by omega, rfl⟩
 ·exact ⟨5, by omega, by omega, rfl⟩
structure Tab (w : World) (p n q : Nat) (a e : Nat → Nat) : Prop where
 n0 : 2 ≤ n
 n1 : n ≤ 32
 q0 : 2 ≤ q
 q1 : q < 2305843009213693952
 nk : ∃ k, 1 ≤ k ∧ k ≤ 9 ∧ n = 2 ^ k
 al : ∀ i, i < 2 * n → a i < q
 el : ∀ i, i < n → e i < q
 tb : ∃ gp ge, Tb w w.heap.size p n q a e gp ge
 root : (∃ x, x < q ∧ noSq q x = true) → ∃ k r v, Table w p n q k r v
theorem Tab.ext {w w' : World} {p n q : Nat} {a e : Nat → Nat} (h : Tab w p n q a e) (k : Ext w w') : Tab w' p n q a e :=
 ⟨h.n0, h.n1, h.q0, h.q1, h.nk, h.al, h.el, by obtain ⟨gp, ge, ht⟩ := h.tb; exact ⟨gp, ge, ht.ext k⟩, fun hs => by obtain ⟨k', r, v, ht⟩ := h.root hs; exact ⟨k', r, v, ht.ext k⟩⟩
theorem lr_lt {q sq : Nat} (hq : 0 < q) : ∀ k r l, l < q → lr q sq k r l < q
 | 0, _, l, h => h
 | k + 1, r, l, h => by rw [lr]; exact lr_lt hq k _ _ (by have := Nat.mod_lt (r * sq) hq; omega)
theorem rootS_lt {q n x : Nat} (hq : 0 < q) : rootS q n x < q := by unfold rootS; exact lr_lt hq _ _ _ (Nat.mod_lt _ hq)
set_option maxHeartbeats 4000000 in
theorem newT_any (n q : Nat) (w : World) (hn0 : 2 ≤ n) (hn1 : n ≤ 32) (hq1 : q < 2305843009213693952) (hs : Hid (stepS (2 * n) = true)) (ho : Hid (q % (2 * n) = 1)) (hi : Hid (isS q = true)) (hT : Tabs w) :
    Calls Tryz.prog 110 #[.int .i64 (n : Int), .int .u64 (q : Int)] w fun ee w' => ∃ (p : Nat) (a e : Nat → Nat), ee = .returned (.tuple #[.pointer (some ⟨p, 0, none⟩), .int .i64 0]) ∧ Tab w' p n q a e ∧ Ext w w' := by
 have hq2 := isS_ge hi.out
 obtain ⟨k, hk0, hk9, hk⟩ := fit_k hn1 hn0 hs.out
 have HK := Lib.hid hk
 clear hk
 have hF : (∃ x, x < q ∧ noSq q x = true) → Fit n q k := fun h => ⟨HK.out, hk0, hk9, hq1, hs.out, ho.out, hi.out, h⟩
 have HF := Lib.hid hF
 have HT := Lib.hid hT
 clear hT hF
 go_enter Tryz.func110, Tryz.ntmps110
 go_wp2_with fail
 have hR := rootN q (2 * n) w (by omega) (by omega) HT.out hs.out ho.out hi.out
 rw [show ((2 * n : Nat) : Int) = 2 * (n : Int) by omega] at hR
 refine hR.mono ?_
 clear hR
 rintro ee w1 ⟨x, hx, rfl, k1⟩
 have HG0 := Lib.hid (show (∃ x, x < q ∧ noSq q x = true) → Good n q k (rootS q (2 * n) x) (1 * rootS q (2 * n) x ^ (2 * n - 1) % q) (fun i => 1 * rootS q (2 * n) x ^ i % q) from fun h => ((HF.out h).good hx (fun i => 1 * rootS q (2 * n) x ^ i % q) (fun _ => rfl)).2)
 have hr : rootS q (2 * n) x < q := rootS_lt (by omega)
 obtain ⟨r, hrd⟩ : ∃ r, r = rootS q (2 * n) x := ⟨_, rfl⟩
 rw [← hrd] at hr HG0 ⊢
 clear hrd hx
 go_wp2_with fail
 have hP := progression_any 1 r q (2 * n) w1 (by omega) (by omega) hr (by omega)
 rw [show ((2 * n : Nat) : Int) = 2 * (n : Int) by omega, show ((1 : Nat) : Int) = 1 from rfl] at hP
 refine hP.mono ?_
 clear hP
 rintro ee w2 ⟨rfl, hpw, k2⟩
 go_wp2_with fail
 refine (inv_any n q _ (by omega) (by omega)).mono ?_
 rintro ee w3 ⟨u, ok, m, hok, rfl, rfl⟩
 have hok2 : 0 ≤ u ∧ u < q ∧ ((n : Int) * u) % (q : Int) = 1 := by
  rcases hok with ⟨_, _, _, h3, h4, h5⟩ | ⟨h, _⟩
  ·exact ⟨h3, h4, h5⟩
  ·have := gcd_one ho.out
   rcases h with h | h
   ·omega
   ·exact absurd this h
 obtain ⟨u0, u1, hu⟩ := hok2
 obtain ⟨u, rfl⟩ := Int.eq_ofNat_of_zero_le u0
 have HU := Lib.hid hu
 clear hu hok
 have hpw3 : FC (w2.drewN m) w1.heap.size (2 * n) q (fun i => 1 * r ^ i % q) := hpw
 have c0 := hpw3.by_ (i := 2 * n - 1) (by omega)
 have hvl : 1 * r ^ (2 * n - 1) % q < q := Nat.mod_lt _ (by omega)
 obtain ⟨v, hvd⟩ : ∃ v, v = 1 * r ^ (2 * n - 1) % q := ⟨_, rfl⟩
 obtain ⟨j, hj⟩ : ∃ j, j = 2 * n - 1 := ⟨_, rfl⟩
 have hj2 : 2 * (n : Int) - 1 = (j : Int) := by omega
 have c1 : (w2.drewN m).cell? ⟨w1.heap.size, j * 2, none⟩ = some (.int .u64 (v : Int)) := by rw [hj, hvd]; exact c0
 have hvl2 : v < q := by rw [hvd]; exact hvl
 have HG2 : Hid ((∃ x, x < q ∧ noSq q x = true) → Good n q k r v (fun i => 1 * r ^ i % q)) := Lib.hid (by rw [hvd]; exact HG0.out)
 have hjl : j < 2 * n := by omega
 clear c0 hvl hj hvd HG0
 have i0 : (0 : Int) ≤ (j : Int) := by omega
 have i1 : (j : Int) < 2 * (n : Int) := by omega
 go_wp2_with fail
 refine (progression_any u v q n _ (by omega) (by omega) hvl2 (by omega)).mono ?_
 rintro ee w4 ⟨rfl, hen, k4⟩
 have kw : Ext w w4 := k1.trans (k2.trans (((Ext.refl w2).drewN m).trans k4))
 have hpw4 := RW.ext hpw3 k4
 have hb1 := RW.lt hpw4
 have hb2 := RW.lt hen
 have HEN := Lib.hid (show Ends n q v (fun i => u * v ^ i % q) from ⟨u, by
  have := HU.out
  unfold M; rw [this]; exact (Int.emod_eq_of_lt (by omega) (by omega)).symm, fun i _ => ⟨Nat.mod_lt _ (by omega), by
  refine (M.nat _).trans (M.of ?_); rw [Int.natCast_mul, Int.natCast_pow]⟩⟩)
 go_wp2
 go_ret2
 have hen2 : FC w4 w2.heap.size n q (fun i => u * v ^ i % q) := hen
 have hb3 : w2.heap.size < w4.heap.size := hb2
 have kV := kw.alloc (Obj.cells #[Value.int IntKind.i64 (n : Int), Value.int IntKind.u64 (q : Int), Value.slice (some ⟨w1.heap.size, 0, none⟩) (2 * n) (2 * n), Value.slice (some ⟨w2.heap.size, 0, none⟩) n n] 231)
 have hsz : (w4.alloc (Obj.cells #[Value.int IntKind.i64 (n : Int), Value.int IntKind.u64 (q : Int), Value.slice (some ⟨w1.heap.size, 0, none⟩) (2 * n) (2 * n), Value.slice (some ⟨w2.heap.size, 0, none⟩) n n] 231)).heap.size = w4.heap.size + 1 := by simp
 have hTb : Tb (w4.alloc (Obj.cells #[Value.int IntKind.i64 (n : Int), Value.int IntKind.u64 (q : Int), Value.slice (some ⟨w1.heap.size, 0, none⟩) (2 * n) (2 * n), Value.slice (some ⟨w2.heap.size, 0, none⟩) n n] 231)) (w4.alloc (Obj.cells #[Value.int IntKind.i64 (n : Int), Value.int IntKind.u64 (q : Int), Value.slice (some ⟨w1.heap.size, 0, none⟩) (2 * n) (2 * n), Value.slice (some ⟨w2.heap.size, 0, none⟩) n n] 231)).heap.size w4.heap.size n q (fun i => 1 * r ^ i % q) (fun i => u * v ^ i % q) w1.heap.size w2.heap.size := ⟨by rw [hsz]; omega, by rw [hsz]; omega, by rw [hsz]; omega, by simp, by simp, by simp, by simp, RW.ext hpw4 ((Ext.refl w4).alloc _), RW.ext hen2 ((Ext.refl w4).alloc _)⟩
 exact ⟨w4.heap.size, (fun i => 1 * r ^ i % q), (fun i => u * v ^ i % q), rfl, ⟨hn0, hn1, hq2, hq1, ⟨k, hk0, hk9, HK.out⟩, fun i _ => Nat.mod_lt _ (by omega), fun i _ => Nat.mod_lt _ (by omega), ⟨_, _, hTb⟩, fun h => ⟨k, r, v, ⟨_, _, _, _, hTb, HG2.out h, HEN.out⟩⟩⟩, kV⟩
theorem newNo_any (n : Int) (q : Nat) (w : World) (h0 : -9223372036854775808 ≤ n) (hn1 : n ≤ 32) (hq : q < 18446744073709551616) (hno : ¬ FitP n q) (hT : Tabs w) :
    Calls Tryz.prog 110 #[.int .i64 n, .int .u64 (q : Int)] w fun ee w' => ee = .returned (.tuple #[.pointer none, .int .i64 1]) ∧ Ext w w' := by
 have HT := Lib.hid hT
 clear hT
 have HN := Lib.hid hno
 clear hno
 by_cases g0 : n < 2
 ·go_enter Tryz.func110, Tryz.ntmps110
  go_wp2
  go_ret2
  exact ⟨rfl, Ext.refl _⟩
 by_cases g1 : 2305843009213693952 ≤ q
 ·go_enter Tryz.func110, Tryz.ntmps110
  go_wp2
  go_ret2
  exact ⟨rfl, Ext.refl _⟩
 obtain ⟨m, rfl⟩ := Int.eq_ofNat_of_zero_le (show 0 ≤ n by omega)
 go_enter Tryz.func110, Tryz.ntmps110
 go_wp2_with fail
 have hR := root_any q (2 * m) w (by omega) (by omega) HT.out
 rw [show ((2 * m : Nat) : Int) = 2 * (m : Int) by omega] at hR
 refine hR.mono ?_
 clear hR
 rintro ee w1 (⟨_, rfl, k1⟩ | ⟨h1, h2, h3, _⟩)
 ·go_wp2
  go_ret2
  exact ⟨rfl, k1⟩
 ·exact absurd ⟨by omega, by omega, h1, h2, h3⟩ HN.out
theorem FX.cut {w : World} {A : Option Addr} {n c : Nat} {f : Nat → Nat} (h : FX w A n c f) {m : Nat} (hm : m ≤ n) : FX w A m c f :=
 ⟨Nat.le_trans hm h.room, fun h0 => by
  obtain ⟨ad, e, hc⟩ := h.cells (by omega)
  exact ⟨ad, e, fun j hj => hc j (by omega)⟩⟩
def fldF (q p : Nat → Nat) (i : Nat) : Value := if i % 2 = 0 then .int .u64 (q (i / 2) : Int) else .pointer (some ⟨p (i / 2), 0, none⟩)
def FR (w : World) (g L : Nat) (q p : Nat → Nat) : Prop := RW w g 188 (L * 2) (fldF q p)
theorem FR.prime {w : World} {g L : Nat} {q p : Nat → Nat} (h : FR w g L q p) {i : Nat} (hi : i < L) : w.cell? ⟨g, i * 2, none⟩ = some (.int .u64 (q i : Int)) := by
 rw [RW.cell h (by omega), fldF, if_pos (by omega), Nat.mul_div_cancel _ (by omega)]
theorem FR.table {w : World} {g L : Nat} {q p : Nat → Nat} (h : FR w g L q p) {i : Nat} (hi : i < L) : w.cell? ⟨g, i * 2 + 1, none⟩ = some (.pointer (some ⟨p i, 0, none⟩)) := by
 rw [RW.cell h (by omega), fldF, if_neg (by omega), show (i * 2 + 1) / 2 = i by omega]
structure Rg (w : World) (r n L : Nat) (q p : Nat → Nat) (a e : Nat → Nat → Nat) : Prop where
 l0 : 0 < L
 l1 : L ≤ 24
 n0 : 2 ≤ n
 n1 : n ≤ 32
 ql : ∀ j, j < L → 2 ≤ q j ∧ q j < 2305843009213693952
 size : w.cell? ⟨r, 0, none⟩ = some (.int .i64 (n : Int))
 ex : ∃ gf, w.cell? ⟨r, 1, none⟩ = some (.slice (some ⟨gf, 0, none⟩) L L) ∧ FR w gf L q p
 tab : ∀ j, j < L → Tab w (p j) n (q j) (a j) (e j)
theorem Rg.ext {w w' : World} {r n L : Nat} {q p : Nat → Nat} {a e : Nat → Nat → Nat} (h : Rg w r n L q p a e) (k : Ext w w') : Rg w' r n L q p a e :=
 ⟨h.l0, h.l1, h.n0, h.n1, h.ql, cell_ext k h.size, by obtain ⟨gf, h1, h2⟩ := h.ex; exact ⟨gf, cell_ext k h1, RW.ext h2 k⟩, fun j hj => (h.tab j hj).ext k⟩
structure PX (w : World) (A : Option Addr) (L c : Nat) (As : Nat → Option Addr) (ns cs : Nat → Nat) (f : Nat → Nat → Nat) : Prop where
 room : L ≤ c
 cells : 0 < L → ∃ ad, A = some ad ∧ ∀ j, j < L → w.cell? (ad.add j) = some (.slice (As j) (ns j) (cs j))
 rows : ∀ j, j < L → FX w (As j) (ns j) (cs j) (f j)
theorem PX.ext {w w' : World} {A : Option Addr} {L c : Nat} {As : Nat → Option Addr} {ns cs : Nat → Nat} {f : Nat → Nat → Nat} (h : PX w A L c As ns cs f) (k : Ext w w') : PX w' A L c As ns cs f :=
 ⟨h.room, fun h0 => by
  obtain ⟨ad, e, hc⟩ := h.cells h0
  exact ⟨ad, e, fun j hj => cell_ext k (hc j hj)⟩, fun j hj => (h.rows j hj).ext k⟩
def El (n M : Nat) (q : Nat → Nat) (L : Nat) (ns : Nat → Nat) (f : Nat → Nat → Nat) : Prop := 0 < L ∧ L ≤ M ∧ ∀ j, j < L → ns j = n ∧ ∀ i, i < ns j → f j i < q j
theorem index_any (A : Option Addr) (n c x : Nat) (f : Nat → Nat) (w : World) (hX : FX w A n c f) (hn : n ≤ 100000) :
    Calls Tryz.prog 234 #[.slice A n c, .int .u64 (x : Int)] w fun ee w' => ∃ z : Int, (0 ≤ z ∧ (∃ i, i < n ∧ f i = x) ∨ z = -1 ∧ ∀ i, i < n → f i ≠ x) ∧ ee = .returned (.int .i64 z) ∧ w = w' := by
 go_enter Tryz.func234, Tryz.ntmps234
 go_wp2
 go_loop [8] (fun i => ∃ m : Nat, m ≤ n ∧ i = .int .i64 (m : Int) ∧ Hid (∀ i, i < m → f i ≠ x)) (fun i => n - (intOf i).toNat)
 case atStart => exact ⟨0, by omega, rfl, Lib.hid fun i hi => by omega⟩
 case round =>
  obtain ⟨m, hm, rfl, hno⟩ := hrel
  by_cases hlt : m < n
  ·obtain ⟨ad, rfl, hc⟩ := hX.cells (by omega)
   have hcell := hc m hlt
   clear hc
   by_cases he : f m = x
   ·have HE := Lib.hid he
    rw [he] at hcell
    clear he
    go_wp2
    go_ret
    exact ⟨_, .inl ⟨by omega, m, hlt, HE.out⟩, rfl, rfl⟩
   ·have HE := Lib.hid (show ∀ i, i < m + 1 → f i ≠ x from fun i hi => by
       by_cases h : i = m
       ·rw [h]; exact he
       ·exact hno.out i (by omega))
    have hne : ((x : Int) == (f m : Int)) = false := by simp; omega
    clear he
    generalize f m = y at *
    go_wp2
    exact ⟨⟨m + 1, by omega, by go_num, HE⟩, by simp [intOf]; omega⟩
  ·have HE := Lib.hid (show ∀ i, i < n → f i ≠ x from fun i hi => hno.out i (by omega))
   go_wp2
   go_ret
   exact ⟨_, .inr ⟨rfl, HE.out⟩, rfl, rfl⟩
theorem contains_any (A : Option Addr) (n c x : Nat) (f : Nat → Nat) (w : World) (hX : FX w A n c f) (hn : n ≤ 100000) :
    Calls Tryz.prog 171 #[.slice A n c, .int .u64 (x : Int)] w fun ee w' => ∃ b : Bool, Hid (b = true ↔ ∃ i, i < n ∧ f i = x) ∧ ee = .returned (.bool b) ∧ w = w' := by
 go_enter Tryz.func171, Tryz.ntmps171
 go_wp2_with fail
 refine (index_any A n c x f w hX hn).mono ?_
 rintro ee w' ⟨z, hz, rfl, rfl⟩
 rcases hz with ⟨h0, h1⟩ | ⟨rfl, h1⟩
 ·have H1 := Lib.hid h1
  clear h1
  go_wp2
  go_ret
  exact ⟨true, Lib.hid ⟨fun _ => H1.out, fun _ => rfl⟩, rfl, rfl⟩
 ·have H1 := Lib.hid h1
  clear h1
  go_wp2
  go_ret
  exact ⟨_, Lib.hid ⟨fun h => by simp at h, fun ⟨i, hi, he⟩ => absurd he (H1.out i hi)⟩, rfl, rfl⟩
theorem info_fld : (Tryz.prog.info? 188).map (fun i => (i.zero, i.size, i.bytes)) = some (some (.agg #[.int .u64 0, .pointer none]), 2, 16) := by kernel_rfl
def zeroF (i : Nat) : Value := if i % 2 = 0 then .int .u64 0 else .pointer none
def newFld (c : Nat) : Array Value := ((List.range (c * 2)).map zeroF).toArray
theorem newFld_rw (w : World) (c : Nat) : RW (w.alloc (.cells (newFld c) 188)) w.heap.size 188 (c * 2) zeroF := heap_alloc_new w _
theorem make_fld (c : Nat) (hc : c ≤ 1000000) (w : World) :
    (Instr.makeSlice 159 (.int .i64 (c : Int)) (.int .i64 (c : Int))).run Tryz.prog w = .ok (.slice (some ⟨w.heap.size, 0, none⟩) c c) (w.alloc (.cells (newFld c) 188)) := by
 obtain ⟨i0, hi, hz0, hz1, hz2⟩ := info_parts info_fld
 have hr := run_make (P := Tryz.prog) w 159 188 i0 (.agg #[.int .u64 0, .pointer none]) Tryz.underlying159 hi hz0 .i64 .i64 (c : Int) (c : Int) (by omega) (by omega) (by rw [hz2]; omega) (by omega)
 rw [hz1] at hr
 simp only [Int.toNat_natCast] at hr
 rw [hr]
 have e : madeCells (Value.agg #[.int .u64 0, .pointer none]).cells (c * 2) = newFld c := by
  apply Array.toList_inj.1
  unfold newFld madeCells zeroF
  apply List.ext_getElem?
  intro j
  by_cases hj : j < c * 2
  ·rcases (show j % 2 = 0 ∨ j % 2 = 1 by omega) with h | h <;> simp [hj, Value.cells, h]
  ·simp [hj]
 rw [e]
def fldUp (q p : Nat → Nat) (k i : Nat) : Value := if i < k * 2 then fldF q p i else zeroF i
theorem fldUp_step (q p : Nat → Nat) (k i P : Nat) :
    (if i = k * 2 + 1 then Value.pointer (some ⟨P, 0, none⟩) else if i = k * 2 then .int .u64 (q k : Int) else fldUp q p k i) = fldUp q (fun j => if j = k then P else p j) (k + 1) i := by
 unfold fldUp
 by_cases h1 : i = k * 2 + 1
 ·subst h1; rw [if_pos rfl, if_pos (by omega), fldF, if_neg (by omega), show (k * 2 + 1) / 2 = k by omega, if_pos rfl]
 ·rw [if_neg h1]
  by_cases h2 : i = k * 2
  ·subst h2; rw [if_pos rfl, if_pos (by omega), fldF, if_pos (by omega), Nat.mul_div_cancel _ (by omega)]
  ·rw [if_neg h2]
   by_cases h3 : i < k * 2
   ·rw [if_pos h3, if_pos (by omega)]; unfold fldF; show _ = if i % 2 = 0 then _ else Value.pointer (some ⟨if i / 2 = k then P else p (i / 2), 0, none⟩); rw [if_neg (show ¬ i / 2 = k by omega)]
   ·rw [if_neg h3, if_neg (by omega)]
theorem fldUp_zero (q p : Nat → Nat) (k : Nat) : ∃ z, fldUp q p k 0 = .int .u64 z := by
 unfold fldUp
 split
 ·exact ⟨_, rfl⟩
 ·exact ⟨_, rfl⟩
theorem Tb.aside {w : World} {B p n q : Nat} {a e : Nat → Nat} {gp ge : Nat} (h : Tb w B p n q a e gp ge) {g m : Nat} {F : Nat → Value} (hr : RW w g 188 m F) (hm : 0 < m) (hF : ∃ z, F 0 = .int .u64 z) (i : Nat) (v : Value) : Tb (w.setCell ⟨g, i, none⟩ v) B p n q a e gp ge := by
 have np : p ≠ g := fun e' => by
  subst e'
  have h1 := h.size
  obtain ⟨z, hz⟩ := hF
  rw [RW.cell hr hm, hz] at h1
  injection h1 with h1
  injection h1 with h1
  cases h1
 have nb : ∀ {x m' : Nat} {F' : Nat → Value}, RW w x 229 m' F' → x ≠ g := fun {x m' F'} hx e' => by
  subst e'
  unfold RW at hx hr
  rw [hr] at hx
  injection hx with hx
  injection hx with _ hx
  exact absurd hx (by decide)
 have k : ∀ {x m' : Nat} {F' : Nat → Value}, RW w x 229 m' F' → RW (w.setCell ⟨g, i, none⟩ v) x 229 m' F' := fun {x m' F'} hx => RW.keep hx (Below.heap_setCell _ _ _ _ (fun e' => nb hx (by simpa using e')))
 exact ⟨h.hp, h.hgp, h.hge, far_cell h.size np, far_cell h.prime np, far_cell h.powers np, far_cell h.ends np, k h.pw, k h.en⟩
theorem Tab.aside {w : World} {p n q : Nat} {a e : Nat → Nat} (h : Tab w p n q a e) {g m : Nat} {F : Nat → Value} (hr : RW w g 188 m F) (hm : 0 < m) (hF : ∃ z, F 0 = .int .u64 z) (i : Nat) (v : Value) : Tab (w.setCell ⟨g, i, none⟩ v) p n q a e := by
 have hs : (w.setCell ⟨g, i, none⟩ v).heap.size = w.heap.size := by simp [World.setCell]
 refine ⟨h.n0, h.n1, h.q0, h.q1, h.nk, h.al, h.el, ?_, fun hq => ?_⟩
 ·obtain ⟨gp, ge, ht⟩ := h.tb
  exact ⟨gp, ge, by rw [hs]; exact ht.aside hr hm hF i v⟩
 ·obtain ⟨k, r, v', a', e', gp, ge, ht, hg, he⟩ := h.root hq
  exact ⟨k, r, v', a', e', gp, ge, by rw [hs]; exact ht.aside hr hm hF i v, hg, he⟩
def RowP (n : Int) (L : Nat) (q : Nat → Nat) : Prop := 0 < L ∧ L ≤ 24 ∧ ∀ j, j < L → FitP n (q j) ∧ ∀ i, i < j → q i ≠ q j
theorem fit_dec (n : Int) (q : Nat) : FitP n q ∨ ¬ FitP n q := Classical.em _
set_option maxHeartbeats 4000000 in
theorem ringNew_any (n : Int) (A : Option Addr) (L c : Nat) (q : Nat → Nat) (w : World) (h0 : -9223372036854775808 ≤ n) (hn1 : n ≤ 32) (hL : L ≤ 100000) (hX : FX w A L c q) (hq : Hid (∀ j, j < L → q j < 18446744073709551616)) (hT : Tabs w) :
    Calls Tryz.prog 109 #[.int .i64 n, .slice A L c] w fun ee w' => (¬ RowP n L q ∧ ee = .returned (.tuple #[.pointer none, .int .i64 1]) ∧ Ext w w') ∨ (RowP n L q ∧ ∃ (r : Nat) (p : Nat → Nat) (a e : Nat → Nat → Nat), ee = .returned (.tuple #[.pointer (some ⟨r, 0, none⟩), .int .i64 0]) ∧ Rg w' r n.toNat L q p a e ∧ Ext w w') := by
 have HT := Lib.hid hT
 have HX := Lib.hid hX
 clear hT hX
 by_cases g0 : L = 0
 ·subst g0
  have HN := Lib.hid (show ¬ RowP n 0 q from fun h => by have := h.1; omega)
  go_enter Tryz.func109, Tryz.ntmps109
  go_wp2
  go_ret2
  exact .inl ⟨HN.out, rfl, Ext.refl _⟩
 have g0b : ((L : Int) == 0) = false := by simp; omega
 by_cases g1 : 24 < L
 ·have HN := Lib.hid (show ¬ RowP n L q from fun h => by have := h.2.1; omega)
  go_enter Tryz.func109, Tryz.ntmps109
  go_wp2
  go_ret2
  exact .inl ⟨HN.out, rfl, Ext.refl _⟩
 have hmk := make_fld L (by omega)
 go_enter Tryz.func109, Tryz.ntmps109
 go_wp2
 clear hmk
 go_loopw [24] (fun i wr => ∃ (k : Nat) (p : Nat → Nat) (a e : Nat → Nat → Nat), k ≤ L ∧ i = .int .i64 (k : Int) ∧ RW wr w.heap.size 188 (L * 2) (fldUp q p k) ∧ Hid (∀ j, j < k → (FitP n (q j) ∧ ∀ i, i < j → q i ≠ q j) ∧ Tab wr (p j) n.toNat (q j) (a j) (e j)) ∧ Ext w wr) (fun i _ => L - (intOf i).toNat)
 case atStart => exact ⟨0, fun _ => 0, fun _ _ => 0, fun _ _ => 0, by omega, rfl, (newFld_rw w L).congr fun i _ => by unfold fldUp; rw [if_neg (by omega)], Lib.hid fun j hj => by omega, (Ext.refl w).alloc _⟩
 case round =>
  obtain ⟨k, p, a, e, hk, rfl, hrw, hall, kr⟩ := hrel
  by_cases hlt : k < L
  ·have hx := HX.out.ext kr
   obtain ⟨ad, rfl, hc⟩ := hx.cells (by omega)
   have hcell := hc k hlt
   have hql := hq.out k hlt
   have hroom := hx.room
   clear hc
   have HXk := Lib.hid (hx.cut (m := k) (by omega))
   clear hx
   have i0 : (0 : Int) ≤ (k : Int) := by omega
   have i1 : (k : Int) ≤ (L : Int) := by omega
   have i2 : (k : Int) ≤ (c : Int) := by omega
   go_wp2_with fail
   refine (contains_any _ k c (q k) q wr HXk.out (by omega)).mono ?_
   rintro ee w1 ⟨b, hb, rfl, rfl⟩
   cases b
   case true =>
    have HN := Lib.hid (show ¬ RowP n L q from fun h => by
     obtain ⟨i, hi, he⟩ := hb.out.1 rfl
     exact (h.2.2 k hlt).2 i hi he)
    go_wp2
    go_ret2
    exact .inl ⟨HN.out, rfl, kr⟩
   have HB := Lib.hid (show ∀ i, i < k → q i ≠ q k from fun i hi he => by
    have := hb.out.2 ⟨i, hi, he⟩; cases this)
   clear hb
   rcases fit_dec n (q k) with hf | hf
   case inr =>
    have HN := Lib.hid (show ¬ RowP n L q from fun h => hf (h.2.2 k hlt).1)
    have HF := Lib.hid hf
    clear hf
    go_wp2_with fail
    refine (newNo_any n (q k) wr h0 hn1 hql HF.out (HT.out.ext kr)).mono ?_
    rintro ee w2 ⟨rfl, k2⟩
    go_wp2
    go_ret2
    exact .inl ⟨HN.out, rfl, kr.trans k2⟩
   have HF := Lib.hid hf
   have hn2 := hf.1
   have hq2 := hf.2.1
   obtain ⟨m, rfl⟩ := Int.eq_ofNat_of_zero_le (show 0 ≤ n by omega)
   clear hf
   have hTo : ((m : Int)).toNat = m := by omega
   go_wp2_with fail
   refine (newT_any m (q k) wr (by omega) (by omega) hq2 (Lib.hid HF.out.2.2.1) (Lib.hid HF.out.2.2.2.1) (Lib.hid HF.out.2.2.2.2) (HT.out.ext kr)).mono ?_
   rintro ee w2 ⟨P, a2, e2, rfl, hTab, k2⟩
   have h1 := hrw.ext k2
   have c0 := h1.cell (i := k * 2) (by omega)
   have c1 := h1.cell (i := k * 2 + 1) (by omega)
   have z0 := h1.frozen (k * 2)
   have z1 := h1.frozen (k * 2 + 1)
   have hsz := h1.lt
   have HTab := Lib.hid hTab
   clear hTab
   go_wp2_with fail
   have h2 := (h1.set (show k * 2 < L * 2 by omega) (.int .u64 (q k : Int))).set (show k * 2 + 1 < L * 2 by omega) (.pointer (some ⟨P, 0, none⟩))
   have k3 : Ext w ((w2.setCell ⟨w.heap.size, k * 2, none⟩ (.int .u64 (q k : Int))).setCell ⟨w.heap.size, k * 2 + 1, none⟩ (.pointer (some ⟨P, 0, none⟩))) := ((kr.trans k2).set (p := ⟨w.heap.size, k * 2, none⟩) (Nat.le_refl _) _).set (p := ⟨w.heap.size, k * 2 + 1, none⟩) (Nat.le_refl _) _
   have h3 := h2.congr fun i _ => fldUp_step q p k i P
   have HA := Lib.hid (show ∀ (p' q' : Nat) (a' e' : Nat → Nat), Tab w2 p' m q' a' e' → Tab ((w2.setCell ⟨w.heap.size, k * 2, none⟩ (.int .u64 (q k : Int))).setCell ⟨w.heap.size, k * 2 + 1, none⟩ (.pointer (some ⟨P, 0, none⟩))) p' m q' a' e' from fun p' q' a' e' ht => by
    refine (ht.aside h1 (by omega) (fldUp_zero q p k) _ _).aside (h1.set (show k * 2 < L * 2 by omega) (.int .u64 (q k : Int))) (by omega) ?_ _ _
    by_cases hk0 : 0 = k * 2
    ·exact ⟨_, if_pos hk0⟩
    ·obtain ⟨z, hz⟩ := fldUp_zero q p k
     exact ⟨z, (if_neg hk0).trans hz⟩)
   generalize (w2.setCell ⟨w.heap.size, k * 2, none⟩ (.int .u64 (q k : Int))).setCell ⟨w.heap.size, k * 2 + 1, none⟩ (.pointer (some ⟨P, 0, none⟩)) = w3 at *
   have HALL := Lib.hid (show ∀ j, j < k + 1 → (FitP (m : Int) (q j) ∧ ∀ i, i < j → q i ≠ q j) ∧ Tab w3 ((fun j => if j = k then P else p j) j) ((m : Int)).toNat (q j) ((fun j => if j = k then a2 else a j) j) ((fun j => if j = k then e2 else e j) j) from fun j hj => by
    by_cases hjk : j = k
    ·subst hjk
     refine ⟨⟨HF.out, HB.out⟩, ?_⟩
     simp only [if_true]
     exact HA.out _ _ _ _ HTab.out
    ·obtain ⟨h5, h6⟩ := hall.out j (by omega)
     refine ⟨h5, ?_⟩
     simp only [if_neg hjk]
     exact HA.out _ _ _ _ (h6.ext k2))
   clear h1 c0 c1 z0 z1 h2 HA hrw hall
   go_wp2
   exact ⟨⟨k + 1, _, _, _, by omega, by go_num, h3, HALL, k3⟩, by simp [intOf]; omega⟩
  ·obtain rfl : k = L := by omega
   have hn2 := (hall.out 0 (by omega)).1.1.1
   have HP := Lib.hid (show RowP n k q from ⟨by omega, by omega, fun j hj => (hall.out j hj).1⟩)
   have hfr : FR wr w.heap.size k q p := hrw.congr fun i hi => by unfold fldUp; rw [if_pos hi]
   have HFR := Lib.hid hfr
   have hto : (n.toNat : Int) = n := by omega
   have HTo := Lib.hid hto
   have hlt2 := RW.lt hrw
   clear hfr hrw hto
   go_wp2
   go_ret2
   have kV := (Ext.refl wr).alloc (Obj.cells #[Value.int IntKind.i64 n, Value.slice (some ⟨w.heap.size, 0, none⟩) k k] 161)
   refine .inr ⟨HP.out, wr.heap.size, p, a, e, rfl, ⟨by omega, by omega, by omega, by omega, fun j hj => ⟨((hall.out j hj).2).q0, ((hall.out j hj).2).q1⟩, ?_, ⟨w.heap.size, ?_, RW.ext HFR.out kV⟩, fun j hj => ((hall.out j hj).2).ext kV⟩, kr.trans kV⟩
   ·rw [HTo.out]; simp
   ·simp
def Tells (w : World) (P : Prop) (ee : Ending) (w' : World) : Prop := (P ∧ ee = .returned (.bool true) ∧ Ext w w') ∨ (¬ P ∧ ee = .returned (.bool false) ∧ Ext w w')
theorem Tells.yes {w w' : World} {P : Prop} (h : P) (k : Ext w w') : Tells w P (.returned (.bool true)) w' := .inl ⟨h, rfl, k⟩
theorem Tells.no {w w' : World} {P : Prop} (h : ¬ P) (k : Ext w w') : Tells w P (.returned (.bool false)) w' := .inr ⟨h, rfl, k⟩
theorem holds_any (A : Option Addr) (n c q : Nat) (P : Option Addr) (f : Nat → Nat) (w : World) (hX : FX w A n c f) (hn : n ≤ 1000000000000000) :
    Calls Tryz.prog 281 #[.agg #[.int .u64 (q : Int), .pointer P], .slice A n c] w (Tells w (∀ i, i < n → f i < q)) := by
 have kV : Ext w (w.alloc (.cells #[.int .u64 (q : Int), .pointer P] 188)) := (Ext.refl w).alloc _
 have HX := Lib.hid (hX.ext kV)
 clear hX
 go_enter Tryz.func281, Tryz.ntmps281
 go_wp2
 have x0 : (w.alloc (.cells #[.int .u64 (q : Int), .pointer P] 188)).cell? ⟨w.heap.size, 0, none⟩ = some (.int .u64 (q : Int)) := by simp
 generalize w.alloc (.cells #[.int .u64 (q : Int), .pointer P] 188) = V at *
 go_loop [9] (fun i => ∃ m : Nat, m ≤ n ∧ i = .int .i64 (m : Int) ∧ Hid (∀ i, i < m → f i < q)) (fun i => n - (intOf i).toNat)
 case atStart => exact ⟨0, by omega, rfl, Lib.hid fun i hi => by omega⟩
 case round =>
  obtain ⟨m, hm, rfl, hno⟩ := hrel
  by_cases hlt : m < n
  ·obtain ⟨ad, rfl, hc⟩ := HX.out.cells (by omega)
   have hcell := hc m hlt
   clear hc
   by_cases he : f m < q
   ·have HE := Lib.hid (show ∀ i, i < m + 1 → f i < q from fun i hi => by
       by_cases h : i = m
       ·rw [h]; exact he
       ·exact hno.out i (by omega))
    generalize f m = y at *
    go_wp2
    exact ⟨⟨m + 1, by omega, by go_num, HE⟩, by simp [intOf]; omega⟩
   ·have HE := Lib.hid (show ¬ ∀ i, i < n → f i < q from fun h => he (h m hlt))
    generalize f m = y at *
    go_wp2
    go_ret
    exact Tells.no HE.out kV
  ·have HE := Lib.hid (show ∀ i, i < n → f i < q from fun i hi => hno.out i (by omega))
   go_wp2
   go_ret
   exact Tells.yes HE.out kV
set_option maxHeartbeats 4000000 in
theorem has_any (r n M : Nat) (q p : Nat → Nat) (a e : Nat → Nat → Nat) (A : Option Addr) (L c : Nat) (As : Nat → Option Addr) (ns cs : Nat → Nat) (f : Nat → Nat → Nat) (w : World) (hR : Rg w r n M q p a e) (hX : PX w A L c As ns cs f) (hL : L ≤ 1000000000000000) (hn : Hid (∀ j, j < L → ns j ≤ 1000000000000000)) :
    Calls Tryz.prog 252 #[.pointer (some ⟨r, 0, none⟩), .agg #[.slice A L c]] w (Tells w (El n M q L ns f)) := by
 have hl0 := hR.l0
 have hl1 := hR.l1
 have kV : Ext w (w.alloc (.cells #[.slice A L c] 73)) := (Ext.refl w).alloc _
 have t0 := cell_ext kV hR.size
 obtain ⟨gf, t1', hfr'⟩ := hR.ex
 have t1 := cell_ext kV t1'
 have hfr := RW.ext hfr' kV
 have HX := Lib.hid (hX.ext kV)
 have hn32 := hR.n1
 clear hX hR t1' hfr'
 have x0 : (w.alloc (.cells #[.slice A L c] 73)).cell? ⟨w.heap.size, 0, none⟩ = some (.slice A L c) := by simp
 by_cases g0 : L = 0
 ·subst g0
  have HE := Lib.hid (show ¬ El n M q 0 ns f from fun h => by have := h.1; omega)
  go_enter Tryz.func252, Tryz.ntmps252
  go_wp2
  go_quiet (fail)
  go_wp2
  go_ret
  exact Tells.no HE.out (kV.drewN _)
 have g0b : ((L : Int) == 0) = false := by simp; omega
 by_cases g1 : M < L
 ·have HE := Lib.hid (show ¬ El n M q L ns f from fun h => by have := h.2.1; omega)
  go_enter Tryz.func252, Tryz.ntmps252
  go_wp2
  go_quiet (fail)
  go_wp2
  go_ret
  exact Tells.no HE.out (kV.drewN _)
 go_enter Tryz.func252, Tryz.ntmps252
 go_wp2
 go_quiet (fail)
 have kD : Ext w ((w.alloc (.cells #[.slice A L c] 73)).drewN _) := kV.drewN 8
 go_wp2_with fail
 generalize hVd : (w.alloc (.cells #[.slice A L c] 73)) = V at *
 clear hVd
 go_loopw [25] (fun i wr => ∃ m : Nat, m ≤ L ∧ i = .int .i64 (m : Int) ∧ Hid (∀ j, j < m → ns j = n ∧ ∀ i, i < ns j → f j i < q j) ∧ Ext V wr) (fun i _ => L - (intOf i).toNat)
 case atStart => exact ⟨0, by omega, rfl, Lib.hid fun i hi => by omega, (Ext.refl V).drewN _⟩
 case round =>
  obtain ⟨m, hm, rfl, hno, kr⟩ := hrel
  by_cases hlt : m < L
  ·obtain ⟨ad, rfl, hc⟩ := (HX.out.ext kr).cells (by omega)
   have hcell := hc m hlt
   have HXm := Lib.hid ((HX.out.ext kr).rows m hlt)
   have hnm := hn.out m hlt
   clear hc
   have t0' := cell_ext kr t0
   have t1' := cell_ext kr t1
   have f0 := cell_ext kr (FR.prime hfr (i := m) (by omega))
   have f1 := cell_ext kr (FR.table hfr (i := m) (by omega))
   by_cases hE : ns m = n
   case neg =>
    have hE2 : ((ns m : Int) == (n : Int)) = false := by simp; omega
    have hE3 : ((ns m : Int) != (n : Int)) = true := by simp; omega
    have HE := Lib.hid (show ¬ El n M q L ns f from fun h => hE (h.2.2 m hlt).1)
    clear hE
    generalize ns m = nm at *
    go_wp2
    go_ret
    exact Tells.no HE.out (kV.trans kr)
   have HNM := Lib.hid hE
   rw [hE] at hcell HXm
   clear hE
   have i0 : (0 : Int) ≤ (m : Int) := by omega
   have i1 : (m : Int) < (M : Int) := by omega
   have hee : ((n : Int) != (n : Int)) = false := by simp
   go_wp2_with fail
   refine (holds_any (As m) n (cs m) (q m) (some ⟨p m, 0, none⟩) (f m) wr HXm.out (by omega)).mono ?_
   rintro ee w2 (⟨hy, rfl, k2⟩ | ⟨hy, rfl, k2⟩)
   ·have HE := Lib.hid (show ∀ j, j < m + 1 → ns j = n ∧ ∀ i, i < ns j → f j i < q j from fun j hj => by
       by_cases h : j = m
       ·subst h; exact ⟨HNM.out, fun i hi => hy i (by rw [← HNM.out]; exact hi)⟩
       ·exact hno.out j (by omega))
    clear hy
    go_wp2
    exact ⟨⟨m + 1, by omega, by go_num, HE, kr.trans k2⟩, by simp [intOf]; omega⟩
   ·have HE := Lib.hid (show ¬ El n M q L ns f from fun h => hy fun i hi => (h.2.2 m hlt).2 i (by rw [HNM.out]; exact hi))
    clear hy
    go_wp2
    go_ret
    exact Tells.no HE.out (kV.trans (kr.trans k2))
  ·have HE := Lib.hid (show El n M q L ns f from ⟨by omega, by omega, fun j hj => hno.out j (by omega)⟩)
   go_wp2
   go_ret
   exact Tells.yes HE.out (kV.trans kr)
def Chk (w : World) (P : Prop) (ee : Ending) (w' : World) : Prop := (P ∧ ee = .returned (.int .i64 0) ∧ Ext w w') ∨ (¬ P ∧ ee = .returned (.int .i64 3) ∧ Ext w w')
set_option maxHeartbeats 2000000 in
theorem rcheck_any (r n M : Nat) (q p : Nat → Nat) (a e : Nat → Nat → Nat) (E : Option Addr) (m mc : Nat) (A : Nat → Option Addr) (L c : Nat → Nat) (As : Nat → Nat → Option Addr) (ns cs : Nat → Nat → Nat) (f : Nat → Nat → Nat → Nat) (w : World) (hR : Rg w r n M q p a e) (hm : m ≤ 1000)
    (hE : Hid (0 < m → ∃ ad, E = some ad ∧ ∀ j, j < m → w.cell? (ad.add j) = some (.slice (A j) (L j) (c j))))
    (hX : Hid (∀ j, j < m → PX w (A j) (L j) (c j) (As j) (ns j) (cs j) (f j) ∧ L j ≤ 1000000000000000 ∧ ∀ i, i < L j → ns j i ≤ 1000000000000000)) :
    Calls Tryz.prog 195 #[.pointer (some ⟨r, 0, none⟩), .slice E m mc] w (Chk w (∀ j, j < m → El n M q (L j) (ns j) (f j))) := by
 have hl0 := hR.l0
 obtain ⟨gf, t1, hfr⟩ := hR.ex
 have HR := Lib.hid hR
 clear hfr hR
 have hz : ((M : Int) == 0) = false := by simp; omega
 go_enter Tryz.func195, Tryz.ntmps195
 go_wp2
 go_loopw [19] (fun i wr => ∃ k : Nat, k ≤ m ∧ i = .int .i64 (k : Int) ∧ Hid (∀ j, j < k → El n M q (L j) (ns j) (f j)) ∧ Ext w wr) (fun i _ => m - (intOf i).toNat)
 case atStart => exact ⟨0, by omega, rfl, Lib.hid fun i hi => by omega, Ext.refl _⟩
 case round =>
  obtain ⟨k, hk, rfl, hno, kr⟩ := hrel
  by_cases hlt : k < m
  ·obtain ⟨ad, rfl, hc⟩ := hE.out (by omega)
   have hcell := cell_ext kr (hc k hlt)
   obtain ⟨h1, h2, h3⟩ := hX.out k hlt
   have H1 := Lib.hid h1
   have H3 := Lib.hid h3
   clear hc h1 h3
   go_wp2_with fail
   have kV : Ext wr (wr.alloc (.cells #[.slice (A k) (L k) (c k)] 73)) := (Ext.refl wr).alloc _
   have kw := kr.trans kV
   refine (has_any r n M q p a e (A k) (L k) (c k) (As k) (ns k) (cs k) (f k) _ (HR.out.ext kw) (H1.out.ext kw) h2 H3).mono ?_
   rintro ee w2 (⟨hy, rfl, k2⟩ | ⟨hy, rfl, k2⟩)
   ·have HE := Lib.hid (show ∀ j, j < k + 1 → El n M q (L j) (ns j) (f j) from fun j hj => by
       by_cases h : j = k
       ·subst h; exact hy
       ·exact hno.out j (by omega))
    clear hy
    go_wp2
    exact ⟨⟨k + 1, by omega, by go_num, HE, kw.trans k2⟩, by simp [intOf]; omega⟩
   ·have HE := Lib.hid (show ¬ ∀ j, j < m → El n M q (L j) (ns j) (f j) from fun h => hy (h k hlt))
    clear hy
    go_wp2
    go_ret
    exact .inr ⟨HE.out, rfl, kw.trans k2⟩
  ·have HE := Lib.hid (show ∀ j, j < m → El n M q (L j) (ns j) (f j) from fun j hj => hno.out j (by omega))
   go_wp2
   go_ret
   exact .inl ⟨HE.out, rfl, kr⟩
theorem levelOf_any (A : Option Addr) (L c : Nat) (w : World) (hL : L ≤ 1000000000000000) :
    Calls Tryz.prog 199 #[.agg #[.slice A L c]] w fun ee w' => ee = .returned (.int .i64 ((L : Int) - 1)) ∧ Ext w w' := by
 go_enter Tryz.func199, Tryz.ntmps199
 go_wp2
 go_ret
 exact ⟨by go_simp, (Ext.refl w).alloc _⟩
theorem info_uss : (Tryz.prog.info? 23).map (fun i => (i.zero, i.size, i.bytes)) = some (some (.slice none 0 0), 1, 24) := by kernel_rfl
structure PM (w : World) (G L n : Nat) (As : Nat → Option Addr) (cs : Nat → Nat) (F : Nat → Nat → Nat) : Prop where
 row : RW w G 23 L (fun j => .slice (As j) n (cs j))
 lists : ∀ j, j < L → FX w (As j) n (cs j) (F j)
theorem PM.px {w : World} {G L n : Nat} {As : Nat → Option Addr} {cs : Nat → Nat} {F : Nat → Nat → Nat} (h : PM w G L n As cs F) : PX w (some ⟨G, 0, none⟩) L L As (fun _ => n) cs F :=
 ⟨Nat.le_refl _, fun _ => ⟨_, rfl, fun j hj => by rw [Addr.add_lit, Nat.zero_add]; exact RW.cell h.row hj⟩, h.lists⟩
theorem PM.ext {w w' : World} {G L n : Nat} {As : Nat → Option Addr} {cs : Nat → Nat} {F : Nat → Nat → Nat} (h : PM w G L n As cs F) (k : Ext w w') : PM w' G L n As cs F := ⟨RW.ext h.row k, fun j hj => (h.lists j hj).ext k⟩
theorem FX.aside {w : World} {A : Option Addr} {n c : Nat} {f : Nat → Nat} (h : FX w A n c f) {p : Addr} {B : Option Addr} {m k : Nat} (hp : w.cell? p = some (.slice B m k)) (v : Value) : FX (w.setCell p v) A n c f :=
 ⟨h.room, fun hn => by
  obtain ⟨ad, e, hc⟩ := h.cells hn
  refine ⟨ad, e, fun j hj => ?_⟩
  rw [set_far]
  ·exact hc j hj
  ·intro e'
   have := hc j hj
   rw [← e', hp] at this
   injection this with this
   cases this⟩
theorem RW.ne {w : World} {x g m m' : Nat} {t t' : TypeId} {F F' : Nat → Value} (h : RW w x t m F) (h' : RW w g t' m' F') (ht : t ≠ t') : x ≠ g := fun e => by
 subst e
 unfold RW at h h'
 rw [h'] at h
 injection h with h
 injection h with _ h
 exact ht h.symm
theorem RW.aside {w : World} {x g m m' : Nat} {t t' : TypeId} {F F' : Nat → Value} (h : RW w x t m F) (h' : RW w g t' m' F') (ht : t ≠ t') (i : Nat) (v : Value) : RW (w.setCell ⟨g, i, none⟩ v) x t m F :=
 RW.keep h (Below.heap_setCell _ _ _ _ (fun e' => RW.ne h h' ht (by simpa using e')))
def lif (v : Int) (q : Nat) : Nat := (v % (q : Int)).toNat
theorem lif_lt {v : Int} {q : Nat} (hq : 0 < q) : lif v q < q := by
 have := Int.emod_lt_of_pos v (show (0 : Int) < (q : Int) by omega)
 have := Int.emod_nonneg v (show (q : Int) ≠ 0 by omega)
 unfold lif; omega
theorem lifS_lif {v : Int} {q : Nat} (hq : 0 < q) : lifS v (q : Int) = ((lif v q : Nat) : Int) := by
 have := Int.emod_nonneg v (show (q : Int) ≠ 0 by omega)
 unfold lifS lif; rw [if_neg (by omega)]; omega
structure VX (w : World) (A : Option Addr) (n c : Nat) (v : Nat → Int) : Prop where
 room : n ≤ c
 cells : 0 < n → ∃ ad, A = some ad ∧ ∀ j, j < n → w.cell? (ad.add j) = some (.int .i64 (v j))
theorem VX.ext {a b : World} {A : Option Addr} {n c : Nat} {f : Nat → Int} (h : VX a A n c f) (k : Ext a b) : VX b A n c f :=
 ⟨h.room, fun hn => by
  obtain ⟨ad, e, hc⟩ := h.cells hn
  exact ⟨ad, e, fun j hj => cell_ext k (hc j hj)⟩⟩
theorem ret_cell {w : World} {x : Nat} {t : TypeId} {F : Nat → Value} (h : RW w x t 1 F) (v : Value) : (w.setCell ⟨x, 0, none⟩ v).cell? ⟨x, 0, none⟩ = some v := by
 have := (h.set (show 0 < 1 by omega) v).cell (i := 0) (by omega)
 rwa [if_pos rfl] at this
theorem PM.aside {w : World} {G L n x : Nat} {As : Nat → Option Addr} {cs : Nat → Nat} {F : Nat → Nat → Nat} {F' : Nat → Value} {B : Option Addr} {m k : Nat} (h : PM w G L n As cs F) (h' : RW w x 73 1 F') (hF : F' 0 = .slice B m k) (v : Value) : PM (w.setCell ⟨x, 0, none⟩ v) G L n As cs F :=
 ⟨RW.aside h.row h' (by decide) _ _, fun j hj => (h.lists j hj).aside ((h'.cell (i := 0) (by omega)).trans (by rw [hF])) v⟩
def PB (w : World) (A : Option Addr) (L c : Nat) (As : Nat → Option Addr) (ns cs : Nat → Nat) (f : Nat → Nat → Nat) : Prop := PX w A L c As ns cs f ∧ L ≤ 1000000000000000 ∧ ∀ i, i < L → ns i ≤ 1000000000000000
theorem PB.ext {w w' : World} {A : Option Addr} {L c : Nat} {As : Nat → Option Addr} {ns cs : Nat → Nat} {f : Nat → Nat → Nat} (h : PB w A L c As ns cs f) (k : Ext w w') : PB w' A L c As ns cs f := ⟨h.1.ext k, h.2.1, h.2.2⟩
theorem rcheck1 (r n M : Nat) (q p : Nat → Nat) (a e : Nat → Nat → Nat) (A : Option Addr) (L c : Nat) (As : Nat → Option Addr) (ns cs : Nat → Nat) (f : Nat → Nat → Nat) (w : World) (x : Nat) (hx : w.cell? ⟨x, 0, none⟩ = some (.slice A L c)) (hR : Rg w r n M q p a e) (hP : Hid (PB w A L c As ns cs f)) :
    Calls Tryz.prog 195 #[.pointer (some ⟨r, 0, none⟩), .slice (some ⟨x, 0, none⟩) 1 1] w (Chk w (El n M q L ns f)) :=
 (rcheck_any r n M q p a e (some ⟨x, 0, none⟩) 1 1 (fun _ => A) (fun _ => L) (fun _ => c) (fun _ => As) (fun _ => ns) (fun _ => cs) (fun _ => f) w hR (by omega) (Lib.hid fun h => ⟨_, rfl, fun j hj => by rw [show j = 0 by omega]; exact hx⟩) (Lib.hid fun j h => hP.out)).mono fun ee w' h => by
  rcases h with ⟨h, h1, h2⟩ | ⟨h, h1, h2⟩
  ·exact .inl ⟨h 0 (by omega), h1, h2⟩
  ·exact .inr ⟨fun h' => h fun j hj => h', h1, h2⟩
theorem one_at (w : World) (v : Value) (t : TypeId) : (w.alloc (.cells #[v] t)).cell? ⟨w.heap.size, 0, none⟩ = some v := by simp
set_option maxHeartbeats 2000000 in
theorem Level_any (r n M : Nat) (q p : Nat → Nat) (a e : Nat → Nat → Nat) (A : Option Addr) (L c : Nat) (As : Nat → Option Addr) (ns cs : Nat → Nat) (f : Nat → Nat → Nat) (w : World) (hR : Rg w r n M q p a e) (hP : Hid (PB w A L c As ns cs f)) :
    Calls Tryz.prog 142 #[.pointer (some ⟨r, 0, none⟩), .agg #[.slice A L c]] w fun ee w' => ((El n M q L ns f ∧ ee = .returned (.tuple #[.int .i64 ((L : Int) - 1), .int .i64 0])) ∨ (¬ El n M q L ns f ∧ ee = .returned (.tuple #[.int .i64 0, .int .i64 3]))) ∧ Ext w w' := by
 have HR := Lib.hid hR
 clear hR
 go_enter Tryz.func142, Tryz.ntmps142
 go_wp2_with fail
 obtain ⟨V, hV⟩ : ∃ V, V = w.alloc (.cells #[.slice A L c] 73) := ⟨_, rfl⟩
 rw [← hV]
 have kV : Ext w V := by rw [hV]; exact (Ext.refl w).alloc _
 have h4 : V.cell? ⟨w.heap.size, 0, none⟩ = some (.slice A L c) := by rw [hV]; exact one_at w _ _
 have hsV : V.heap.size = w.heap.size + 1 := by rw [hV]; simp
 clear hV
 have kX : Ext V (V.alloc (.cells #[.slice A L c] 73)) := (Ext.refl V).alloc _
 have hx : (V.alloc (.cells #[.slice A L c] 73)).cell? ⟨w.heap.size + 1, 0, none⟩ = some (.slice A L c) := by rw [← hsV]; exact one_at _ _ _
 refine (rcheck1 r n M q p a e A L c As ns cs f _ (w.heap.size + 1) hx (HR.out.ext (kV.trans kX)) (Lib.hid (hP.out.ext (kV.trans kX)))).mono ?_
 rintro ee w2 (⟨hE, rfl, k2⟩ | ⟨hE, rfl, k2⟩)
 ·have HE := Lib.hid hE
  have y4 := cell_ext (kX.trans k2) h4
  have hLb := hP.out.2.1
  clear hE
  go_wp2_with fail
  refine (levelOf_any A L c w2 hLb).mono ?_
  rintro ee w3 ⟨rfl, k3⟩
  go_wp2
  go_ret2
  exact ⟨.inl ⟨HE.out, rfl⟩, kV.trans (kX.trans (k2.trans k3))⟩
 ·have HE := Lib.hid hE
  clear hE
  go_wp2
  go_ret2
  exact ⟨.inr ⟨HE.out, rfl⟩, kV.trans (kX.trans k2)⟩
def filtP (b q : Nat) : Nat → List Nat
 | 0 => []
 | k + 1 => filtP b q k ++ (cond (isP (num b q k)) [num b q k] [])
theorem filtP_eq {b q : Nat} (hb : q * b + 1 < 18446744073709551616) : ∀ k, (∀ j, j < k → 2 ≤ num b q j) → filt b q k = filtP b q k
 | 0, _ => rfl
 | k + 1, h => by
  have ih := filtP_eq hb k (fun j hj => h j (by omega))
  have h2 := h k (by omega)
  have h3 : num b q k < 18446744073709551616 := by
   unfold num
   have := Nat.mul_le_mul_right b (Nat.sub_le q k)
   omega
  rw [filt, filtP, ih, isP_eq h2 h3]
  cases isP (num b q k) <;> rfl
def wideL16 : List Nat := [2305843009213693921, 2305843009213693153, 2305843009213692737, 2305843009213692097, 2305843009213691569, 2305843009213691041, 2305843009213690801, 2305843009213690769, 2305843009213690657, 2305843009213689937, 2305843009213689601, 2305843009213689521, 2305843009213689377, 2305843009213689089, 2305843009213688849, 2305843009213688689]
def wideL32 : List Nat := [2305843009213693921, 2305843009213693153, 2305843009213692737, 2305843009213692097, 2305843009213691041, 2305843009213690657, 2305843009213689601, 2305843009213689377, 2305843009213689089, 2305843009213687297, 2305843009213686401, 2305843009213685729, 2305843009213685569, 2305843009213685441, 2305843009213685377, 2305843009213685057]
def wideL64 : List Nat := [2305843009213692737, 2305843009213692097, 2305843009213689601, 2305843009213689089, 2305843009213687297, 2305843009213686401, 2305843009213685569, 2305843009213685441, 2305843009213685377, 2305843009213685057, 2305843009213683713, 2305843009213683521, 2305843009213683073, 2305843009213682689, 2305843009213681793, 2305843009213680257]
theorem wide16 : filtP 16 144115188075855871 329 = wideL16 := by decide +kernel
theorem wide32 : filtP 32 72057594037927935 278 = wideL32 := by decide +kernel
theorem wide64 : filtP 64 36028797018963967 214 = wideL64 := by decide +kernel
def wideL (b : Nat) : List Nat := if b = 16 then wideL16 else if b = 32 then wideL32 else wideL64
def wideK (b : Nat) : Nat := if b = 16 then 329 else if b = 32 then 278 else 214
def StepW (b : Nat) : Prop := b = 16 ∨ b = 32 ∨ b = 64
theorem num_low {b : Nat} (hb : StepW b) {j : Nat} (hj : j ≤ wideK b) : 1152921504606846976 < num b ((2 ^ 61 - 2) / b) j := by
 rcases hb with rfl | rfl | rfl
 ·have : wideK 16 = 329 := by decide
  rw [show (2 ^ 61 - 2) / 16 = 144115188075855871 by decide]
  unfold num; omega
 ·have : wideK 32 = 278 := by decide
  rw [show (2 ^ 61 - 2) / 32 = 72057594037927935 by decide]
  unfold num; omega
 ·have : wideK 64 = 214 := by decide
  rw [show (2 ^ 61 - 2) / 64 = 36028797018963967 by decide]
  unfold num; omega
theorem wide_all {b : Nat} (hb : StepW b) : filt b ((2 ^ 61 - 2) / b) (wideK b) = wideL b := by
 have hl := fun j (hj : j < wideK b) => num_low hb (Nat.le_of_lt hj)
 rcases hb with rfl | rfl | rfl
 ·rw [show (2 ^ 61 - 2) / 16 = 144115188075855871 by decide] at hl ⊢
  rw [filtP_eq (by omega) _ (fun j hj => by have := hl j hj; omega)]
  exact wide16
 ·rw [show (2 ^ 61 - 2) / 32 = 72057594037927935 by decide] at hl ⊢
  rw [filtP_eq (by omega) _ (fun j hj => by have := hl j hj; omega)]
  exact wide32
 ·rw [show (2 ^ 61 - 2) / 64 = 36028797018963967 by decide] at hl ⊢
  rw [filtP_eq (by omega) _ (fun j hj => by have := hl j hj; omega)]
  exact wide64
theorem filt_head {b q : Nat} : ∀ {k j : Nat}, j ≤ k → filt b q j = (filt b q k).take (filt b q j).length
 | 0, j, h => by
  have h0 : j = 0 := by omega
  rw [h0, List.take_length]
 | k + 1, j, h => by
  rcases Nat.lt_or_eq_of_le h with g | g
  ·have ih := filt_head (b := b) (q := q) (k := k) (j := j) (by omega)
   have hm := filt_mono (b := b) (q := q) (show j ≤ k by omega)
   rw [filt, List.take_append_of_le_length hm]
   exact ih
  ·rw [g, List.take_length]
theorem wideL_len {b : Nat} (hb : StepW b) : (wideL b).length = 16 := by
 rcases hb with rfl | rfl | rfl <;> decide
theorem searchW {b c : Nat} {w : World} (hb : StepW b) (hc0 : 1 ≤ c) (hc : c ≤ 16) (hT : Tabs w) :
    Calls Tryz.prog 168 #[.int .i64 61, .int .u64 (b : Int), .int .i64 (c : Int)] w fun e w' => ∃ A n cp, e = .returned (.tuple #[.slice A n cp, .int .i64 0]) ∧ NX w' A n cp ((wideL b).take c) ∧ Ext w w' := by
 have hb2 : b < 18446744073709551616 := by rcases hb with rfl | rfl | rfl <;> omega
 refine (search_any 61 b (c : Int) w (by omega) (by omega) hb2 (by omega) (by omega) hT).mono ?_
 rintro e w' (⟨hbad, _⟩ | ⟨_, k, ⟨hkq, hgone⟩, h⟩)
 ·exfalso
  have hs : stepS b = true := by rcases hb with rfl | rfl | rfl <;> decide +kernel
  rcases hbad with h | h | h | h | h
  ·omega
  ·omega
  ·rw [hs] at h; cases h
  ·omega
  ·omega
 ·have e61 : (61 : Int).toNat = 61 := rfl
  have ec : ((c : Int)).toNat = c := Int.toNat_natCast c
  rw [e61] at h hgone hkq
  rw [ec] at h hgone
  have hall := wide_all hb
  have hlen := wideL_len hb
  have hkK : k ≤ wideK b := by
   rcases Nat.lt_or_ge (wideK b) k with g | g
   ·have := (hgone _ g).2
    rw [hall, hlen] at this
    omega
   ·exact g
  rcases h with ⟨hlo, _, _, _⟩ | ⟨hl, A, n, cp, rfl, hx, hk⟩
  ·have := num_low hb hkK
   omega
  ·refine ⟨A, n, cp, rfl, ?_, hk⟩
   have := filt_head (b := b) (q := (2 ^ 61 - 2) / b) hkK
   rw [hl, hall] at this
   rw [← this]
   exact hx
end Go.Proofs.YtjikdbcjabopnaaGreatDoor
