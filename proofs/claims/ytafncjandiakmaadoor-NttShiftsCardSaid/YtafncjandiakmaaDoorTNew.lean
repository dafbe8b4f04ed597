/-
  What New of package ntt answers for moduli that pass the test and have a number that is no square.
-/
import Derived.Test.YtafncjandiakmaaDoorTCall
import Derived.Test.YtafncjandiakmaaDoorTRoot
import Derived.Test.YtafncjandiakmaaDoorWLast
namespace Go.Proofs.YtafncjandiakmaaDoor
open Go.RowKit
set_option linter.unusedVariables false

/-- What is asked of n and q. -/
structure Fit (n q k : Nat) : Prop where
  nk : n = 2 ^ k
  k0 : 1 ≤ k
  k9 : k ≤ 9
  q1 : q < 2305843009213693952
  step : stepS (2 * n) = true
  one : q % (2 * n) = 1
  is_ : isS q = true
  sq : ∃ x, x < q ∧ noSq q x = true
/-- The root that is taken. -/
def rootS (q n x : Nat) : Nat := lr q (x ^ ((q - 1) / n) % q * (x ^ ((q - 1) / n) % q) % q) (n / 2 - 1) (x ^ ((q - 1) / n) % q) (x ^ ((q - 1) / n) % q)
theorem minus_one {q : Nat} (hq : 2 ≤ q) : M (q : Int) ((q - 1 : Nat) : Int) (-1) := by
  unfold M
  rw [show ((q - 1 : Nat) : Int) = -1 + (q : Int) by omega, Int.add_emod_right]
theorem first_sq {q x : Nat} (h : First q x) (hs : ∃ x, x < q ∧ noSq q x = true) : noSq q x = true := by
  rcases h with h | h
  · exact h.2.1
  · obtain ⟨y, hy, he⟩ := hs
    rw [h.2 y hy] at he; cases he
theorem Fit.good {n q k x : Nat} (h : Fit n q k) (hx : First q x) (a : Nat → Nat) (ha : ∀ i, a i = 1 * rootS q (2 * n) x ^ i % q) : rootS q (2 * n) x < q ∧ Good n q k (rootS q (2 * n) x) (a (2 * n - 1)) a := by
  have hq2 := isS_ge h.is_
  obtain ⟨r1, r2⟩ := root_good hq2 h.step h.one (first_sq hx h.sq)
  rw [show 2 * n / 2 = n by omega] at r2
  have hr : M (q : Int) ((rootS q (2 * n) x : Int) ^ n) (-1) := by
    have h1 := (M.pow_nat (q := q) (rootS q (2 * n) x) n).symm
    refine h1.trans ?_
    rw [show rootS q (2 * n) x ^ n % q = q - 1 by unfold rootS; rw [show 2 * n / 2 - 1 = n - 1 by omega]; exact r2]
    exact minus_one hq2
  have hn0 : 0 < n := by rw [h.nk]; exact Nat.two_pow_pos k
  refine ⟨by unfold rootS; exact r1, ?_⟩
  generalize rootS q (2 * n) x = r at *
  have hv1 : M (q : Int) (a (2 * n - 1) : Int) ((r : Int) ^ (2 * n - 1)) := by
    rw [ha, Nat.one_mul]; exact M.pow_nat _ _
  have hone : M (q : Int) ((r : Int) ^ (2 * n)) 1 := by
    rw [Nat.mul_comm, Int.pow_mul]
    exact (hr.pow 2).trans (M.of rfl)
  refine ⟨h.nk, h.k0, h.k9, hq2, by have := h.q1; omega, hr, ?_, ?_, fun i _ => by rw [ha, Nat.one_mul]⟩
  · refine (hv1.pow n).trans ?_
    rw [← Int.pow_mul, Nat.mul_comm, Int.pow_mul]
    exact (hr.pow (2 * n - 1)).trans (M.of (odd_minus (by omega)))
  · refine (M.rfl.mul hv1).trans ?_
    rw [Int.mul_comm, ← Int.pow_succ, show (2 * n - 1).succ = 2 * n by omega]
    exact hone
theorem gcd_one {n q : Nat} (h : q % (2 * n) = 1) : Nat.gcd n q = 1 := by
  have h1 := Nat.div_add_mod q (2 * n)
  rw [h] at h1
  have h2 : Nat.gcd n q ∣ q := Nat.gcd_dvd_right n q
  have h3 : Nat.gcd n q ∣ n := Nat.gcd_dvd_left n q
  have h4 : Nat.gcd n q ∣ 2 * n * (q / (2 * n)) := Nat.dvd_trans h3 (Nat.dvd_trans (Nat.dvd_mul_left n 2) (Nat.dvd_mul_right _ _))
  have h5 : Nat.gcd n q ∣ 1 := (Nat.dvd_add_right h4).1 (by rw [h1]; exact h2)
  exact Nat.dvd_one.1 h5
theorem rootN (q n : Nat) (w : World) (hq : q < 18446744073709551616) (hn : n ≤ 8192) (hT : Tabs w) (hs : stepS n = true) (h1 : q % n = 1) (hi : isS q = true) :
    Calls Tryd.prog 23 #[.int .u64 (q : Int), .int .u64 (n : Int)] w fun e w' => ∃ x, First q x ∧ e = .returned (.tuple #[.int .u64 ((rootS q n x : Nat) : Int), .int .i64 0]) ∧ Ext w w' := by
  refine (root_any q n w hq (by omega) hT).mono ?_
  rintro e w' (⟨h, _⟩ | ⟨_, _, _, x, hx, he, hw⟩)
  · rcases h with h | h | h
    · rw [hs] at h; cases h
    · exact absurd h1 h
    · rw [hi] at h; cases h
  · exact ⟨x, hx, he, hw⟩
set_option maxHeartbeats 4000000 in
theorem new_any (n q k : Nat) (w : World) (hF : Hid (Fit n q k)) (hT : Tabs w) :
    Calls Tryd.prog 11 #[.int .i64 (n : Int), .int .u64 (q : Int)] w fun ee w' => ∃ p r v x : Nat, First q x ∧ Hid (r = rootS q (2 * n) x) ∧ ee = .returned (.tuple #[.pointer (some ⟨p, 0, none⟩), .int .i64 0]) ∧ Table w' p n q k r v ∧ Ext w w' := by
  have hn2 := two_le hF.out.k0 hF.out.k9
  rw [← hF.out.nk] at hn2
  obtain ⟨hn0, hn1⟩ := hn2
  have hq1 := hF.out.q1
  have hq2 := isS_ge hF.out.is_
  have HT := Lib.hid hT
  clear hT
  go_enter Tryd.func11, Tryd.ntmps11
  go_wp2_with fail
  have hR := rootN q (2 * n) w (by omega) (by omega) HT.out hF.out.step hF.out.one hF.out.is_
  rw [show ((2 * n : Nat) : Int) = 2 * (n : Int) by omega] at hR
  refine hR.mono ?_
  clear hR
  rintro ee w1 ⟨x, hx, rfl, k1⟩
  have hg := hF.out.good hx (fun i => 1 * rootS q (2 * n) x ^ i % q) (fun _ => rfl)
  obtain ⟨hr, hgood⟩ := hg
  have HG := Lib.hid hgood
  have HR := Lib.hid (show rootS q (2 * n) x = rootS q (2 * n) x from rfl)
  clear hgood
  obtain ⟨r, hrd⟩ : ∃ r, r = rootS q (2 * n) x := ⟨_, rfl⟩
  rw [← hrd] at hr HG ⊢
  have HRD := Lib.hid hrd
  clear hrd HR
  go_wp2_with fail
  have hP := progression_any 1 r q (2 * n) w1 (by omega) (by omega) hr (by omega)
  rw [show ((2 * n : Nat) : Int) = 2 * (n : Int) by omega, show ((1 : Nat) : Int) = 1 from rfl] at hP
  refine hP.mono ?_
  clear hP
  rintro ee w2 ⟨rfl, hpw, k2⟩
  go_wp2_with fail
  refine (inv_any n q _ (by omega) (by omega)).mono ?_
  rintro ee w3 ⟨u, ok, m, hok, rfl, rfl⟩
  have hok2 : 0 ≤ u ∧ u < q ∧ ((n : Int) * u) % (q : Int) = 1 := by
    rcases hok with ⟨_, _, _, h3, h4, h5⟩ | ⟨h, _⟩
    · exact ⟨h3, h4, h5⟩
    · have := gcd_one hF.out.one
      rcases h with h | h
      · omega
      · exact absurd this h
  obtain ⟨u0, u1, hu⟩ := hok2
  obtain ⟨u, rfl⟩ := Int.eq_ofNat_of_zero_le u0
  have HU := Lib.hid hu
  clear hu hok
  have hpw3 : FC (w2.drewN m) w1.heap.size (2 * n) q (fun i => 1 * r ^ i % q) := hpw
  have c0 := hpw3.by_ (i := 2 * n - 1) (by omega)
  have hvl : 1 * r ^ (2 * n - 1) % q < q := Nat.mod_lt _ (by omega)
  obtain ⟨v, hvd⟩ : ∃ v, v = 1 * r ^ (2 * n - 1) % q := ⟨_, rfl⟩
  obtain ⟨j, hj⟩ : ∃ j, j = 2 * n - 1 := ⟨_, rfl⟩
  have hj2 : 2 * (n : Int) - 1 = (j : Int) := by omega
  have c1 : (w2.drewN m).cell? ⟨w1.heap.size, j * 2, none⟩ = some (.int .u64 (v : Int)) := by rw [hj, hvd]; exact c0
  have hvl2 : v < q := by rw [hvd]; exact hvl
  have HG2 : Hid (Good n q k r v (fun i => 1 * r ^ i % q)) := Lib.hid (by rw [hvd]; exact HG.out)
  have hjl : j < 2 * n := by omega
  clear c0 hvl hj hvd HG
  have i0 : (0 : Int) ≤ (j : Int) := by omega
  have i1 : (j : Int) < 2 * (n : Int) := by omega
  go_wp2_with fail
  refine (progression_any u v q n _ (by omega) (by omega) hvl2 (by omega)).mono ?_
  rintro ee w4 ⟨rfl, hen, k4⟩
  have kw : Ext w w4 := k1.trans (k2.trans (((Ext.refl w2).drewN m).trans k4))
  have hpw4 := RW.ext hpw3 k4
  have hb1 := RW.lt hpw4
  have hb2 := RW.lt hen
  have HEN := Lib.hid (show Ends n q v (fun i => u * v ^ i % q) from ⟨u, by
    have := HU.out
    unfold M; rw [this]; exact (Int.emod_eq_of_lt (by omega) (by omega)).symm, fun i _ => ⟨Nat.mod_lt _ (by omega), by
    refine (M.nat _).trans (M.of ?_); rw [Int.natCast_mul, Int.natCast_pow]⟩⟩)
  go_wp2
  go_ret2
  have kV := kw.alloc (Obj.cells #[Value.int IntKind.i64 (n : Int), Value.int IntKind.u64 (q : Int), Value.slice (some ⟨w1.heap.size, 0, none⟩) (2 * n) (2 * n), Value.slice (some ⟨(w2.drewN m).heap.size, 0, none⟩) n n] 55)
  refine ⟨w4.heap.size, r, v, x, hx, HRD, rfl, ⟨_, _, w1.heap.size, (w2.drewN m).heap.size, ⟨by simp, by simp; omega, by simp; exact Nat.lt_succ_of_lt hb2, by simp, by simp, by simp, by simp, RW.ext hpw4 ((Ext.refl w4).alloc _), RW.ext hen ((Ext.refl w4).alloc _)⟩, HG2.out, HEN.out⟩, kV⟩
end Go.Proofs.YtafncjandiakmaaDoor
