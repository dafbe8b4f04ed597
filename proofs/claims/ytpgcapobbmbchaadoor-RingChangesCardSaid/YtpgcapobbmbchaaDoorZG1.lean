/-
  What New of package ntt answers for every number of coefficients up to 32 and every word; what the document's answer says of it.
-/
import Derived.Test.YtpgcapobbmbchaaDoorZT
import Derived.Test.YtpgcapobbmbchaaDoorPSame
namespace Go.Proofs.YtpgcapobbmbchaaDoor
open Go.RowKit
set_option linter.unusedVariables false
set_option maxRecDepth 100000

/-- May there be a table? -/
def FitP (n : Int) (q : Nat) : Prop := 2 ≤ n ∧ q < 2305843009213693952 ∧ stepS (2 * n.toNat) = true ∧ q % (2 * n.toNat) = 1 ∧ isS q = true
theorem fit_ks : ∀ n, n < 33 → 2 ≤ n → stepS (2 * n) = true → n = 2 ∨ n = 4 ∨ n = 8 ∨ n = 16 ∨ n = 32 := by decide +kernel
theorem step_two : ∀ n, n < 33 → 2 ≤ n → stepS (2 * n) = stepS n := by decide +kernel
theorem fit_k {n : Nat} (h : n ≤ 32) (h2 : 2 ≤ n) (hs : stepS (2 * n) = true) : ∃ k, 1 ≤ k ∧ k ≤ 9 ∧ n = 2 ^ k := by
  rcases fit_ks n (by omega) h2 hs with rfl | rfl | rfl | rfl | rfl
  · exact ⟨1, by omega, by omega, rfl⟩
  · exact ⟨2, by omega, by omega, rfl⟩
  · exact ⟨3, by omega, by omega, rfl⟩
  · exact ⟨4, by omega, by omega, rfl⟩
  · exact ⟨5, by omega, by omega, rfl⟩
/-- A table in memory, with its factors; and what it is by a root, if there is one. -/
structure Tab (w : World) (p n q : Nat) (a e : Nat → Nat) : Prop where
  n0 : 2 ≤ n
  n1 : n ≤ 32
  q0 : 2 ≤ q
  q1 : q < 2305843009213693952
  nk : ∃ k, 1 ≤ k ∧ k ≤ 9 ∧ n = 2 ^ k
  al : ∀ i, i < 2 * n → a i < q
  el : ∀ i, i < n → e i < q
  tb : ∃ gp ge, Tb w w.heap.size p n q a e gp ge
  root : (∃ x, x < q ∧ noSq q x = true) → ∃ k r v, Table w p n q k r v
theorem Tab.ext {w w' : World} {p n q : Nat} {a e : Nat → Nat} (h : Tab w p n q a e) (k : Ext w w') : Tab w' p n q a e :=
  ⟨h.n0, h.n1, h.q0, h.q1, h.nk, h.al, h.el, by obtain ⟨gp, ge, ht⟩ := h.tb; exact ⟨gp, ge, ht.ext k⟩, fun hs => by obtain ⟨k', r, v, ht⟩ := h.root hs; exact ⟨k', r, v, ht.ext k⟩⟩
theorem lr_lt {q sq : Nat} (hq : 0 < q) : ∀ k r l, l < q → lr q sq k r l < q
  | 0, _, l, h => h
  | k + 1, r, l, h => by rw [lr]; exact lr_lt hq k _ _ (by have := Nat.mod_lt (r * sq) hq; omega)
theorem rootS_lt {q n x : Nat} (hq : 0 < q) : rootS q n x < q := by unfold rootS; exact lr_lt hq _ _ _ (Nat.mod_lt _ hq)
set_option maxHeartbeats 4000000 in
theorem newT_any (n q : Nat) (w : World) (hn0 : 2 ≤ n) (hn1 : n ≤ 32) (hq1 : q < 2305843009213693952) (hs : Hid (stepS (2 * n) = true)) (ho : Hid (q % (2 * n) = 1)) (hi : Hid (isS q = true)) (hT : Tabs w) :
    Calls Tryd.prog 62 #[.int .i64 (n : Int), .int .u64 (q : Int)] w fun ee w' => ∃ (p : Nat) (a e : Nat → Nat), ee = .returned (.tuple #[.pointer (some ⟨p, 0, none⟩), .int .i64 0]) ∧ Tab w' p n q a e ∧ Ext w w' := by
  have hq2 := isS_ge hi.out
  obtain ⟨k, hk0, hk9, hk⟩ := fit_k hn1 hn0 hs.out
  have HK := Lib.hid hk
  clear hk
  have hF : (∃ x, x < q ∧ noSq q x = true) → Fit n q k := fun h => ⟨HK.out, hk0, hk9, hq1, hs.out, ho.out, hi.out, h⟩
  have HF := Lib.hid hF
  have HT := Lib.hid hT
  clear hT hF
  go_enter Tryd.func62, Tryd.ntmps62
  go_wp2_with fail
  have hR := rootN q (2 * n) w (by omega) (by omega) HT.out hs.out ho.out hi.out
  rw [show ((2 * n : Nat) : Int) = 2 * (n : Int) by omega] at hR
  refine hR.mono ?_
  clear hR
  rintro ee w1 ⟨x, hx, rfl, k1⟩
  have HG0 := Lib.hid (show (∃ x, x < q ∧ noSq q x = true) → Good n q k (rootS q (2 * n) x) (1 * rootS q (2 * n) x ^ (2 * n - 1) % q) (fun i => 1 * rootS q (2 * n) x ^ i % q) from fun h => ((HF.out h).good hx (fun i => 1 * rootS q (2 * n) x ^ i % q) (fun _ => rfl)).2)
  have hr : rootS q (2 * n) x < q := rootS_lt (by omega)
  obtain ⟨r, hrd⟩ : ∃ r, r = rootS q (2 * n) x := ⟨_, rfl⟩
  rw [← hrd] at hr HG0 ⊢
  clear hrd hx
  go_wp2_with fail
  have hP := progression_any 1 r q (2 * n) w1 (by omega) (by omega) hr (by omega)
  rw [show ((2 * n : Nat) : Int) = 2 * (n : Int) by omega, show ((1 : Nat) : Int) = 1 from rfl] at hP
  refine hP.mono ?_
  clear hP
  rintro ee w2 ⟨rfl, hpw, k2⟩
  go_wp2_with fail
  refine (inv_any n q _ (by omega) (by omega)).mono ?_
  rintro ee w3 ⟨u, ok, m, hok, rfl, rfl⟩
  have hok2 : 0 ≤ u ∧ u < q ∧ ((n : Int) * u) % (q : Int) = 1 := by
    rcases hok with ⟨_, _, _, h3, h4, h5⟩ | ⟨h, _⟩
    · exact ⟨h3, h4, h5⟩
    · have := gcd_one ho.out
      rcases h with h | h
      · omega
      · exact absurd this h
  obtain ⟨u0, u1, hu⟩ := hok2
  obtain ⟨u, rfl⟩ := Int.eq_ofNat_of_zero_le u0
  have HU := Lib.hid hu
  clear hu hok
  have hpw3 : FC (w2.drewN m) w1.heap.size (2 * n) q (fun i => 1 * r ^ i % q) := hpw
  have c0 := hpw3.by_ (i := 2 * n - 1) (by omega)
  have hvl : 1 * r ^ (2 * n - 1) % q < q := Nat.mod_lt _ (by omega)
  obtain ⟨v, hvd⟩ : ∃ v, v = 1 * r ^ (2 * n - 1) % q := ⟨_, rfl⟩
  obtain ⟨j, hj⟩ : ∃ j, j = 2 * n - 1 := ⟨_, rfl⟩
  have hj2 : 2 * (n : Int) - 1 = (j : Int) := by omega
  have c1 : (w2.drewN m).cell? ⟨w1.heap.size, j * 2, none⟩ = some (.int .u64 (v : Int)) := by rw [hj, hvd]; exact c0
  have hvl2 : v < q := by rw [hvd]; exact hvl
  have HG2 : Hid ((∃ x, x < q ∧ noSq q x = true) → Good n q k r v (fun i => 1 * r ^ i % q)) := Lib.hid (by rw [hvd]; exact HG0.out)
  have hjl : j < 2 * n := by omega
  clear c0 hvl hj hvd HG0
  have i0 : (0 : Int) ≤ (j : Int) := by omega
  have i1 : (j : Int) < 2 * (n : Int) := by omega
  go_wp2_with fail
  refine (progression_any u v q n _ (by omega) (by omega) hvl2 (by omega)).mono ?_
  rintro ee w4 ⟨rfl, hen, k4⟩
  have kw : Ext w w4 := k1.trans (k2.trans (((Ext.refl w2).drewN m).trans k4))
  have hpw4 := RW.ext hpw3 k4
  have hb1 := RW.lt hpw4
  have hb2 := RW.lt hen
  have HEN := Lib.hid (show Ends n q v (fun i => u * v ^ i % q) from ⟨u, by
    have := HU.out
    unfold M; rw [this]; exact (Int.emod_eq_of_lt (by omega) (by omega)).symm, fun i _ => ⟨Nat.mod_lt _ (by omega), by
    refine (M.nat _).trans (M.of ?_); rw [Int.natCast_mul, Int.natCast_pow]⟩⟩)
  go_wp2
  go_ret2
  have hen2 : FC w4 w2.heap.size n q (fun i => u * v ^ i % q) := hen
  have hb3 : w2.heap.size < w4.heap.size := hb2
  have kV := kw.alloc (Obj.cells #[Value.int IntKind.i64 (n : Int), Value.int IntKind.u64 (q : Int), Value.slice (some ⟨w1.heap.size, 0, none⟩) (2 * n) (2 * n), Value.slice (some ⟨w2.heap.size, 0, none⟩) n n] 149)
  have hsz : (w4.alloc (Obj.cells #[Value.int IntKind.i64 (n : Int), Value.int IntKind.u64 (q : Int), Value.slice (some ⟨w1.heap.size, 0, none⟩) (2 * n) (2 * n), Value.slice (some ⟨w2.heap.size, 0, none⟩) n n] 149)).heap.size = w4.heap.size + 1 := by simp
  have hTb : Tb (w4.alloc (Obj.cells #[Value.int IntKind.i64 (n : Int), Value.int IntKind.u64 (q : Int), Value.slice (some ⟨w1.heap.size, 0, none⟩) (2 * n) (2 * n), Value.slice (some ⟨w2.heap.size, 0, none⟩) n n] 149)) (w4.alloc (Obj.cells #[Value.int IntKind.i64 (n : Int), Value.int IntKind.u64 (q : Int), Value.slice (some ⟨w1.heap.size, 0, none⟩) (2 * n) (2 * n), Value.slice (some ⟨w2.heap.size, 0, none⟩) n n] 149)).heap.size w4.heap.size n q (fun i => 1 * r ^ i % q) (fun i => u * v ^ i % q) w1.heap.size w2.heap.size := ⟨by rw [hsz]; omega, by rw [hsz]; omega, by rw [hsz]; omega, by simp, by simp, by simp, by simp, RW.ext hpw4 ((Ext.refl w4).alloc _), RW.ext hen2 ((Ext.refl w4).alloc _)⟩
  exact ⟨w4.heap.size, (fun i => 1 * r ^ i % q), (fun i => u * v ^ i % q), rfl, ⟨hn0, hn1, hq2, hq1, ⟨k, hk0, hk9, HK.out⟩, fun i _ => Nat.mod_lt _ (by omega), fun i _ => Nat.mod_lt _ (by omega), ⟨_, _, hTb⟩, fun h => ⟨k, r, v, ⟨_, _, _, _, hTb, HG2.out h, HEN.out⟩⟩⟩, kV⟩
theorem newNo_any (n : Int) (q : Nat) (w : World) (h0 : -9223372036854775808 ≤ n) (hn1 : n ≤ 32) (hq : q < 18446744073709551616) (hno : ¬ FitP n q) (hT : Tabs w) :
    Calls Tryd.prog 62 #[.int .i64 n, .int .u64 (q : Int)] w fun ee w' => ee = .returned (.tuple #[.pointer none, .int .i64 1]) ∧ Ext w w' := by
  have HT := Lib.hid hT
  clear hT
  have HN := Lib.hid hno
  clear hno
  by_cases g0 : n < 2
  · go_enter Tryd.func62, Tryd.ntmps62
    go_wp2
    go_ret2
    exact ⟨rfl, Ext.refl _⟩
  by_cases g1 : 2305843009213693952 ≤ q
  · go_enter Tryd.func62, Tryd.ntmps62
    go_wp2
    go_ret2
    exact ⟨rfl, Ext.refl _⟩
  obtain ⟨m, rfl⟩ := Int.eq_ofNat_of_zero_le (show 0 ≤ n by omega)
  go_enter Tryd.func62, Tryd.ntmps62
  go_wp2_with fail
  have hR := root_any q (2 * m) w (by omega) (by omega) HT.out
  rw [show ((2 * m : Nat) : Int) = 2 * (m : Int) by omega] at hR
  refine hR.mono ?_
  clear hR
  rintro ee w1 (⟨_, rfl, k1⟩ | ⟨h1, h2, h3, _⟩)
  · go_wp2
    go_ret2
    exact ⟨rfl, k1⟩
  · exact absurd ⟨by omega, by omega, h1, h2, h3⟩ HN.out
/-- The document's answer: may there be a table? -/
theorem chk0_any (n : Int) (q : Nat) (w : World) (h0 : -9223372036854775808 ≤ n) (hn1 : n ≤ 32) (hq : q < 18446744073709551616) :
    Calls Tryd.prog 63 #[.int .i64 n, .int .u64 (q : Int)] w fun ee w' => ∃ z : Int, (z = 0 ∧ FitP n q ∨ z = 1 ∧ ¬ FitP n q) ∧ ee = .returned (.int .i64 z) ∧ Ext w w' := by
  by_cases g0 : n < 2
  · have HN := Lib.hid (show ¬ FitP n q from fun h => by have := h.1; omega)
    go_enter Tryd.func63, Tryd.ntmps63
    go_wp2
    go_ret
    exact ⟨1, .inr ⟨rfl, HN.out⟩, rfl, Ext.refl _⟩
  obtain ⟨m, rfl⟩ := Int.eq_ofNat_of_zero_le (show 0 ≤ n by omega)
  cases hs : stepS m
  · have HN := Lib.hid (show ¬ FitP (m : Int) q from fun h => by
      have := h.2.2.1; rw [show ((m : Int)).toNat = m by omega, step_two m (by omega) (by omega), hs] at this; cases this)
    have HS := Lib.hid hs
    clear hs
    go_enter Tryd.func63, Tryd.ntmps63
    go_wp2_with fail
    refine (rstep_any m w (by omega)).mono ?_
    rw [HS.out]
    rintro ee w' ⟨rfl, rfl⟩
    go_wp2
    go_ret
    exact ⟨1, .inr ⟨rfl, HN.out⟩, rfl, Ext.refl _⟩
  have hs2 : stepS (2 * m) = true := by rw [step_two m (by omega) (by omega)]; exact hs
  have HS := Lib.hid hs
  have HS2 := Lib.hid hs2
  clear hs hs2
  by_cases g1 : 2305843009213693952 ≤ q
  · have HN := Lib.hid (show ¬ FitP (m : Int) q from fun h => by have := h.2.1; omega)
    have g2 : (2305843009213693952 ≤ (q : Int)) = True := by simp; omega
    go_enter Tryd.func63, Tryd.ntmps63
    go_wp2_with fail
    refine (rstep_any m w (by omega)).mono ?_
    rw [HS.out]
    rintro ee w' ⟨rfl, rfl⟩
    go_wp2
    go_ret
    exact ⟨1, .inr ⟨rfl, HN.out⟩, rfl, Ext.refl _⟩
  have hqd : decide (2305843009213693952 ≤ (q : Int)) = false := by simp; omega
  have hqd2 : (2305843009213693952 ≤ (q : Int)) = False := by simp; omega
  cases hi : isR q
  · have HN := Lib.hid (show ¬ FitP (m : Int) q from fun h => by
      have := h.2.2.2.2; rw [is_same, hi] at this; cases this)
    have HI := Lib.hid hi
    clear hi
    go_enter Tryd.func63, Tryd.ntmps63
    go_wp2_with fail
    refine (rstep_any m w (by omega)).mono ?_
    rw [HS.out]
    rintro ee w' ⟨rfl, rfl⟩
    go_wp2_with fail
    refine (ris_any q _ (by omega)).mono ?_
    rw [HI.out]
    rintro ee w2 ⟨rfl, k2⟩
    go_wp2
    go_ret
    exact ⟨1, .inr ⟨rfl, HN.out⟩, rfl, k2⟩
  have HI := Lib.hid hi
  clear hi
  have hmz : (2 * (m : Int) == 0) = false := by simp; omega
  have hmz2 : ¬ 2 * (m : Int) = 0 := by omega
  by_cases g3 : q % (2 * m) = 1
  · have HN := Lib.hid (show FitP (m : Int) q from ⟨by omega, by omega, HS2.out, g3, by rw [is_same]; exact HI.out⟩)
    have hone : ((q : Int) % (2 * (m : Int)) != 1) = false := by
      have e : (q : Int) % (2 * (m : Int)) = 1 := by
        rw [show 2 * (m : Int) = ((2 * m : Nat) : Int) by omega, ← Int.natCast_emod, g3]; rfl
      rw [e]; rfl
    clear g3
    go_enter Tryd.func63, Tryd.ntmps63
    go_wp2_with fail
    refine (rstep_any m w (by omega)).mono ?_
    rw [HS.out]
    rintro ee w' ⟨rfl, rfl⟩
    go_wp2_with fail
    refine (ris_any q _ (by omega)).mono ?_
    rw [HI.out]
    rintro ee w2 ⟨rfl, k2⟩
    go_wp2
    go_ret
    exact ⟨0, .inl ⟨rfl, HN.out⟩, rfl, k2⟩
  · have HN := Lib.hid (show ¬ FitP (m : Int) q from fun h => g3 (by have := h.2.2.2.1; rwa [show ((m : Int)).toNat = m by omega] at this))
    have hone : ((q : Int) % (2 * (m : Int)) != 1) = true := by
      have e : (q : Int) % (2 * (m : Int)) ≠ 1 := by
        rw [show 2 * (m : Int) = ((2 * m : Nat) : Int) by omega, ← Int.natCast_emod]
        intro h; exact g3 (by omega)
      simpa using e
    clear g3
    go_enter Tryd.func63, Tryd.ntmps63
    go_wp2_with fail
    refine (rstep_any m w (by omega)).mono ?_
    rw [HS.out]
    rintro ee w' ⟨rfl, rfl⟩
    go_wp2_with fail
    refine (ris_any q _ (by omega)).mono ?_
    rw [HI.out]
    rintro ee w2 ⟨rfl, k2⟩
    go_wp2
    go_ret
    exact ⟨1, .inr ⟨rfl, HN.out⟩, rfl, k2⟩
end Go.Proofs.YtpgcapobbmbchaaDoor

/-
  Rings and polynomials in memory; what New of package ring answers.
-/
namespace Go.Proofs.YtpgcapobbmbchaaDoor
open Go.RowKit
set_option linter.unusedVariables false
set_option maxRecDepth 100000

theorem FX.cut {w : World} {A : Option Addr} {n c : Nat} {f : Nat → Nat} (h : FX w A n c f) {m : Nat} (hm : m ≤ n) : FX w A m c f :=
  ⟨Nat.le_trans hm h.room, fun h0 => by
    obtain ⟨ad, e, hc⟩ := h.cells (by omega)
    exact ⟨ad, e, fun j hj => hc j (by omega)⟩⟩
/-- The cells of a row of fields. -/
def fldF (q p : Nat → Nat) (i : Nat) : Value := if i % 2 = 0 then .int .u64 (q (i / 2) : Int) else .pointer (some ⟨p (i / 2), 0, none⟩)
def FR (w : World) (g L : Nat) (q p : Nat → Nat) : Prop := RW w g 93 (L * 2) (fldF q p)
theorem FR.prime {w : World} {g L : Nat} {q p : Nat → Nat} (h : FR w g L q p) {i : Nat} (hi : i < L) : w.cell? ⟨g, i * 2, none⟩ = some (.int .u64 (q i : Int)) := by
  rw [RW.cell h (by omega), fldF, if_pos (by omega), Nat.mul_div_cancel _ (by omega)]
theorem FR.table {w : World} {g L : Nat} {q p : Nat → Nat} (h : FR w g L q p) {i : Nat} (hi : i < L) : w.cell? ⟨g, i * 2 + 1, none⟩ = some (.pointer (some ⟨p i, 0, none⟩)) := by
  rw [RW.cell h (by omega), fldF, if_neg (by omega), show (i * 2 + 1) / 2 = i by omega]
/-- A ring in memory. -/
structure Rg (w : World) (r n L : Nat) (q p : Nat → Nat) (a e : Nat → Nat → Nat) : Prop where
  l0 : 0 < L
  l1 : L ≤ 24
  n0 : 2 ≤ n
  n1 : n ≤ 32
  ql : ∀ j, j < L → 2 ≤ q j ∧ q j < 2305843009213693952
  size : w.cell? ⟨r, 0, none⟩ = some (.int .i64 (n : Int))
  ex : ∃ gf, w.cell? ⟨r, 1, none⟩ = some (.slice (some ⟨gf, 0, none⟩) L L) ∧ FR w gf L q p
  tab : ∀ j, j < L → Tab w (p j) n (q j) (a j) (e j)
theorem Rg.ext {w w' : World} {r n L : Nat} {q p : Nat → Nat} {a e : Nat → Nat → Nat} (h : Rg w r n L q p a e) (k : Ext w w') : Rg w' r n L q p a e :=
  ⟨h.l0, h.l1, h.n0, h.n1, h.ql, cell_ext k h.size, by obtain ⟨gf, h1, h2⟩ := h.ex; exact ⟨gf, cell_ext k h1, RW.ext h2 k⟩, fun j hj => (h.tab j hj).ext k⟩
/-- A polynomial's lists, wherever they lie. -/
structure PX (w : World) (A : Option Addr) (L c : Nat) (As : Nat → Option Addr) (ns cs : Nat → Nat) (f : Nat → Nat → Nat) : Prop where
  room : L ≤ c
  cells : 0 < L → ∃ ad, A = some ad ∧ ∀ j, j < L → w.cell? (ad.add j) = some (.slice (As j) (ns j) (cs j))
  rows : ∀ j, j < L → FX w (As j) (ns j) (cs j) (f j)
theorem PX.ext {w w' : World} {A : Option Addr} {L c : Nat} {As : Nat → Option Addr} {ns cs : Nat → Nat} {f : Nat → Nat → Nat} (h : PX w A L c As ns cs f) (k : Ext w w') : PX w' A L c As ns cs f :=
  ⟨h.room, fun h0 => by
    obtain ⟨ad, e, hc⟩ := h.cells h0
    exact ⟨ad, e, fun j hj => cell_ext k (hc j hj)⟩, fun j hj => (h.rows j hj).ext k⟩
/-- Is it an element? -/
def El (n M : Nat) (q : Nat → Nat) (L : Nat) (ns : Nat → Nat) (f : Nat → Nat → Nat) : Prop := 0 < L ∧ L ≤ M ∧ ∀ j, j < L → ns j = n ∧ ∀ i, i < ns j → f j i < q j

/-- Is a number among others? -/
theorem index_any (A : Option Addr) (n c x : Nat) (f : Nat → Nat) (w : World) (hX : FX w A n c f) (hn : n ≤ 100000) :
    Calls Tryd.prog 104 #[.slice A n c, .int .u64 (x : Int)] w fun ee w' => ∃ z : Int, (0 ≤ z ∧ (∃ i, i < n ∧ f i = x) ∨ z = -1 ∧ ∀ i, i < n → f i ≠ x) ∧ ee = .returned (.int .i64 z) ∧ w = w' := by
  go_enter Tryd.func104, Tryd.ntmps104
  go_wp2
  go_loop [8] (fun i => ∃ m : Nat, m ≤ n ∧ i = .int .i64 (m : Int) ∧ Hid (∀ i, i < m → f i ≠ x)) (fun i => n - (intOf i).toNat)
  case atStart => exact ⟨0, by omega, rfl, Lib.hid fun i hi => by omega⟩
  case round =>
    obtain ⟨m, hm, rfl, hno⟩ := hrel
    by_cases hlt : m < n
    · obtain ⟨ad, rfl, hc⟩ := hX.cells (by omega)
      have hcell := hc m hlt
      clear hc
      by_cases he : f m = x
      · have HE := Lib.hid he
        rw [he] at hcell
        clear he
        go_wp2
        go_ret
        exact ⟨_, .inl ⟨by omega, m, hlt, HE.out⟩, rfl, rfl⟩
      · have HE := Lib.hid (show ∀ i, i < m + 1 → f i ≠ x from fun i hi => by
          by_cases h : i = m
          · rw [h]; exact he
          · exact hno.out i (by omega))
        have hne : ((x : Int) == (f m : Int)) = false := by simp; omega
        clear he
        generalize f m = y at *
        go_wp2
        exact ⟨⟨m + 1, by omega, by go_num, HE⟩, by simp [intOf]; omega⟩
    · have HE := Lib.hid (show ∀ i, i < n → f i ≠ x from fun i hi => hno.out i (by omega))
      go_wp2
      go_ret
      exact ⟨_, .inr ⟨rfl, HE.out⟩, rfl, rfl⟩
theorem contains_any (A : Option Addr) (n c x : Nat) (f : Nat → Nat) (w : World) (hX : FX w A n c f) (hn : n ≤ 100000) :
    Calls Tryd.prog 61 #[.slice A n c, .int .u64 (x : Int)] w fun ee w' => ∃ b : Bool, Hid (b = true ↔ ∃ i, i < n ∧ f i = x) ∧ ee = .returned (.bool b) ∧ w = w' := by
  go_enter Tryd.func61, Tryd.ntmps61
  go_wp2_with fail
  refine (index_any A n c x f w hX hn).mono ?_
  rintro ee w' ⟨z, hz, rfl, rfl⟩
  rcases hz with ⟨h0, h1⟩ | ⟨rfl, h1⟩
  · have H1 := Lib.hid h1
    clear h1
    go_wp2
    go_ret
    exact ⟨true, Lib.hid ⟨fun _ => H1.out, fun _ => rfl⟩, rfl, rfl⟩
  · have H1 := Lib.hid h1
    clear h1
    go_wp2
    go_ret
    exact ⟨_, Lib.hid ⟨fun h => by simp at h, fun ⟨i, hi, he⟩ => absurd he (H1.out i hi)⟩, rfl, rfl⟩

theorem info_fld : (Tryd.prog.info? 93).map (fun i => (i.zero, i.size, i.bytes)) = some (some (.agg #[.int .u64 0, .pointer none]), 2, 16) := by kernel_rfl
def zeroF (i : Nat) : Value := if i % 2 = 0 then .int .u64 0 else .pointer none
def newFld (c : Nat) : Array Value := ((List.range (c * 2)).map zeroF).toArray
theorem newFld_rw (w : World) (c : Nat) : RW (w.alloc (.cells (newFld c) 93)) w.heap.size 93 (c * 2) zeroF := heap_alloc_new w _
theorem make_fld (c : Nat) (hc : c ≤ 1000000) (w : World) :
    (Instr.makeSlice 87 (.int .i64 (c : Int)) (.int .i64 (c : Int))).run Tryd.prog w = .ok (.slice (some ⟨w.heap.size, 0, none⟩) c c) (w.alloc (.cells (newFld c) 93)) := by
  obtain ⟨i0, hi, hz0, hz1, hz2⟩ := info_parts info_fld
  have hr := run_make (P := Tryd.prog) w 87 93 i0 (.agg #[.int .u64 0, .pointer none]) Tryd.underlying87 hi hz0 .i64 .i64 (c : Int) (c : Int) (by omega) (by omega) (by rw [hz2]; omega) (by omega)
  rw [hz1] at hr
  simp only [Int.toNat_natCast] at hr
  rw [hr]
  have e : madeCells (Value.agg #[.int .u64 0, .pointer none]).cells (c * 2) = newFld c := by
    apply Array.toList_inj.1
    unfold newFld madeCells zeroF
    apply List.ext_getElem?
    intro j
    by_cases hj : j < c * 2
    · rcases (show j % 2 = 0 ∨ j % 2 = 1 by omega) with h | h <;> simp [hj, Value.cells, h]
    · simp [hj]
  rw [e]
def fldUp (q p : Nat → Nat) (k i : Nat) : Value := if i < k * 2 then fldF q p i else zeroF i
theorem fldUp_step (q p : Nat → Nat) (k i P : Nat) :
    (if i = k * 2 + 1 then Value.pointer (some ⟨P, 0, none⟩) else if i = k * 2 then .int .u64 (q k : Int) else fldUp q p k i) = fldUp q (fun j => if j = k then P else p j) (k + 1) i := by
  unfold fldUp
  by_cases h1 : i = k * 2 + 1
  · subst h1; rw [if_pos rfl, if_pos (by omega), fldF, if_neg (by omega), show (k * 2 + 1) / 2 = k by omega, if_pos rfl]
  · rw [if_neg h1]
    by_cases h2 : i = k * 2
    · subst h2; rw [if_pos rfl, if_pos (by omega), fldF, if_pos (by omega), Nat.mul_div_cancel _ (by omega)]
    · rw [if_neg h2]
      by_cases h3 : i < k * 2
      · rw [if_pos h3, if_pos (by omega)]; unfold fldF; show _ = if i % 2 = 0 then _ else Value.pointer (some ⟨if i / 2 = k then P else p (i / 2), 0, none⟩); rw [if_neg (show ¬ i / 2 = k by omega)]
      · rw [if_neg h3, if_neg (by omega)]
theorem fldUp_zero (q p : Nat → Nat) (k : Nat) : ∃ z, fldUp q p k 0 = .int .u64 z := by
  unfold fldUp
  split
  · exact ⟨_, rfl⟩
  · exact ⟨_, rfl⟩
/-- A table is none of a row of fields. -/
theorem Tb.aside {w : World} {B p n q : Nat} {a e : Nat → Nat} {gp ge : Nat} (h : Tb w B p n q a e gp ge) {g m : Nat} {F : Nat → Value} (hr : RW w g 93 m F) (hm : 0 < m) (hF : ∃ z, F 0 = .int .u64 z) (i : Nat) (v : Value) : Tb (w.setCell ⟨g, i, none⟩ v) B p n q a e gp ge := by
  have np : p ≠ g := fun e' => by
    subst e'
    have h1 := h.size
    obtain ⟨z, hz⟩ := hF
    rw [RW.cell hr hm, hz] at h1
    injection h1 with h1
    injection h1 with h1
    cases h1
  have nb : ∀ {x m' : Nat} {F' : Nat → Value}, RW w x 147 m' F' → x ≠ g := fun {x m' F'} hx e' => by
    subst e'
    unfold RW at hx hr
    rw [hr] at hx
    injection hx with hx
    injection hx with _ hx
    exact absurd hx (by decide)
  have k : ∀ {x m' : Nat} {F' : Nat → Value}, RW w x 147 m' F' → RW (w.setCell ⟨g, i, none⟩ v) x 147 m' F' := fun {x m' F'} hx => RW.keep hx (Below.heap_setCell _ _ _ _ (fun e' => nb hx (by simpa using e')))
  exact ⟨h.hp, h.hgp, h.hge, far_cell h.size np, far_cell h.prime np, far_cell h.powers np, far_cell h.ends np, k h.pw, k h.en⟩
theorem Tab.aside {w : World} {p n q : Nat} {a e : Nat → Nat} (h : Tab w p n q a e) {g m : Nat} {F : Nat → Value} (hr : RW w g 93 m F) (hm : 0 < m) (hF : ∃ z, F 0 = .int .u64 z) (i : Nat) (v : Value) : Tab (w.setCell ⟨g, i, none⟩ v) p n q a e := by
  have hs : (w.setCell ⟨g, i, none⟩ v).heap.size = w.heap.size := by simp [World.setCell]
  refine ⟨h.n0, h.n1, h.q0, h.q1, h.nk, h.al, h.el, ?_, fun hq => ?_⟩
  · obtain ⟨gp, ge, ht⟩ := h.tb
    exact ⟨gp, ge, by rw [hs]; exact ht.aside hr hm hF i v⟩
  · obtain ⟨k, r, v', a', e', gp, ge, ht, hg, he⟩ := h.root hq
    exact ⟨k, r, v', a', e', gp, ge, by rw [hs]; exact ht.aside hr hm hF i v, hg, he⟩
/-- May the row be? -/
def RowP (n : Int) (L : Nat) (q : Nat → Nat) : Prop := 0 < L ∧ L ≤ 24 ∧ ∀ j, j < L → FitP n (q j) ∧ ∀ i, i < j → q i ≠ q j
theorem fit_dec (n : Int) (q : Nat) : FitP n q ∨ ¬ FitP n q := Classical.em _
set_option maxHeartbeats 4000000 in
theorem ringNew_any (n : Int) (A : Option Addr) (L c : Nat) (q : Nat → Nat) (w : World) (h0 : -9223372036854775808 ≤ n) (hn1 : n ≤ 32) (hL : L ≤ 100000) (hX : FX w A L c q) (hq : Hid (∀ j, j < L → q j < 18446744073709551616)) (hT : Tabs w) :
    Calls Tryd.prog 17 #[.int .i64 n, .slice A L c] w fun ee w' => (¬ RowP n L q ∧ ee = .returned (.tuple #[.pointer none, .int .i64 1]) ∧ Ext w w') ∨ (RowP n L q ∧ ∃ (r : Nat) (p : Nat → Nat) (a e : Nat → Nat → Nat), ee = .returned (.tuple #[.pointer (some ⟨r, 0, none⟩), .int .i64 0]) ∧ Rg w' r n.toNat L q p a e ∧ Ext w w') := by
  have HT := Lib.hid hT
  have HX := Lib.hid hX
  clear hT hX
  by_cases g0 : L = 0
  · subst g0
    have HN := Lib.hid (show ¬ RowP n 0 q from fun h => by have := h.1; omega)
    go_enter Tryd.func17, Tryd.ntmps17
    go_wp2
    go_ret2
    exact .inl ⟨HN.out, rfl, Ext.refl _⟩
  have g0b : ((L : Int) == 0) = false := by simp; omega
  by_cases g1 : 24 < L
  · have HN := Lib.hid (show ¬ RowP n L q from fun h => by have := h.2.1; omega)
    go_enter Tryd.func17, Tryd.ntmps17
    go_wp2
    go_ret2
    exact .inl ⟨HN.out, rfl, Ext.refl _⟩
  have hmk := make_fld L (by omega)
  go_enter Tryd.func17, Tryd.ntmps17
  go_wp2
  clear hmk
  go_loopw [24] (fun i wr => ∃ (k : Nat) (p : Nat → Nat) (a e : Nat → Nat → Nat), k ≤ L ∧ i = .int .i64 (k : Int) ∧ RW wr w.heap.size 93 (L * 2) (fldUp q p k) ∧ Hid (∀ j, j < k → (FitP n (q j) ∧ ∀ i, i < j → q i ≠ q j) ∧ Tab wr (p j) n.toNat (q j) (a j) (e j)) ∧ Ext w wr) (fun i _ => L - (intOf i).toNat)
  case atStart => exact ⟨0, fun _ => 0, fun _ _ => 0, fun _ _ => 0, by omega, rfl, (newFld_rw w L).congr fun i _ => by unfold fldUp; rw [if_neg (by omega)], Lib.hid fun j hj => by omega, (Ext.refl w).alloc _⟩
  case round =>
    obtain ⟨k, p, a, e, hk, rfl, hrw, hall, kr⟩ := hrel
    by_cases hlt : k < L
    · have hx := HX.out.ext kr
      obtain ⟨ad, rfl, hc⟩ := hx.cells (by omega)
      have hcell := hc k hlt
      have hql := hq.out k hlt
      have hroom := hx.room
      clear hc
      have HXk := Lib.hid (hx.cut (m := k) (by omega))
      clear hx
      have i0 : (0 : Int) ≤ (k : Int) := by omega
      have i1 : (k : Int) ≤ (L : Int) := by omega
      have i2 : (k : Int) ≤ (c : Int) := by omega
      go_wp2_with fail
      refine (contains_any _ k c (q k) q wr HXk.out (by omega)).mono ?_
      rintro ee w1 ⟨b, hb, rfl, rfl⟩
      cases b
      case true =>
        have HN := Lib.hid (show ¬ RowP n L q from fun h => by
          obtain ⟨i, hi, he⟩ := hb.out.1 rfl
          exact (h.2.2 k hlt).2 i hi he)
        go_wp2
        go_ret2
        exact .inl ⟨HN.out, rfl, kr⟩
      have HB := Lib.hid (show ∀ i, i < k → q i ≠ q k from fun i hi he => by
        have := hb.out.2 ⟨i, hi, he⟩; cases this)
      clear hb
      rcases fit_dec n (q k) with hf | hf
      case inr =>
        have HN := Lib.hid (show ¬ RowP n L q from fun h => hf (h.2.2 k hlt).1)
        have HF := Lib.hid hf
        clear hf
        go_wp2_with fail
        refine (newNo_any n (q k) wr h0 hn1 hql HF.out (HT.out.ext kr)).mono ?_
        rintro ee w2 ⟨rfl, k2⟩
        go_wp2
        go_ret2
        exact .inl ⟨HN.out, rfl, kr.trans k2⟩
      have HF := Lib.hid hf
      have hn2 := hf.1
      have hq2 := hf.2.1
      obtain ⟨m, rfl⟩ := Int.eq_ofNat_of_zero_le (show 0 ≤ n by omega)
      clear hf
      have hTo : ((m : Int)).toNat = m := by omega
      go_wp2_with fail
      refine (newT_any m (q k) wr (by omega) (by omega) hq2 (Lib.hid HF.out.2.2.1) (Lib.hid HF.out.2.2.2.1) (Lib.hid HF.out.2.2.2.2) (HT.out.ext kr)).mono ?_
      rintro ee w2 ⟨P, a2, e2, rfl, hTab, k2⟩
      have h1 := hrw.ext k2
      have c0 := h1.cell (i := k * 2) (by omega)
      have c1 := h1.cell (i := k * 2 + 1) (by omega)
      have z0 := h1.frozen (k * 2)
      have z1 := h1.frozen (k * 2 + 1)
      have hsz := h1.lt
      have HTab := Lib.hid hTab
      clear hTab
      go_wp2_with fail
      have h2 := (h1.set (show k * 2 < L * 2 by omega) (.int .u64 (q k : Int))).set (show k * 2 + 1 < L * 2 by omega) (.pointer (some ⟨P, 0, none⟩))
      have k3 : Ext w ((w2.setCell ⟨w.heap.size, k * 2, none⟩ (.int .u64 (q k : Int))).setCell ⟨w.heap.size, k * 2 + 1, none⟩ (.pointer (some ⟨P, 0, none⟩))) := ((kr.trans k2).set (p := ⟨w.heap.size, k * 2, none⟩) (Nat.le_refl _) _).set (p := ⟨w.heap.size, k * 2 + 1, none⟩) (Nat.le_refl _) _
      have h3 := h2.congr fun i _ => fldUp_step q p k i P
      have HA := Lib.hid (show ∀ (p' q' : Nat) (a' e' : Nat → Nat), Tab w2 p' m q' a' e' → Tab ((w2.setCell ⟨w.heap.size, k * 2, none⟩ (.int .u64 (q k : Int))).setCell ⟨w.heap.size, k * 2 + 1, none⟩ (.pointer (some ⟨P, 0, none⟩))) p' m q' a' e' from fun p' q' a' e' ht => by
        refine (ht.aside h1 (by omega) (fldUp_zero q p k) _ _).aside (h1.set (show k * 2 < L * 2 by omega) (.int .u64 (q k : Int))) (by omega) ?_ _ _
        by_cases hk0 : 0 = k * 2
        · exact ⟨_, if_pos hk0⟩
        · obtain ⟨z, hz⟩ := fldUp_zero q p k
          exact ⟨z, (if_neg hk0).trans hz⟩)
      generalize (w2.setCell ⟨w.heap.size, k * 2, none⟩ (.int .u64 (q k : Int))).setCell ⟨w.heap.size, k * 2 + 1, none⟩ (.pointer (some ⟨P, 0, none⟩)) = w3 at *
      have HALL := Lib.hid (show ∀ j, j < k + 1 → (FitP (m : Int) (q j) ∧ ∀ i, i < j → q i ≠ q j) ∧ Tab w3 ((fun j => if j = k then P else p j) j) ((m : Int)).toNat (q j) ((fun j => if j = k then a2 else a j) j) ((fun j => if j = k then e2 else e j) j) from fun j hj => by
        by_cases hjk : j = k
        · subst hjk
          refine ⟨⟨HF.out, HB.out⟩, ?_⟩
          simp only [if_true]
          exact HA.out _ _ _ _ HTab.out
        · obtain ⟨h5, h6⟩ := hall.out j (by omega)
          refine ⟨h5, ?_⟩
          simp only [if_neg hjk]
          exact HA.out _ _ _ _ (h6.ext k2))
      clear h1 c0 c1 z0 z1 h2 HA hrw hall
      go_wp2
      exact ⟨⟨k + 1, _, _, _, by omega, by go_num, h3, HALL, k3⟩, by simp [intOf]; omega⟩
    · obtain rfl : k = L := by omega
      have hn2 := (hall.out 0 (by omega)).1.1.1
      have HP := Lib.hid (show RowP n k q from ⟨by omega, by omega, fun j hj => (hall.out j hj).1⟩)
      have hfr : FR wr w.heap.size k q p := hrw.congr fun i hi => by unfold fldUp; rw [if_pos hi]
      have HFR := Lib.hid hfr
      have hto : (n.toNat : Int) = n := by omega
      have HTo := Lib.hid hto
      have hlt2 := RW.lt hrw
      clear hfr hrw hto
      go_wp2
      go_ret2
      have kV := (Ext.refl wr).alloc (Obj.cells #[Value.int IntKind.i64 n, Value.slice (some ⟨w.heap.size, 0, none⟩) k k] 95)
      refine .inr ⟨HP.out, wr.heap.size, p, a, e, rfl, ⟨by omega, by omega, by omega, by omega, fun j hj => ⟨((hall.out j hj).2).q0, ((hall.out j hj).2).q1⟩, ?_, ⟨w.heap.size, ?_, RW.ext HFR.out kV⟩, fun j hj => ((hall.out j hj).2).ext kV⟩, kr.trans kV⟩
      · rw [HTo.out]; simp
      · simp
end Go.Proofs.YtpgcapobbmbchaaDoor

/-
  What the tests of package ring answer, and what goes on prime by prime.
-/
namespace Go.Proofs.YtpgcapobbmbchaaDoor
open Go.RowKit
set_option linter.unusedVariables false
set_option maxRecDepth 100000

/-- It is told whether something is so; memory has only grown. -/
def Tells (w : World) (P : Prop) (ee : Ending) (w' : World) : Prop := (P ∧ ee = .returned (.bool true) ∧ Ext w w') ∨ (¬ P ∧ ee = .returned (.bool false) ∧ Ext w w')
theorem Tells.yes {w w' : World} {P : Prop} (h : P) (k : Ext w w') : Tells w P (.returned (.bool true)) w' := .inl ⟨h, rfl, k⟩
theorem Tells.no {w w' : World} {P : Prop} (h : ¬ P) (k : Ext w w') : Tells w P (.returned (.bool false)) w' := .inr ⟨h, rfl, k⟩
theorem holds_any (A : Option Addr) (n c q : Nat) (P : Option Addr) (f : Nat → Nat) (w : World) (hX : FX w A n c f) (hn : n ≤ 1000000000000000) :
    Calls Tryd.prog 140 #[.agg #[.int .u64 (q : Int), .pointer P], .slice A n c] w (Tells w (∀ i, i < n → f i < q)) := by
  have kV : Ext w (w.alloc (.cells #[.int .u64 (q : Int), .pointer P] 93)) := (Ext.refl w).alloc _
  have HX := Lib.hid (hX.ext kV)
  clear hX
  go_enter Tryd.func140, Tryd.ntmps140
  go_wp2
  have x0 : (w.alloc (.cells #[.int .u64 (q : Int), .pointer P] 93)).cell? ⟨w.heap.size, 0, none⟩ = some (.int .u64 (q : Int)) := by simp
  generalize w.alloc (.cells #[.int .u64 (q : Int), .pointer P] 93) = V at *
  go_loop [9] (fun i => ∃ m : Nat, m ≤ n ∧ i = .int .i64 (m : Int) ∧ Hid (∀ i, i < m → f i < q)) (fun i => n - (intOf i).toNat)
  case atStart => exact ⟨0, by omega, rfl, Lib.hid fun i hi => by omega⟩
  case round =>
    obtain ⟨m, hm, rfl, hno⟩ := hrel
    by_cases hlt : m < n
    · obtain ⟨ad, rfl, hc⟩ := HX.out.cells (by omega)
      have hcell := hc m hlt
      clear hc
      by_cases he : f m < q
      · have HE := Lib.hid (show ∀ i, i < m + 1 → f i < q from fun i hi => by
          by_cases h : i = m
          · rw [h]; exact he
          · exact hno.out i (by omega))
        generalize f m = y at *
        go_wp2
        exact ⟨⟨m + 1, by omega, by go_num, HE⟩, by simp [intOf]; omega⟩
      · have HE := Lib.hid (show ¬ ∀ i, i < n → f i < q from fun h => he (h m hlt))
        generalize f m = y at *
        go_wp2
        go_ret
        exact Tells.no HE.out kV
    · have HE := Lib.hid (show ∀ i, i < n → f i < q from fun i hi => hno.out i (by omega))
      go_wp2
      go_ret
      exact Tells.yes HE.out kV
set_option maxHeartbeats 4000000 in
theorem has_any (r n M : Nat) (q p : Nat → Nat) (a e : Nat → Nat → Nat) (A : Option Addr) (L c : Nat) (As : Nat → Option Addr) (ns cs : Nat → Nat) (f : Nat → Nat → Nat) (w : World) (hR : Rg w r n M q p a e) (hX : PX w A L c As ns cs f) (hL : L ≤ 1000000000000000) (hn : Hid (∀ j, j < L → ns j ≤ 1000000000000000)) :
    Calls Tryd.prog 109 #[.pointer (some ⟨r, 0, none⟩), .agg #[.slice A L c]] w (Tells w (El n M q L ns f)) := by
  have hl0 := hR.l0
  have hl1 := hR.l1
  have kV : Ext w (w.alloc (.cells #[.slice A L c] 25)) := (Ext.refl w).alloc _
  have t0 := cell_ext kV hR.size
  obtain ⟨gf, t1', hfr'⟩ := hR.ex
  have t1 := cell_ext kV t1'
  have hfr := RW.ext hfr' kV
  have HX := Lib.hid (hX.ext kV)
  have hn32 := hR.n1
  clear hX hR t1' hfr'
  have x0 : (w.alloc (.cells #[.slice A L c] 25)).cell? ⟨w.heap.size, 0, none⟩ = some (.slice A L c) := by simp
  by_cases g0 : L = 0
  · subst g0
    have HE := Lib.hid (show ¬ El n M q 0 ns f from fun h => by have := h.1; omega)
    go_enter Tryd.func109, Tryd.ntmps109
    go_wp2
    go_quiet (fail)
    go_wp2
    go_ret
    exact Tells.no HE.out (kV.drewN _)
  have g0b : ((L : Int) == 0) = false := by simp; omega
  by_cases g1 : M < L
  · have HE := Lib.hid (show ¬ El n M q L ns f from fun h => by have := h.2.1; omega)
    go_enter Tryd.func109, Tryd.ntmps109
    go_wp2
    go_quiet (fail)
    go_wp2
    go_ret
    exact Tells.no HE.out (kV.drewN _)
  go_enter Tryd.func109, Tryd.ntmps109
  go_wp2
  go_quiet (fail)
  have kD : Ext w ((w.alloc (.cells #[.slice A L c] 25)).drewN _) := kV.drewN 8
  go_wp2_with fail
  generalize hVd : (w.alloc (.cells #[.slice A L c] 25)) = V at *
  clear hVd
  go_loopw [25] (fun i wr => ∃ m : Nat, m ≤ L ∧ i = .int .i64 (m : Int) ∧ Hid (∀ j, j < m → ns j = n ∧ ∀ i, i < ns j → f j i < q j) ∧ Ext V wr) (fun i _ => L - (intOf i).toNat)
  case atStart => exact ⟨0, by omega, rfl, Lib.hid fun i hi => by omega, (Ext.refl V).drewN _⟩
  case round =>
    obtain ⟨m, hm, rfl, hno, kr⟩ := hrel
    by_cases hlt : m < L
    · obtain ⟨ad, rfl, hc⟩ := (HX.out.ext kr).cells (by omega)
      have hcell := hc m hlt
      have HXm := Lib.hid ((HX.out.ext kr).rows m hlt)
      have hnm := hn.out m hlt
      clear hc
      have t0' := cell_ext kr t0
      have t1' := cell_ext kr t1
      have f0 := cell_ext kr (FR.prime hfr (i := m) (by omega))
      have f1 := cell_ext kr (FR.table hfr (i := m) (by omega))
      by_cases hE : ns m = n
      case neg =>
        have hE2 : ((ns m : Int) == (n : Int)) = false := by simp; omega
        have hE3 : ((ns m : Int) != (n : Int)) = true := by simp; omega
        have HE := Lib.hid (show ¬ El n M q L ns f from fun h => hE (h.2.2 m hlt).1)
        clear hE
        generalize ns m = nm at *
        go_wp2
        go_ret
        exact Tells.no HE.out (kV.trans kr)
      have HNM := Lib.hid hE
      rw [hE] at hcell HXm
      clear hE
      have i0 : (0 : Int) ≤ (m : Int) := by omega
      have i1 : (m : Int) < (M : Int) := by omega
      have hee : ((n : Int) != (n : Int)) = false := by simp
      go_wp2_with fail
      refine (holds_any (As m) n (cs m) (q m) (some ⟨p m, 0, none⟩) (f m) wr HXm.out (by omega)).mono ?_
      rintro ee w2 (⟨hy, rfl, k2⟩ | ⟨hy, rfl, k2⟩)
      · have HE := Lib.hid (show ∀ j, j < m + 1 → ns j = n ∧ ∀ i, i < ns j → f j i < q j from fun j hj => by
          by_cases h : j = m
          · subst h; exact ⟨HNM.out, fun i hi => hy i (by rw [← HNM.out]; exact hi)⟩
          · exact hno.out j (by omega))
        clear hy
        go_wp2
        exact ⟨⟨m + 1, by omega, by go_num, HE, kr.trans k2⟩, by simp [intOf]; omega⟩
      · have HE := Lib.hid (show ¬ El n M q L ns f from fun h => hy fun i hi => (h.2.2 m hlt).2 i (by rw [HNM.out]; exact hi))
        clear hy
        go_wp2
        go_ret
        exact Tells.no HE.out (kV.trans (kr.trans k2))
    · have HE := Lib.hid (show El n M q L ns f from ⟨by omega, by omega, fun j hj => hno.out j (by omega)⟩)
      go_wp2
      go_ret
      exact Tells.yes HE.out (kV.trans kr)
end Go.Proofs.YtpgcapobbmbchaaDoor

/-
  What check and byPrime of package ring answer.
-/
namespace Go.Proofs.YtpgcapobbmbchaaDoor
open Go.RowKit
set_option linter.unusedVariables false
set_option maxRecDepth 100000

/-- It is no error, or ErrForm. -/
def Chk (w : World) (P : Prop) (ee : Ending) (w' : World) : Prop := (P ∧ ee = .returned (.int .i64 0) ∧ Ext w w') ∨ (¬ P ∧ ee = .returned (.int .i64 3) ∧ Ext w w')
theorem rcheck_nil (E : Option Addr) (m c : Nat) (w : World) :
    Calls Tryd.prog 64 #[.pointer none, .slice E m c] w fun ee w' => ee = .returned (.int .i64 1) ∧ w = w' := by
  go_enter Tryd.func64, Tryd.ntmps64
  go_wp2
  go_ret
  exact ⟨rfl, rfl⟩
set_option maxHeartbeats 2000000 in
theorem rcheck_any (r n M : Nat) (q p : Nat → Nat) (a e : Nat → Nat → Nat) (E : Option Addr) (m mc : Nat) (A : Nat → Option Addr) (L c : Nat → Nat) (As : Nat → Nat → Option Addr) (ns cs : Nat → Nat → Nat) (f : Nat → Nat → Nat → Nat) (w : World) (hR : Rg w r n M q p a e) (hm : m ≤ 1000)
    (hE : Hid (0 < m → ∃ ad, E = some ad ∧ ∀ j, j < m → w.cell? (ad.add j) = some (.slice (A j) (L j) (c j))))
    (hX : Hid (∀ j, j < m → PX w (A j) (L j) (c j) (As j) (ns j) (cs j) (f j) ∧ L j ≤ 1000000000000000 ∧ ∀ i, i < L j → ns j i ≤ 1000000000000000)) :
    Calls Tryd.prog 64 #[.pointer (some ⟨r, 0, none⟩), .slice E m mc] w (Chk w (∀ j, j < m → El n M q (L j) (ns j) (f j))) := by
  have hl0 := hR.l0
  obtain ⟨gf, t1, hfr⟩ := hR.ex
  have HR := Lib.hid hR
  clear hfr hR
  have hz : ((M : Int) == 0) = false := by simp; omega
  go_enter Tryd.func64, Tryd.ntmps64
  go_wp2
  go_loopw [19] (fun i wr => ∃ k : Nat, k ≤ m ∧ i = .int .i64 (k : Int) ∧ Hid (∀ j, j < k → El n M q (L j) (ns j) (f j)) ∧ Ext w wr) (fun i _ => m - (intOf i).toNat)
  case atStart => exact ⟨0, by omega, rfl, Lib.hid fun i hi => by omega, Ext.refl _⟩
  case round =>
    obtain ⟨k, hk, rfl, hno, kr⟩ := hrel
    by_cases hlt : k < m
    · obtain ⟨ad, rfl, hc⟩ := hE.out (by omega)
      have hcell := cell_ext kr (hc k hlt)
      obtain ⟨h1, h2, h3⟩ := hX.out k hlt
      have H1 := Lib.hid h1
      have H3 := Lib.hid h3
      clear hc h1 h3
      go_wp2_with fail
      have kV : Ext wr (wr.alloc (.cells #[.slice (A k) (L k) (c k)] 25)) := (Ext.refl wr).alloc _
      have kw := kr.trans kV
      refine (has_any r n M q p a e (A k) (L k) (c k) (As k) (ns k) (cs k) (f k) _ (HR.out.ext kw) (H1.out.ext kw) h2 H3).mono ?_
      rintro ee w2 (⟨hy, rfl, k2⟩ | ⟨hy, rfl, k2⟩)
      · have HE := Lib.hid (show ∀ j, j < k + 1 → El n M q (L j) (ns j) (f j) from fun j hj => by
          by_cases h : j = k
          · subst h; exact hy
          · exact hno.out j (by omega))
        clear hy
        go_wp2
        exact ⟨⟨k + 1, by omega, by go_num, HE, kw.trans k2⟩, by simp [intOf]; omega⟩
      · have HE := Lib.hid (show ¬ ∀ j, j < m → El n M q (L j) (ns j) (f j) from fun h => hy (h k hlt))
        clear hy
        go_wp2
        go_ret
        exact .inr ⟨HE.out, rfl, kw.trans k2⟩
    · have HE := Lib.hid (show ∀ j, j < m → El n M q (L j) (ns j) (f j) from fun j hj => hno.out j (by omega))
      go_wp2
      go_ret
      exact .inl ⟨HE.out, rfl, kr⟩
theorem levelOf_any (A : Option Addr) (L c : Nat) (w : World) (hL : L ≤ 1000000000000000) :
    Calls Tryd.prog 65 #[.agg #[.slice A L c]] w fun ee w' => ee = .returned (.int .i64 ((L : Int) - 1)) ∧ Ext w w' := by
  go_enter Tryd.func65, Tryd.ntmps65
  go_wp2
  go_ret
  exact ⟨by go_simp, (Ext.refl w).alloc _⟩

theorem info_uss : (Tryd.prog.info? 22).map (fun i => (i.zero, i.size, i.bytes)) = some (some (.slice none 0 0), 1, 24) := by kernel_rfl
def newS (c : Nat) : Array Value := ((List.range c).map fun _ => Value.slice none 0 0).toArray
theorem newS_rw (w : World) (c : Nat) : RW (w.alloc (.cells (newS c) 22)) w.heap.size 22 c (fun _ => .slice none 0 0) := heap_alloc_new w _
theorem make_ss (c : Nat) (hc : c ≤ 1000000) (w : World) :
    (Instr.makeSlice 23 (.int .i64 (c : Int)) (.int .i64 (c : Int))).run Tryd.prog w = .ok (.slice (some ⟨w.heap.size, 0, none⟩) c c) (w.alloc (.cells (newS c) 22)) := by
  obtain ⟨i0, hi, hz0, hz1, hz2⟩ := info_parts info_uss
  have hr := run_make (P := Tryd.prog) w 23 22 i0 (.slice none 0 0) Tryd.underlying23 hi hz0 .i64 .i64 (c : Int) (c : Int) (by omega) (by omega) (by rw [hz2]; omega) (by omega)
  rw [hz1] at hr
  simp only [Int.toNat_natCast] at hr
  rw [hr]
  have e : madeCells (Value.slice none 0 0).cells (c * 1) = newS c := by
    apply Array.toList_inj.1
    unfold newS madeCells
    apply List.ext_getElem?
    intro j
    by_cases hj : j < c
    · simp [hj, Value.cells, Nat.mod_one]
    · simp [hj]
  rw [e]
/-- Lists that are made: block G holds L slices, each of n words, as F tells. -/
structure PM (w : World) (G L n : Nat) (As : Nat → Option Addr) (cs : Nat → Nat) (F : Nat → Nat → Nat) : Prop where
  row : RW w G 22 L (fun j => .slice (As j) n (cs j))
  lists : ∀ j, j < L → FX w (As j) n (cs j) (F j)
theorem PM.px {w : World} {G L n : Nat} {As : Nat → Option Addr} {cs : Nat → Nat} {F : Nat → Nat → Nat} (h : PM w G L n As cs F) : PX w (some ⟨G, 0, none⟩) L L As (fun _ => n) cs F :=
  ⟨Nat.le_refl _, fun _ => ⟨_, rfl, fun j hj => by rw [Addr.add_lit, Nat.zero_add]; exact RW.cell h.row hj⟩, h.lists⟩
theorem PM.ext {w w' : World} {G L n : Nat} {As : Nat → Option Addr} {cs : Nat → Nat} {F : Nat → Nat → Nat} (h : PM w G L n As cs F) (k : Ext w w') : PM w' G L n As cs F := ⟨RW.ext h.row k, fun j hj => (h.lists j hj).ext k⟩
/-- A cell that holds a slice is none of a list of words. -/
theorem FX.aside {w : World} {A : Option Addr} {n c : Nat} {f : Nat → Nat} (h : FX w A n c f) {p : Addr} {B : Option Addr} {m k : Nat} (hp : w.cell? p = some (.slice B m k)) (v : Value) : FX (w.setCell p v) A n c f :=
  ⟨h.room, fun hn => by
    obtain ⟨ad, e, hc⟩ := h.cells hn
    refine ⟨ad, e, fun j hj => ?_⟩
    rw [set_far]
    · exact hc j hj
    · intro e'
      have := hc j hj
      rw [← e', hp] at this
      injection this with this
      cases this⟩
/-- A block of one type is none of another. -/
theorem RW.ne {w : World} {x g m m' : Nat} {t t' : TypeId} {F F' : Nat → Value} (h : RW w x t m F) (h' : RW w g t' m' F') (ht : t ≠ t') : x ≠ g := fun e => by
  subst e
  unfold RW at h h'
  rw [h'] at h
  injection h with h
  injection h with _ h
  exact ht h.symm
theorem RW.aside {w : World} {x g m m' : Nat} {t t' : TypeId} {F F' : Nat → Value} (h : RW w x t m F) (h' : RW w g t' m' F') (ht : t ≠ t') (i : Nat) (v : Value) : RW (w.setCell ⟨g, i, none⟩ v) x t m F :=
  RW.keep h (Below.heap_setCell _ _ _ _ (fun e' => RW.ne h h' ht (by simpa using e')))
/-- A call of a function with a body enters it. -/
def Enters (fn : Nat) : Prop := ∀ args w, Sem.run Tryd.prog (callFunc fn args) w = .ok (.enter fn args) w
/-- What byPrime is handed: for each place a list is made. -/
def Makes (fn : Nat) (cap : Array Value) (w : World) (n L : Nat) (q p : Nat → Nat) (R : Nat → (Nat → Nat) → Prop) : Prop :=
  ∀ j w1, j < L → Ext w w1 → Calls Tryd.prog fn (#[.agg #[.int .u64 (q j : Int), .pointer (some ⟨p j, 0, none⟩)], .int .i64 (j : Int)] ++ cap) w1 fun ee w2 => ∃ (A : Option Addr) (c : Nat) (F : Nat → Nat), ee = .returned (.slice A n c) ∧ FX w2 A n c F ∧ Hid (R j F) ∧ Ext w1 w2
set_option maxHeartbeats 4000000 in
theorem byPrime_any (fn : Nat) (cap : Array Value) (r n M L : Nat) (q p : Nat → Nat) (a e : Nat → Nat → Nat) (R : Nat → (Nat → Nat) → Prop) (w : World) (hR : Rg w r n M q p a e) (hL : L < M) (hE : Hid (Enters fn)) (hM : Hid (Makes fn cap w n (L + 1) q p R)) :
    Calls Tryd.prog 76 #[.pointer (some ⟨r, 0, none⟩), .int .i64 (L : Int), .func (.func fn) #[] cap] w fun ee w' => ∃ (G : Nat) (As : Nat → Option Addr) (cs : Nat → Nat) (F : Nat → Nat → Nat), ee = .returned (.agg #[.slice (some ⟨G, 0, none⟩) (L + 1) (L + 1)]) ∧ PM w' G (L + 1) n As cs F ∧ Hid (∀ j, j < L + 1 → R j (F j)) ∧ Ext w w' := by
  have hl1 := hR.l1
  have HR := Lib.hid hR
  clear hR
  have hmk := make_ss (L + 1) (by omega)
  rw [show ((L + 1 : Nat) : Int) = (L : Int) + 1 by omega] at hmk
  have hw1 : IntKind.i64.wrap ((L : Int) + 1) = (L : Int) + 1 := by rw [IntKind.wrap_i64]; omega
  go_enter Tryd.func76, Tryd.ntmps76
  go_wp2
  clear hmk
  have hrs : RW (w.alloc (.cells #[.slice none 0 0] 25)) w.heap.size 25 1 (fun _ => .slice none 0 0) := heap_alloc_new w _
  have kA : Ext w (w.alloc (.cells #[.slice none 0 0] 25)) := (Ext.refl w).alloc _
  have hrs2 := RW.ext hrs ((Ext.refl _).alloc (.cells (newS (L + 1)) 22))
  have hls := newS_rw (w.alloc (.cells #[.slice none 0 0] 25)) (L + 1)
  rw [show (w.alloc (.cells #[.slice none 0 0] 25)).heap.size = w.heap.size + 1 by simp] at hls
  have kB := kA.alloc (.cells (newS (L + 1)) 22)
  generalize hV : (w.alloc (.cells #[.slice none 0 0] 25)).alloc (.cells (newS (L + 1)) 22) = V at *
  clear hrs kA hV
  obtain ⟨G, hG⟩ : ∃ G, G = w.heap.size + 1 := ⟨_, rfl⟩
  rw [← hG] at hls ⊢
  have hGw : w.heap.size ≤ G := by omega
  clear hG
  go_loopw [14] (fun i wr => ∃ (k : Nat) (As : Nat → Option Addr) (cs : Nat → Nat) (F : Nat → Nat → Nat), k ≤ L + 1 ∧ i = .int .i64 (k : Int) ∧ RW wr G 22 (L + 1) (fun j => if j < k then .slice (As j) n (cs j) else .slice none 0 0) ∧ Hid (∀ j, j < k → FX wr (As j) n (cs j) (F j) ∧ R j (F j)) ∧ RW wr w.heap.size 25 1 (fun _ => .slice none 0 0) ∧ Ext w wr) (fun i _ => L + 1 - (intOf i).toNat)
  case atStart => exact ⟨0, fun _ => none, fun _ => 0, fun _ _ => 0, by omega, rfl, hls.congr fun i _ => by rw [if_neg (by omega)], Lib.hid fun j hj => by omega, hrs2, kB⟩
  case round =>
    obtain ⟨k, As, cs, F, hk, rfl, hrw, hall, hr0, kr⟩ := hrel
    clear hls hrs2 kB
    by_cases hlt : k < L + 1
    · have hR2 := HR.out.ext kr
      obtain ⟨gf, t1, hfr⟩ := hR2.ex
      have f0 := FR.prime hfr (i := k) (by omega)
      have f1 := FR.table hfr (i := k) (by omega)
      clear hfr hR2
      have i0 : (0 : Int) ≤ (k : Int) := by omega
      have i1 : (k : Int) < (M : Int) := by omega
      have i2 : (k : Int) < (L : Int) + 1 := by omega
      go_wp2_with fail
      rw [hE.out, Oper.upon_enter]
      refine (hM.out k wr (by omega) kr).mono ?_
      rintro ee w2 ⟨A2, c2, F2, rfl, hu2, hR2, k2⟩
      have h1 := hrw.ext k2
      have c0 := h1.cell (i := k) (by omega)
      have z0 := h1.frozen k
      have hr2 := hr0.ext k2
      simp only [Nat.lt_irrefl, if_false] at c0
      have hsz := h1.lt
      go_wp2_with fail
      have h2 := (h1.set (show k < L + 1 by omega) (.slice A2 n c2)).congr (G := fun j => if j < k + 1 then .slice ((fun j => if j = k then A2 else As j) j) n ((fun j => if j = k then c2 else cs j) j) else .slice none 0 0) fun j _ => by
        by_cases h1 : j = k
        · subst h1; rw [if_pos rfl, if_pos (by omega)]; simp only [if_true]
        · simp only [if_neg h1]
          by_cases h2 : j < k
          · rw [if_pos h2, if_pos (by omega)]
          · rw [if_neg h2, if_neg (by omega)]
      have HALL := Lib.hid (show ∀ j, j < k + 1 → FX (w2.setCell ⟨G, k, none⟩ (.slice A2 n c2)) ((fun j => if j = k then A2 else As j) j) n ((fun j => if j = k then c2 else cs j) j) ((fun j => if j = k then F2 else F j) j) ∧ R j ((fun j => if j = k then F2 else F j) j) from fun j hj => by
        by_cases hjk : j = k
        · subst hjk
          simp only [if_true]
          exact ⟨hu2.aside c0 _, hR2.out⟩
        · simp only [if_neg hjk]
          exact ⟨((hall.out j (by omega)).1.ext k2).aside c0 _, (hall.out j (by omega)).2⟩)
      have hr3 := RW.aside hr2 h1 (by decide) k (.slice A2 n c2)
      have k3 := (kr.trans k2).set (p := ⟨G, k, none⟩) hGw (.slice A2 n c2)
      generalize w2.setCell ⟨G, k, none⟩ (.slice A2 n c2) = w3 at *
      clear h1 c0 z0 hr2 hrw hall hr0
      go_wp2
      exact ⟨⟨k + 1, _, _, _, by omega, by go_num, h2, HALL, hr3, k3⟩, by simp [intOf]; omega⟩
    · obtain rfl : k = L + 1 := by omega
      have hpm : RW wr G 22 (L + 1) (fun j => .slice (As j) n (cs j)) := hrw.congr fun j hj => by rw [if_pos hj]
      have HPM := Lib.hid hpm
      have c0 := hr0.cell (i := 0) (by omega)
      have z0 := hr0.frozen 0
      have hsz := hr0.lt
      have HB := Lib.hid (show ∀ v : Value, PM (wr.setCell ⟨w.heap.size, 0, none⟩ v) G (L + 1) n As cs F from fun v => ⟨RW.aside hpm hr0 (by decide) _ _, fun j hj => (hall.out j hj).1.aside c0 _⟩)
      have HK := Lib.hid (show ∀ v : Value, Ext w (wr.setCell ⟨w.heap.size, 0, none⟩ v) from fun v => kr.set (p := ⟨w.heap.size, 0, none⟩) (Nat.le_refl _) v)
      have HD := Lib.hid (show ∀ v : Value, (wr.setCell ⟨w.heap.size, 0, none⟩ v).cell? ⟨w.heap.size, 0, none⟩ = some v from fun v => by
        have := (hr0.set (show 0 < 1 by omega) v).cell (i := 0) (by omega)
        rwa [if_pos rfl] at this)
      clear hpm hrw hr0
      go_wp2
      have d0 := HD.out (.slice (some ⟨G, 0, none⟩) (L + 1) (L + 1))
      have d1 := HB.out (.slice (some ⟨G, 0, none⟩) (L + 1) (L + 1))
      have d2 := HK.out (.slice (some ⟨G, 0, none⟩) (L + 1) (L + 1))
      generalize wr.setCell ⟨w.heap.size, 0, none⟩ (.slice (some ⟨G, 0, none⟩) (L + 1) (L + 1)) = w5 at *
      exact bodyPost_ret (v := .agg #[.slice (some ⟨G, 0, none⟩) (L + 1) (L + 1)]) (by simp [results, Tryd.results76, go_sem, d0]) rfl ⟨G, As, cs, F, rfl, d1, Lib.hid fun j hj => (hall.out j hj).2, d2⟩
end Go.Proofs.YtpgcapobbmbchaaDoor
