import Derived.Test.YtkbcobjhlpjieaaGreatDoorZ37
namespace Go.Proofs.YtkbcobjhlpjieaaGreatDoor
open Go.RowKit
set_option linter.unusedVariables false
set_option maxRecDepth 100000
theorem sign_pure (l : List Nat) (v : Nat) (b : Bool) (hb : b = decide (2 < v)) (h0 : ∀ x r, stp (.ok l) (numP 1) = .ok (x, r) → v = x) :
    restS (signP l) = failS (restS (stp (.ok l) (numP 1))) b 3 ∧ ∀ z r, signP l = .ok (z, r) → signZ v = z := by
 have e0 : stp (.ok l) (numP 1) = numP 1 l := rfl
 rw [e0] at h0 ⊢
 rcases h : numP 1 l with e | ⟨x, r⟩
 ·have h1 : signP l = .error e := bindP_err (bindP_err h)
  rw [h1]
  exact ⟨rfl, fun x r h => by cases h⟩
 ·have := h0 x r h
  subst this
  rw [hb]
  by_cases g : 2 < v
  ·have h1 : signP l = .error 3 := bindP_err (by rw [betP_num h, if_pos (.inr g)])
   rw [h1]
   exact ⟨by simp [restS, failS, g], fun x r h => by cases h⟩
  ·have h1 : signP l = .ok (signZ v, r) := bindP_ok (by rw [betP_num h, if_neg (by omega)])
   rw [h1]
   refine ⟨by simp [restS, failS, g], fun x r h => ?_⟩
   injection h with h
   injection h
theorem ms_step {α : Type} {g : Pr α} {n k : Nat} {y : α} {ys : List α} {s0 s : Except Nat (List Nat)} {l1 : List Nat}
    (h : (∃ c, s0 = .error c ∧ (.ok l1 : Except Nat (List Nat)) = .error c) ∨ ∃ l0, s0 = .ok l0 ∧ ((∃ l', (.ok l1 : Except Nat (List Nat)) = .ok l' ∧ manyP g n l0 = aft ys (manyP g (n - k) l')) ∨ ∃ c, (.ok l1 : Except Nat (List Nat)) = .error c ∧ manyP g n l0 = .error c))
    (hk : k < n) (hs : s = restS (g l1)) (hy : ∀ x r, g l1 = .ok (x, r) → y = x) :
    (∃ c, s0 = .error c ∧ s = .error c) ∨ ∃ l0, s0 = .ok l0 ∧ ((∃ l', s = .ok l' ∧ manyP g n l0 = aft (ys ++ [y]) (manyP g (n - (k + 1)) l')) ∨ ∃ c, s = .error c ∧ manyP g n l0 = .error c) := by
 rcases h with ⟨c, _, h⟩ | ⟨l0, h0, ⟨l', h, hm⟩ | ⟨c, h, _⟩⟩
 ·cases h
 ·injection h with h
  subst h
  refine .inr ⟨l0, h0, ?_⟩
  rcases hh : g l1 with e | ⟨x, r⟩
  ·refine .inr ⟨e, by rw [hs, hh]; rfl, ?_⟩
   rw [hm, show n - k = (n - (k + 1)) + 1 by omega, manyP_err hh]
   rfl
  ·obtain rfl := hy x r hh
   refine .inl ⟨r, by rw [hs, hh]; rfl, ?_⟩
   rw [hm, show n - k = (n - (k + 1)) + 1 by omega, manyP_ok hh, aft_aft]
 ·cases h
theorem ms_fin {α : Type} {g : Pr α} {n k : Nat} {ys : List α} {s0 s : Except Nat (List Nat)}
    (h : (∃ c, s0 = .error c ∧ s = .error c) ∨ ∃ l0, s0 = .ok l0 ∧ ((∃ l', s = .ok l' ∧ manyP g n l0 = aft ys (manyP g (n - k) l')) ∨ ∃ c, s = .error c ∧ manyP g n l0 = .error c)) (hex : k = n ∨ ∃ e, s = .error e) :
    restS (stp s0 (manyP g n)) = s ∧ ∀ x r, stp s0 (manyP g n) = .ok (x, r) → x = ys := by
 rcases h with ⟨c, h1, h2⟩ | ⟨l0, h1, ⟨l', h2, h3⟩ | ⟨c, h2, h3⟩⟩
 ·rw [h1, h2]; exact ⟨rfl, fun x r h => by cases h⟩
 ·rcases hex with rfl | ⟨e, he⟩
  ·have h4 : manyP g k l0 = .ok (ys, l') := by rw [h3, Nat.sub_self]; simp [manyP, aft]
   rw [h1, h2]
   simp only [stp, h4, restS]
   exact ⟨trivial, fun x r h => by injection h with h; injection h with h _; exact h.symm⟩
  ·rw [h2] at he; cases he
 ·rw [h1, h2]
  simp only [stp, h3, restS]
  exact ⟨trivial, fun x r h => by cases h⟩
theorem whole_pure {α : Type} {l : List Nat} {kind : Nat} {pv0 : PV} {f : PV → Pr α} (hpv : ∀ pv r, bindP (betP 1 kind kind) (fun _ => paramP) l = .ok (pv, r) → pv = pv0) :
    restS (headP kind f l) = restS (stp (restS (bindP (betP 1 kind kind) (fun _ => paramP) l)) (f pv0)) ∧
    ∀ y r, headP kind f l = .ok (y, r) → ∃ x, stp (restS (bindP (betP 1 kind kind) (fun _ => paramP) l)) (f pv0) = .ok (x, r) ∧ y = (pv0, x) := by
 rw [head_eq]
 rcases hh : bindP (betP 1 kind kind) (fun _ => paramP) l with e | ⟨pv, r1⟩
 ·rw [bindP_err hh]
  exact ⟨rfl, fun y r h => by cases h⟩
 ·obtain rfl := hpv pv r1 hh
  rw [bindP_ok hh]
  rw [show restS (.ok (pv, r1) : Except Nat (PV × List Nat)) = .ok r1 from rfl]
  simp only [stp]
  rcases h1 : f pv r1 with e | ⟨x0, r2⟩
  ·rw [bindP_err h1]
   exact ⟨rfl, fun y r h => by cases h⟩
  ·rw [bindP_ok h1]
   refine ⟨rfl, fun y r h => ?_⟩
   injection h with h
   injection h with h3 h4
   subst h4
   exact ⟨x0, rfl, h3.symm⟩
structure RsQ (w : World) (x n t : Nat) (AQ : Option Addr) (M cQ wd : Nat) (s : Except Nat (List Nat)) (qs : List Nat) (V : World) : Prop where
 ans : RW V w.heap.size 25 4 (parF (.int .i64 0) (.int .u64 0) (.slice none 0 0) (.int .i64 0))
 par : RW V x 25 4 (parF (.int .i64 (n : Int)) (.int .u64 (t : Int)) (.slice AQ M cQ) (.int .i64 (wd : Int)))
 rr : RR V (w.heap.size + 1) s
 ext : Ext w V
 ly : LY 22 WordR V AQ cQ qs
 lt : w.heap.size + 1 < x
section
variable {w : World} {x n t : Nat} {AQ : Option Addr} {M cQ wd : Nat} {s s' : Except Nat (List Nat)} {qs : List Nat} {V V' : World}
theorem RsQ.call (h : RsQ w x n t AQ M cQ wd s qs V) (hr : RR V' (w.heap.size + 1) s') (k : On (w.heap.size + 1) V V') : RsQ w x n t AQ M cQ wd s' qs V' :=
 ⟨h.ans.on k (by omega), h.par.on k (by have := h.lt; omega), hr, h.ext.on k (by omega), h.ly.keeps (wordR_stays [22]) (by decide) (h.rr.keeps k (by decide)), h.lt⟩
theorem RsQ.more (h : RsQ w x n t AQ M cQ wd s qs V) (k : Ext V V') : RsQ w x n t AQ M cQ wd s qs V' := h.call (h.rr.ext k) (On.of k)
theorem RsQ.grown {vv : Value} {k : Nat} {us : List Value} (h : RsQ w x n t AQ M cQ wd s qs V) (ho : V.ownsRow (x + 1) 2 1 vv k us) (hg : V.grownBy V' vv.ownBlock) : RsQ w x n t AQ M cQ wd s qs V' :=
 ⟨h.ans.keep (hg.block _ h.ans.lt (fun e => by have := (ho.lt _ e.symm).1; have := h.lt; omega)), h.par.keep (hg.block _ h.par.lt (fun e => by have := (ho.lt _ e.symm).1; omega)), h.rr.grown hg (fun k e => by have := (ho.lt _ e).1; have := h.lt; omega), Below.grown h.ext hg h.ext.size (fun k e => by have := (ho.lt k e).1; have := h.lt; omega), h.ly.keeps (wordR_stays [22]) (by decide) (Keeps.grown hg ho (by decide)), h.lt⟩
end
set_option maxHeartbeats 16000000 in
theorem rrS_any (nn c : Nat) (A : Option Addr) (l : List Nat) (w : World) (hX : Hid (BX w A nn c l)) (hA : Hid (0 < nn → ∀ ad, A = some ad → ad.block < w.heap.size)) (hn : nn ≤ 100000) :
    Calls Tryz.prog 30 #[.slice A nn c] w (RPost (.slice none 0 0) w (endP (headP 4 secretP l)) SgR) := by
 obtain ⟨i0, hi, hz0, hz1, hz2⟩ := info_parts info_i64U
 have HN := Lib.hid hX.out.len
 obtain ⟨T, hT0⟩ : ∃ T : Except Nat ((PV × List Int) × List Nat), T = headP 4 secretP l := ⟨_, rfl⟩
 rw [← hT0]
 have HT0 := Lib.hid hT0
 have kA : Ext w ((w.alloc (.cells #[.int .i64 0, .int .u64 0, .slice none 0 0, .int .i64 0] 25)).alloc (.cells #[.slice A nn c, .int .i64 0] 128)) := ((Ext.refl w).alloc _).alloc _
 have HR0 := Lib.hid (show RR ((w.alloc (.cells #[.int .i64 0, .int .u64 0, .slice none 0 0, .int .i64 0] 25)).alloc (.cells #[.slice A nn c, .int .i64 0] 128)) (w.heap.size + 1) (.ok l) by
  have h := rr_new (w.alloc (.cells #[.int .i64 0, .int .u64 0, .slice none 0 0, .int .i64 0] 25)) A nn c l (hX.out.ext ((Ext.refl w).alloc _)) HN.out.symm hn (fun h0 ad e => by have := hA.out h0 ad e; simp; omega)
  rw [World.size_alloc] at h
  exact h)
 have r6 : RW ((w.alloc (.cells #[.int .i64 0, .int .u64 0, .slice none 0 0, .int .i64 0] 25)).alloc (.cells #[.slice A nn c, .int .i64 0] 128)) w.heap.size 25 4 (parF (.int .i64 0) (.int .u64 0) (.slice none 0 0) (.int .i64 0)) := RW.ext (show RW (w.alloc (.cells #[.int .i64 0, .int .u64 0, .slice none 0 0, .int .i64 0] 25)) w.heap.size 25 4 (parF (.int .i64 0) (.int .u64 0) (.slice none 0 0) (.int .i64 0)) from heap_alloc_new w _) ((Ext.refl _).alloc _)
 have hs0 : ((w.alloc (.cells #[.int .i64 0, .int .u64 0, .slice none 0 0, .int .i64 0] 25)).alloc (.cells #[.slice A nn c, .int .i64 0] 128)).heap.size = w.heap.size + 2 := by simp
 clear hT0
 go_enter Tryz.func30, Tryz.ntmps30
 go_wp2_with fail
 generalize ((w.alloc (.cells #[.int .i64 0, .int .u64 0, .slice none 0 0, .int .i64 0] 25)).alloc (.cells #[.slice A nn c, .int .i64 0] 128)) = X0 at *
 refine (rStart_any 4 (w.heap.size + 1) l X0 HR0 (by omega)).mono ?_
 rintro e1 w1 ⟨n, t, wd, qs, AQ, cQ, rfl, hly, hn1, ht1, hw1, hq1, hpv, hrr, hon⟩
 obtain ⟨M, hM⟩ : ∃ M, M = qs.length := ⟨_, rfl⟩
 have HM := Lib.hid hM
 rw [← hM]
 obtain ⟨p1, p2⟩ := whole_pure (kind := 4) (f := secretP) hpv
 obtain ⟨s1, hs1⟩ : ∃ s, s = restS (bindP (betP 1 4 4) (fun _ => paramP) l) := ⟨_, rfl⟩
 have hp0 : ∀ l1, s1 = .ok l1 → 0 < qs.length := fun l1 h => by
  rw [hs1] at h
  rcases hh : bindP (betP 1 4 4) (fun _ => paramP) l with e | ⟨pv, r'⟩
  ·rw [hh] at h; cases h
  ·obtain rfl := hpv pv r' hh
   exact (start_ok hh).2.1
 rw [← hs1] at hrr p1 p2
 have HSP := Lib.hid (show stp s1 (secretP ⟨n, t, wd, qs⟩) = stp s1 (manyP signP n) from rfl)
 have HP1 := Lib.hid p1
 have HP2 := Lib.hid p2
 have HP0 := Lib.hid hp0
 have hsz := hon.size
 have HQ := Lib.hid (show RsQ w w1.heap.size n t AQ M cQ wd s1 qs (w1.alloc (.cells #[.int .i64 (n : Int), .int .u64 (t : Int), .slice AQ M cQ, .int .i64 (wd : Int)] 25)) from by
  have kY : Ext w1 (w1.alloc (.cells #[.int .i64 (n : Int), .int .u64 (t : Int), .slice AQ M cQ, .int .i64 (wd : Int)] 25)) := (Ext.refl w1).alloc _
  exact ⟨(r6.on hon (by omega)).ext kY, heap_alloc_new w1 _, hrr.ext kY, (kA.on hon (by omega)).trans kY, hly.keeps (wordR_stays [22]) (by decide) (Keeps.ext kY), by omega⟩)
 have hs8 : (w1.alloc (.cells #[.int .i64 (n : Int), .int .u64 (t : Int), .slice AQ M cQ, .int .i64 (wd : Int)] 25)).heap.size = w1.heap.size + 1 := by simp
 clear hM hly hpv hrr hon hs1 hp0 p1 p2 r6
 obtain ⟨x, hx⟩ : ∃ x, x = w1.heap.size := ⟨_, rfl⟩
 go_wp2_with fail
 generalize (w1.alloc (.cells #[.int .i64 (n : Int), .int .u64 (t : Int), .slice AQ M cQ, .int .i64 (wd : Int)] 25)) = W4 at *
 rw [← hx] at HQ hs8 ⊢
 clear hx
 go_loopw [7, 8] (fun lv kv wr => ∃ (k : Nat) (zs : List Int) (s : Except Nat (List Nat)), k ≤ n ∧ kv = .int .i64 (k : Int) ∧ Hid (zs.length = k) ∧ Hid (RsQ w x n t AQ M cQ wd s qs wr) ∧ Hid (GR (x + 1) 2 SignR wr lv zs) ∧
     Hid ((∃ c, s1 = .error c ∧ s = .error c) ∨ ∃ l0, s1 = .ok l0 ∧ ((∃ l', s = .ok l' ∧ manyP signP n l0 = aft zs (manyP signP (n - k) l')) ∨ ∃ c, s = .error c ∧ manyP signP n l0 = .error c))) (fun _ kv _ => n - (intOf kv).toNat)
 case atStart =>
  refine ⟨0, [], s1, by omega, rfl, Lib.hid rfl, HQ, Lib.hid (GR.nil _ _ _ _), Lib.hid ?_⟩
  rcases s1 with c | l0
  ·exact .inl ⟨c, rfl, rfl⟩
  ·exact .inr ⟨l0, rfl, .inl ⟨l0, rfl, by rw [aft_nil]; rfl⟩⟩
 case round =>
  obtain ⟨k, zs, s, hkn, rfl, hzl, hq, hgr, hrel2⟩ := hrel
  have x1 := hq.out.rr.err
  obtain ⟨b0, b1, b2, b3⟩ := hq.out.par.pc
  by_cases hk : k < n
  ·have i5 : decide ((k : Int) < (n : Int)) = true := by simp; omega
   rcases s with e | l1
   ·obtain ⟨E0, E1, E2, hE, hE0, hE1⟩ := hq.out.rr
    rw [show rErrS (.error e) = e from rfl] at x1
    have i6 : ((e : Int) == 0) = false := by simp; omega
    clear hE
    obtain ⟨A9, c9, rfl, hlv9⟩ := hgr.out.lv
    have HV9 := Lib.hid (show SgR wr (.slice A9 zs.length c9) zs from ⟨A9, c9, rfl, hlv9⟩)
    obtain ⟨g1, g2⟩ := ms_fin hrel2.out (.inr ⟨e, rfl⟩)
    have G2 := Lib.hid g2
    obtain ⟨K, hK⟩ : ∃ K, K = zs.length := ⟨_, rfl⟩
    rw [← hK] at HV9
    have HRT := Lib.hid (show RR wr (w.heap.size + 1) (restS T) by rw [HT0.out, HP1.out, HSP.out, g1]; exact hq.out.rr)
    obtain ⟨b0, b1, b2, b3⟩ := hq.out.par.pc
    have HKK := Lib.hid hK
    rw [← hK]
    clear hlv9 g1 g2 hK
    go_wp2_with fail
    refine (rEnd_any (w.heap.size + 1) (restS T) wr HRT).mono ?_
    rintro e4 w4 ⟨rfl, ho4⟩
    have q6 := hq.out.ans.on ho4 (by omega)
    obtain ⟨f0, f1, f2, f3⟩ := (hq.out.par.on ho4 (by have := hq.out.lt; omega)).pc
    have kY : Ext w w4 := hq.out.ext.on ho4 (by omega)
    have hkk : Keeps [2, 22] wr w4 := HRT.out.keeps ho4 (by decide)
    have HL2 := Lib.hid (hq.out.ly.keeps (wordR_stays [2, 22]) (by decide) hkk)
    have HV8 := Lib.hid (sgR_stays (ts := [2, 22]) (by decide) _ _ _ _ hkk HV9.out)
    have hxlt := hq.out.lt
    have hne1 : ¬ (w.heap.size = x) := by omega
    have hne2 : ¬ (x = w.heap.size) := by omega
    clear ho4 hkk
    rcases end_cases HRT.out with ⟨⟨pv, ys⟩, r, hT1, hT2, hT3⟩ | ⟨cc, hT2, hc0, hc1, hT3⟩
    ·obtain ⟨x0, he1, he3⟩ := HP2.out _ r (by rw [← HT0.out]; exact hT1)
     have he2 := G2.out x0 r (by rw [← HSP.out]; exact he1)
     rw [hT3]
     have H2 := Lib.hid hT2
     have HX1 := Lib.hid (show (pv, ys) = (⟨n, t, wd, qs⟩, zs) by rw [he3, he2])
     have HX2 := Lib.hid (show 0 < qs.length from by
      rcases hh1 : s1 with e | l1
      ·rw [hh1] at he1; cases he1
      ·exact HP0.out l1 hh1)
     clear hT1 hT2 hT3 he1 he2 he3
     have a0 : w4.cell? ⟨w.heap.size, 0, none⟩ = some (.int .i64 0) := q6.cell (i := 0) (by omega)
     have b0 := q6.frozen 0
     have a1 : w4.cell? ⟨w.heap.size, 1, none⟩ = some (.int .u64 0) := q6.cell (i := 1) (by omega)
     have b1 := q6.frozen 1
     have a2 : w4.cell? ⟨w.heap.size, 2, none⟩ = some (.slice none 0 0) := q6.cell (i := 2) (by omega)
     have b2 := q6.frozen 2
     have a3 : w4.cell? ⟨w.heap.size, 3, none⟩ = some (.int .i64 0) := q6.cell (i := 3) (by omega)
     have b3 := q6.frozen 3
     have Q6 := Lib.hid q6
     clear q6
     go_wp2_with fail
     have q6 := Q6.out
     have P6 : RW ((((w4.setCell ⟨w.heap.size, 0, none⟩ (.int .i64 (n : Int))).setCell ⟨w.heap.size, 1, none⟩ (.int .u64 (t : Int))).setCell ⟨w.heap.size, 2, none⟩ (.slice AQ M cQ)).setCell ⟨w.heap.size, 3, none⟩ (.int .i64 (wd : Int))) w.heap.size 25 4 (parF (.int .i64 (n : Int)) (.int .u64 (t : Int)) (.slice AQ M cQ) (.int .i64 (wd : Int))) := (q6.set4 (.int .i64 (n : Int)) (.int .u64 (t : Int)) (.slice AQ M cQ) (.int .i64 (wd : Int)))
     have e0 : ((((w4.setCell ⟨w.heap.size, 0, none⟩ (.int .i64 (n : Int))).setCell ⟨w.heap.size, 1, none⟩ (.int .u64 (t : Int))).setCell ⟨w.heap.size, 2, none⟩ (.slice AQ M cQ)).setCell ⟨w.heap.size, 3, none⟩ (.int .i64 (wd : Int))).cell? ⟨w.heap.size, 0, none⟩ = some (.int .i64 (n : Int)) := P6.cell (i := 0) (by omega)
     have e1 : ((((w4.setCell ⟨w.heap.size, 0, none⟩ (.int .i64 (n : Int))).setCell ⟨w.heap.size, 1, none⟩ (.int .u64 (t : Int))).setCell ⟨w.heap.size, 2, none⟩ (.slice AQ M cQ)).setCell ⟨w.heap.size, 3, none⟩ (.int .i64 (wd : Int))).cell? ⟨w.heap.size, 1, none⟩ = some (.int .u64 (t : Int)) := P6.cell (i := 1) (by omega)
     have e2 : ((((w4.setCell ⟨w.heap.size, 0, none⟩ (.int .i64 (n : Int))).setCell ⟨w.heap.size, 1, none⟩ (.int .u64 (t : Int))).setCell ⟨w.heap.size, 2, none⟩ (.slice AQ M cQ)).setCell ⟨w.heap.size, 3, none⟩ (.int .i64 (wd : Int))).cell? ⟨w.heap.size, 2, none⟩ = some (.slice AQ M cQ) := P6.cell (i := 2) (by omega)
     have e3 : ((((w4.setCell ⟨w.heap.size, 0, none⟩ (.int .i64 (n : Int))).setCell ⟨w.heap.size, 1, none⟩ (.int .u64 (t : Int))).setCell ⟨w.heap.size, 2, none⟩ (.slice AQ M cQ)).setCell ⟨w.heap.size, 3, none⟩ (.int .i64 (wd : Int))).cell? ⟨w.heap.size, 3, none⟩ = some (.int .i64 (wd : Int)) := P6.cell (i := 3) (by omega)
     have hkz : Keeps [2, 22] w4 ((((w4.setCell ⟨w.heap.size, 0, none⟩ (.int .i64 (n : Int))).setCell ⟨w.heap.size, 1, none⟩ (.int .u64 (t : Int))).setCell ⟨w.heap.size, 2, none⟩ (.slice AQ M cQ)).setCell ⟨w.heap.size, 3, none⟩ (.int .i64 (wd : Int))) := (((((Keeps.refl _ w4).trans (Keeps.set q6 (by decide) _)).trans (Keeps.set (q6.set (show 0 < 4 by omega) (.int .i64 (n : Int))) (by decide) _)).trans (Keeps.set ((q6.set (show 0 < 4 by omega) (.int .i64 (n : Int))).set (show 1 < 4 by omega) (.int .u64 (t : Int))) (by decide) _)).trans (Keeps.set (((q6.set (show 0 < 4 by omega) (.int .i64 (n : Int))).set (show 1 < 4 by omega) (.int .u64 (t : Int))).set (show 2 < 4 by omega) (.slice AQ M cQ)) (by decide) _))
     have HF := Lib.hid (show RPost (.slice none 0 0) w (endP T) SgR (.returned (.tuple #[.agg #[.int .i64 (n : Int), .int .u64 (t : Int), .slice AQ M cQ, .int .i64 (wd : Int)], .slice A9 K c9, .int .i64 0])) ((((w4.setCell ⟨w.heap.size, 0, none⟩ (.int .i64 (n : Int))).setCell ⟨w.heap.size, 1, none⟩ (.int .u64 (t : Int))).setCell ⟨w.heap.size, 2, none⟩ (.slice AQ M cQ)).setCell ⟨w.heap.size, 3, none⟩ (.int .i64 (wd : Int))) from
      .inl ⟨⟨n, t, wd, qs⟩, zs, _, AQ, cQ, by rw [H2.out, HX1.out], by rw [HM.out], sgR_stays (by decide) _ _ _ _ hkz HV8.out, (PVok.mk HL2.out (by simp only; omega) (by simp only; omega) (by simp only; omega) (by simp only; omega) HX2.out).keeps hkz (by decide), (ext_set (ext_set (ext_set (ext_set kY (Nat.le_refl _) (.int .i64 (n : Int))) (Nat.le_refl _) (.int .u64 (t : Int))) (Nat.le_refl _) (.slice AQ M cQ)) (Nat.le_refl _) (.int .i64 (wd : Int)))⟩)
     have HE6 := Lib.hid q6
     clear P6 hkz q6
     generalize (((w4.setCell ⟨w.heap.size, 0, none⟩ (.int .i64 (n : Int))).setCell ⟨w.heap.size, 1, none⟩ (.int .u64 (t : Int))).setCell ⟨w.heap.size, 2, none⟩ (.slice AQ M cQ)).setCell ⟨w.heap.size, 3, none⟩ (.int .i64 (wd : Int)) = Z9 at *
     exact bodyPost_ret (v := .tuple #[.agg #[.int .i64 (n : Int), .int .u64 (t : Int), .slice AQ M cQ, .int .i64 (wd : Int)], .slice A9 K c9, .int .i64 0]) (by simp [results, Tryz.results30, go_sem, e0, e1, e2, e3]) rfl HF.out
    ·rw [hT3]
     have i9 : ¬ (cc : Int) = 0 := by omega
     have H2 := Lib.hid hT2
     clear hT2 hT3
     have a0 : w4.cell? ⟨w.heap.size, 0, none⟩ = some (.int .i64 0) := q6.cell (i := 0) (by omega)
     have b0 := q6.frozen 0
     have a1 : w4.cell? ⟨w.heap.size, 1, none⟩ = some (.int .u64 0) := q6.cell (i := 1) (by omega)
     have b1 := q6.frozen 1
     have a2 : w4.cell? ⟨w.heap.size, 2, none⟩ = some (.slice none 0 0) := q6.cell (i := 2) (by omega)
     have b2 := q6.frozen 2
     have a3 : w4.cell? ⟨w.heap.size, 3, none⟩ = some (.int .i64 0) := q6.cell (i := 3) (by omega)
     have b3 := q6.frozen 3
     have Q6 := Lib.hid q6
     clear q6
     go_wp2_with fail
     have q6 := Q6.out
     have P6 : RW ((((w4.setCell ⟨w.heap.size, 0, none⟩ (.int .i64 0)).setCell ⟨w.heap.size, 1, none⟩ (.int .u64 0)).setCell ⟨w.heap.size, 2, none⟩ (.slice none 0 0)).setCell ⟨w.heap.size, 3, none⟩ (.int .i64 0)) w.heap.size 25 4 (parF (.int .i64 0) (.int .u64 0) (.slice none 0 0) (.int .i64 0)) := (q6.set4 (.int .i64 0) (.int .u64 0) (.slice none 0 0) (.int .i64 0))
     have e0 : ((((w4.setCell ⟨w.heap.size, 0, none⟩ (.int .i64 0)).setCell ⟨w.heap.size, 1, none⟩ (.int .u64 0)).setCell ⟨w.heap.size, 2, none⟩ (.slice none 0 0)).setCell ⟨w.heap.size, 3, none⟩ (.int .i64 0)).cell? ⟨w.heap.size, 0, none⟩ = some (.int .i64 0) := P6.cell (i := 0) (by omega)
     have e1 : ((((w4.setCell ⟨w.heap.size, 0, none⟩ (.int .i64 0)).setCell ⟨w.heap.size, 1, none⟩ (.int .u64 0)).setCell ⟨w.heap.size, 2, none⟩ (.slice none 0 0)).setCell ⟨w.heap.size, 3, none⟩ (.int .i64 0)).cell? ⟨w.heap.size, 1, none⟩ = some (.int .u64 0) := P6.cell (i := 1) (by omega)
     have e2 : ((((w4.setCell ⟨w.heap.size, 0, none⟩ (.int .i64 0)).setCell ⟨w.heap.size, 1, none⟩ (.int .u64 0)).setCell ⟨w.heap.size, 2, none⟩ (.slice none 0 0)).setCell ⟨w.heap.size, 3, none⟩ (.int .i64 0)).cell? ⟨w.heap.size, 2, none⟩ = some (.slice none 0 0) := P6.cell (i := 2) (by omega)
     have e3 : ((((w4.setCell ⟨w.heap.size, 0, none⟩ (.int .i64 0)).setCell ⟨w.heap.size, 1, none⟩ (.int .u64 0)).setCell ⟨w.heap.size, 2, none⟩ (.slice none 0 0)).setCell ⟨w.heap.size, 3, none⟩ (.int .i64 0)).cell? ⟨w.heap.size, 3, none⟩ = some (.int .i64 0) := P6.cell (i := 3) (by omega)
     have hkz : Keeps [2, 22] w4 ((((w4.setCell ⟨w.heap.size, 0, none⟩ (.int .i64 0)).setCell ⟨w.heap.size, 1, none⟩ (.int .u64 0)).setCell ⟨w.heap.size, 2, none⟩ (.slice none 0 0)).setCell ⟨w.heap.size, 3, none⟩ (.int .i64 0)) := (((((Keeps.refl _ w4).trans (Keeps.set q6 (by decide) _)).trans (Keeps.set (q6.set (show 0 < 4 by omega) (.int .i64 0)) (by decide) _)).trans (Keeps.set ((q6.set (show 0 < 4 by omega) (.int .i64 0)).set (show 1 < 4 by omega) (.int .u64 0)) (by decide) _)).trans (Keeps.set (((q6.set (show 0 < 4 by omega) (.int .i64 0)).set (show 1 < 4 by omega) (.int .u64 0)).set (show 2 < 4 by omega) (.slice none 0 0)) (by decide) _))
     have HF := Lib.hid (show RPost (.slice none 0 0) w (endP T) SgR (.returned (.tuple #[.agg #[.int .i64 0, .int .u64 0, .slice none 0 0, .int .i64 0], .slice none 0 0, .int .i64 (cc : Int)])) ((((w4.setCell ⟨w.heap.size, 0, none⟩ (.int .i64 0)).setCell ⟨w.heap.size, 1, none⟩ (.int .u64 0)).setCell ⟨w.heap.size, 2, none⟩ (.slice none 0 0)).setCell ⟨w.heap.size, 3, none⟩ (.int .i64 0)) from
      .inr ⟨cc, H2.out, hc0, hc1, rfl, (ext_set (ext_set (ext_set (ext_set kY (Nat.le_refl _) (.int .i64 0)) (Nat.le_refl _) (.int .u64 0)) (Nat.le_refl _) (.slice none 0 0)) (Nat.le_refl _) (.int .i64 0))⟩)
     have HE6 := Lib.hid q6
     clear P6 hkz q6
     generalize (((w4.setCell ⟨w.heap.size, 0, none⟩ (.int .i64 0)).setCell ⟨w.heap.size, 1, none⟩ (.int .u64 0)).setCell ⟨w.heap.size, 2, none⟩ (.slice none 0 0)).setCell ⟨w.heap.size, 3, none⟩ (.int .i64 0) = Z9 at *
     exact bodyPost_ret (v := .tuple #[.agg #[.int .i64 0, .int .u64 0, .slice none 0 0, .int .i64 0], .slice none 0 0, .int .i64 (cc : Int)]) (by simp [results, Tryz.results30, go_sem, e0, e1, e2, e3]) rfl HF.out
   ·rw [show rErrS (.ok l1) = 0 from rfl] at x1
    have hsv := hq.out.par.lt
    go_wp2_with fail
    refine (rNum_any 1 (w.heap.size + 1) (.ok l1) wr (Lib.hid hq.out.rr) (by omega) (by omega)).mono ?_
    rintro e5 w5 ⟨y, hy1, hy2, rfl, hly, hr5, ho5⟩
    obtain ⟨b, hb⟩ : ∃ b : Bool, b = decide (2 < y) := ⟨_, rfl⟩
    obtain ⟨hbp, hbv⟩ := sign_pure l1 y b hb hy1
    have hdec : decide ((2 : Int) < (y : Int)) = b := by rw [hb]; simp; omega
    have hdec2 : decide (2 < y) = b := hb.symm
    have HBP := Lib.hid hbp
    have HBV := Lib.hid hbv
    have H5 := Lib.hid hr5
    have HO5 := Lib.hid ho5
    clear hb hbp hbv hy1 hy2 hr5 ho5
    go_wp2_with fail
    refine (rFail_any (w.heap.size + 1) 3 b _ w5 H5 (by omega) (by omega)).mono ?_
    rintro e6 w6 ⟨rfl, hr6, ho6⟩
    rw [← HBP.out] at hr6
    have HQ6 := Lib.hid (hq.out.call hr6 (HO5.out.trans ho6))
    have hsz6 := (HO5.out.trans ho6).size
    obtain ⟨us, hou, huu⟩ := hgr.out
    rw [hzl.out] at hou
    have HOU := Lib.hid (own_keeps (hq.out.rr.keeps (ts := [2]) (HO5.out.trans ho6) (by decide)) hou (by decide))
    have HUU := Lib.hid huu
    clear hr6 ho6 hou huu hdec hdec2
    by_cases g2 : y = 2
    ·have HSZ := Lib.hid (show signZ y = -1 by unfold signZ; rw [if_pos g2])
     have g3 : ((y : Int) == 2) = true := by simp; omega
     have g4 : (y : Int) = 2 := by omega
     have HG2 := Lib.hid g2
     clear g2
     go_wp2_with (at_builtin; go_loud (refine wpList_append_own _ rfl _ _ 34 rfl (x + 1) 2 i0 (.int .i64 0) 1 8 Tryz.underlying34 hi hz0 hz1 hz2 rfl (by decide) _ _ _ rfl (HOU.out.alloc _) ⟨_, 0, none⟩ 1 1 [.int .i64 (-1)] rfl rfl one_cell one_int (by unfold maxLen; omega) (by omega) (by simp; omega) ?_; intro v7 w7 hown7 hgrow7 _))
     have HQ7 := Lib.hid ((HQ6.out.more ((Ext.refl w6).alloc (.cells #[.int .i64 (-1)] 2))).grown (HOU.out.alloc _) hgrow7)
     have HG7 := Lib.hid (GR.push (w := w6) (t := 2) (B := x + 1) (ts := []) (signR_stays _) (by decide) (show ∀ (j : Nat) (x : Int), zs[j]? = some x → ∃ u, us[j]? = some u ∧ SignR w6 u x from HUU.out) (by rw [hzl.out]; exact HOU.out) (show SignR w6 (.int .i64 (-1)) (signZ y) from ⟨by rw [HSZ.out], by rw [HSZ.out]; omega, by rw [HSZ.out]; omega⟩) (by rw [hzl.out]; exact hown7) hgrow7)
     have HR7 := Lib.hid (ms_step hrel2.out hk rfl HBV.out)
     exact ⟨⟨k + 1, zs ++ [signZ y], _, by omega, by go_num, Lib.hid (by rw [List.length_append, hzl.out]; rfl), HQ7, HG7, HR7⟩, by simp [intOf]; omega⟩
    ·have HSZ := Lib.hid (show signZ y = (y : Int) by unfold signZ; rw [if_neg g2])
     have g3 : ((y : Int) == 2) = false := by simp; omega
     have hwy : IntKind.i64.wrap (y : Int) = (y : Int) := by rw [IntKind.wrap_i64]; omega
     go_wp2_with (at_builtin; go_loud (refine wpList_append_own _ rfl _ _ 34 rfl (x + 1) 2 i0 (.int .i64 0) 1 8 Tryz.underlying34 hi hz0 hz1 hz2 rfl (by decide) _ _ _ rfl (HOU.out.alloc _) ⟨_, 0, none⟩ 1 1 [.int .i64 (y : Int)] rfl rfl one_cell one_int (by unfold maxLen; omega) (by omega) (by simp; omega) ?_; intro v7 w7 hown7 hgrow7 _))
     have HQ7 := Lib.hid ((HQ6.out.more ((Ext.refl w6).alloc (.cells #[.int .i64 (y : Int)] 2))).grown (HOU.out.alloc _) hgrow7)
     have HG7 := Lib.hid (GR.push (w := w6) (t := 2) (B := x + 1) (ts := []) (signR_stays _) (by decide) (show ∀ (j : Nat) (x : Int), zs[j]? = some x → ∃ u, us[j]? = some u ∧ SignR w6 u x from HUU.out) (by rw [hzl.out]; exact HOU.out) (show SignR w6 (.int .i64 (y : Int)) (signZ y) from ⟨by rw [HSZ.out], by rw [HSZ.out]; omega, by rw [HSZ.out]; omega⟩) (by rw [hzl.out]; exact hown7) hgrow7)
     have HR7 := Lib.hid (ms_step hrel2.out hk rfl HBV.out)
     exact ⟨⟨k + 1, zs ++ [signZ y], _, by omega, by go_num, Lib.hid (by rw [List.length_append, hzl.out]; rfl), HQ7, HG7, HR7⟩, by simp [intOf]; omega⟩
  ·have i5 : decide ((k : Int) < (n : Int)) = false := by simp; omega
   obtain ⟨A9, c9, rfl, hlv9⟩ := hgr.out.lv
   have HV9 := Lib.hid (show SgR wr (.slice A9 zs.length c9) zs from ⟨A9, c9, rfl, hlv9⟩)
   obtain ⟨g1, g2⟩ := ms_fin hrel2.out (.inl (by omega))
   have G2 := Lib.hid g2
   obtain ⟨K, hK⟩ : ∃ K, K = zs.length := ⟨_, rfl⟩
   rw [← hK] at HV9
   have HRT := Lib.hid (show RR wr (w.heap.size + 1) (restS T) by rw [HT0.out, HP1.out, HSP.out, g1]; exact hq.out.rr)
   obtain ⟨b0, b1, b2, b3⟩ := hq.out.par.pc
   have HKK := Lib.hid hK
   rw [← hK]
   clear hlv9 g1 g2 hK
   go_wp2_with fail
   refine (rEnd_any (w.heap.size + 1) (restS T) wr HRT).mono ?_
   rintro e4 w4 ⟨rfl, ho4⟩
   have q6 := hq.out.ans.on ho4 (by omega)
   obtain ⟨f0, f1, f2, f3⟩ := (hq.out.par.on ho4 (by have := hq.out.lt; omega)).pc
   have kY : Ext w w4 := hq.out.ext.on ho4 (by omega)
   have hkk : Keeps [2, 22] wr w4 := HRT.out.keeps ho4 (by decide)
   have HL2 := Lib.hid (hq.out.ly.keeps (wordR_stays [2, 22]) (by decide) hkk)
   have HV8 := Lib.hid (sgR_stays (ts := [2, 22]) (by decide) _ _ _ _ hkk HV9.out)
   have hxlt := hq.out.lt
   have hne1 : ¬ (w.heap.size = x) := by omega
   have hne2 : ¬ (x = w.heap.size) := by omega
   clear ho4 hkk
   rcases end_cases HRT.out with ⟨⟨pv, ys⟩, r, hT1, hT2, hT3⟩ | ⟨cc, hT2, hc0, hc1, hT3⟩
   ·obtain ⟨x0, he1, he3⟩ := HP2.out _ r (by rw [← HT0.out]; exact hT1)
    have he2 := G2.out x0 r (by rw [← HSP.out]; exact he1)
    rw [hT3]
    have H2 := Lib.hid hT2
    have HX1 := Lib.hid (show (pv, ys) = (⟨n, t, wd, qs⟩, zs) by rw [he3, he2])
    have HX2 := Lib.hid (show 0 < qs.length from by
     rcases hh1 : s1 with e | l1
     ·rw [hh1] at he1; cases he1
     ·exact HP0.out l1 hh1)
    clear hT1 hT2 hT3 he1 he2 he3
    have a0 : w4.cell? ⟨w.heap.size, 0, none⟩ = some (.int .i64 0) := q6.cell (i := 0) (by omega)
    have b0 := q6.frozen 0
    have a1 : w4.cell? ⟨w.heap.size, 1, none⟩ = some (.int .u64 0) := q6.cell (i := 1) (by omega)
    have b1 := q6.frozen 1
    have a2 : w4.cell? ⟨w.heap.size, 2, none⟩ = some (.slice none 0 0) := q6.cell (i := 2) (by omega)
    have b2 := q6.frozen 2
    have a3 : w4.cell? ⟨w.heap.size, 3, none⟩ = some (.int .i64 0) := q6.cell (i := 3) (by omega)
    have b3 := q6.frozen 3
    have Q6 := Lib.hid q6
    clear q6
    go_wp2_with fail
    have q6 := Q6.out
    have P6 : RW ((((w4.setCell ⟨w.heap.size, 0, none⟩ (.int .i64 (n : Int))).setCell ⟨w.heap.size, 1, none⟩ (.int .u64 (t : Int))).setCell ⟨w.heap.size, 2, none⟩ (.slice AQ M cQ)).setCell ⟨w.heap.size, 3, none⟩ (.int .i64 (wd : Int))) w.heap.size 25 4 (parF (.int .i64 (n : Int)) (.int .u64 (t : Int)) (.slice AQ M cQ) (.int .i64 (wd : Int))) := (q6.set4 (.int .i64 (n : Int)) (.int .u64 (t : Int)) (.slice AQ M cQ) (.int .i64 (wd : Int)))
    have e0 : ((((w4.setCell ⟨w.heap.size, 0, none⟩ (.int .i64 (n : Int))).setCell ⟨w.heap.size, 1, none⟩ (.int .u64 (t : Int))).setCell ⟨w.heap.size, 2, none⟩ (.slice AQ M cQ)).setCell ⟨w.heap.size, 3, none⟩ (.int .i64 (wd : Int))).cell? ⟨w.heap.size, 0, none⟩ = some (.int .i64 (n : Int)) := P6.cell (i := 0) (by omega)
    have e1 : ((((w4.setCell ⟨w.heap.size, 0, none⟩ (.int .i64 (n : Int))).setCell ⟨w.heap.size, 1, none⟩ (.int .u64 (t : Int))).setCell ⟨w.heap.size, 2, none⟩ (.slice AQ M cQ)).setCell ⟨w.heap.size, 3, none⟩ (.int .i64 (wd : Int))).cell? ⟨w.heap.size, 1, none⟩ = some (.int .u64 (t : Int)) := P6.cell (i := 1) (by omega)
    have e2 : ((((w4.setCell ⟨w.heap.size, 0, none⟩ (.int .i64 (n : Int))).setCell ⟨w.heap.size, 1, none⟩ (.int .u64 (t : Int))).setCell ⟨w.heap.size, 2, none⟩ (.slice AQ M cQ)).setCell ⟨w.heap.size, 3, none⟩ (.int .i64 (wd : Int))).cell? ⟨w.heap.size, 2, none⟩ = some (.slice AQ M cQ) := P6.cell (i := 2) (by omega)
    have e3 : ((((w4.setCell ⟨w.heap.size, 0, none⟩ (.int .i64 (n : Int))).setCell ⟨w.heap.size, 1, none⟩ (.int .u64 (t : Int))).setCell ⟨w.heap.size, 2, none⟩ (.slice AQ M cQ)).setCell ⟨w.heap.size, 3, none⟩ (.int .i64 (wd : Int))).cell? ⟨w.heap.size, 3, none⟩ = some (.int .i64 (wd : Int)) := P6.cell (i := 3) (by omega)
    have hkz : Keeps [2, 22] w4 ((((w4.setCell ⟨w.heap.size, 0, none⟩ (.int .i64 (n : Int))).setCell ⟨w.heap.size, 1, none⟩ (.int .u64 (t : Int))).setCell ⟨w.heap.size, 2, none⟩ (.slice AQ M cQ)).setCell ⟨w.heap.size, 3, none⟩ (.int .i64 (wd : Int))) := (((((Keeps.refl _ w4).trans (Keeps.set q6 (by decide) _)).trans (Keeps.set (q6.set (show 0 < 4 by omega) (.int .i64 (n : Int))) (by decide) _)).trans (Keeps.set ((q6.set (show 0 < 4 by omega) (.int .i64 (n : Int))).set (show 1 < 4 by omega) (.int .u64 (t : Int))) (by decide) _)).trans (Keeps.set (((q6.set (show 0 < 4 by omega) (.int .i64 (n : Int))).set (show 1 < 4 by omega) (.int .u64 (t : Int))).set (show 2 < 4 by omega) (.slice AQ M cQ)) (by decide) _))
    have HF := Lib.hid (show RPost (.slice none 0 0) w (endP T) SgR (.returned (.tuple #[.agg #[.int .i64 (n : Int), .int .u64 (t : Int), .slice AQ M cQ, .int .i64 (wd : Int)], .slice A9 K c9, .int .i64 0])) ((((w4.setCell ⟨w.heap.size, 0, none⟩ (.int .i64 (n : Int))).setCell ⟨w.heap.size, 1, none⟩ (.int .u64 (t : Int))).setCell ⟨w.heap.size, 2, none⟩ (.slice AQ M cQ)).setCell ⟨w.heap.size, 3, none⟩ (.int .i64 (wd : Int))) from
     .inl ⟨⟨n, t, wd, qs⟩, zs, _, AQ, cQ, by rw [H2.out, HX1.out], by rw [HM.out], sgR_stays (by decide) _ _ _ _ hkz HV8.out, (PVok.mk HL2.out (by simp only; omega) (by simp only; omega) (by simp only; omega) (by simp only; omega) HX2.out).keeps hkz (by decide), (ext_set (ext_set (ext_set (ext_set kY (Nat.le_refl _) (.int .i64 (n : Int))) (Nat.le_refl _) (.int .u64 (t : Int))) (Nat.le_refl _) (.slice AQ M cQ)) (Nat.le_refl _) (.int .i64 (wd : Int)))⟩)
    have HE6 := Lib.hid q6
    clear P6 hkz q6
    generalize (((w4.setCell ⟨w.heap.size, 0, none⟩ (.int .i64 (n : Int))).setCell ⟨w.heap.size, 1, none⟩ (.int .u64 (t : Int))).setCell ⟨w.heap.size, 2, none⟩ (.slice AQ M cQ)).setCell ⟨w.heap.size, 3, none⟩ (.int .i64 (wd : Int)) = Z9 at *
    exact bodyPost_ret (v := .tuple #[.agg #[.int .i64 (n : Int), .int .u64 (t : Int), .slice AQ M cQ, .int .i64 (wd : Int)], .slice A9 K c9, .int .i64 0]) (by simp [results, Tryz.results30, go_sem, e0, e1, e2, e3]) rfl HF.out
   ·rw [hT3]
    have i9 : ¬ (cc : Int) = 0 := by omega
    have H2 := Lib.hid hT2
    clear hT2 hT3
    have a0 : w4.cell? ⟨w.heap.size, 0, none⟩ = some (.int .i64 0) := q6.cell (i := 0) (by omega)
    have b0 := q6.frozen 0
    have a1 : w4.cell? ⟨w.heap.size, 1, none⟩ = some (.int .u64 0) := q6.cell (i := 1) (by omega)
    have b1 := q6.frozen 1
    have a2 : w4.cell? ⟨w.heap.size, 2, none⟩ = some (.slice none 0 0) := q6.cell (i := 2) (by omega)
    have b2 := q6.frozen 2
    have a3 : w4.cell? ⟨w.heap.size, 3, none⟩ = some (.int .i64 0) := q6.cell (i := 3) (by omega)
    have b3 := q6.frozen 3
    have Q6 := Lib.hid q6
    clear q6
    go_wp2_with fail
    have q6 := Q6.out
    have P6 : RW ((((w4.setCell ⟨w.heap.size, 0, none⟩ (.int .i64 0)).setCell ⟨w.heap.size, 1, none⟩ (.int .u64 0)).setCell ⟨w.heap.size, 2, none⟩ (.slice none 0 0)).setCell ⟨w.heap.size, 3, none⟩ (.int .i64 0)) w.heap.size 25 4 (parF (.int .i64 0) (.int .u64 0) (.slice none 0 0) (.int .i64 0)) := (q6.set4 (.int .i64 0) (.int .u64 0) (.slice none 0 0) (.int .i64 0))
    have e0 : ((((w4.setCell ⟨w.heap.size, 0, none⟩ (.int .i64 0)).setCell ⟨w.heap.size, 1, none⟩ (.int .u64 0)).setCell ⟨w.heap.size, 2, none⟩ (.slice none 0 0)).setCell ⟨w.heap.size, 3, none⟩ (.int .i64 0)).cell? ⟨w.heap.size, 0, none⟩ = some (.int .i64 0) := P6.cell (i := 0) (by omega)
    have e1 : ((((w4.setCell ⟨w.heap.size, 0, none⟩ (.int .i64 0)).setCell ⟨w.heap.size, 1, none⟩ (.int .u64 0)).setCell ⟨w.heap.size, 2, none⟩ (.slice none 0 0)).setCell ⟨w.heap.size, 3, none⟩ (.int .i64 0)).cell? ⟨w.heap.size, 1, none⟩ = some (.int .u64 0) := P6.cell (i := 1) (by omega)
    have e2 : ((((w4.setCell ⟨w.heap.size, 0, none⟩ (.int .i64 0)).setCell ⟨w.heap.size, 1, none⟩ (.int .u64 0)).setCell ⟨w.heap.size, 2, none⟩ (.slice none 0 0)).setCell ⟨w.heap.size, 3, none⟩ (.int .i64 0)).cell? ⟨w.heap.size, 2, none⟩ = some (.slice none 0 0) := P6.cell (i := 2) (by omega)
    have e3 : ((((w4.setCell ⟨w.heap.size, 0, none⟩ (.int .i64 0)).setCell ⟨w.heap.size, 1, none⟩ (.int .u64 0)).setCell ⟨w.heap.size, 2, none⟩ (.slice none 0 0)).setCell ⟨w.heap.size, 3, none⟩ (.int .i64 0)).cell? ⟨w.heap.size, 3, none⟩ = some (.int .i64 0) := P6.cell (i := 3) (by omega)
    have hkz : Keeps [2, 22] w4 ((((w4.setCell ⟨w.heap.size, 0, none⟩ (.int .i64 0)).setCell ⟨w.heap.size, 1, none⟩ (.int .u64 0)).setCell ⟨w.heap.size, 2, none⟩ (.slice none 0 0)).setCell ⟨w.heap.size, 3, none⟩ (.int .i64 0)) := (((((Keeps.refl _ w4).trans (Keeps.set q6 (by decide) _)).trans (Keeps.set (q6.set (show 0 < 4 by omega) (.int .i64 0)) (by decide) _)).trans (Keeps.set ((q6.set (show 0 < 4 by omega) (.int .i64 0)).set (show 1 < 4 by omega) (.int .u64 0)) (by decide) _)).trans (Keeps.set (((q6.set (show 0 < 4 by omega) (.int .i64 0)).set (show 1 < 4 by omega) (.int .u64 0)).set (show 2 < 4 by omega) (.slice none 0 0)) (by decide) _))
    have HF := Lib.hid (show RPost (.slice none 0 0) w (endP T) SgR (.returned (.tuple #[.agg #[.int .i64 0, .int .u64 0, .slice none 0 0, .int .i64 0], .slice none 0 0, .int .i64 (cc : Int)])) ((((w4.setCell ⟨w.heap.size, 0, none⟩ (.int .i64 0)).setCell ⟨w.heap.size, 1, none⟩ (.int .u64 0)).setCell ⟨w.heap.size, 2, none⟩ (.slice none 0 0)).setCell ⟨w.heap.size, 3, none⟩ (.int .i64 0)) from
     .inr ⟨cc, H2.out, hc0, hc1, rfl, (ext_set (ext_set (ext_set (ext_set kY (Nat.le_refl _) (.int .i64 0)) (Nat.le_refl _) (.int .u64 0)) (Nat.le_refl _) (.slice none 0 0)) (Nat.le_refl _) (.int .i64 0))⟩)
    have HE6 := Lib.hid q6
    clear P6 hkz q6
    generalize (((w4.setCell ⟨w.heap.size, 0, none⟩ (.int .i64 0)).setCell ⟨w.heap.size, 1, none⟩ (.int .u64 0)).setCell ⟨w.heap.size, 2, none⟩ (.slice none 0 0)).setCell ⟨w.heap.size, 3, none⟩ (.int .i64 0) = Z9 at *
    exact bodyPost_ret (v := .tuple #[.agg #[.int .i64 0, .int .u64 0, .slice none 0 0, .int .i64 0], .slice none 0 0, .int .i64 (cc : Int)]) (by simp [results, Tryz.results30, go_sem, e0, e1, e2, e3]) rfl HF.out
end Go.Proofs.YtkbcobjhlpjieaaGreatDoor
