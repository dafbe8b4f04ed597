import Derived.Test.YtopbibfpjgjalaaGreatDoorZCSta
namespace Go.Proofs.YtopbibfpjgjalaaGreatDoor
open Go.RowKit
set_option linter.unusedVariables false
set_option linter.unusedSimpArgs false
set_option maxRecDepth 100000
set_option maxHeartbeats 16000000 in
theorem zgq {a b y : Nat} {A B : Option Addr} {ns cs m d : Nat} {x0' x : Nat → Nat} (w : World) (ha : a < 256) (hb' : b < 256) (hS : FX w A ns cs x0') (hsl : ns ≤ maxLen) (hsw : Hid (∀ i, i < ns → x0' i < 18446744073709551616)) (hX : FX w B m d x) (hml : m ≤ maxLen) (hxw : Hid (∀ i, i < m → x i < 18446744073709551616)) (hy : y < 18446744073709551616) (hT : Tabs w) :
    Calls Tryz.prog 5 #[.int .u8 (a : Int), .int .u8 (b : Int), .slice A ns cs, .slice B m d, .int .u64 (y : Int)] w fun ee w' => ee = .returned (.bool true) ∧ Ext w w' := by
 have HT := Lib.hid hT
 have HSX := Lib.hid (hS.nxC hsw.out)
 have HX := Lib.hid hX
 unfold maxLen at hsl hml
 clear hT hS hX hsw
 go_enter Tryz.func5, Tryz.ntmps5
 go_wp2_with fail
 refine (zk8 w HT.out).mono ?_
 rintro ee V1 ⟨rfl, k1⟩
 have K := Lib.hid k1
 clear k1
 go_wp2_with fail
 refine (zol a b V1 ha hb' (HT.out.ext K.out)).mono ?_
 rintro ee V2 ⟨n, T, L, wd, q, A0, cq, HN0, rfl, hpa, k2⟩
 have hpr := zvl V2 (n : Int) T A0 L cq (wd : Int)
 have k3 : Ext V2 (V2.alloc (.cells #[.int .i64 (n : Int), .int .u64 (T : Int), .slice A0 L cq, .int .i64 (wd : Int)] 28)) := (Ext.refl V2).alloc _
 have HPA := Lib.hid (hpa.out.ext k3)
 have K := Lib.hid (K.out.trans (k2.trans k3))
 clear hpa k2 k3
 by_cases hn8 : ns ≤ 8
 case neg =>
  have b0 : (ns : Int) > 8 := by omega
  have K2 := K.out
  clear hpr
  go_wp2
  go_ret
  exact ⟨rfl, K.out⟩
 have b0 : ¬ (ns : Int) > 8 := by omega
 by_cases hm100 : m ≤ 100
 case neg =>
  have b1 : (m : Int) > 100 := by omega
  clear hpr
  go_wp2
  go_ret
  exact ⟨rfl, K.out⟩
 have b1 : ¬ (m : Int) > 100 := by omega
 have hn0 := HN0.out.n0
 have hn1 := HN0.out.n1
 have hl0 := HN0.out.l0
 have hl1 := HN0.out.l1
 have ht0 := HN0.out.t0
 have ht1 := HN0.out.t1
 have e300 : wrap64 (300 * (n : Int)) = ((300 * n : Nat) : Int) := by unfold wrap64; omega
 have e300b : IntKind.i64.wrap (300 * (n : Int)) = ((300 * n : Nat) : Int) := by rw [IntKind.wrap_i64]; omega
 have hPl := hpr.lt
 have x0 := hpr.cell (i := 0) (by omega)
 rw [show parV (n : Int) T A0 L cq (wd : Int) 0 = .int .i64 (n : Int) from rfl] at x0
 go_wp2_with fail
 generalize V2.alloc (.cells #[.int .i64 (n : Int), .int .u64 (T : Int), .slice A0 L cq, .int .i64 (wd : Int)] 28) = V3 at *
 obtain ⟨Pb, hPb⟩ : ∃ D, D = V2.heap.size := ⟨_, rfl⟩
 rw [← hPb] at hpr x0 hPl
 try simp only [← hPb]
 clear hPb b0 b1
 try rw [e300]
 try rw [e300b]
 refine (ziw A ns cs (300 * n) _ V3 (HSX.out.ext K.out) (by omega) (by omega)).mono ?_
 rintro ee V4 ⟨A2, c2, zs, rfl, hz, hev, k4⟩
 clear e300 e300b x0
 go_wp2_with fail
 refine (zl3 A2 (300 * n) c2 zs V4 (Lib.hid hz) (by omega)).mono ?_
 rintro ee V5 ⟨p1, rfl, hp1, htp, k5⟩
 have hzl := hz.len
 have hp1w : w.heap.size ≤ p1 := by have h1 := K.out.size; have h2 := k4.size; omega
 have E35 := k4.trans k5.out
 have hV4 := k4.size
 have h0 := hpr.ext E35
 have x0 := h0.cell (i := 0) (by omega)
 have x1 := h0.cell (i := 1) (by omega)
 have x2 := h0.cell (i := 2) (by omega)
 have x3 := h0.cell (i := 3) (by omega)
 rw [show parV (n : Int) T A0 L cq (wd : Int) 0 = .int .i64 (n : Int) from rfl] at x0
 rw [show parV (n : Int) T A0 L cq (wd : Int) 1 = .int .u64 (T : Int) from rfl] at x1
 rw [show parV (n : Int) T A0 L cq (wd : Int) 2 = .slice A0 L cq from rfl] at x2
 rw [show parV (n : Int) T A0 L cq (wd : Int) 3 = .int .i64 (wd : Int) from rfl] at x3
 have HPR := Lib.hid hpr
 have E35 := Lib.hid E35
 clear hpr h0 k4 k5 hz
 go_wp2_with fail
 refine (zgo p1 zs V5 (Lib.hid (HPA.out.ext E35.out)) (by omega) (by omega) (by omega) (HT.out.ext (K.out.trans E35.out)) (Lib.hid HN0.out.ok) htp (by omega)).mono ?_
 rintro ee V6 ⟨V5', kv, hd⟩
 have hcz : 150 * n ≤ cntW zs := by
  have := zfr zs.length zs (Nat.le_refl _) hev.out
  omega
 obtain ⟨acc, r, hts, hcr⟩ := zfx (l := zs) n (by omega)
 have htl := zdb hts
 have hrl : r.length + n ≤ zs.length := htl.1
 rcases hd with ⟨acc', r', SA, hts', rfl, hlx, htp6, hon6⟩ | ⟨hno, _⟩
 case inr => rw [hts] at hno; cases hno
 rw [hts] at hts'
 injection hts' with hts'
 injection hts' with e1 e2
 subst e1 e2
 have HTA := Lib.hid (zek hts)
 have E36 : Ext V3 V6 := (E35.out.trans kv).on hon6 (by omega)
 have hvx := hlx.vxT
 have hTn : Tern n (fun i => acc.getD i 0) := fun i hi => by
  have hl := htl.2.1
  refine HTA.out _ ?_
  show acc.getD i 0 ∈ acc
  rw [List.getD_eq_getElem?_getD, List.getElem?_eq_getElem (show i < acc.length by omega), Option.getD_some]
  exact List.getElem_mem _
 generalize (fun i => acc.getD i 0) = v at hvx hTn
 have HTN := Lib.hid hTn
 have HPR := Lib.hid (HPR.out.ext E36)
 have HPA := Lib.hid (HPA.out.ext E36)
 have K := Lib.hid (K.out.trans E36)
 have HVX := Lib.hid hvx
 have HTP6 := Lib.hid htp6
 have x0 := HPR.out.cell (i := 0) (by omega)
 have x1 := HPR.out.cell (i := 1) (by omega)
 have x2 := HPR.out.cell (i := 2) (by omega)
 have x3 := HPR.out.cell (i := 3) (by omega)
 rw [show parV (n : Int) T A0 L cq (wd : Int) 0 = .int .i64 (n : Int) from rfl] at x0
 rw [show parV (n : Int) T A0 L cq (wd : Int) 1 = .int .u64 (T : Int) from rfl] at x1
 rw [show parV (n : Int) T A0 L cq (wd : Int) 2 = .slice A0 L cq from rfl] at x2
 rw [show parV (n : Int) T A0 L cq (wd : Int) 3 = .int .i64 (wd : Int) from rfl] at x3
 clear hts hlx htp hon6 kv E36 hvx hTn hev htp6 HTA E35
 go_wp2_with fail
 have hnL : n * L ≤ n * 5 := Nat.mul_le_mul_left _ hl1
 obtain ⟨acc2, r1, hu, hcr2⟩ := zj3 (n := n) (q := q) (l := r) L (fun j hj => ⟨by have := HN0.out.q2 j hj; omega, by have := HN0.out.q3 j hj; omega⟩) (by omega)
 obtain ⟨es, r2, he, hcr3⟩ := zea (w := wd) (l := r1) n (by omega)
 have hr2l : r2.length ≤ 100000 := by
  have h1 := (zb9 (fun j hj => by have := HN0.out.q2 j hj; omega) hu).1
  have h2 := (zc6 he).1
  omega
 refine (zn5 p1 n r SA v V6 (Lib.hid HPA.out) hn1 (by omega) HVX.out (Lib.hid fun i hi => by have := HTN.out i hi; omega) (HT.out.ext K.out) (Lib.hid HN0.out.ok) HTN (Lib.hid HTP6.out) (by omega) (Lib.hid HN0.out.sq)).mono ?_
 rintro ee V7 ⟨e7, BB, AA, m7, S, rfl, hid, hSf, hon7⟩
 rcases hid with ⟨he7, hm7, acc2', r1', es', r2', GB, GA, Bs, As, cb, ca, FB, hu', he', rfl, rfl, hpB, hpA, hok, htp7⟩ | ⟨_, _, _, _, hno, _⟩
 case inr =>
  rcases hno with h | ⟨a', b', h1, h2⟩
  ·rw [hu] at h; cases h
  ·rw [hu] at h1
   injection h1 with h1
   injection h1 with e1 e2
   subst e1 e2
   rw [he] at h2
   cases h2
 subst he7
 obtain rfl : L = m7 := hm7.symm
 rw [hu] at hu'
 injection hu' with hu'
 injection hu' with e1 e2
 subst e1 e2
 rw [he] at he'
 injection he' with he'
 injection he' with e1 e2
 subst e1 e2
 have k8 : Ext V7 (V7.alloc (.cells #[.slice (some ⟨GB, 0, none⟩) L L, .slice (some ⟨GA, 0, none⟩) L L] 58)) := (Ext.refl V7).alloc _
 have HST := Lib.hid (show Sta (V7.alloc (.cells #[.slice (some ⟨GB, 0, none⟩) L L, .slice (some ⟨GA, 0, none⟩) L L] 58)) Pb V7.heap.size n T L cq wd GB GA n A0 SA q Bs As cb ca FB (accF acc2) v from ⟨((HT.out.ext K.out).onT HTP6.out hon7).ext k8, (HPR.out.onT HTP6.out hon7 (by decide)).ext k8, zwa _ _ _ _, (HPA.out.onT HTP6.out hon7).ext k8, hpB.ext k8, hpA.ext k8, (HVX.out.onT HTP6.out hon7).ext k8⟩)
 have HNUM := Lib.hid (show Num n T L wd q FB (accF acc2) v es from ⟨HN0.out, HTN.out, zv4 HN0.out.q2 hSf.out hok.out, zkx HN0.out.w1 he⟩)
 have K := Lib.hid ((K.out.on hon7 hp1w).trans k8)
 have HTP8 := Lib.hid (htp7.ext k8)
 have x0 := HST.out.x0
 have hmk := zb2 n (by omega)
 have hVs : ((V7.alloc (.cells #[.slice (some ⟨GB, 0, none⟩) L L, .slice (some ⟨GA, 0, none⟩) L L] 58))).heap.size = V7.heap.size + 1 := by simp
 have u0 := zei (V7.alloc (.cells #[.slice (some ⟨GB, 0, none⟩) L L, .slice (some ⟨GA, 0, none⟩) L L] 58)) n
 have kU : Ext (V7.alloc (.cells #[.slice (some ⟨GB, 0, none⟩) L L, .slice (some ⟨GA, 0, none⟩) L L] 58)) ((V7.alloc (.cells #[.slice (some ⟨GB, 0, none⟩) L L, .slice (some ⟨GA, 0, none⟩) L L] 58)).alloc (.cells (newU n) 26)) := (Ext.refl _).alloc _
 rw [hVs] at u0
 have hKb : V7.heap.size < ((V7.alloc (.cells #[.slice (some ⟨GB, 0, none⟩) L L, .slice (some ⟨GA, 0, none⟩) L L] 58))).heap.size := by omega
 clear x1 x2 x3 hpB hpA hok htp7 hon7 hu he k8
 go_wp2_with fail
 generalize (V7.alloc (.cells #[.slice (some ⟨GB, 0, none⟩) L L, .slice (some ⟨GA, 0, none⟩) L L] 58)) = V8 at *
 obtain ⟨Mb, hMb⟩ : ∃ D, D = V7.heap.size + 1 := ⟨_, rfl⟩
 rw [← hMb] at u0
 try simp only [← hMb]
 have hVM : V8.heap.size ≤ Mb := by omega
 obtain ⟨Kb, hKb2⟩ : ∃ D, D = V7.heap.size := ⟨_, rfl⟩
 rw [← hKb2] at HST
 try simp only [← hKb2]
 clear hMb hKb2 hmk hVs hKb x0
 have hmi : (m : Int) ≤ 100 := by omega
 go_loopw [67] (fun iv wr => ∃ k : Nat, k ≤ n ∧ iv = .int .i64 (k : Int) ∧ UW wr Mb n (msgF x m T k) ∧ Ext V8 wr) (fun iv _ => n - (intOf iv).toNat)
 case atStart => exact ⟨0, by omega, rfl, u0.congr fun i _ => by unfold msgF; rw [if_neg (by omega)], kU⟩
 case round =>
  obtain ⟨k, hk, rfl, hu9, kr⟩ := hrel
  clear u0 kU
  have x1 := (HST.out.ext kr).x1
  by_cases hlt : k < n
  ·have c0 := RW.cell hu9 hlt
   have z0 := RW.frozen hu9 k
   have hsz := RW.lt hu9
   have i0 : (0 : Int) ≤ (k : Int) := by omega
   have i1 : (k : Int) < (n : Int) := by omega
   by_cases hkm : k < m
   ·obtain ⟨ad, rfl, hc⟩ := (HX.out.ext (K.out.trans kr)).cells (by omega)
    have hcell := hc k hkm
    have i2 : (k : Int) < (m : Int) := by omega
    have er : (x k : Int).tmod (T : Int) = ((x k % T : Nat) : Int) := by rw [Int.tmod_eq_emod_of_nonneg (by omega)]; rfl
    have er2 : (x k : Int) % (T : Int) = ((x k % T : Nat) : Int) := rfl
    have hT0 : ((T : Int) == 0) = false := by simp; omega
    have HSt := Lib.hid (fun i (_ : i < n) => zpr (x := x) (m := m) (T := T) (k := k) (i := i) hkm)
    have hxk := hxw.out k hkm
    generalize x k % T = z at *
    generalize x k = xk at *
    clear hc hkm
    go_upto_region 14 with fail
    go_region
    go_wp2_with fail
    have hu10 := (hu9.set hlt z).congr HSt.out
    have k10 := kr.set (p := ⟨Mb, k, none⟩) hVM (.int .u64 (z : Int))
    first | exact ⟨⟨k + 1, by omega, by go_num, hu10, k10.drew⟩, by simp [intOf]; omega⟩ | exact ⟨⟨k + 1, by omega, by go_num, hu10, k10⟩, by simp [intOf]; omega⟩
   ·have i2 : ¬ ((k : Int) < (m : Int)) := by omega
    have hu10 := hu9.congr (f' := msgF x m T (k + 1)) fun i _ => zqr hkm
    clear hkm hu9 c0
    go_wp2_with fail
    exact ⟨⟨k + 1, by omega, by go_num, hu10, kr⟩, by simp [intOf]; omega⟩
  ·obtain rfl : n = k := by omega
   have HFL := Lib.hid (fun i (_ : i < n) => zyx (x := x) (m := m) (T := T) (k := n) (i := i) (by omega))
   have HFX := Lib.hid (UW.fx hu9)
   generalize msgF x m T n = f at HFL HFX
   have HST9 := Lib.hid (HST.out.ext kr)
   have K9 := Lib.hid (K.out.trans kr)
   have HTP9 := Lib.hid (HTP8.out.ext kr)
   have HSD := Lib.hid (HSX.out.ext K9.out)
   have e100 : wrap64 (100 * (n : Int)) = ((100 * n : Nat) : Int) := by unfold wrap64; omega
   have e100b : IntKind.i64.wrap (100 * (n : Int)) = ((100 * n : Nat) : Int) := by rw [IntKind.wrap_i64]; omega
   clear hu9 kr x1 hlt hk HST K HTP8
   go_wp2_with fail
   go_cut [19] (fun s19 wx => ∃ (A9 : Option Addr) (c9 : Nat) (zs9 : List Nat), s19 = .slice A9 (100 * n) c9 ∧ NX wx A9 (100 * n) c9 zs9 ∧ Hid (EvenW zs9) ∧ Ext wr wx)
   case first =>
    have kk : Ext wr wr := Ext.refl wr
    have x0 := HST9.out.x0
    have x1 := HST9.out.x1
    have x2 := HST9.out.x2
    have x3 := HST9.out.x3
    have kb := HST9.out.kb
    have ka := HST9.out.ka
    refine wp_region_held_drew (S := (fun w' => Ext wr w')) (by kernel_rfl) ?_ (fun hHeld => ?_)
    ·(try dsimp only); (with_reducible repeat first | exact kk | apply xa | apply xd)
    refine wpAnyH_take (i := 0) (oi := _) (v := ?_) rfl (by kernel_rfl) (by kernel_rfl) (by kernel_rfl) (fun _ _ _ h => h) (Or.inl ⟨by rfl, ?_⟩) (by assumption) ?_
    rotate_left
    ·(intro wS hSw; (try dsimp only at hSw); have t0 := cE hSw x0; have t1 := cE hSw x1; have t2 := cE hSw x2; have t3 := cE hSw x3; have t4 := cE hSw kb; have t5 := cE hSw ka; (try go_simp); (try with_reducible rfl))
    try simp only [Act.put, s1, s2, s3]
    refine wpAnyH_take (i := 2) (oi := _) (v := ?_) rfl (by kernel_rfl) (by kernel_rfl) (by kernel_rfl) (fun _ _ _ h => h) (Or.inl ⟨by rfl, ?_⟩) (by assumption) ?_
    rotate_left
    ·(intro wS hSw; (try dsimp only at hSw); have t0 := cE hSw x0; have t1 := cE hSw x1; have t2 := cE hSw x2; have t3 := cE hSw x3; have t4 := cE hSw kb; have t5 := cE hSw ka; (try go_simp); (try with_reducible rfl))
    try simp only [Act.put, s1, s2, s3]
    refine wpAnyH_take (i := 4) (oi := _) (v := ?_) rfl (by kernel_rfl) (by kernel_rfl) (by kernel_rfl) (fun _ _ _ h => h) (Or.inl ⟨by rfl, ?_⟩) (by assumption) ?_
    rotate_left
    ·(intro wS hSw; (try dsimp only at hSw); have t0 := cE hSw x0; have t1 := cE hSw x1; have t2 := cE hSw x2; have t3 := cE hSw x3; have t4 := cE hSw kb; have t5 := cE hSw ka; (try go_simp); (try with_reducible rfl))
    try simp only [Act.put, s1, s2, s3]
    refine wpAnyH_take (i := 5) (oi := _) (v := ?_) rfl (by kernel_rfl) (by kernel_rfl) (by kernel_rfl) (fun _ _ _ h => h) (Or.inl ⟨by rfl, ?_⟩) (by assumption) ?_
    rotate_left
    ·(intro wS hSw; (try dsimp only at hSw); have t0 := cE hSw x0; have t1 := cE hSw x1; have t2 := cE hSw x2; have t3 := cE hSw x3; have t4 := cE hSw kb; have t5 := cE hSw ka; (try go_simp); (try with_reducible rfl))
    try simp only [Act.put, s1, s2, s3]
    refine wpAnyH_take (i := 6) (oi := _) (v := ?_) rfl (by kernel_rfl) (by kernel_rfl) (by kernel_rfl) (fun _ _ _ h => h) (Or.inl ⟨by rfl, ?_⟩) (by assumption) ?_
    rotate_left
    ·(intro wS hSw; (try dsimp only at hSw); have t0 := cE hSw x0; have t1 := cE hSw x1; have t2 := cE hSw x2; have t3 := cE hSw x3; have t4 := cE hSw kb; have t5 := cE hSw ka; (try go_simp); (try with_reducible rfl))
    try simp only [Act.put, s1, s2, s3]
    refine wpAnyH_ready (rs := [1]) (by kernel_rfl) (by simp) ?_
    refine AllReadyH.cons rfl (fun KQ hKQ => ?_) AllReadyH.nil
    go_simp
    refine hKQ.out _ _ ?_ (fun hHeld => ?_)
    ·(try dsimp only); (with_reducible repeat first | exact kk | apply xa | apply xd)
    clear hKQ KQ
    try simp only [Act.put, s1, s2, s3]
    refine wpAnyH_ready (rs := [3]) (by kernel_rfl) (by simp) ?_
    refine AllReadyH.cons rfl (fun KQ hKQ => ?_) AllReadyH.nil
    refine zkk rfl _ _ rfl _ y (by simp) hy rfl A ns cs _ (NX.ext HSD.out (by with_reducible repeat first | exact kk | apply xa | apply xd)) rfl (by omega) ?_; intro A2 c2 w5 hx5 k5; replace kk : Ext wr w5 := (Ext.trans (by with_reducible repeat first | exact kk | apply xa | apply xd) k5); (try dsimp only)
    refine hKQ.out _ _ ?_ (fun hHeld => ?_)
    ·(try dsimp only); (with_reducible repeat first | exact kk | apply xa | apply xd)
    clear hKQ KQ
    try simp only [Act.put, s1, s2, s3]
    refine wpAnyH_ready (rs := [7]) (by kernel_rfl) (by simp) ?_
    refine AllReadyH.cons rfl (fun KQ hKQ => ?_) AllReadyH.nil
    go_simp
    (try rw [e100]); (try rw [e100b]); refine (ziw A2 (ns + 1) c2 (100 * n) _ _ (NX.ext hx5 (by with_reducible repeat first | exact Ext.refl _ | apply xa | apply xd)) (by omega) (by omega)).mono ?_; rintro e6 w6 ⟨A6, c6, zs6, rfl, hx6, he6, k6⟩; replace kk : Ext wr w6 := (Ext.trans (by with_reducible repeat first | exact kk | apply xa | apply xd) k6); (try dsimp only)
    refine hKQ.out _ _ ?_ (fun hHeld => ?_)
    ·(try dsimp only); (with_reducible repeat first | exact kk | apply xa | apply xd)
    clear hKQ KQ
    try simp only [Act.put, s1, s2, s3]
    refine wpAnyH_ready (rs := [8]) (by kernel_rfl) (by simp) ?_
    refine AllReadyH.cons rfl (fun KQ hKQ => ?_) AllReadyH.nil
    go_simp
    refine hKQ.out _ _ ?_ (fun hHeld => ?_)
    ·(try dsimp only); (with_reducible repeat first | exact kk | apply xa | apply xd)
    clear hKQ KQ
    try simp only [Act.put, s1, s2, s3]
    refine wpAnyH_done (by kernel_rfl) ?_ _
    (go_wp2_with fail; go_meet; exact ⟨A6, c6, zs6, rfl, hx6, he6, kk⟩)
   case rest =>
    obtain ⟨A9, c9, zs9, rfl, hx9, he9, kk9⟩ := hcut
    rename World => V10
    clear e100 e100b HSD
    have HST10 := Lib.hid (HST9.out.ext kk9)
    have HFX10 := Lib.hid (HFX.out.ext kk9)
    have K10 := Lib.hid (K9.out.trans kk9)
    have HTP10 := Lib.hid (HTP9.out.ext kk9)
    have hzl9 := hx9.len
    have hcz9 : 50 * n ≤ cntW zs9 := by
     have := zfr zs9.length zs9 (Nat.le_refl _) he9.out
     omega
    obtain ⟨acc9, rr9, hv9, _⟩ := zj0 (wd := wd) (n := n) (l := zs9) (by omega)
    obtain ⟨acc3, rr3, hv3, _⟩ := zj0 (wd := wd) (n := n) (l := r2) (by omega)
    have HV9 := Lib.hid hv9
    have HV3 := Lib.hid hv3
    have HX9 := Lib.hid hx9
    clear hv9 hv3 hx9 kk9 he9 HST9 HFX K9 HTP9
    go_wp2_with fail
    go_cut [20, 21] (fun s20 s21 wx => ∃ b20 : Nat, s20 = .pointer (some ⟨b20, 0, none⟩) ∧ s21 = .int .i64 0 ∧ CipAt V10 wx n L T q f FB (accF acc2) acc9 b20)
    case first =>
     have kk : Ext V10 V10 := Ext.refl V10
     have HNW := Lib.hid (fun w' (h : Ext V10 w') => zqu A9 (100 * n) c9 zs9 h HX9 (by omega))
     have HHI := Lib.hid (fun w' p (h : Ext V10 w') (hp : V10.heap.size ≤ p) (ht : Hid (Tp w' p zs9)) => zf8 p n (some ⟨Mb, 0, none⟩) f zs9 acc9 rr9 h hp ht HST10 HNUM HFX10 HFL (by omega) HV9)
     have x0 := HST10.out.x0
     have x1 := HST10.out.x1
     have x2 := HST10.out.x2
     have x3 := HST10.out.x3
     have kb := HST10.out.kb
     have ka := HST10.out.ka
     refine wp_region_held_drew (S := (fun w' => Ext V10 w')) (by kernel_rfl) ?_ (fun hHeld => ?_)
     ·(try dsimp only); (with_reducible repeat first | exact kk | apply xa | apply xd)
     refine wpAnyH_take (i := 0) (oi := _) (v := ?_) rfl (by kernel_rfl) (by kernel_rfl) (by kernel_rfl) (fun _ _ _ h => h) (Or.inl ⟨by rfl, ?_⟩) (by assumption) ?_
     rotate_left
     ·(intro wS hSw; (try dsimp only at hSw); have t0 := cE hSw x0; have t1 := cE hSw x1; have t2 := cE hSw x2; have t3 := cE hSw x3; have t4 := cE hSw kb; have t5 := cE hSw ka; (try go_simp); (try with_reducible rfl))
     try simp only [Act.put, s1, s2, s3]
     refine wpAnyH_take (i := 1) (oi := _) (v := ?_) rfl (by kernel_rfl) (by kernel_rfl) (by kernel_rfl) (fun _ _ _ h => h) (Or.inl ⟨by rfl, ?_⟩) (by assumption) ?_
     rotate_left
     ·(intro wS hSw; (try dsimp only at hSw); have t0 := cE hSw x0; have t1 := cE hSw x1; have t2 := cE hSw x2; have t3 := cE hSw x3; have t4 := cE hSw kb; have t5 := cE hSw ka; (try go_simp); (try with_reducible rfl))
     try simp only [Act.put, s1, s2, s3]
     refine wpAnyH_take (i := 2) (oi := _) (v := ?_) rfl (by kernel_rfl) (by kernel_rfl) (by kernel_rfl) (fun _ _ _ h => h) (Or.inl ⟨by rfl, ?_⟩) (by assumption) ?_
     rotate_left
     ·(intro wS hSw; (try dsimp only at hSw); have t0 := cE hSw x0; have t1 := cE hSw x1; have t2 := cE hSw x2; have t3 := cE hSw x3; have t4 := cE hSw kb; have t5 := cE hSw ka; (try go_simp); (try with_reducible rfl))
     try simp only [Act.put, s1, s2, s3]
     refine wpAnyH_take (i := 3) (oi := _) (v := ?_) rfl (by kernel_rfl) (by kernel_rfl) (by kernel_rfl) (fun _ _ _ h => h) (Or.inl ⟨by rfl, ?_⟩) (by assumption) ?_
     rotate_left
     ·(intro wS hSw; (try dsimp only at hSw); have t0 := cE hSw x0; have t1 := cE hSw x1; have t2 := cE hSw x2; have t3 := cE hSw x3; have t4 := cE hSw kb; have t5 := cE hSw ka; (try go_simp); (try with_reducible rfl))
     try simp only [Act.put, s1, s2, s3]
     refine wpAnyH_ready (rs := [4, 9]) (by kernel_rfl) (by simp) ?_
     refine AllReadyH.cons rfl (fun KQ hKQ => ?_) ?_
     ·go_simp
      refine (HNW.out _ (by with_reducible repeat first | exact kk | apply xa | apply xd)).mono ?_; rintro e5 w5 ⟨p5, rfl, hp5, ht5, k5⟩; have hold := kk.size; (first | (have hb := RW.ext (zax _ _) k5; have hbV := hold) | (have hb := RW.ext (zax _ _) (Ext.trans (Ext.drew (Ext.refl _)) k5); have hbV := hold) | skip); replace kk : Ext V10 w5 := (Ext.trans (by with_reducible repeat first | exact kk | apply xa | apply xd) k5); (try dsimp only)
      refine hKQ.out _ _ ?_ (fun hHeld => ?_)
      ·(try dsimp only); (with_reducible repeat first | exact kk | apply xa | apply xd)
      clear hKQ KQ
      try simp only [Act.put, s1, s2, s3]
      refine wpAnyH_ready (rs := [5, 9]) (by kernel_rfl) (by simp) ?_
      refine AllReadyH.cons rfl (fun KQ hKQ => ?_) ?_
      ·go_simp
       have hold := kk.size; refine (HHI.out _ p5 (by with_reducible repeat first | exact kk | apply xa | apply xd) hp5 (Lib.hid (Tp.ext ht5 (by with_reducible repeat first | exact Ext.refl _ | apply xa | apply xd)))).mono ?_; rintro e6 w6 ⟨x6, Gs6, As6, cs6, Fs6, rfl, hel6, hnu6, k6, hb6⟩; (first | replace hb := hb6 _ _ hb | replace hb := hb6 _ _ (RW.ext hb (by with_reducible repeat first | exact Ext.refl _ | apply xa | apply xd)) | (have hb := hb6 _ _ (zax _ _); have hbV := hold) | (have hb := hb6 _ _ (RW.ext (zax _ _) (Ext.drew (Ext.refl _))); have hbV := hold) | skip); clear hb6; replace kk : Ext V10 w6 := k6; (first | (have hb0 := hb.cell (i := 0) (by omega); have hbz := hb.frozen 0; have hbl := hb.lt) | skip); (try dsimp only)
       refine hKQ.out _ _ ?_ (fun hHeld => ?_)
       ·(try dsimp only); (with_reducible repeat first | exact kk | apply xa | apply xd)
       clear hKQ KQ
       try simp only [Act.put, s1, s2, s3]
       refine wpAnyH_take (i := 6) (oi := _) (v := ?_) rfl (by kernel_rfl) (by kernel_rfl) (by kernel_rfl) (fun _ _ _ h => h) (Or.inl ⟨by rfl, ?_⟩) (by assumption) ?_
       rotate_left
       ·(intro wS hSw; (try dsimp only at hSw); have t0 := cE hSw x0; have t1 := cE hSw x1; have t2 := cE hSw x2; have t3 := cE hSw x3; have t4 := cE hSw kb; have t5 := cE hSw ka; (try go_simp); (try with_reducible rfl))
       try simp only [Act.put, s1, s2, s3]
       refine wpAnyH_take (i := 7) (oi := _) (v := ?_) rfl (by kernel_rfl) (by kernel_rfl) (by kernel_rfl) (fun _ _ _ h => h) (Or.inl ⟨by rfl, ?_⟩) (by assumption) ?_
       rotate_left
       ·(intro wS hSw; (try dsimp only at hSw); have t0 := cE hSw x0; have t1 := cE hSw x1; have t2 := cE hSw x2; have t3 := cE hSw x3; have t4 := cE hSw kb; have t5 := cE hSw ka; (try go_simp); (try with_reducible rfl))
       try simp only [Act.put, s1, s2, s3]
       refine wpAnyH_take (i := 8) (oi := _) (v := ?_) rfl (by kernel_rfl) (by kernel_rfl) (by kernel_rfl) (fun _ _ _ h => h) (Or.inl ⟨by rfl, ?_⟩) (by assumption) ?_
       rotate_left
       ·(intro wS hSw; (try dsimp only at hSw); have t0 := cE hSw x0; have t1 := cE hSw x1; have t2 := cE hSw x2; have t3 := cE hSw x3; have t4 := cE hSw kb; have t5 := cE hSw ka; (try go_simp); (try with_reducible rfl))
       try simp only [Act.put, s1, s2, s3]
       refine wpAnyH_ready (rs := [9]) (by kernel_rfl) (by simp) ?_
       refine AllReadyH.cons rfl (fun KQ hKQ => ?_) AllReadyH.nil
       go_simp
       refine hKQ.out _ _ ?_ (fun hHeld => ?_)
       ·(try dsimp only); (with_reducible repeat first | exact kk | apply xa | apply xd)
       clear hKQ KQ
       try simp only [Act.put, s1, s2, s3]
       refine wpAnyH_ready (rs := [10]) (by kernel_rfl) (by simp) ?_
       refine AllReadyH.cons rfl (fun KQ hKQ => ?_) AllReadyH.nil
       go_simp
       refine hKQ.out _ _ ?_ (fun hHeld => ?_)
       ·(try dsimp only); (first | ((with_reducible repeat first | exact kk | apply xa | apply xd); done) | exact Ext.set (by with_reducible repeat first | exact kk | apply xa | apply xd) hbV _)
       clear hKQ KQ
       try simp only [Act.put, s1, s2, s3]
       refine wpAnyH_ready (rs := [11]) (by kernel_rfl) (by simp) ?_
       refine AllReadyH.cons rfl (fun KQ hKQ => ?_) AllReadyH.nil
       go_simp
       refine hKQ.out _ _ ?_ (fun hHeld => ?_)
       ·(try dsimp only); (first | ((with_reducible repeat first | exact kk | apply xa | apply xd); done) | exact Ext.set (by with_reducible repeat first | exact kk | apply xa | apply xd) hbV _)
       clear hKQ KQ
       try simp only [Act.put, s1, s2, s3]
       refine wpAnyH_done (by kernel_rfl) ?_ _
       (go_wp2_with fail; go_meet; (first | exact ⟨_, rfl, rfl, zca hel6 hnu6 kk⟩ | exact ⟨_, rfl, rfl, zcd hel6 hnu6 kk hb hbV⟩))
      refine AllReadyH.cons rfl (fun KQ hKQ => ?_) AllReadyH.nil
      go_simp
      refine hKQ.out _ _ ?_ (fun hHeld => ?_)
      ·(try dsimp only); (with_reducible repeat first | exact kk | apply xa | apply xd)
      clear hKQ KQ
      try simp only [Act.put, s1, s2, s3]
      refine wpAnyH_ready (rs := [5]) (by kernel_rfl) (by simp) ?_
      refine AllReadyH.cons rfl (fun KQ hKQ => ?_) AllReadyH.nil
      go_simp
      have hold := kk.size; refine (HHI.out _ p5 (by with_reducible repeat first | exact kk | apply xa | apply xd) hp5 (Lib.hid (Tp.ext ht5 (by with_reducible repeat first | exact Ext.refl _ | apply xa | apply xd)))).mono ?_; rintro e6 w6 ⟨x6, Gs6, As6, cs6, Fs6, rfl, hel6, hnu6, k6, hb6⟩; (first | replace hb := hb6 _ _ hb | replace hb := hb6 _ _ (RW.ext hb (by with_reducible repeat first | exact Ext.refl _ | apply xa | apply xd)) | (have hb := hb6 _ _ (zax _ _); have hbV := hold) | (have hb := hb6 _ _ (RW.ext (zax _ _) (Ext.drew (Ext.refl _))); have hbV := hold) | skip); clear hb6; replace kk : Ext V10 w6 := k6; (first | (have hb0 := hb.cell (i := 0) (by omega); have hbz := hb.frozen 0; have hbl := hb.lt) | skip); (try dsimp only)
      refine hKQ.out _ _ ?_ (fun hHeld => ?_)
      ·(try dsimp only); (with_reducible repeat first | exact kk | apply xa | apply xd)
      clear hKQ KQ
      try simp only [Act.put, s1, s2, s3]
      refine wpAnyH_take (i := 6) (oi := _) (v := ?_) rfl (by kernel_rfl) (by kernel_rfl) (by kernel_rfl) (fun _ _ _ h => h) (Or.inl ⟨by rfl, ?_⟩) (by assumption) ?_
      rotate_left
      ·(intro wS hSw; (try dsimp only at hSw); have t0 := cE hSw x0; have t1 := cE hSw x1; have t2 := cE hSw x2; have t3 := cE hSw x3; have t4 := cE hSw kb; have t5 := cE hSw ka; (try go_simp); (try with_reducible rfl))
      try simp only [Act.put, s1, s2, s3]
      refine wpAnyH_take (i := 7) (oi := _) (v := ?_) rfl (by kernel_rfl) (by kernel_rfl) (by kernel_rfl) (fun _ _ _ h => h) (Or.inl ⟨by rfl, ?_⟩) (by assumption) ?_
      rotate_left
      ·(intro wS hSw; (try dsimp only at hSw); have t0 := cE hSw x0; have t1 := cE hSw x1; have t2 := cE hSw x2; have t3 := cE hSw x3; have t4 := cE hSw kb; have t5 := cE hSw ka; (try go_simp); (try with_reducible rfl))
      try simp only [Act.put, s1, s2, s3]
      refine wpAnyH_take (i := 8) (oi := _) (v := ?_) rfl (by kernel_rfl) (by kernel_rfl) (by kernel_rfl) (fun _ _ _ h => h) (Or.inl ⟨by rfl, ?_⟩) (by assumption) ?_
      rotate_left
      ·(intro wS hSw; (try dsimp only at hSw); have t0 := cE hSw x0; have t1 := cE hSw x1; have t2 := cE hSw x2; have t3 := cE hSw x3; have t4 := cE hSw kb; have t5 := cE hSw ka; (try go_simp); (try with_reducible rfl))
      try simp only [Act.put, s1, s2, s3]
      refine wpAnyH_ready (rs := [10]) (by kernel_rfl) (by simp) ?_
      refine AllReadyH.cons rfl (fun KQ hKQ => ?_) AllReadyH.nil
      go_simp
      refine hKQ.out _ _ ?_ (fun hHeld => ?_)
      ·(try dsimp only); (first | ((with_reducible repeat first | exact kk | apply xa | apply xd); done) | exact Ext.set (by with_reducible repeat first | exact kk | apply xa | apply xd) hbV _)
      clear hKQ KQ
      try simp only [Act.put, s1, s2, s3]
      refine wpAnyH_ready (rs := [11]) (by kernel_rfl) (by simp) ?_
      refine AllReadyH.cons rfl (fun KQ hKQ => ?_) AllReadyH.nil
      go_simp
      refine hKQ.out _ _ ?_ (fun hHeld => ?_)
      ·(try dsimp only); (first | ((with_reducible repeat first | exact kk | apply xa | apply xd); done) | exact Ext.set (by with_reducible repeat first | exact kk | apply xa | apply xd) hbV _)
      clear hKQ KQ
      try simp only [Act.put, s1, s2, s3]
      refine wpAnyH_done (by kernel_rfl) ?_ _
      (go_wp2_with fail; go_meet; (first | exact ⟨_, rfl, rfl, zca hel6 hnu6 kk⟩ | exact ⟨_, rfl, rfl, zcd hel6 hnu6 kk hb hbV⟩))
     refine AllReadyH.cons rfl (fun KQ hKQ => ?_) AllReadyH.nil
     go_simp
     refine hKQ.out _ _ ?_ (fun hHeld => ?_)
     ·(try dsimp only); (with_reducible repeat first | exact kk | apply xa | apply xd)
     clear hKQ KQ
     try simp only [Act.put, s1, s2, s3]
     refine wpAnyH_ready (rs := [4]) (by kernel_rfl) (by simp) ?_
     refine AllReadyH.cons rfl (fun KQ hKQ => ?_) AllReadyH.nil
     go_simp
     refine (HNW.out _ (by with_reducible repeat first | exact kk | apply xa | apply xd)).mono ?_; rintro e5 w5 ⟨p5, rfl, hp5, ht5, k5⟩; have hold := kk.size; (first | (have hb := RW.ext (zax _ _) k5; have hbV := hold) | (have hb := RW.ext (zax _ _) (Ext.trans (Ext.drew (Ext.refl _)) k5); have hbV := hold) | skip); replace kk : Ext V10 w5 := (Ext.trans (by with_reducible repeat first | exact kk | apply xa | apply xd) k5); (try dsimp only)
     refine hKQ.out _ _ ?_ (fun hHeld => ?_)
     ·(try dsimp only); (with_reducible repeat first | exact kk | apply xa | apply xd)
     clear hKQ KQ
     try simp only [Act.put, s1, s2, s3]
     refine wpAnyH_ready (rs := [5]) (by kernel_rfl) (by simp) ?_
     refine AllReadyH.cons rfl (fun KQ hKQ => ?_) AllReadyH.nil
     go_simp
     have hold := kk.size; refine (HHI.out _ p5 (by with_reducible repeat first | exact kk | apply xa | apply xd) hp5 (Lib.hid (Tp.ext ht5 (by with_reducible repeat first | exact Ext.refl _ | apply xa | apply xd)))).mono ?_; rintro e6 w6 ⟨x6, Gs6, As6, cs6, Fs6, rfl, hel6, hnu6, k6, hb6⟩; (first | replace hb := hb6 _ _ hb | replace hb := hb6 _ _ (RW.ext hb (by with_reducible repeat first | exact Ext.refl _ | apply xa | apply xd)) | (have hb := hb6 _ _ (zax _ _); have hbV := hold) | (have hb := hb6 _ _ (RW.ext (zax _ _) (Ext.drew (Ext.refl _))); have hbV := hold) | skip); clear hb6; replace kk : Ext V10 w6 := k6; (first | (have hb0 := hb.cell (i := 0) (by omega); have hbz := hb.frozen 0; have hbl := hb.lt) | skip); (try dsimp only)
     refine hKQ.out _ _ ?_ (fun hHeld => ?_)
     ·(try dsimp only); (with_reducible repeat first | exact kk | apply xa | apply xd)
     clear hKQ KQ
     try simp only [Act.put, s1, s2, s3]
     refine wpAnyH_take (i := 6) (oi := _) (v := ?_) rfl (by kernel_rfl) (by kernel_rfl) (by kernel_rfl) (fun _ _ _ h => h) (Or.inl ⟨by rfl, ?_⟩) (by assumption) ?_
     rotate_left
     ·(intro wS hSw; (try dsimp only at hSw); have t0 := cE hSw x0; have t1 := cE hSw x1; have t2 := cE hSw x2; have t3 := cE hSw x3; have t4 := cE hSw kb; have t5 := cE hSw ka; (try go_simp); (try with_reducible rfl))
     try simp only [Act.put, s1, s2, s3]
     refine wpAnyH_take (i := 7) (oi := _) (v := ?_) rfl (by kernel_rfl) (by kernel_rfl) (by kernel_rfl) (fun _ _ _ h => h) (Or.inl ⟨by rfl, ?_⟩) (by assumption) ?_
     rotate_left
     ·(intro wS hSw; (try dsimp only at hSw); have t0 := cE hSw x0; have t1 := cE hSw x1; have t2 := cE hSw x2; have t3 := cE hSw x3; have t4 := cE hSw kb; have t5 := cE hSw ka; (try go_simp); (try with_reducible rfl))
     try simp only [Act.put, s1, s2, s3]
     refine wpAnyH_take (i := 8) (oi := _) (v := ?_) rfl (by kernel_rfl) (by kernel_rfl) (by kernel_rfl) (fun _ _ _ h => h) (Or.inl ⟨by rfl, ?_⟩) (by assumption) ?_
     rotate_left
     ·(intro wS hSw; (try dsimp only at hSw); have t0 := cE hSw x0; have t1 := cE hSw x1; have t2 := cE hSw x2; have t3 := cE hSw x3; have t4 := cE hSw kb; have t5 := cE hSw ka; (try go_simp); (try with_reducible rfl))
     try simp only [Act.put, s1, s2, s3]
     refine wpAnyH_ready (rs := [10]) (by kernel_rfl) (by simp) ?_
     refine AllReadyH.cons rfl (fun KQ hKQ => ?_) AllReadyH.nil
     go_simp
     refine hKQ.out _ _ ?_ (fun hHeld => ?_)
     ·(try dsimp only); (first | ((with_reducible repeat first | exact kk | apply xa | apply xd); done) | exact Ext.set (by with_reducible repeat first | exact kk | apply xa | apply xd) hbV _)
     clear hKQ KQ
     try simp only [Act.put, s1, s2, s3]
     refine wpAnyH_ready (rs := [11]) (by kernel_rfl) (by simp) ?_
     refine AllReadyH.cons rfl (fun KQ hKQ => ?_) AllReadyH.nil
     go_simp
     refine hKQ.out _ _ ?_ (fun hHeld => ?_)
     ·(try dsimp only); (first | ((with_reducible repeat first | exact kk | apply xa | apply xd); done) | exact Ext.set (by with_reducible repeat first | exact kk | apply xa | apply xd) hbV _)
     clear hKQ KQ
     try simp only [Act.put, s1, s2, s3]
     refine wpAnyH_done (by kernel_rfl) ?_ _
     (go_wp2_with fail; go_meet; (first | exact ⟨_, rfl, rfl, zca hel6 hnu6 kk⟩ | exact ⟨_, rfl, rfl, zcd hel6 hnu6 kk hb hbV⟩))
    case rest =>
     obtain ⟨b20, rfl, rfl, x17, Gs7, As7, cs7, Fs7, hr20, hel7, hnu7, kk11⟩ := hcut
     rename World => V11
     have HST11 := Lib.hid (HST10.out.ext kk11)
     have HFX11 := Lib.hid (HFX10.out.ext kk11)
     have K11 := Lib.hid (K10.out.trans kk11)
     have HTP11 := Lib.hid (HTP10.out.ext kk11)
     have HX11 := Lib.hid (HX9.out.ext kk11)
     have HR20 := Lib.hid hr20
     have HEL7 := Lib.hid hel7
     clear hr20 hel7 kk11
     go_wp2_with fail
     go_cut [22, 23] (fun s22 s23 wx => ∃ b22 : Nat, s22 = .pointer (some ⟨b22, 0, none⟩) ∧ s23 = .int .i64 0 ∧ CipAt V11 wx n L T q f FB (accF acc2) acc9 b22)
     case first =>
      have kk : Ext V11 V11 := Ext.refl V11
      have HNW := Lib.hid (fun w' (h : Ext V11 w') => zqu A9 (100 * n) c9 zs9 h HX11 (by omega))
      have HHI := Lib.hid (fun w' p (h : Ext V11 w') (hp : V11.heap.size ≤ p) (ht : Hid (Tp w' p zs9)) => zf8 p n (some ⟨Mb, 0, none⟩) f zs9 acc9 rr9 h hp ht HST11 HNUM HFX11 HFL (by omega) HV9)
      have x0 := HST11.out.x0
      have x1 := HST11.out.x1
      have x2 := HST11.out.x2
      have x3 := HST11.out.x3
      have kb := HST11.out.kb
      have ka := HST11.out.ka
      refine wp_region_held_drew (S := (fun w' => Ext V11 w')) (by kernel_rfl) ?_ (fun hHeld => ?_)
      ·(try dsimp only); (with_reducible repeat first | exact kk | apply xa | apply xd)
      refine wpAnyH_take (i := 0) (oi := _) (v := ?_) rfl (by kernel_rfl) (by kernel_rfl) (by kernel_rfl) (fun _ _ _ h => h) (Or.inl ⟨by rfl, ?_⟩) (by assumption) ?_
      rotate_left
      ·(intro wS hSw; (try dsimp only at hSw); have t0 := cE hSw x0; have t1 := cE hSw x1; have t2 := cE hSw x2; have t3 := cE hSw x3; have t4 := cE hSw kb; have t5 := cE hSw ka; (try go_simp); (try with_reducible rfl))
      try simp only [Act.put, s1, s2, s3]
      refine wpAnyH_take (i := 1) (oi := _) (v := ?_) rfl (by kernel_rfl) (by kernel_rfl) (by kernel_rfl) (fun _ _ _ h => h) (Or.inl ⟨by rfl, ?_⟩) (by assumption) ?_
      rotate_left
      ·(intro wS hSw; (try dsimp only at hSw); have t0 := cE hSw x0; have t1 := cE hSw x1; have t2 := cE hSw x2; have t3 := cE hSw x3; have t4 := cE hSw kb; have t5 := cE hSw ka; (try go_simp); (try with_reducible rfl))
      try simp only [Act.put, s1, s2, s3]
      refine wpAnyH_take (i := 2) (oi := _) (v := ?_) rfl (by kernel_rfl) (by kernel_rfl) (by kernel_rfl) (fun _ _ _ h => h) (Or.inl ⟨by rfl, ?_⟩) (by assumption) ?_
      rotate_left
      ·(intro wS hSw; (try dsimp only at hSw); have t0 := cE hSw x0; have t1 := cE hSw x1; have t2 := cE hSw x2; have t3 := cE hSw x3; have t4 := cE hSw kb; have t5 := cE hSw ka; (try go_simp); (try with_reducible rfl))
      try simp only [Act.put, s1, s2, s3]
      refine wpAnyH_take (i := 3) (oi := _) (v := ?_) rfl (by kernel_rfl) (by kernel_rfl) (by kernel_rfl) (fun _ _ _ h => h) (Or.inl ⟨by rfl, ?_⟩) (by assumption) ?_
      rotate_left
      ·(intro wS hSw; (try dsimp only at hSw); have t0 := cE hSw x0; have t1 := cE hSw x1; have t2 := cE hSw x2; have t3 := cE hSw x3; have t4 := cE hSw kb; have t5 := cE hSw ka; (try go_simp); (try with_reducible rfl))
      try simp only [Act.put, s1, s2, s3]
      refine wpAnyH_ready (rs := [4, 9]) (by kernel_rfl) (by simp) ?_
      refine AllReadyH.cons rfl (fun KQ hKQ => ?_) ?_
      ·go_simp
       refine (HNW.out _ (by with_reducible repeat first | exact kk | apply xa | apply xd)).mono ?_; rintro e5 w5 ⟨p5, rfl, hp5, ht5, k5⟩; have hold := kk.size; (first | (have hb := RW.ext (zax _ _) k5; have hbV := hold) | (have hb := RW.ext (zax _ _) (Ext.trans (Ext.drew (Ext.refl _)) k5); have hbV := hold) | skip); replace kk : Ext V11 w5 := (Ext.trans (by with_reducible repeat first | exact kk | apply xa | apply xd) k5); (try dsimp only)
       refine hKQ.out _ _ ?_ (fun hHeld => ?_)
       ·(try dsimp only); (with_reducible repeat first | exact kk | apply xa | apply xd)
       clear hKQ KQ
       try simp only [Act.put, s1, s2, s3]
       refine wpAnyH_ready (rs := [5, 9]) (by kernel_rfl) (by simp) ?_
       refine AllReadyH.cons rfl (fun KQ hKQ => ?_) ?_
       ·go_simp
        have hold := kk.size; refine (HHI.out _ p5 (by with_reducible repeat first | exact kk | apply xa | apply xd) hp5 (Lib.hid (Tp.ext ht5 (by with_reducible repeat first | exact Ext.refl _ | apply xa | apply xd)))).mono ?_; rintro e6 w6 ⟨x6, Gs6, As6, cs6, Fs6, rfl, hel6, hnu6, k6, hb6⟩; (first | replace hb := hb6 _ _ hb | replace hb := hb6 _ _ (RW.ext hb (by with_reducible repeat first | exact Ext.refl _ | apply xa | apply xd)) | (have hb := hb6 _ _ (zax _ _); have hbV := hold) | (have hb := hb6 _ _ (RW.ext (zax _ _) (Ext.drew (Ext.refl _))); have hbV := hold) | skip); clear hb6; replace kk : Ext V11 w6 := k6; (first | (have hb0 := hb.cell (i := 0) (by omega); have hbz := hb.frozen 0; have hbl := hb.lt) | skip); (try dsimp only)
        refine hKQ.out _ _ ?_ (fun hHeld => ?_)
        ·(try dsimp only); (with_reducible repeat first | exact kk | apply xa | apply xd)
        clear hKQ KQ
        try simp only [Act.put, s1, s2, s3]
        refine wpAnyH_take (i := 6) (oi := _) (v := ?_) rfl (by kernel_rfl) (by kernel_rfl) (by kernel_rfl) (fun _ _ _ h => h) (Or.inl ⟨by rfl, ?_⟩) (by assumption) ?_
        rotate_left
        ·(intro wS hSw; (try dsimp only at hSw); have t0 := cE hSw x0; have t1 := cE hSw x1; have t2 := cE hSw x2; have t3 := cE hSw x3; have t4 := cE hSw kb; have t5 := cE hSw ka; (try go_simp); (try with_reducible rfl))
        try simp only [Act.put, s1, s2, s3]
        refine wpAnyH_take (i := 7) (oi := _) (v := ?_) rfl (by kernel_rfl) (by kernel_rfl) (by kernel_rfl) (fun _ _ _ h => h) (Or.inl ⟨by rfl, ?_⟩) (by assumption) ?_
        rotate_left
        ·(intro wS hSw; (try dsimp only at hSw); have t0 := cE hSw x0; have t1 := cE hSw x1; have t2 := cE hSw x2; have t3 := cE hSw x3; have t4 := cE hSw kb; have t5 := cE hSw ka; (try go_simp); (try with_reducible rfl))
        try simp only [Act.put, s1, s2, s3]
        refine wpAnyH_take (i := 8) (oi := _) (v := ?_) rfl (by kernel_rfl) (by kernel_rfl) (by kernel_rfl) (fun _ _ _ h => h) (Or.inl ⟨by rfl, ?_⟩) (by assumption) ?_
        rotate_left
        ·(intro wS hSw; (try dsimp only at hSw); have t0 := cE hSw x0; have t1 := cE hSw x1; have t2 := cE hSw x2; have t3 := cE hSw x3; have t4 := cE hSw kb; have t5 := cE hSw ka; (try go_simp); (try with_reducible rfl))
        try simp only [Act.put, s1, s2, s3]
        refine wpAnyH_ready (rs := [9]) (by kernel_rfl) (by simp) ?_
        refine AllReadyH.cons rfl (fun KQ hKQ => ?_) AllReadyH.nil
        go_simp
        refine hKQ.out _ _ ?_ (fun hHeld => ?_)
        ·(try dsimp only); (with_reducible repeat first | exact kk | apply xa | apply xd)
        clear hKQ KQ
        try simp only [Act.put, s1, s2, s3]
        refine wpAnyH_ready (rs := [10]) (by kernel_rfl) (by simp) ?_
        refine AllReadyH.cons rfl (fun KQ hKQ => ?_) AllReadyH.nil
        go_simp
        refine hKQ.out _ _ ?_ (fun hHeld => ?_)
        ·(try dsimp only); (first | ((with_reducible repeat first | exact kk | apply xa | apply xd); done) | exact Ext.set (by with_reducible repeat first | exact kk | apply xa | apply xd) hbV _)
        clear hKQ KQ
        try simp only [Act.put, s1, s2, s3]
        refine wpAnyH_ready (rs := [11]) (by kernel_rfl) (by simp) ?_
        refine AllReadyH.cons rfl (fun KQ hKQ => ?_) AllReadyH.nil
        go_simp
        refine hKQ.out _ _ ?_ (fun hHeld => ?_)
        ·(try dsimp only); (first | ((with_reducible repeat first | exact kk | apply xa | apply xd); done) | exact Ext.set (by with_reducible repeat first | exact kk | apply xa | apply xd) hbV _)
        clear hKQ KQ
        try simp only [Act.put, s1, s2, s3]
        refine wpAnyH_done (by kernel_rfl) ?_ _
        (go_wp2_with fail; go_meet; (first | exact ⟨_, rfl, rfl, zca hel6 hnu6 kk⟩ | exact ⟨_, rfl, rfl, zcd hel6 hnu6 kk hb hbV⟩))
       refine AllReadyH.cons rfl (fun KQ hKQ => ?_) AllReadyH.nil
       go_simp
       refine hKQ.out _ _ ?_ (fun hHeld => ?_)
       ·(try dsimp only); (with_reducible repeat first | exact kk | apply xa | apply xd)
       clear hKQ KQ
       try simp only [Act.put, s1, s2, s3]
       refine wpAnyH_ready (rs := [5]) (by kernel_rfl) (by simp) ?_
       refine AllReadyH.cons rfl (fun KQ hKQ => ?_) AllReadyH.nil
       go_simp
       have hold := kk.size; refine (HHI.out _ p5 (by with_reducible repeat first | exact kk | apply xa | apply xd) hp5 (Lib.hid (Tp.ext ht5 (by with_reducible repeat first | exact Ext.refl _ | apply xa | apply xd)))).mono ?_; rintro e6 w6 ⟨x6, Gs6, As6, cs6, Fs6, rfl, hel6, hnu6, k6, hb6⟩; (first | replace hb := hb6 _ _ hb | replace hb := hb6 _ _ (RW.ext hb (by with_reducible repeat first | exact Ext.refl _ | apply xa | apply xd)) | (have hb := hb6 _ _ (zax _ _); have hbV := hold) | (have hb := hb6 _ _ (RW.ext (zax _ _) (Ext.drew (Ext.refl _))); have hbV := hold) | skip); clear hb6; replace kk : Ext V11 w6 := k6; (first | (have hb0 := hb.cell (i := 0) (by omega); have hbz := hb.frozen 0; have hbl := hb.lt) | skip); (try dsimp only)
       refine hKQ.out _ _ ?_ (fun hHeld => ?_)
       ·(try dsimp only); (with_reducible repeat first | exact kk | apply xa | apply xd)
       clear hKQ KQ
       try simp only [Act.put, s1, s2, s3]
       refine wpAnyH_take (i := 6) (oi := _) (v := ?_) rfl (by kernel_rfl) (by kernel_rfl) (by kernel_rfl) (fun _ _ _ h => h) (Or.inl ⟨by rfl, ?_⟩) (by assumption) ?_
       rotate_left
       ·(intro wS hSw; (try dsimp only at hSw); have t0 := cE hSw x0; have t1 := cE hSw x1; have t2 := cE hSw x2; have t3 := cE hSw x3; have t4 := cE hSw kb; have t5 := cE hSw ka; (try go_simp); (try with_reducible rfl))
       try simp only [Act.put, s1, s2, s3]
       refine wpAnyH_take (i := 7) (oi := _) (v := ?_) rfl (by kernel_rfl) (by kernel_rfl) (by kernel_rfl) (fun _ _ _ h => h) (Or.inl ⟨by rfl, ?_⟩) (by assumption) ?_
       rotate_left
       ·(intro wS hSw; (try dsimp only at hSw); have t0 := cE hSw x0; have t1 := cE hSw x1; have t2 := cE hSw x2; have t3 := cE hSw x3; have t4 := cE hSw kb; have t5 := cE hSw ka; (try go_simp); (try with_reducible rfl))
       try simp only [Act.put, s1, s2, s3]
       refine wpAnyH_take (i := 8) (oi := _) (v := ?_) rfl (by kernel_rfl) (by kernel_rfl) (by kernel_rfl) (fun _ _ _ h => h) (Or.inl ⟨by rfl, ?_⟩) (by assumption) ?_
       rotate_left
       ·(intro wS hSw; (try dsimp only at hSw); have t0 := cE hSw x0; have t1 := cE hSw x1; have t2 := cE hSw x2; have t3 := cE hSw x3; have t4 := cE hSw kb; have t5 := cE hSw ka; (try go_simp); (try with_reducible rfl))
       try simp only [Act.put, s1, s2, s3]
       refine wpAnyH_ready (rs := [10]) (by kernel_rfl) (by simp) ?_
       refine AllReadyH.cons rfl (fun KQ hKQ => ?_) AllReadyH.nil
       go_simp
       refine hKQ.out _ _ ?_ (fun hHeld => ?_)
       ·(try dsimp only); (first | ((with_reducible repeat first | exact kk | apply xa | apply xd); done) | exact Ext.set (by with_reducible repeat first | exact kk | apply xa | apply xd) hbV _)
       clear hKQ KQ
       try simp only [Act.put, s1, s2, s3]
       refine wpAnyH_ready (rs := [11]) (by kernel_rfl) (by simp) ?_
       refine AllReadyH.cons rfl (fun KQ hKQ => ?_) AllReadyH.nil
       go_simp
       refine hKQ.out _ _ ?_ (fun hHeld => ?_)
       ·(try dsimp only); (first | ((with_reducible repeat first | exact kk | apply xa | apply xd); done) | exact Ext.set (by with_reducible repeat first | exact kk | apply xa | apply xd) hbV _)
       clear hKQ KQ
       try simp only [Act.put, s1, s2, s3]
       refine wpAnyH_done (by kernel_rfl) ?_ _
       (go_wp2_with fail; go_meet; (first | exact ⟨_, rfl, rfl, zca hel6 hnu6 kk⟩ | exact ⟨_, rfl, rfl, zcd hel6 hnu6 kk hb hbV⟩))
      refine AllReadyH.cons rfl (fun KQ hKQ => ?_) AllReadyH.nil
      go_simp
      refine hKQ.out _ _ ?_ (fun hHeld => ?_)
      ·(try dsimp only); (with_reducible repeat first | exact kk | apply xa | apply xd)
      clear hKQ KQ
      try simp only [Act.put, s1, s2, s3]
      refine wpAnyH_ready (rs := [4]) (by kernel_rfl) (by simp) ?_
      refine AllReadyH.cons rfl (fun KQ hKQ => ?_) AllReadyH.nil
      go_simp
      refine (HNW.out _ (by with_reducible repeat first | exact kk | apply xa | apply xd)).mono ?_; rintro e5 w5 ⟨p5, rfl, hp5, ht5, k5⟩; have hold := kk.size; (first | (have hb := RW.ext (zax _ _) k5; have hbV := hold) | (have hb := RW.ext (zax _ _) (Ext.trans (Ext.drew (Ext.refl _)) k5); have hbV := hold) | skip); replace kk : Ext V11 w5 := (Ext.trans (by with_reducible repeat first | exact kk | apply xa | apply xd) k5); (try dsimp only)
      refine hKQ.out _ _ ?_ (fun hHeld => ?_)
      ·(try dsimp only); (with_reducible repeat first | exact kk | apply xa | apply xd)
      clear hKQ KQ
      try simp only [Act.put, s1, s2, s3]
      refine wpAnyH_ready (rs := [5]) (by kernel_rfl) (by simp) ?_
      refine AllReadyH.cons rfl (fun KQ hKQ => ?_) AllReadyH.nil
      go_simp
      have hold := kk.size; refine (HHI.out _ p5 (by with_reducible repeat first | exact kk | apply xa | apply xd) hp5 (Lib.hid (Tp.ext ht5 (by with_reducible repeat first | exact Ext.refl _ | apply xa | apply xd)))).mono ?_; rintro e6 w6 ⟨x6, Gs6, As6, cs6, Fs6, rfl, hel6, hnu6, k6, hb6⟩; (first | replace hb := hb6 _ _ hb | replace hb := hb6 _ _ (RW.ext hb (by with_reducible repeat first | exact Ext.refl _ | apply xa | apply xd)) | (have hb := hb6 _ _ (zax _ _); have hbV := hold) | (have hb := hb6 _ _ (RW.ext (zax _ _) (Ext.drew (Ext.refl _))); have hbV := hold) | skip); clear hb6; replace kk : Ext V11 w6 := k6; (first | (have hb0 := hb.cell (i := 0) (by omega); have hbz := hb.frozen 0; have hbl := hb.lt) | skip); (try dsimp only)
      refine hKQ.out _ _ ?_ (fun hHeld => ?_)
      ·(try dsimp only); (with_reducible repeat first | exact kk | apply xa | apply xd)
      clear hKQ KQ
      try simp only [Act.put, s1, s2, s3]
      refine wpAnyH_take (i := 6) (oi := _) (v := ?_) rfl (by kernel_rfl) (by kernel_rfl) (by kernel_rfl) (fun _ _ _ h => h) (Or.inl ⟨by rfl, ?_⟩) (by assumption) ?_
      rotate_left
      ·(intro wS hSw; (try dsimp only at hSw); have t0 := cE hSw x0; have t1 := cE hSw x1; have t2 := cE hSw x2; have t3 := cE hSw x3; have t4 := cE hSw kb; have t5 := cE hSw ka; (try go_simp); (try with_reducible rfl))
      try simp only [Act.put, s1, s2, s3]
      refine wpAnyH_take (i := 7) (oi := _) (v := ?_) rfl (by kernel_rfl) (by kernel_rfl) (by kernel_rfl) (fun _ _ _ h => h) (Or.inl ⟨by rfl, ?_⟩) (by assumption) ?_
      rotate_left
      ·(intro wS hSw; (try dsimp only at hSw); have t0 := cE hSw x0; have t1 := cE hSw x1; have t2 := cE hSw x2; have t3 := cE hSw x3; have t4 := cE hSw kb; have t5 := cE hSw ka; (try go_simp); (try with_reducible rfl))
      try simp only [Act.put, s1, s2, s3]
      refine wpAnyH_take (i := 8) (oi := _) (v := ?_) rfl (by kernel_rfl) (by kernel_rfl) (by kernel_rfl) (fun _ _ _ h => h) (Or.inl ⟨by rfl, ?_⟩) (by assumption) ?_
      rotate_left
      ·(intro wS hSw; (try dsimp only at hSw); have t0 := cE hSw x0; have t1 := cE hSw x1; have t2 := cE hSw x2; have t3 := cE hSw x3; have t4 := cE hSw kb; have t5 := cE hSw ka; (try go_simp); (try with_reducible rfl))
      try simp only [Act.put, s1, s2, s3]
      refine wpAnyH_ready (rs := [10]) (by kernel_rfl) (by simp) ?_
      refine AllReadyH.cons rfl (fun KQ hKQ => ?_) AllReadyH.nil
      go_simp
      refine hKQ.out _ _ ?_ (fun hHeld => ?_)
      ·(try dsimp only); (first | ((with_reducible repeat first | exact kk | apply xa | apply xd); done) | exact Ext.set (by with_reducible repeat first | exact kk | apply xa | apply xd) hbV _)
      clear hKQ KQ
      try simp only [Act.put, s1, s2, s3]
      refine wpAnyH_ready (rs := [11]) (by kernel_rfl) (by simp) ?_
      refine AllReadyH.cons rfl (fun KQ hKQ => ?_) AllReadyH.nil
      go_simp
      refine hKQ.out _ _ ?_ (fun hHeld => ?_)
      ·(try dsimp only); (first | ((with_reducible repeat first | exact kk | apply xa | apply xd); done) | exact Ext.set (by with_reducible repeat first | exact kk | apply xa | apply xd) hbV _)
      clear hKQ KQ
      try simp only [Act.put, s1, s2, s3]
      refine wpAnyH_done (by kernel_rfl) ?_ _
      (go_wp2_with fail; go_meet; (first | exact ⟨_, rfl, rfl, zca hel6 hnu6 kk⟩ | exact ⟨_, rfl, rfl, zcd hel6 hnu6 kk hb hbV⟩))
     case rest =>
      obtain ⟨b22, rfl, rfl, x18, Gs8, As8, cs8, Fs8, hr22, hel8, hnu8, kk12⟩ := hcut
      rename World => V12
      have HST12 := Lib.hid (HST11.out.ext kk12)
      have HFX12 := Lib.hid (HFX11.out.ext kk12)
      have K12 := Lib.hid (K11.out.trans kk12)
      have HTP12 := Lib.hid (HTP11.out.ext kk12)
      have HR20 := Lib.hid (HR20.out.ext kk12)
      have HEL7 := Lib.hid (HEL7.out.ext kk12)
      have HR22 := Lib.hid hr22
      have HEL8 := Lib.hid hel8
      clear hr22 hel8 kk12
      have x0 := HST12.out.x0
      have x1 := HST12.out.x1
      have x2 := HST12.out.x2
      have x3 := HST12.out.x3
      have kb := HST12.out.kb
      have ka := HST12.out.ka
      go_wp2_with fail
      refine (zmc p1 n (some ⟨Mb, 0, none⟩) f r2 acc3 rr3 HST12 HNUM HFX12.out HFL HTP12 hr2l HV3).mono ?_
      rintro ee V13 ⟨x13, Gs3, As3, cs3, Fs3, rfl, hel3, hnu3, _, hon⟩
      have ka14 : Ext V13 (V13.alloc (.cells #[.slice (some ⟨x13, 0, none⟩) 2 2] 62)) := (Ext.refl _).alloc _
      have hst := (HST12.out.onT HTP12.out hon).ext ka14
      have HST14 := Lib.hid hst
      have x0 := hst.x0
      have x1 := hst.x1
      have x2 := hst.x2
      have x3 := hst.x3
      have HFX14 := Lib.hid ((HFX12.out.onT HTP12.out hon).ext ka14)
      have K14 := Lib.hid ((K12.out.on hon hp1w).trans ka14)
      have HR20 := Lib.hid ((HR20.out.onT HTP12.out hon (by decide)).ext ka14)
      have HR22 := Lib.hid ((HR22.out.onT HTP12.out hon (by decide)).ext ka14)
      have HR24 := Lib.hid (zax V13 (.slice (some ⟨x13, 0, none⟩) 2 2))
      have HEL7 := Lib.hid ((HEL7.out.onT HTP12.out hon).ext ka14)
      have HEL8 := Lib.hid ((HEL8.out.onT HTP12.out hon).ext ka14)
      have HEL3 := Lib.hid (hel3.ext ka14)
      have y0 := HR20.out.cell (i := 0) (by omega)
      clear hel3 hon ka14 hst
      go_wp2_with fail
      generalize V13.alloc (.cells #[.slice (some ⟨x13, 0, none⟩) 2 2] 62) = V14 at *
      generalize V13.heap.size = b24 at *
      refine (zl8 x17 f zs9 acc9 rr9 Gs7 As7 cs7 Fs7 HST14 HNUM HFL HV9 HEL7.out hnu7).mono ?_
      rintro ee V15 ⟨Bu, cu, rfl, hfu, k15⟩
      have hst := HST14.out.ext k15
      have HST15 := Lib.hid hst
      have x0 := hst.x0
      have x1 := hst.x1
      have x2 := hst.x2
      have x3 := hst.x3
      have y0 := (HR24.out.ext k15).cell (i := 0) (by omega)
      have HFU := Lib.hid hfu
      have K15 := Lib.hid k15
      clear hfu k15 hst
      go_wp2_with fail
      refine (zl8 x13 f r2 acc3 rr3 Gs3 As3 cs3 Fs3 HST15 HNUM HFL HV3 (HEL3.out.ext K15.out) hnu3).mono ?_
      rintro ee V16 ⟨Bv, cv, rfl, hfv, k16⟩
      have k16b := K15.out.trans k16
      have y0 := (HR20.out.ext k16b).cell (i := 0) (by omega)
      have y1 := (HR22.out.ext k16b).cell (i := 0) (by omega)
      have HFU := Lib.hid (HFU.out.ext k16)
      have HFV := Lib.hid hfv
      have HFX16 := Lib.hid (HFX14.out.ext k16b)
      have K16 := Lib.hid k16b
      clear hfv k16 k16b x0 x1 x2 x3
      go_wp2_with fail
      refine (zow x17 x18 2 L n Gs7 Gs8 As7 As8 cs7 cs8 Fs7 Fs8 V16 (by omega) (by omega) (by omega) (HEL7.out.ext K16.out) (HEL8.out.ext K16.out) (Lib.hid fun k hk j hj i hi => ?_)).mono ?_
      ·rcases (show k = 0 ∨ k = 1 by omega) with rfl | rfl
       ·exact zrd HN0.out.q2 hnu7.out.1 hnu8.out.1 j hj i hi
       ·exact zrn HN0.out.q2 hnu7.out.2 hnu8.out.2 j hj i hi
      rintro ee V17 ⟨rfl, k17⟩
      have K17 := Lib.hid k17
      clear k17 y0 y1
      go_wp2_with fail
      refine (zhq Bu (some ⟨Mb, 0, none⟩) n cu n f f V17 (HFU.out.ext K17.out) (HFX16.out.ext K17.out) (by omega) (Lib.hid fun _ _ => rfl)).mono ?_
      rintro ee V18 ⟨rfl, k18⟩
      have K18 := Lib.hid (K17.out.trans k18)
      clear k18
      go_wp2_with fail
      refine (zhq Bv (some ⟨Mb, 0, none⟩) n cv n f f V18 (HFV.out.ext K18.out) (HFX16.out.ext K18.out) (by omega) (Lib.hid fun _ _ => rfl)).mono ?_
      rintro ee V19 ⟨rfl, k19⟩
      have K19 := Lib.hid (((K14.out.trans K16.out).trans K18.out).trans k19)
      clear k19
      go_wp2
      go_ret
      exact ⟨rfl, K19.out⟩
end Go.Proofs.YtopbibfpjgjalaaGreatDoor
