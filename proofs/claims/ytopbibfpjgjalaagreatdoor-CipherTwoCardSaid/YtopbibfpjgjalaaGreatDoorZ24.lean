import Derived.Test.YtopbibfpjgjalaaGreatDoorZTTrans
import Derived.Deep.RegionLaw
import Derived.Test.YtopbibfpjgjalaaGreatDoorZ13
import Derived.Test.YtopbibfpjgjalaaGreatDoorZ6
import Derived.Test.YtopbibfpjgjalaaGreatDoorZ9
import Derived.Test.YtopbibfpjgjalaaGreatDoorZ8
namespace Go.Proofs.YtopbibfpjgjalaaGreatDoor
open Go.RowKit
set_option linter.unusedVariables false
set_option maxRecDepth 100000
set_option maxHeartbeats 1000000 in
theorem zf2 (p n q k r v : Nat) (a e : Nat → Nat) (gp ge : Nat) (A : Option Addr) (cp : Nat) (f : Nat → Nat) (w : World) (hT : Tb w w.heap.size p n q a e gp ge) (hG : Hid (Good n q k r v a)) (hX : FX w A n cp f) (hf : Hid (∀ i, i < n → f i < q)) :
    Calls Tryz.prog 210 #[.pointer (some ⟨p, 0, none⟩), .slice A n cp] w fun ee w' => ∃ F : Nat → Nat, ee = .returned (.slice (some ⟨w.heap.size, 0, none⟩) n n) ∧ UW w' w.heap.size n F ∧ Hid (∀ i, i < n → F i < q ∧ M (q : Int) (F i : Int) (vals (r : Int) n (fun j => (f j : Int)) i)) ∧ Ext w w' := by
 have HT := Lib.hid hT
 clear hT
 go_enter Tryz.func210, Tryz.ntmps210
 go_wp2_with fail
 refine (zi0 p n q k r v a e gp ge A cp f w HT.out hG hX hf).mono ?_
 rintro ee w1 ⟨F, rfl, hu, hF, k1⟩
 have HF := Lib.hid (show ∀ i, i < n → F i < q ∧ M (q : Int) (F i : Int) (vals (r : Int) n (fun j => (f j : Int)) i) from fun i hi => ⟨(hF.out i hi).1, (hF.out i hi).2.trans (M.of (by
  unfold vals
  refine zat fun j _ => ?_
  rw [show (r : Int) * (r : Int) ^ (2 * i) = (r : Int) ^ (2 * i + 1) by rw [Int.pow_succ, Int.mul_comm], ← Int.pow_mul]))⟩)
 go_wp2
 go_ret
 exact ⟨F, rfl, hu, HF, k1⟩
def Ends (n q v : Nat) (e : Nat → Nat) : Prop := ∃ u : Nat, M (q : Int) ((n : Int) * (u : Int)) 1 ∧ ∀ i, i < n → e i < q ∧ M (q : Int) (e i : Int) ((u : Int) * (v : Int) ^ i)
set_option maxHeartbeats 2000000 in
theorem zfs (p n q k r v : Nat) (a e : Nat → Nat) (gp ge : Nat) (A : Option Addr) (cp : Nat) (f : Nat → Nat) (w : World) (hT : Tb w w.heap.size p n q a e gp ge) (hG : Hid (Good n q k r v a)) (hE : Hid (Ends n q v e)) (hX : FX w A n cp f) (hf : Hid (∀ i, i < n → f i < q)) :
    Calls Tryz.prog 211 #[.pointer (some ⟨p, 0, none⟩), .slice A n cp] w fun ee w' => ∃ F : Nat → Nat, ee = .returned (.slice (some ⟨w.heap.size, 0, none⟩) n n) ∧ UW w' w.heap.size n F ∧ Hid (∀ i, i < n → F i < q ∧ M (q : Int) ((n : Int) * (F i : Int)) (back (v : Int) n (fun j => (f j : Int)) i)) ∧ Ext w w' := by
 have HT := Lib.hid hT
 have t1 := hT.prime
 have t3 := hT.ends
 have hp := hT.hp
 have hge := hT.hge
 have hq0 := hG.out.q0
 have hq1 := hG.out.q1
 have hn2 := zez hG.out.k0 hG.out.k9
 rw [← hG.out.nk] at hn2
 obtain ⟨hn0, hn1⟩ := hn2
 clear hT
 obtain ⟨u, hu1, he⟩ := hE.out
 have HU := Lib.hid hu1
 have HEE := Lib.hid he
 clear hu1 he hE
 go_enter Tryz.func211, Tryz.ntmps211
 go_wp2_with fail
 refine (zgn p n q k r v a e gp ge A cp f w HT.out hG hX hf).mono ?_
 rintro ee w1 ⟨F, rfl, hu, hF, k1⟩
 have t3' := cE k1 t3
 go_wp2_with fail
 clear t3'
 go_loopw [18] (fun i wr => ∃ m : Nat, m ≤ n ∧ i = .int .i64 (m : Int) ∧ UW wr w.heap.size n (fun i => if i < m then F i * e i % q else F i) ∧ Ext w wr) (fun i _ => n - (intOf i).toNat)
 case atStart => exact ⟨0, by omega, rfl, hu.congr fun i _ => by rw [if_neg (by omega)], k1⟩
 case round =>
  obtain ⟨m, hm, rfl, hu2, kr⟩ := hrel
  clear hu
  have hsz := RW.lt hu2
  by_cases hlt : m < n
  ·have hen := HT.out.en
   have c0 := cE kr (hen.by_ hlt)
   have c1 := cE kr (hen.share hlt)
   have t1' := cE kr t1
   have f0 := RW.cell hu2 hlt
   have z0 := RW.frozen hu2 m
   have hFl := (hF.out m hlt).1
   have hel := (HEE.out m hlt).1
   simp only [Nat.lt_irrefl, if_false] at f0
   have HS := Lib.hid (show ∀ i, i < n → (if i = m then F m * e m % q else if i < m then F i * e i % q else F i) = if i < m + 1 then F i * e i % q else F i from fun i _ => by
    by_cases h1 : i = m
    ·subst h1; rw [if_pos rfl, if_pos (by omega)]
    ·rw [if_neg h1]
     by_cases h2 : i < m
     ·rw [if_pos h2, if_pos (by omega)]
     ·rw [if_neg h2, if_neg (by omega)])
   generalize F m = Fm at *
   generalize e m = em at *
   have i0 : (0 : Int) ≤ (m : Int) := by omega
   have i1 : (m : Int) < (n : Int) := by omega
   clear hen
   go_wp2_with fail
   have kV : Ext wr (wr.alloc (Obj.cells #[Value.int IntKind.u64 (em : Int), Value.int IntKind.u64 (shr em q : Int)] 278)) := (Ext.refl wr).alloc _
   have x0 : (wr.alloc (Obj.cells #[Value.int IntKind.u64 (em : Int), Value.int IntKind.u64 (shr em q : Int)] 278)).cell? ⟨wr.heap.size, 0, none⟩ = some (.int .u64 (em : Int)) := by simp
   have x1 : (wr.alloc (Obj.cells #[Value.int IntKind.u64 (em : Int), Value.int IntKind.u64 (shr em q : Int)] 278)).cell? ⟨wr.heap.size, 1, none⟩ = some (.int .u64 (shr em q : Int)) := by simp
   generalize wr.alloc (Obj.cells #[Value.int IntKind.u64 (em : Int), Value.int IntKind.u64 (shr em q : Int)] 278) = V at *
   have v0 := cE kV f0
   have v1 := cE kV t1'
   have zV := za9 kV hsz z0
   have huV := hu2.below (B := 0) kV
   have krV := kr.trans kV
   obtain ⟨X, hX0⟩ : ∃ X, X = wr.heap.size := ⟨_, rfl⟩
   rw [← hX0] at x0 x1 hsz ⊢
   have hXg : X ≠ w.heap.size := by omega
   have hpg : p ≠ w.heap.size := by omega
   clear hX0 f0 z0 t1' c0 c1 kr hu2 kV
   go_region_law (first
       | (go_simp; go_at_call 259; refine (zku Fm em q _ (by omega) hq1 hel (by omega)).mono ?_; rintro e2 w3 ⟨y, HM, hlm, rfl, k3⟩; have k3' := (Ext.refl _).drew.trans k3; have d0 := cE k3' v0; have z3 := za9 k3' (RW.lt huV) zV)
       | fail)
   all_goals
    have hu4 := (UW.below (B := 0) huV k3').set hlt y
    have kr4 := (krV.trans k3').set (p := ⟨w.heap.size, m, none⟩) (Nat.le_refl _) (.int .u64 (y : Int))
    have hu5 := hu4.congr (f' := fun i => if i < m + 1 then F i * e i % q else F i) fun i hi => by rw [HM.out]; exact HS.out i hi
    clear hu4 huV
    go_wp2
    exact ⟨⟨m + 1, by omega, by go_num, hu5, kr4⟩, by simp [intOf]; omega⟩
  ·obtain rfl : m = n := by omega
   have hfin := hu2.congr (f' := fun i => F i * e i % q) fun i hi => by rw [if_pos hi]
   have HF := Lib.hid (show ∀ i, i < m → F i * e i % q < q ∧ M (q : Int) ((m : Int) * ((F i * e i % q : Nat) : Int)) (back (v : Int) m (fun j => (f j : Int)) i) from fun i hi => ⟨Nat.mod_lt _ (by omega), by
    have h1 := (hF.out i hi).2
    have h2 := (HEE.out i hi).2
    refine (M.rfl.mul ((M.nat _).trans ((M.of (Int.natCast_mul _ _)).trans (h1.mul h2)))).trans ?_
    have e1 : back (v : Int) m (fun j => (f j : Int)) i = S m (fun j => (f j : Int) * (1 * (v : Int) ^ (2 * i)) ^ j) * (v : Int) ^ i := by
     unfold back
     rw [zcq]
     refine zat fun j _ => ?_
     rw [Int.one_mul, ← Int.pow_mul, Int.mul_assoc, ← Int.pow_add]
     congr 2
     rw [Nat.add_mul, Nat.one_mul, Nat.mul_right_comm]
    rw [e1]
    generalize S m (fun j => (f j : Int) * (1 * (v : Int) ^ (2 * i)) ^ j) = X at *
    generalize (v : Int) ^ i = Y at *
    have e2 : (m : Int) * (X * ((u : Int) * Y)) = (m : Int) * (u : Int) * (X * Y) := by
     rw [← Int.mul_assoc X, Int.mul_comm X (u : Int), Int.mul_assoc, Int.mul_assoc]
    rw [e2]
    have := HU.out.mul (M.rfl (a := X * Y))
    rwa [Int.one_mul] at this⟩)
   clear hu2
   go_wp2
   go_ret
   exact ⟨_, rfl, hfin, HF, kr⟩
theorem zpx (B p n q : Nat) (a e : Nat → Nat) (gp ge : Nat) (A : Option Addr) (c : Nat) (f : Nat → Nat) (w : World) (hT : Tb w B p n q a e gp ge) (hX : FX w A n c f) (hn : n ≤ 100000) (hq : q < 18446744073709551616) (hf : Hid (∀ i, i < n → f i < q)) :
    Calls Tryz.prog 255 #[.pointer (some ⟨p, 0, none⟩), .slice A n c] w fun ee w' => ee = .returned (.bool true) ∧ w = w' := by
 have t0 := hT.size
 have t1 := hT.prime
 go_enter Tryz.func255, Tryz.ntmps255
 go_wp2
 go_loop [16] (fun i => ∃ m : Nat, m ≤ n ∧ i = .int .i64 (m : Int)) (fun i => n - (intOf i).toNat)
 case atStart => exact ⟨0, by omega, rfl⟩
 case round =>
  obtain ⟨m, hm, rfl⟩ := hrel
  by_cases hlt : m < n
  ·obtain ⟨ad, rfl, hc⟩ := hX.cells (by omega)
   have hcell := hc m hlt
   have hl := hf.out m hlt
   clear hc
   generalize f m = x at *
   go_wp2
   exact ⟨⟨m + 1, by omega, by go_num⟩, by simp [intOf]; omega⟩
  ·go_wp2
   go_ret
   exact ⟨rfl, rfl⟩
set_option maxHeartbeats 1000000 in
theorem zi5 (B p n q g m : Nat) (a e : Nat → Nat) (gp ge : Nat) (A : Nat → Option Addr) (c : Nat → Nat) (f : Nat → Nat → Nat) (w : World) (hT : Tb w B p n q a e gp ge) (hm : m ≤ 1000) (hn0 : 0 < n) (hn : n ≤ 100000) (hq : q < 18446744073709551616)
    (hX : Hid (∀ j, j < m → w.cell? ⟨g, j, none⟩ = some (.slice (A j) n (c j)) ∧ FX w (A j) n (c j) (f j) ∧ ∀ i, i < n → f j i < q)) :
    Calls Tryz.prog 209 #[.pointer (some ⟨p, 0, none⟩), .slice (some ⟨g, 0, none⟩) m m] w fun ee w' => ee = .returned (.int .i64 0) ∧ w = w' := by
 have t0 := hT.size
 have HT := Lib.hid hT
 clear hT
 have hz : ((n : Int) == 0) = false := by simp; omega
 go_enter Tryz.func209, Tryz.ntmps209
 go_wp2
 go_loop [18] (fun i => ∃ k : Nat, k ≤ m ∧ i = .int .i64 (k : Int)) (fun i => m - (intOf i).toNat)
 case atStart => exact ⟨0, by omega, rfl⟩
 case round =>
  obtain ⟨k, hk, rfl⟩ := hrel
  by_cases hlt : k < m
  ·obtain ⟨h1, h2, h3⟩ := hX.out k hlt
   have H3 := Lib.hid h3
   clear h3
   go_wp2_with fail
   refine (zpx B p n q a e gp ge (A k) (c k) (f k) w HT.out h2 hn hq H3).mono ?_
   rintro ee w' ⟨rfl, rfl⟩
   go_wp2
   exact ⟨⟨k + 1, by omega, by go_num⟩, by simp [intOf]; omega⟩
  ·go_wp2
   go_ret
   exact ⟨rfl, rfl⟩
structure Table (w : World) (p n q k r v : Nat) : Prop where
 ex : ∃ (a e : Nat → Nat) (gp ge : Nat), Tb w w.heap.size p n q a e gp ge ∧ Good n q k r v a ∧ Ends n q v e
theorem Table.ext {w w' : World} {p n q k r v : Nat} (h : Table w p n q k r v) (k1 : Ext w w') : Table w' p n q k r v := by
 obtain ⟨a, e, gp, ge, h1, h2, h3⟩ := h.ex
 exact ⟨a, e, gp, ge, h1.ext k1, h2, h3⟩
theorem zt2 {w : World} {A : Option Addr} {n c q : Nat} {f : Nat → Nat} (hX : FX w A n c f) (hf : ∀ i, i < n → f i < q) :
    ∀ j, j < 1 → (w.alloc (.cells #[.slice A n c] 22)).cell? ⟨w.heap.size, j, none⟩ = some (.slice A n c) ∧ FX (w.alloc (.cells #[.slice A n c] 22)) A n c f ∧ ∀ i, i < n → f i < q := fun j hj => by
 obtain rfl : j = 0 := by omega
 exact ⟨by simp, hX.ext ((Ext.refl w).alloc _), hf⟩
set_option maxHeartbeats 1000000 in
theorem z0n (p n q k r v : Nat) (A : Option Addr) (c : Nat) (f : Nat → Nat) (w : World) (hT : Table w p n q k r v) (hX : FX w A n c f) (hf : Hid (∀ i, i < n → f i < q)) :
    Calls Tryz.prog 135 #[.pointer (some ⟨p, 0, none⟩), .slice A n c] w fun ee w' => ∃ (g : Nat) (F : Nat → Nat), ee = .returned (.tuple #[.slice (some ⟨g, 0, none⟩) n n, .int .i64 0]) ∧ UW w' g n F ∧ Hid (∀ i, i < n → F i < q ∧ M (q : Int) (F i : Int) (vals (r : Int) n (fun j => (f j : Int)) i)) ∧ Ext w w' := by
 obtain ⟨a, e, gp, ge, h1, h2, h3⟩ := hT.ex
 have hn2 := zez h2.k0 h2.k9
 rw [← h2.nk] at hn2
 obtain ⟨hn0, hn1⟩ := hn2
 have hq1 := h2.q1
 have H2 := Lib.hid h2
 have HT := Lib.hid h1
 have HX := Lib.hid hX
 have H1 := Lib.hid (zt2 hX hf.out)
 clear h1 h2 h3 hT hX
 go_enter Tryz.func135, Tryz.ntmps135
 go_wp2_with fail
 have kV : Ext w (w.alloc (.cells #[.slice A n c] 22)) := (Ext.refl w).alloc _
 refine (zi5 _ p n q w.heap.size 1 a e gp ge (fun _ => A) (fun _ => c) (fun _ => f) _ (HT.out.ext kV) (by omega) (by omega) (by omega) (by omega) H1).mono ?_
 rintro ee w' ⟨rfl, rfl⟩
 go_wp2_with fail
 refine (zf2 p n q k r v a e gp ge A c f _ (HT.out.ext kV) H2 (HX.out.ext kV) hf).mono ?_
 rintro ee w2 ⟨F, rfl, hu, hF, k2⟩
 rw [show (w.alloc (.cells #[.slice A n c] 22)).heap.size = w.heap.size + 1 by simp] at hu
 go_wp2
 go_ret2
 exact ⟨_, F, rfl, hu, hF, kV.trans k2⟩
theorem zp9 {w : World} {A A' : Option Addr} {n c c' q : Nat} {f f' : Nat → Nat} (hX : FX w A n c f) (hf : ∀ i, i < n → f i < q) (hX' : FX w A' n c' f') (hf' : ∀ i, i < n → f' i < q) :
    ∀ j, j < 2 → (w.alloc (.cells #[.slice A n c, .slice A' n c'] 22)).cell? ⟨w.heap.size, j, none⟩ = some (.slice (if j = 0 then A else A') n (if j = 0 then c else c')) ∧ FX (w.alloc (.cells #[.slice A n c, .slice A' n c'] 22)) (if j = 0 then A else A') n (if j = 0 then c else c') (if j = 0 then f else f') ∧ ∀ i, i < n → (if j = 0 then f else f') i < q := fun j hj => by
 rcases (show j = 0 ∨ j = 1 by omega) with rfl | rfl
 ·exact ⟨by simp, hX.ext ((Ext.refl w).alloc _), hf⟩
 ·exact ⟨by simp, hX'.ext ((Ext.refl w).alloc _), hf'⟩
theorem mul_m (x b q : Nat) (w : World) (hq0 : 0 < q) (hq : q ≤ 2305843009213693952) (hb : b < q) (hx : x < q) :
    Calls Tryz.prog 254 #[.int .u64 (x : Int), .int .u64 (b : Int), .int .u64 (q : Int)] w fun e w' => ∃ m : Nat, Hid (m = x * b % q) ∧ m < q ∧ e = .returned (.int .u64 (m : Int)) ∧ Ext w w' :=
 (mulN x b q w hq0 (by omega) (by omega) (by omega)).mono fun e w' ⟨he, hw⟩ => ⟨_, Lib.hid rfl, Nat.mod_lt _ hq0, he, hw⟩
set_option maxHeartbeats 4000000 in
theorem zwf (p n q k r v : Nat) (A A' : Option Addr) (c c' : Nat) (f f' : Nat → Nat) (w : World) (hT : Table w p n q k r v) (hX : FX w A n c f) (hf : Hid (∀ i, i < n → f i < q)) (hX' : FX w A' n c' f') (hf' : Hid (∀ i, i < n → f' i < q)) :
    Calls Tryz.prog 214 #[.pointer (some ⟨p, 0, none⟩), .slice A n c, .slice A' n c'] w fun ee w' => ∃ (g : Nat) (F : Nat → Nat), ee = .returned (.tuple #[.slice (some ⟨g, 0, none⟩) n n, .int .i64 0]) ∧ UW w' g n F ∧ Hid (∀ i, i < n → F i < q ∧ M (q : Int) ((n : Int) * (F i : Int)) (back (v : Int) n (fun j => vals (r : Int) n (fun j => (f j : Int)) j * vals (r : Int) n (fun j => (f' j : Int)) j) i)) ∧ Ext w w' := by
 obtain ⟨a, e, gp, ge, h1, h2, h3⟩ := hT.ex
 have hn2 := zez h2.k0 h2.k9
 rw [← h2.nk] at hn2
 obtain ⟨hn0, hn1⟩ := hn2
 have hq1 := h2.q1
 have hq0 := h2.q0
 have H2 := Lib.hid h2
 have H3 := Lib.hid h3
 have HT := Lib.hid h1
 have HX := Lib.hid hX
 have HX' := Lib.hid hX'
 have H1 := Lib.hid (zp9 hX hf.out hX' hf'.out)
 clear h1 h2 h3 hT hX hX'
 go_enter Tryz.func214, Tryz.ntmps214
 go_wp2_with fail
 have kV : Ext w (w.alloc (.cells #[.slice A n c, .slice A' n c'] 22)) := (Ext.refl w).alloc _
 refine (zi5 _ p n q w.heap.size 2 a e gp ge (fun j => if j = 0 then A else A') (fun j => if j = 0 then c else c') (fun j => if j = 0 then f else f') _ (HT.out.ext kV) (by omega) (by omega) (by omega) (by omega) H1).mono ?_
 rintro ee w' ⟨rfl, rfl⟩
 clear H1
 go_wp2_with fail
 refine (zf2 p n q k r v a e gp ge A c f _ (HT.out.ext kV) H2 (HX.out.ext kV) hf).mono ?_
 rintro ee w2 ⟨F, rfl, hu, hF, k2⟩
 rw [show (w.alloc (.cells #[.slice A n c, .slice A' n c'] 22)).heap.size = w.heap.size + 1 by simp] at hu
 have kw2 := kV.trans k2
 clear kV k2
 go_wp2_with fail
 refine (zf2 p n q k r v a e gp ge A' c' f' _ (HT.out.ext kw2) H2 (HX'.out.ext kw2) hf').mono ?_
 rintro ee w3 ⟨G, rfl, hv, hG, k3⟩
 have hgs := RW.lt hu
 have hu3 := hu.below (B := 0) k3
 have kw3 := kw2.trans k3
 have hvs := RW.lt hv
 have hne : w2.heap.size ≠ w.heap.size + 1 := by omega
 clear hu kw2 k3
 obtain ⟨g1, hg1⟩ : ∃ g1, g1 = w.heap.size + 1 := ⟨_, rfl⟩
 obtain ⟨g2, hg2⟩ : ∃ g2, g2 = w2.heap.size := ⟨_, rfl⟩
 rw [← hg1] at hu3 hgs hne ⊢
 rw [← hg2] at hv hvs hne hgs ⊢
 have hg1w : w.heap.size ≤ g1 := by omega
 have hg2w : w.heap.size ≤ g2 := by omega
 clear hg1 hg2
 go_wp2_with fail
 go_loopw [27] (fun i wr => ∃ m : Nat, m ≤ n ∧ i = .int .i64 (m : Int) ∧ UW wr g1 n (fun i => if i < m then F i * G i % q else F i) ∧ UW wr g2 n G ∧ Ext w wr) (fun i _ => n - (intOf i).toNat)
 case atStart => exact ⟨0, by omega, rfl, hu3.congr fun i _ => by rw [if_neg (by omega)], hv, kw3⟩
 case round =>
  obtain ⟨m, hm, rfl, hu4, hv4, kr⟩ := hrel
  clear hu3 hv kw3
  have hsz := RW.lt hu4
  by_cases hlt : m < n
  ·have t1 := (HT.out.ext kr).prime
   have hp := (HT.out).hp
   have hp2 := kr.size
   have f0 := RW.cell hu4 hlt
   have z0 := RW.frozen hu4 m
   have e0 := RW.cell hv4 hlt
   have hFl := (hF.out m hlt).1
   have hGl := (hG.out m hlt).1
   simp only [Nat.lt_irrefl, if_false] at f0
   have HS := Lib.hid (show ∀ i, i < n → (if i = m then F m * G m % q else if i < m then F i * G i % q else F i) = if i < m + 1 then F i * G i % q else F i from fun i _ => by
    by_cases h1 : i = m
    ·subst h1; rw [if_pos rfl, if_pos (by omega)]
    ·rw [if_neg h1]
     by_cases h2 : i < m
     ·rw [if_pos h2, if_pos (by omega)]
     ·rw [if_neg h2, if_neg (by omega)])
   generalize F m = Fm at *
   generalize G m = Gm at *
   have i0 : (0 : Int) ≤ (m : Int) := by omega
   have i1 : (m : Int) < (n : Int) := by omega
   have hpg : p ≠ g1 := by omega
   go_wp2_with fail
   go_region_law (first
       | (go_simp; go_at_call 254; refine (mul_m Fm Gm q _ (by omega) hq1 hGl hFl).mono ?_; rintro e2 w5 ⟨y, HM, hlm, rfl, k5⟩; have k5' := (Ext.refl _).drew.trans k5; have d0 := cE k5' f0; have z3 := za9 k5' hsz z0)
       | fail)
   all_goals
    have hu5 := (UW.below (B := 0) hu4 k5').set hlt y
    have hv5 := UW.below (B := 0) hv4 k5'
    have hv6 : UW (w5.setCell ⟨g1, m, none⟩ (.int .u64 (y : Int))) g2 n G := RW.keep hv5 (Below.heap_setCell _ _ _ _ (fun e => hne e))
    have kr5 := (kr.trans k5').set (p := ⟨g1, m, none⟩) hg1w (.int .u64 (y : Int))
    have hu6 := hu5.congr (f' := fun i => if i < m + 1 then F i * G i % q else F i) fun i hi => by rw [HM.out]; exact HS.out i hi
    clear hu5 hu4 hv4 hv5
    go_wp2
    exact ⟨⟨m + 1, by omega, by go_num, hu6, hv6, kr5⟩, by simp [intOf]; omega⟩
  ·obtain rfl : m = n := by omega
   have hfin := hu4.congr (f' := fun i => F i * G i % q) fun i hi => by rw [if_pos hi]
   have HL := Lib.hid (show ∀ i, i < m → F i * G i % q < q from fun i _ => Nat.mod_lt _ (by omega))
   clear hu4 hv4
   go_wp2_with fail
   refine (zfs p m q k r v a e gp ge (some ⟨g1, 0, none⟩) m _ _ (HT.out.ext kr) H2 H3 hfin.fx HL).mono ?_
   rintro ee w6 ⟨R, rfl, hr6, hR, k6⟩
   have HR := Lib.hid (show ∀ i, i < m → R i < q ∧ M (q : Int) ((m : Int) * (R i : Int)) (back (v : Int) m (fun j => vals (r : Int) m (fun j => (f j : Int)) j * vals (r : Int) m (fun j => (f' j : Int)) j) i) from fun i hi => ⟨(hR.out i hi).1, (hR.out i hi).2.trans (S_M fun j hj => M.mul ((M.nat _).trans ((M.of (Int.natCast_mul _ _)).trans ((hF.out j hj).2.mul (hG.out j hj).2))) M.rfl)⟩)
   go_wp2
   go_ret2
   exact ⟨_, R, rfl, hr6, HR, kr.trans k6⟩
structure Fit (n q k : Nat) : Prop where
 nk : n = 2 ^ k
 k0 : 1 ≤ k
 k9 : k ≤ 9
 q1 : q < 2305843009213693952
 step : stepS (2 * n) = true
 one : q % (2 * n) = 1
 is_ : isS q = true
 sq : ∃ x, x < q ∧ noSq q x = true
def rootS (q n x : Nat) : Nat := lr q (x ^ ((q - 1) / n) % q * (x ^ ((q - 1) / n) % q) % q) (n / 2 - 1) (x ^ ((q - 1) / n) % q) (x ^ ((q - 1) / n) % q)
theorem zr2 {q : Nat} (hq : 2 ≤ q) : M (q : Int) ((q - 1 : Nat) : Int) (-1) := by
 unfold M
 rw [show ((q - 1 : Nat) : Int) = -1 + (q : Int) by omega, Int.add_emod_right]
theorem zvp {q x : Nat} (h : First q x) (hs : ∃ x, x < q ∧ noSq q x = true) : noSq q x = true := by
 rcases h with h | h
 ·exact h.2.1
 ·obtain ⟨y, hy, he⟩ := hs
  rw [h.2 y hy] at he; cases he
theorem Fit.good {n q k x : Nat} (h : Fit n q k) (hx : First q x) (a : Nat → Nat) (ha : ∀ i, a i = 1 * rootS q (2 * n) x ^ i % q) : rootS q (2 * n) x < q ∧ Good n q k (rootS q (2 * n) x) (a (2 * n - 1)) a := by
 have hq2 := zgu h.is_
 obtain ⟨r1, r2⟩ := zsm hq2 h.step h.one (zvp hx h.sq)
 rw [show 2 * n / 2 = n by omega] at r2
 have hr : M (q : Int) ((rootS q (2 * n) x : Int) ^ n) (-1) := by
  have h1 := (M.pow_nat (q := q) (rootS q (2 * n) x) n).symm
  refine h1.trans ?_
  rw [show rootS q (2 * n) x ^ n % q = q - 1 by unfold rootS; rw [show 2 * n / 2 - 1 = n - 1 by omega]; exact r2]
  exact zr2 hq2
 have hn0 : 0 < n := by rw [h.nk]; exact Nat.two_pow_pos k
 refine ⟨by unfold rootS; exact r1, ?_⟩
 generalize rootS q (2 * n) x = r at *
 have hv1 : M (q : Int) (a (2 * n - 1) : Int) ((r : Int) ^ (2 * n - 1)) := by
  rw [ha, Nat.one_mul]; exact M.pow_nat _ _
 have hone : M (q : Int) ((r : Int) ^ (2 * n)) 1 := by
  rw [Nat.mul_comm, Int.pow_mul]
  exact (hr.pow 2).trans (M.of rfl)
 refine ⟨h.nk, h.k0, h.k9, hq2, by have := h.q1; omega, hr, ?_, ?_, fun i _ => by rw [ha, Nat.one_mul]⟩
 ·refine (hv1.pow n).trans ?_
  rw [← Int.pow_mul, Nat.mul_comm, Int.pow_mul]
  exact (hr.pow (2 * n - 1)).trans (M.of (zfk (by omega)))
 ·refine (M.rfl.mul hv1).trans ?_
  rw [Int.mul_comm, ← Int.pow_succ, show (2 * n - 1).succ = 2 * n by omega]
  exact hone
theorem zq3 {n q : Nat} (h : q % (2 * n) = 1) : Nat.gcd n q = 1 := by
 have h1 := Nat.div_add_mod q (2 * n)
 rw [h] at h1
 have h2 : Nat.gcd n q ∣ q := Nat.gcd_dvd_right n q
 have h3 : Nat.gcd n q ∣ n := Nat.gcd_dvd_left n q
 have h4 : Nat.gcd n q ∣ 2 * n * (q / (2 * n)) := Nat.dvd_trans h3 (Nat.dvd_trans (Nat.dvd_mul_left n 2) (Nat.dvd_mul_right _ _))
 have h5 : Nat.gcd n q ∣ 1 := (Nat.dvd_add_right h4).1 (by rw [h1]; exact h2)
 exact Nat.dvd_one.1 h5
theorem rootN (q n : Nat) (w : World) (hq : q < 18446744073709551616) (hn : n ≤ 8192) (hT : Tabs w) (hs : stepS n = true) (h1 : q % n = 1) (hi : isS q = true) :
    Calls Tryz.prog 205 #[.int .u64 (q : Int), .int .u64 (n : Int)] w fun e w' => ∃ x, First q x ∧ e = .returned (.tuple #[.int .u64 ((rootS q n x : Nat) : Int), .int .i64 0]) ∧ Ext w w' := by
 refine (zm3 q n w hq (by omega) hT).mono ?_
 rintro e w' (⟨h, _⟩ | ⟨_, _, _, x, hx, he, hw⟩)
 ·rcases h with h | h | h
  ·rw [hs] at h; cases h
  ·exact absurd h1 h
  ·rw [hi] at h; cases h
 ·exact ⟨x, hx, he, hw⟩
set_option maxHeartbeats 4000000 in
theorem zy3 (n q k : Nat) (w : World) (hF : Hid (Fit n q k)) (hT : Tabs w) :
    Calls Tryz.prog 133 #[.int .i64 (n : Int), .int .u64 (q : Int)] w fun ee w' => ∃ p r v x : Nat, First q x ∧ Hid (r = rootS q (2 * n) x) ∧ ee = .returned (.tuple #[.pointer (some ⟨p, 0, none⟩), .int .i64 0]) ∧ Table w' p n q k r v ∧ Ext w w' := by
 have hn2 := zez hF.out.k0 hF.out.k9
 rw [← hF.out.nk] at hn2
 obtain ⟨hn0, hn1⟩ := hn2
 have hq1 := hF.out.q1
 have hq2 := zgu hF.out.is_
 have HT := Lib.hid hT
 clear hT
 go_enter Tryz.func133, Tryz.ntmps133
 go_wp2_with fail
 have hR := rootN q (2 * n) w (by omega) (by omega) HT.out hF.out.step hF.out.one hF.out.is_
 rw [show ((2 * n : Nat) : Int) = 2 * (n : Int) by omega] at hR
 refine hR.mono ?_
 clear hR
 rintro ee w1 ⟨x, hx, rfl, k1⟩
 have hg := hF.out.good hx (fun i => 1 * rootS q (2 * n) x ^ i % q) (fun _ => rfl)
 obtain ⟨hr, hgood⟩ := hg
 have HG := Lib.hid hgood
 have HR := Lib.hid (show rootS q (2 * n) x = rootS q (2 * n) x from rfl)
 clear hgood
 obtain ⟨r, hrd⟩ : ∃ r, r = rootS q (2 * n) x := ⟨_, rfl⟩
 rw [← hrd] at hr HG ⊢
 have HRD := Lib.hid hrd
 clear hrd HR
 go_wp2_with fail
 have hP := zbf 1 r q (2 * n) w1 (by omega) (by omega) hr (by omega)
 rw [show ((2 * n : Nat) : Int) = 2 * (n : Int) by omega, show ((1 : Nat) : Int) = 1 from rfl] at hP
 refine hP.mono ?_
 clear hP
 rintro ee w2 ⟨rfl, hpw, k2⟩
 go_wp2_with fail
 refine (zk5 n q _ (by omega) (by omega)).mono ?_
 rintro ee w3 ⟨u, ok, m, hok, rfl, rfl⟩
 have hok2 : 0 ≤ u ∧ u < q ∧ ((n : Int) * u) % (q : Int) = 1 := by
  rcases hok with ⟨_, _, _, h3, h4, h5⟩ | ⟨h, _⟩
  ·exact ⟨h3, h4, h5⟩
  ·have := zq3 hF.out.one
   rcases h with h | h
   ·omega
   ·exact absurd this h
 obtain ⟨u0, u1, hu⟩ := hok2
 obtain ⟨u, rfl⟩ := Int.eq_ofNat_of_zero_le u0
 have HU := Lib.hid hu
 clear hu hok
 have hpw3 : FC (w2.drewN m) w1.heap.size (2 * n) q (fun i => 1 * r ^ i % q) := hpw
 have c0 := hpw3.by_ (i := 2 * n - 1) (by omega)
 have hvl : 1 * r ^ (2 * n - 1) % q < q := Nat.mod_lt _ (by omega)
 obtain ⟨v, hvd⟩ : ∃ v, v = 1 * r ^ (2 * n - 1) % q := ⟨_, rfl⟩
 obtain ⟨j, hj⟩ : ∃ j, j = 2 * n - 1 := ⟨_, rfl⟩
 have hj2 : 2 * (n : Int) - 1 = (j : Int) := by omega
 have c1 : (w2.drewN m).cell? ⟨w1.heap.size, j * 2, none⟩ = some (.int .u64 (v : Int)) := by rw [hj, hvd]; exact c0
 have hvl2 : v < q := by rw [hvd]; exact hvl
 have HG2 : Hid (Good n q k r v (fun i => 1 * r ^ i % q)) := Lib.hid (by rw [hvd]; exact HG.out)
 have hjl : j < 2 * n := by omega
 clear c0 hvl hj hvd HG
 have i0 : (0 : Int) ≤ (j : Int) := by omega
 have i1 : (j : Int) < 2 * (n : Int) := by omega
 go_wp2_with fail
 refine (zbf u v q n _ (by omega) (by omega) hvl2 (by omega)).mono ?_
 rintro ee w4 ⟨rfl, hen, k4⟩
 have kw : Ext w w4 := k1.trans (k2.trans (((Ext.refl w2).drewN m).trans k4))
 have hpw4 := RW.ext hpw3 k4
 have hb1 := RW.lt hpw4
 have hb2 := RW.lt hen
 have HEN := Lib.hid (show Ends n q v (fun i => u * v ^ i % q) from ⟨u, by
  have := HU.out
  unfold M; rw [this]; exact (Int.emod_eq_of_lt (by omega) (by omega)).symm, fun i _ => ⟨Nat.mod_lt _ (by omega), by
  refine (M.nat _).trans (M.of ?_); rw [Int.natCast_mul, Int.natCast_pow]⟩⟩)
 go_wp2
 go_ret2
 have kV := kw.alloc (Obj.cells #[Value.int IntKind.i64 (n : Int), Value.int IntKind.u64 (q : Int), Value.slice (some ⟨w1.heap.size, 0, none⟩) (2 * n) (2 * n), Value.slice (some ⟨(w2.drewN m).heap.size, 0, none⟩) n n] 280)
 refine ⟨w4.heap.size, r, v, x, hx, HRD, rfl, ⟨_, _, w1.heap.size, (w2.drewN m).heap.size, ⟨by simp, by simp; omega, by simp; exact Nat.lt_succ_of_lt hb2, by simp, by simp, by simp, by simp, RW.ext hpw4 ((Ext.refl w4).alloc _), RW.ext hen ((Ext.refl w4).alloc _)⟩, HG2.out, HEN.out⟩, kV⟩
def zhj (n a : Nat) : Bool := (fun x => cond (Nat.beq x 1) true (hit n (tzS n) x)) (pm n a 64 (oddS n))
def isP (n : Nat) : Bool := cond (Nat.blt n 2) false (zbv n L12 (L12.all (zhj n)))
theorem zji {n : Nat} (h0 : 2 ≤ n) (h : n < 18446744073709551616) : isS n = isP n := by
 have e : ∀ a, zao n a = zhj n a := fun a => by
  unfold zao zhj
  rw [pm_eq n a 64 (oddS n) (zxg h0 h).1]
 unfold isS isP
 rw [show zao n = zhj n from funext e]
theorem zxy {q x : Nat} (h : q < 18446744073709551616) (e : Nat.beq (pm q x 64 ((q - 1) / 2)) (q - 1) = true) : noSq q x = true := by
 unfold noSq
 rw [← pm_eq q x 64 ((q - 1) / 2) (by omega)]
 exact decide_eq_true (Nat.eq_of_beq_eq_true e)
set_option maxHeartbeats 1000000 in
theorem zhq (A A' : Option Addr) (n c c' : Nat) (f f' : Nat → Nat) (w : World) (hX : FX w A n c f) (hX' : FX w A' n c' f') (hn : n ≤ 100000) (he : Hid (∀ i, i < n → f i = f' i)) :
    Calls Tryz.prog 29 #[.slice A n c, .slice A' n c'] w fun ee w' => ee = .returned (.bool true) ∧ Ext w w' := by
 go_enter Tryz.func29, Tryz.ntmps29
 go_wp2
 go_loopw [13] (fun i wr => ∃ m d : Nat, m ≤ n ∧ i = .int .i64 (m : Int) ∧ wr = w.drewN d) (fun i _ => n - (intOf i).toNat)
 case atStart => exact ⟨0, 0, by omega, rfl, rfl⟩
 case round =>
  obtain ⟨m, d, hm, rfl, rfl⟩ := hrel
  by_cases hlt : m < n
  ·obtain ⟨ad, rfl, hc⟩ := hX.cells (by omega)
   obtain ⟨ad', rfl, hc'⟩ := hX'.cells (by omega)
   have h1 := hc m hlt
   have h2 := hc' m hlt
   rw [← he.out m hlt] at h2
   clear hc hc'
   generalize f m = x at *
   have i0 : (0 : Int) ≤ (m : Int) := by omega
   have i1 : (m : Int) < (n : Int) := by omega
   go_wp2
   go_quiet (fail)
   go_wp2
   exact ⟨⟨m + 1, _, by omega, by go_num, rfl⟩, by simp [intOf]; omega⟩
  ·go_wp2
   go_ret
   exact ⟨rfl, (Ext.refl w).drewN d⟩
theorem z0p {q n u : Nat} (hu : M (q : Int) ((n : Int) * (u : Int)) 1) {x y : Int} (h : M (q : Int) ((n : Int) * x) ((n : Int) * y)) : M (q : Int) x y := by
 have one : ∀ z : Int, M (q : Int) ((n : Int) * z * (u : Int)) z := fun z => by
  rw [zh2]
  have := hu.mul (M.rfl (a := z))
  rwa [Int.one_mul] at this
 exact (one x).symm.trans ((h.mul M.rfl).trans (one y))
theorem Table.unit {w : World} {p n q k r v : Nat} (h : Table w p n q k r v) : ∃ u : Nat, M (q : Int) ((n : Int) * (u : Int)) 1 := by
 obtain ⟨_, e, _, _, _, _, u, hu, _⟩ := h.ex
 exact ⟨u, hu⟩
structure Root (n q k r v : Nat) : Prop where
 nk : n = 2 ^ k
 q0 : 2 ≤ q
 q1 : q ≤ 2305843009213693952
 n0 : 2 ≤ n
 n1 : n ≤ 512
 hr : M (q : Int) ((r : Int) ^ (2 ^ k)) (-1)
 hv : M (q : Int) ((v : Int) ^ (2 ^ k)) (-1)
 rv : M (q : Int) ((r : Int) * (v : Int)) 1
theorem Table.root {w : World} {p n q k r v : Nat} (h : Table w p n q k r v) : Root n q k r v := by
 obtain ⟨a, e, _, _, _, g, _⟩ := h.ex
 have h2 := zez g.k0 g.k9
 rw [← g.nk] at h2
 exact ⟨g.nk, g.q0, g.q1, h2.1, h2.2, by rw [← g.nk]; exact g.hr, by rw [← g.nk]; exact g.hv, g.rv⟩
theorem Root.backVals {n q k r v : Nat} (h : Root n q k r v) (a : Nat → Int) {i : Nat} (hi : i < n) : M (q : Int) (back (v : Int) n (vals (r : Int) n a) i) ((n : Int) * a i) := by
 have e := h.nk
 subst e
 exact zfg h.hr h.hv h.rv a hi
theorem Root.valsNega {n q k r v : Nat} (h : Root n q k r v) (a b : Nat → Int) (j : Nat) : M (q : Int) (vals (r : Int) n (nega n a b) j) (vals (r : Int) n a j * vals (r : Int) n b j) :=
 zc4 (by rw [h.nk]; exact h.hr) a b j
theorem z2w {q r : Int} {n : Nat} {a b : Nat → Int} (h : ∀ i, i < n → M q (a i) (b i)) (j : Nat) : M q (back r n a j) (back r n b j) := S_M fun i hi => (h i hi).mul M.rfl
theorem zt5 (p n q k r v : Nat) (A A' : Option Addr) (c c' : Nat) (f f' : Nat → Nat) (w : World) (hT : Table w p n q k r v) (hX : FX w A n c f) (hf : Hid (∀ i, i < n → f i < q)) (hX' : FX w A' n c' f') (hf' : Hid (∀ i, i < n → f' i < q)) :
    Calls Tryz.prog 214 #[.pointer (some ⟨p, 0, none⟩), .slice A n c, .slice A' n c'] w fun ee w' => ∃ (g : Nat) (F : Nat → Nat), ee = .returned (.tuple #[.slice (some ⟨g, 0, none⟩) n n, .int .i64 0]) ∧ UW w' g n F ∧ Hid (∀ i, i < n → F i < q ∧ M (q : Int) (F i : Int) (nega n (fun j => (f j : Int)) (fun j => (f' j : Int)) i)) ∧ Ext w w' := by
 refine (zwf p n q k r v A A' c c' f f' w hT hX hf hX' hf').mono ?_
 rintro ee w' ⟨g, F, he, hu, hF, hk⟩
 obtain ⟨u, hun⟩ := hT.unit
 refine ⟨g, F, he, hu, Lib.hid fun i hi => ⟨(hF.out i hi).1, z0p hun ?_⟩, hk⟩
 refine (hF.out i hi).2.trans ?_
 refine (z2w (fun j _ => (hT.root.valsNega _ _ j).symm) i).trans ?_
 exact hT.root.backVals _ hi
def FitP (n : Int) (q : Nat) : Prop := 2 ≤ n ∧ q < 2305843009213693952 ∧ stepS (2 * n.toNat) = true ∧ q % (2 * n.toNat) = 1 ∧ isS q = true
theorem z21 : ∀ n, n < 33 → 2 ≤ n → stepS (2 * n) = true → n = 2 ∨ n = 4 ∨ n = 8 ∨ n = 16 ∨ n = 32 := by decide +kernel
theorem zvb : ∀ n, n < 33 → 2 ≤ n → stepS (2 * n) = stepS n := by decide +kernel
theorem fit_k {n : Nat} (h : n ≤ 32) (h2 : 2 ≤ n) (hs : stepS (2 * n) = true) : ∃ k, 1 ≤ k ∧ k ≤ 9 ∧ n = 2 ^ k := by
 rcases z21 n (by omega) h2 hs with rfl | rfl | rfl | rfl | rfl
 ·exact ⟨1, by omega, by omega, rfl⟩
 ·exact ⟨2, by omega, by omega, rfl⟩
 ·exact ⟨3, by omega, by omega, rfl⟩
 ·exact ⟨4, by omega, by omega, rfl⟩
 ·exact ⟨5, by omega, by omega, rfl⟩
structure Tab (w : World) (p n q : Nat) (a e : Nat → Nat) : Prop where
 n0 : 2 ≤ n
 n1 : n ≤ 32
 q0 : 2 ≤ q
 q1 : q < 2305843009213693952
 nk : ∃ k, 1 ≤ k ∧ k ≤ 9 ∧ n = 2 ^ k
 al : ∀ i, i < 2 * n → a i < q
 el : ∀ i, i < n → e i < q
 tb : ∃ gp ge, Tb w w.heap.size p n q a e gp ge
 root : (∃ x, x < q ∧ noSq q x = true) → ∃ k r v, Table w p n q k r v
theorem Tab.ext {w w' : World} {p n q : Nat} {a e : Nat → Nat} (h : Tab w p n q a e) (k : Ext w w') : Tab w' p n q a e :=
 ⟨h.n0, h.n1, h.q0, h.q1, h.nk, h.al, h.el, by obtain ⟨gp, ge, ht⟩ := h.tb; exact ⟨gp, ge, ht.ext k⟩, fun hs => by obtain ⟨k', r, v, ht⟩ := h.root hs; exact ⟨k', r, v, ht.ext k⟩⟩
theorem lr_lt {q sq : Nat} (hq : 0 < q) : ∀ k r l, l < q → lr q sq k r l < q
 | 0, _, l, h => h
 | k + 1, r, l, h => by rw [lr]; exact lr_lt hq k _ _ (by have := Nat.mod_lt (r * sq) hq; omega)
theorem zv0 {q n x : Nat} (hq : 0 < q) : rootS q n x < q := by unfold rootS; exact lr_lt hq _ _ _ (Nat.mod_lt _ hq)
set_option maxHeartbeats 4000000 in
theorem zv1 (n q : Nat) (w : World) (hn0 : 2 ≤ n) (hn1 : n ≤ 32) (hq1 : q < 2305843009213693952) (hs : Hid (stepS (2 * n) = true)) (ho : Hid (q % (2 * n) = 1)) (hi : Hid (isS q = true)) (hT : Tabs w) :
    Calls Tryz.prog 133 #[.int .i64 (n : Int), .int .u64 (q : Int)] w fun ee w' => ∃ (p : Nat) (a e : Nat → Nat), ee = .returned (.tuple #[.pointer (some ⟨p, 0, none⟩), .int .i64 0]) ∧ Tab w' p n q a e ∧ Ext w w' := by
 have hq2 := zgu hi.out
 obtain ⟨k, hk0, hk9, hk⟩ := fit_k hn1 hn0 hs.out
 have HK := Lib.hid hk
 clear hk
 have hF : (∃ x, x < q ∧ noSq q x = true) → Fit n q k := fun h => ⟨HK.out, hk0, hk9, hq1, hs.out, ho.out, hi.out, h⟩
 have HF := Lib.hid hF
 have HT := Lib.hid hT
 clear hT hF
 go_enter Tryz.func133, Tryz.ntmps133
 go_wp2_with fail
 have hR := rootN q (2 * n) w (by omega) (by omega) HT.out hs.out ho.out hi.out
 rw [show ((2 * n : Nat) : Int) = 2 * (n : Int) by omega] at hR
 refine hR.mono ?_
 clear hR
 rintro ee w1 ⟨x, hx, rfl, k1⟩
 have HG0 := Lib.hid (show (∃ x, x < q ∧ noSq q x = true) → Good n q k (rootS q (2 * n) x) (1 * rootS q (2 * n) x ^ (2 * n - 1) % q) (fun i => 1 * rootS q (2 * n) x ^ i % q) from fun h => ((HF.out h).good hx (fun i => 1 * rootS q (2 * n) x ^ i % q) (fun _ => rfl)).2)
 have hr : rootS q (2 * n) x < q := zv0 (by omega)
 obtain ⟨r, hrd⟩ : ∃ r, r = rootS q (2 * n) x := ⟨_, rfl⟩
 rw [← hrd] at hr HG0 ⊢
 clear hrd hx
 go_wp2_with fail
 have hP := zbf 1 r q (2 * n) w1 (by omega) (by omega) hr (by omega)
 rw [show ((2 * n : Nat) : Int) = 2 * (n : Int) by omega, show ((1 : Nat) : Int) = 1 from rfl] at hP
 refine hP.mono ?_
 clear hP
 rintro ee w2 ⟨rfl, hpw, k2⟩
 go_wp2_with fail
 refine (zk5 n q _ (by omega) (by omega)).mono ?_
 rintro ee w3 ⟨u, ok, m, hok, rfl, rfl⟩
 have hok2 : 0 ≤ u ∧ u < q ∧ ((n : Int) * u) % (q : Int) = 1 := by
  rcases hok with ⟨_, _, _, h3, h4, h5⟩ | ⟨h, _⟩
  ·exact ⟨h3, h4, h5⟩
  ·have := zq3 ho.out
   rcases h with h | h
   ·omega
   ·exact absurd this h
 obtain ⟨u0, u1, hu⟩ := hok2
 obtain ⟨u, rfl⟩ := Int.eq_ofNat_of_zero_le u0
 have HU := Lib.hid hu
 clear hu hok
 have hpw3 : FC (w2.drewN m) w1.heap.size (2 * n) q (fun i => 1 * r ^ i % q) := hpw
 have c0 := hpw3.by_ (i := 2 * n - 1) (by omega)
 have hvl : 1 * r ^ (2 * n - 1) % q < q := Nat.mod_lt _ (by omega)
 obtain ⟨v, hvd⟩ : ∃ v, v = 1 * r ^ (2 * n - 1) % q := ⟨_, rfl⟩
 obtain ⟨j, hj⟩ : ∃ j, j = 2 * n - 1 := ⟨_, rfl⟩
 have hj2 : 2 * (n : Int) - 1 = (j : Int) := by omega
 have c1 : (w2.drewN m).cell? ⟨w1.heap.size, j * 2, none⟩ = some (.int .u64 (v : Int)) := by rw [hj, hvd]; exact c0
 have hvl2 : v < q := by rw [hvd]; exact hvl
 have HG2 : Hid ((∃ x, x < q ∧ noSq q x = true) → Good n q k r v (fun i => 1 * r ^ i % q)) := Lib.hid (by rw [hvd]; exact HG0.out)
 have hjl : j < 2 * n := by omega
 clear c0 hvl hj hvd HG0
 have i0 : (0 : Int) ≤ (j : Int) := by omega
 have i1 : (j : Int) < 2 * (n : Int) := by omega
 go_wp2_with fail
 refine (zbf u v q n _ (by omega) (by omega) hvl2 (by omega)).mono ?_
 rintro ee w4 ⟨rfl, hen, k4⟩
 have kw : Ext w w4 := k1.trans (k2.trans (((Ext.refl w2).drewN m).trans k4))
 have hpw4 := RW.ext hpw3 k4
 have hb1 := RW.lt hpw4
 have hb2 := RW.lt hen
 have HEN := Lib.hid (show Ends n q v (fun i => u * v ^ i % q) from ⟨u, by
  have := HU.out
  unfold M; rw [this]; exact (Int.emod_eq_of_lt (by omega) (by omega)).symm, fun i _ => ⟨Nat.mod_lt _ (by omega), by
  refine (M.nat _).trans (M.of ?_); rw [Int.natCast_mul, Int.natCast_pow]⟩⟩)
 go_wp2
 go_ret2
 have hen2 : FC w4 w2.heap.size n q (fun i => u * v ^ i % q) := hen
 have hb3 : w2.heap.size < w4.heap.size := hb2
 have kV := kw.alloc (Obj.cells #[Value.int IntKind.i64 (n : Int), Value.int IntKind.u64 (q : Int), Value.slice (some ⟨w1.heap.size, 0, none⟩) (2 * n) (2 * n), Value.slice (some ⟨w2.heap.size, 0, none⟩) n n] 280)
 have hsz : (w4.alloc (Obj.cells #[Value.int IntKind.i64 (n : Int), Value.int IntKind.u64 (q : Int), Value.slice (some ⟨w1.heap.size, 0, none⟩) (2 * n) (2 * n), Value.slice (some ⟨w2.heap.size, 0, none⟩) n n] 280)).heap.size = w4.heap.size + 1 := by simp
 have hTb : Tb (w4.alloc (Obj.cells #[Value.int IntKind.i64 (n : Int), Value.int IntKind.u64 (q : Int), Value.slice (some ⟨w1.heap.size, 0, none⟩) (2 * n) (2 * n), Value.slice (some ⟨w2.heap.size, 0, none⟩) n n] 280)) (w4.alloc (Obj.cells #[Value.int IntKind.i64 (n : Int), Value.int IntKind.u64 (q : Int), Value.slice (some ⟨w1.heap.size, 0, none⟩) (2 * n) (2 * n), Value.slice (some ⟨w2.heap.size, 0, none⟩) n n] 280)).heap.size w4.heap.size n q (fun i => 1 * r ^ i % q) (fun i => u * v ^ i % q) w1.heap.size w2.heap.size := ⟨by rw [hsz]; omega, by rw [hsz]; omega, by rw [hsz]; omega, by simp, by simp, by simp, by simp, RW.ext hpw4 ((Ext.refl w4).alloc _), RW.ext hen2 ((Ext.refl w4).alloc _)⟩
 exact ⟨w4.heap.size, (fun i => 1 * r ^ i % q), (fun i => u * v ^ i % q), rfl, ⟨hn0, hn1, hq2, hq1, ⟨k, hk0, hk9, HK.out⟩, fun i _ => Nat.mod_lt _ (by omega), fun i _ => Nat.mod_lt _ (by omega), ⟨_, _, hTb⟩, fun h => ⟨k, r, v, ⟨_, _, _, _, hTb, HG2.out h, HEN.out⟩⟩⟩, kV⟩
theorem zse (n : Int) (q : Nat) (w : World) (h0 : -9223372036854775808 ≤ n) (hn1 : n ≤ 32) (hq : q < 18446744073709551616) (hno : ¬ FitP n q) (hT : Tabs w) :
    Calls Tryz.prog 133 #[.int .i64 n, .int .u64 (q : Int)] w fun ee w' => ee = .returned (.tuple #[.pointer none, .int .i64 1]) ∧ Ext w w' := by
 have HT := Lib.hid hT
 clear hT
 have HN := Lib.hid hno
 clear hno
 by_cases g0 : n < 2
 ·go_enter Tryz.func133, Tryz.ntmps133
  go_wp2
  go_ret2
  exact ⟨rfl, Ext.refl _⟩
 by_cases g1 : 2305843009213693952 ≤ q
 ·go_enter Tryz.func133, Tryz.ntmps133
  go_wp2
  go_ret2
  exact ⟨rfl, Ext.refl _⟩
 obtain ⟨m, rfl⟩ := Int.eq_ofNat_of_zero_le (show 0 ≤ n by omega)
 go_enter Tryz.func133, Tryz.ntmps133
 go_wp2_with fail
 have hR := zm3 q (2 * m) w (by omega) (by omega) HT.out
 rw [show ((2 * m : Nat) : Int) = 2 * (m : Int) by omega] at hR
 refine hR.mono ?_
 clear hR
 rintro ee w1 (⟨_, rfl, k1⟩ | ⟨h1, h2, h3, _⟩)
 ·go_wp2
  go_ret2
  exact ⟨rfl, k1⟩
 ·exact absurd ⟨by omega, by omega, h1, h2, h3⟩ HN.out
theorem FX.cut {w : World} {A : Option Addr} {n c : Nat} {f : Nat → Nat} (h : FX w A n c f) {m : Nat} (hm : m ≤ n) : FX w A m c f :=
 ⟨Nat.le_trans hm h.room, fun h0 => by
  obtain ⟨ad, e, hc⟩ := h.cells (by omega)
  exact ⟨ad, e, fun j hj => hc j (by omega)⟩⟩
def fldF (q p : Nat → Nat) (i : Nat) : Value := if i % 2 = 0 then .int .u64 (q (i / 2) : Int) else .pointer (some ⟨p (i / 2), 0, none⟩)
def FR (w : World) (g L : Nat) (q p : Nat → Nat) : Prop := RW w g 193 (L * 2) (fldF q p)
theorem FR.prime {w : World} {g L : Nat} {q p : Nat → Nat} (h : FR w g L q p) {i : Nat} (hi : i < L) : w.cell? ⟨g, i * 2, none⟩ = some (.int .u64 (q i : Int)) := by
 rw [RW.cell h (by omega), fldF, if_pos (by omega), Nat.mul_div_cancel _ (by omega)]
theorem FR.table {w : World} {g L : Nat} {q p : Nat → Nat} (h : FR w g L q p) {i : Nat} (hi : i < L) : w.cell? ⟨g, i * 2 + 1, none⟩ = some (.pointer (some ⟨p i, 0, none⟩)) := by
 rw [RW.cell h (by omega), fldF, if_neg (by omega), show (i * 2 + 1) / 2 = i by omega]
structure Rg (w : World) (r n L : Nat) (q p : Nat → Nat) (a e : Nat → Nat → Nat) : Prop where
 l0 : 0 < L
 l1 : L ≤ 24
 n0 : 2 ≤ n
 n1 : n ≤ 32
 ql : ∀ j, j < L → 2 ≤ q j ∧ q j < 2305843009213693952
 size : w.cell? ⟨r, 0, none⟩ = some (.int .i64 (n : Int))
 ex : ∃ gf, w.cell? ⟨r, 1, none⟩ = some (.slice (some ⟨gf, 0, none⟩) L L) ∧ FR w gf L q p
 tab : ∀ j, j < L → Tab w (p j) n (q j) (a j) (e j)
theorem Rg.ext {w w' : World} {r n L : Nat} {q p : Nat → Nat} {a e : Nat → Nat → Nat} (h : Rg w r n L q p a e) (k : Ext w w') : Rg w' r n L q p a e :=
 ⟨h.l0, h.l1, h.n0, h.n1, h.ql, cE k h.size, by obtain ⟨gf, h1, h2⟩ := h.ex; exact ⟨gf, cE k h1, RW.ext h2 k⟩, fun j hj => (h.tab j hj).ext k⟩
structure PX (w : World) (A : Option Addr) (L c : Nat) (As : Nat → Option Addr) (ns cs : Nat → Nat) (f : Nat → Nat → Nat) : Prop where
 room : L ≤ c
 cells : 0 < L → ∃ ad, A = some ad ∧ ∀ j, j < L → w.cell? (ad.add j) = some (.slice (As j) (ns j) (cs j))
 rows : ∀ j, j < L → FX w (As j) (ns j) (cs j) (f j)
theorem PX.ext {w w' : World} {A : Option Addr} {L c : Nat} {As : Nat → Option Addr} {ns cs : Nat → Nat} {f : Nat → Nat → Nat} (h : PX w A L c As ns cs f) (k : Ext w w') : PX w' A L c As ns cs f :=
 ⟨h.room, fun h0 => by
  obtain ⟨ad, e, hc⟩ := h.cells h0
  exact ⟨ad, e, fun j hj => cE k (hc j hj)⟩, fun j hj => (h.rows j hj).ext k⟩
def El (n M : Nat) (q : Nat → Nat) (L : Nat) (ns : Nat → Nat) (f : Nat → Nat → Nat) : Prop := 0 < L ∧ L ≤ M ∧ ∀ j, j < L → ns j = n ∧ ∀ i, i < ns j → f j i < q j
theorem zsp (A : Option Addr) (n c x : Nat) (f : Nat → Nat) (w : World) (hX : FX w A n c f) (hn : n ≤ 100000) :
    Calls Tryz.prog 204 #[.slice A n c, .int .u64 (x : Int)] w fun ee w' => ∃ z : Int, (0 ≤ z ∧ (∃ i, i < n ∧ f i = x) ∨ z = -1 ∧ ∀ i, i < n → f i ≠ x) ∧ ee = .returned (.int .i64 z) ∧ w = w' := by
 go_enter Tryz.func204, Tryz.ntmps204
 go_wp2
 go_loop [8] (fun i => ∃ m : Nat, m ≤ n ∧ i = .int .i64 (m : Int) ∧ Hid (∀ i, i < m → f i ≠ x)) (fun i => n - (intOf i).toNat)
 case atStart => exact ⟨0, by omega, rfl, Lib.hid fun i hi => by omega⟩
 case round =>
  obtain ⟨m, hm, rfl, hno⟩ := hrel
  by_cases hlt : m < n
  ·obtain ⟨ad, rfl, hc⟩ := hX.cells (by omega)
   have hcell := hc m hlt
   clear hc
   by_cases he : f m = x
   ·have HE := Lib.hid he
    rw [he] at hcell
    clear he
    go_wp2
    go_ret
    exact ⟨_, .inl ⟨by omega, m, hlt, HE.out⟩, rfl, rfl⟩
   ·have HE := Lib.hid (show ∀ i, i < m + 1 → f i ≠ x from fun i hi => by
       by_cases h : i = m
       ·rw [h]; exact he
       ·exact hno.out i (by omega))
    have hne : ((x : Int) == (f m : Int)) = false := by simp; omega
    clear he
    generalize f m = y at *
    go_wp2
    exact ⟨⟨m + 1, by omega, by go_num, HE⟩, by simp [intOf]; omega⟩
  ·have HE := Lib.hid (show ∀ i, i < n → f i ≠ x from fun i hi => hno.out i (by omega))
   go_wp2
   go_ret
   exact ⟨_, .inr ⟨rfl, HE.out⟩, rfl, rfl⟩
theorem zbz (A : Option Addr) (n c x : Nat) (f : Nat → Nat) (w : World) (hX : FX w A n c f) (hn : n ≤ 100000) :
    Calls Tryz.prog 132 #[.slice A n c, .int .u64 (x : Int)] w fun ee w' => ∃ b : Bool, Hid (b = true ↔ ∃ i, i < n ∧ f i = x) ∧ ee = .returned (.bool b) ∧ w = w' := by
 go_enter Tryz.func132, Tryz.ntmps132
 go_wp2_with fail
 refine (zsp A n c x f w hX hn).mono ?_
 rintro ee w' ⟨z, hz, rfl, rfl⟩
 rcases hz with ⟨h0, h1⟩ | ⟨rfl, h1⟩
 ·have H1 := Lib.hid h1
  clear h1
  go_wp2
  go_ret
  exact ⟨true, Lib.hid ⟨fun _ => H1.out, fun _ => rfl⟩, rfl, rfl⟩
 ·have H1 := Lib.hid h1
  clear h1
  go_wp2
  go_ret
  exact ⟨_, Lib.hid ⟨fun h => by simp at h, fun ⟨i, hi, he⟩ => absurd he (H1.out i hi)⟩, rfl, rfl⟩
theorem zt0 : (Tryz.prog.info? 193).map (fun i => (i.zero, i.size, i.bytes)) = some (some (.agg #[.int .u64 0, .pointer none]), 2, 16) := by kernel_rfl
def zeroF (i : Nat) : Value := if i % 2 = 0 then .int .u64 0 else .pointer none
def zmu (c : Nat) : Array Value := ((List.range (c * 2)).map zeroF).toArray
theorem zs5 (w : World) (c : Nat) : RW (w.alloc (.cells (zmu c) 193)) w.heap.size 193 (c * 2) zeroF := heap_alloc_new w _
theorem zv5 (c : Nat) (hc : c ≤ 1000000) (w : World) :
    (Instr.makeSlice 212 (.int .i64 (c : Int)) (.int .i64 (c : Int))).run Tryz.prog w = .ok (.slice (some ⟨w.heap.size, 0, none⟩) c c) (w.alloc (.cells (zmu c) 193)) := by
 obtain ⟨i0, hi, hz0, hz1, hz2⟩ := info_parts zt0
 have hr := run_make (P := Tryz.prog) w 212 193 i0 (.agg #[.int .u64 0, .pointer none]) Tryz.underlying212 hi hz0 .i64 .i64 (c : Int) (c : Int) (by omega) (by omega) (by rw [hz2]; omega) (by omega)
 rw [hz1] at hr
 simp only [Int.toNat_natCast] at hr
 rw [hr]
 have e : madeCells (Value.agg #[.int .u64 0, .pointer none]).cells (c * 2) = zmu c := by
  apply Array.toList_inj.1
  unfold zmu madeCells zeroF
  apply List.ext_getElem?
  intro j
  by_cases hj : j < c * 2
  ·rcases (show j % 2 = 0 ∨ j % 2 = 1 by omega) with h | h <;> simp [hj, Value.cells, h]
  ·simp [hj]
 rw [e]
def fldUp (q p : Nat → Nat) (k i : Nat) : Value := if i < k * 2 then fldF q p i else zeroF i
theorem zoo (q p : Nat → Nat) (k i P : Nat) :
    (if i = k * 2 + 1 then Value.pointer (some ⟨P, 0, none⟩) else if i = k * 2 then .int .u64 (q k : Int) else fldUp q p k i) = fldUp q (fun j => if j = k then P else p j) (k + 1) i := by
 unfold fldUp
 by_cases h1 : i = k * 2 + 1
 ·subst h1; rw [if_pos rfl, if_pos (by omega), fldF, if_neg (by omega), show (k * 2 + 1) / 2 = k by omega, if_pos rfl]
 ·rw [if_neg h1]
  by_cases h2 : i = k * 2
  ·subst h2; rw [if_pos rfl, if_pos (by omega), fldF, if_pos (by omega), Nat.mul_div_cancel _ (by omega)]
  ·rw [if_neg h2]
   by_cases h3 : i < k * 2
   ·rw [if_pos h3, if_pos (by omega)]; unfold fldF; show _ = if i % 2 = 0 then _ else Value.pointer (some ⟨if i / 2 = k then P else p (i / 2), 0, none⟩); rw [if_neg (show ¬ i / 2 = k by omega)]
   ·rw [if_neg h3, if_neg (by omega)]
theorem zhc (q p : Nat → Nat) (k : Nat) : ∃ z, fldUp q p k 0 = .int .u64 z := by
 unfold fldUp
 split
 ·exact ⟨_, rfl⟩
 ·exact ⟨_, rfl⟩
theorem Tb.aside {w : World} {B p n q : Nat} {a e : Nat → Nat} {gp ge : Nat} (h : Tb w B p n q a e gp ge) {g m : Nat} {F : Nat → Value} (hr : RW w g 193 m F) (hm : 0 < m) (hF : ∃ z, F 0 = .int .u64 z) (i : Nat) (v : Value) : Tb (w.setCell ⟨g, i, none⟩ v) B p n q a e gp ge := by
 have np : p ≠ g := fun e' => by
  subst e'
  have h1 := h.size
  obtain ⟨z, hz⟩ := hF
  rw [RW.cell hr hm, hz] at h1
  injection h1 with h1
  injection h1 with h1
  cases h1
 have nb : ∀ {x m' : Nat} {F' : Nat → Value}, RW w x 278 m' F' → x ≠ g := fun {x m' F'} hx e' => by
  subst e'
  unfold RW at hx hr
  rw [hr] at hx
  injection hx with hx
  injection hx with _ hx
  exact absurd hx (by decide)
 have k : ∀ {x m' : Nat} {F' : Nat → Value}, RW w x 278 m' F' → RW (w.setCell ⟨g, i, none⟩ v) x 278 m' F' := fun {x m' F'} hx => RW.keep hx (Below.heap_setCell _ _ _ _ (fun e' => nb hx (by simpa using e')))
 exact ⟨h.hp, h.hgp, h.hge, zbe h.size np, zbe h.prime np, zbe h.powers np, zbe h.ends np, k h.pw, k h.en⟩
theorem Tab.aside {w : World} {p n q : Nat} {a e : Nat → Nat} (h : Tab w p n q a e) {g m : Nat} {F : Nat → Value} (hr : RW w g 193 m F) (hm : 0 < m) (hF : ∃ z, F 0 = .int .u64 z) (i : Nat) (v : Value) : Tab (w.setCell ⟨g, i, none⟩ v) p n q a e := by
 have hs : (w.setCell ⟨g, i, none⟩ v).heap.size = w.heap.size := by simp [World.setCell]
 refine ⟨h.n0, h.n1, h.q0, h.q1, h.nk, h.al, h.el, ?_, fun hq => ?_⟩
 ·obtain ⟨gp, ge, ht⟩ := h.tb
  exact ⟨gp, ge, by rw [hs]; exact ht.aside hr hm hF i v⟩
 ·obtain ⟨k, r, v', a', e', gp, ge, ht, hg, he⟩ := h.root hq
  exact ⟨k, r, v', a', e', gp, ge, by rw [hs]; exact ht.aside hr hm hF i v, hg, he⟩
def RowP (n : Int) (L : Nat) (q : Nat → Nat) : Prop := 0 < L ∧ L ≤ 24 ∧ ∀ j, j < L → FitP n (q j) ∧ ∀ i, i < j → q i ≠ q j
theorem zzg (n : Int) (q : Nat) : FitP n q ∨ ¬ FitP n q := Classical.em _
set_option maxHeartbeats 4000000 in
theorem zf3 (n : Int) (A : Option Addr) (L c : Nat) (q : Nat → Nat) (w : World) (h0 : -9223372036854775808 ≤ n) (hn1 : n ≤ 32) (hL : L ≤ 100000) (hX : FX w A L c q) (hq : Hid (∀ j, j < L → q j < 18446744073709551616)) (hT : Tabs w) :
    Calls Tryz.prog 77 #[.int .i64 n, .slice A L c] w fun ee w' => (¬ RowP n L q ∧ ee = .returned (.tuple #[.pointer none, .int .i64 1]) ∧ Ext w w') ∨ (RowP n L q ∧ ∃ (r : Nat) (p : Nat → Nat) (a e : Nat → Nat → Nat), ee = .returned (.tuple #[.pointer (some ⟨r, 0, none⟩), .int .i64 0]) ∧ Rg w' r n.toNat L q p a e ∧ Ext w w') := by
 have HT := Lib.hid hT
 have HX := Lib.hid hX
 clear hT hX
 by_cases g0 : L = 0
 ·subst g0
  have HN := Lib.hid (show ¬ RowP n 0 q from fun h => by have := h.1; omega)
  go_enter Tryz.func77, Tryz.ntmps77
  go_wp2
  go_ret2
  exact .inl ⟨HN.out, rfl, Ext.refl _⟩
 have g0b : ((L : Int) == 0) = false := by simp; omega
 by_cases g1 : 24 < L
 ·have HN := Lib.hid (show ¬ RowP n L q from fun h => by have := h.2.1; omega)
  go_enter Tryz.func77, Tryz.ntmps77
  go_wp2
  go_ret2
  exact .inl ⟨HN.out, rfl, Ext.refl _⟩
 have hmk := zv5 L (by omega)
 go_enter Tryz.func77, Tryz.ntmps77
 go_wp2
 clear hmk
 go_loopw [24] (fun i wr => ∃ (k : Nat) (p : Nat → Nat) (a e : Nat → Nat → Nat), k ≤ L ∧ i = .int .i64 (k : Int) ∧ RW wr w.heap.size 193 (L * 2) (fldUp q p k) ∧ Hid (∀ j, j < k → (FitP n (q j) ∧ ∀ i, i < j → q i ≠ q j) ∧ Tab wr (p j) n.toNat (q j) (a j) (e j)) ∧ Ext w wr) (fun i _ => L - (intOf i).toNat)
 case atStart => exact ⟨0, fun _ => 0, fun _ _ => 0, fun _ _ => 0, by omega, rfl, (zs5 w L).congr fun i _ => by unfold fldUp; rw [if_neg (by omega)], Lib.hid fun j hj => by omega, (Ext.refl w).alloc _⟩
 case round =>
  obtain ⟨k, p, a, e, hk, rfl, hrw, hall, kr⟩ := hrel
  by_cases hlt : k < L
  ·have hx := HX.out.ext kr
   obtain ⟨ad, rfl, hc⟩ := hx.cells (by omega)
   have hcell := hc k hlt
   have hql := hq.out k hlt
   have hroom := hx.room
   clear hc
   have HXk := Lib.hid (hx.cut (m := k) (by omega))
   clear hx
   have i0 : (0 : Int) ≤ (k : Int) := by omega
   have i1 : (k : Int) ≤ (L : Int) := by omega
   have i2 : (k : Int) ≤ (c : Int) := by omega
   go_wp2_with fail
   refine (zbz _ k c (q k) q wr HXk.out (by omega)).mono ?_
   rintro ee w1 ⟨b, hb, rfl, rfl⟩
   cases b
   case true =>
    have HN := Lib.hid (show ¬ RowP n L q from fun h => by
     obtain ⟨i, hi, he⟩ := hb.out.1 rfl
     exact (h.2.2 k hlt).2 i hi he)
    go_wp2
    go_ret2
    exact .inl ⟨HN.out, rfl, kr⟩
   have HB := Lib.hid (show ∀ i, i < k → q i ≠ q k from fun i hi he => by
    have := hb.out.2 ⟨i, hi, he⟩; cases this)
   clear hb
   rcases zzg n (q k) with hf | hf
   case inr =>
    have HN := Lib.hid (show ¬ RowP n L q from fun h => hf (h.2.2 k hlt).1)
    have HF := Lib.hid hf
    clear hf
    go_wp2_with fail
    refine (zse n (q k) wr h0 hn1 hql HF.out (HT.out.ext kr)).mono ?_
    rintro ee w2 ⟨rfl, k2⟩
    go_wp2
    go_ret2
    exact .inl ⟨HN.out, rfl, kr.trans k2⟩
   have HF := Lib.hid hf
   have hn2 := hf.1
   have hq2 := hf.2.1
   obtain ⟨m, rfl⟩ := Int.eq_ofNat_of_zero_le (show 0 ≤ n by omega)
   clear hf
   have hTo : ((m : Int)).toNat = m := by omega
   go_wp2_with fail
   refine (zv1 m (q k) wr (by omega) (by omega) hq2 (Lib.hid HF.out.2.2.1) (Lib.hid HF.out.2.2.2.1) (Lib.hid HF.out.2.2.2.2) (HT.out.ext kr)).mono ?_
   rintro ee w2 ⟨P, a2, e2, rfl, hTab, k2⟩
   have h1 := hrw.ext k2
   have c0 := h1.cell (i := k * 2) (by omega)
   have c1 := h1.cell (i := k * 2 + 1) (by omega)
   have z0 := h1.frozen (k * 2)
   have z1 := h1.frozen (k * 2 + 1)
   have hsz := h1.lt
   have HTab := Lib.hid hTab
   clear hTab
   go_wp2_with fail
   have h2 := (h1.set (show k * 2 < L * 2 by omega) (.int .u64 (q k : Int))).set (show k * 2 + 1 < L * 2 by omega) (.pointer (some ⟨P, 0, none⟩))
   have k3 : Ext w ((w2.setCell ⟨w.heap.size, k * 2, none⟩ (.int .u64 (q k : Int))).setCell ⟨w.heap.size, k * 2 + 1, none⟩ (.pointer (some ⟨P, 0, none⟩))) := ((kr.trans k2).set (p := ⟨w.heap.size, k * 2, none⟩) (Nat.le_refl _) _).set (p := ⟨w.heap.size, k * 2 + 1, none⟩) (Nat.le_refl _) _
   have h3 := h2.congr fun i _ => zoo q p k i P
   have HA := Lib.hid (show ∀ (p' q' : Nat) (a' e' : Nat → Nat), Tab w2 p' m q' a' e' → Tab ((w2.setCell ⟨w.heap.size, k * 2, none⟩ (.int .u64 (q k : Int))).setCell ⟨w.heap.size, k * 2 + 1, none⟩ (.pointer (some ⟨P, 0, none⟩))) p' m q' a' e' from fun p' q' a' e' ht => by
    refine (ht.aside h1 (by omega) (zhc q p k) _ _).aside (h1.set (show k * 2 < L * 2 by omega) (.int .u64 (q k : Int))) (by omega) ?_ _ _
    by_cases hk0 : 0 = k * 2
    ·exact ⟨_, if_pos hk0⟩
    ·obtain ⟨z, hz⟩ := zhc q p k
     exact ⟨z, (if_neg hk0).trans hz⟩)
   generalize (w2.setCell ⟨w.heap.size, k * 2, none⟩ (.int .u64 (q k : Int))).setCell ⟨w.heap.size, k * 2 + 1, none⟩ (.pointer (some ⟨P, 0, none⟩)) = w3 at *
   have HALL := Lib.hid (show ∀ j, j < k + 1 → (FitP (m : Int) (q j) ∧ ∀ i, i < j → q i ≠ q j) ∧ Tab w3 ((fun j => if j = k then P else p j) j) ((m : Int)).toNat (q j) ((fun j => if j = k then a2 else a j) j) ((fun j => if j = k then e2 else e j) j) from fun j hj => by
    by_cases hjk : j = k
    ·subst hjk
     refine ⟨⟨HF.out, HB.out⟩, ?_⟩
     simp only [if_true]
     exact HA.out _ _ _ _ HTab.out
    ·obtain ⟨h5, h6⟩ := hall.out j (by omega)
     refine ⟨h5, ?_⟩
     simp only [if_neg hjk]
     exact HA.out _ _ _ _ (h6.ext k2))
   clear h1 c0 c1 z0 z1 h2 HA hrw hall
   go_wp2
   exact ⟨⟨k + 1, _, _, _, by omega, by go_num, h3, HALL, k3⟩, by simp [intOf]; omega⟩
  ·obtain rfl : k = L := by omega
   have hn2 := (hall.out 0 (by omega)).1.1.1
   have HP := Lib.hid (show RowP n k q from ⟨by omega, by omega, fun j hj => (hall.out j hj).1⟩)
   have hfr : FR wr w.heap.size k q p := hrw.congr fun i hi => by unfold fldUp; rw [if_pos hi]
   have HFR := Lib.hid hfr
   have hto : (n.toNat : Int) = n := by omega
   have HTo := Lib.hid hto
   have hlt2 := RW.lt hrw
   clear hfr hrw hto
   go_wp2
   go_ret2
   have kV := (Ext.refl wr).alloc (Obj.cells #[Value.int IntKind.i64 n, Value.slice (some ⟨w.heap.size, 0, none⟩) k k] 217)
   refine .inr ⟨HP.out, wr.heap.size, p, a, e, rfl, ⟨by omega, by omega, by omega, by omega, fun j hj => ⟨((hall.out j hj).2).q0, ((hall.out j hj).2).q1⟩, ?_, ⟨w.heap.size, ?_, RW.ext HFR.out kV⟩, fun j hj => ((hall.out j hj).2).ext kV⟩, kr.trans kV⟩
   ·rw [HTo.out]; simp
   ·simp
def Tells (w : World) (P : Prop) (ee : Ending) (w' : World) : Prop := (P ∧ ee = .returned (.bool true) ∧ Ext w w') ∨ (¬ P ∧ ee = .returned (.bool false) ∧ Ext w w')
theorem Tells.yes {w w' : World} {P : Prop} (h : P) (k : Ext w w') : Tells w P (.returned (.bool true)) w' := .inl ⟨h, rfl, k⟩
theorem Tells.no {w w' : World} {P : Prop} (h : ¬ P) (k : Ext w w') : Tells w P (.returned (.bool false)) w' := .inr ⟨h, rfl, k⟩
theorem zrr (A : Option Addr) (n c q : Nat) (P : Option Addr) (f : Nat → Nat) (w : World) (hX : FX w A n c f) (hn : n ≤ 1000000000000000) :
    Calls Tryz.prog 260 #[.agg #[.int .u64 (q : Int), .pointer P], .slice A n c] w (Tells w (∀ i, i < n → f i < q)) := by
 have kV : Ext w (w.alloc (.cells #[.int .u64 (q : Int), .pointer P] 193)) := (Ext.refl w).alloc _
 have HX := Lib.hid (hX.ext kV)
 clear hX
 go_enter Tryz.func260, Tryz.ntmps260
 go_wp2
 have x0 : (w.alloc (.cells #[.int .u64 (q : Int), .pointer P] 193)).cell? ⟨w.heap.size, 0, none⟩ = some (.int .u64 (q : Int)) := by simp
 generalize w.alloc (.cells #[.int .u64 (q : Int), .pointer P] 193) = V at *
 go_loop [9] (fun i => ∃ m : Nat, m ≤ n ∧ i = .int .i64 (m : Int) ∧ Hid (∀ i, i < m → f i < q)) (fun i => n - (intOf i).toNat)
 case atStart => exact ⟨0, by omega, rfl, Lib.hid fun i hi => by omega⟩
 case round =>
  obtain ⟨m, hm, rfl, hno⟩ := hrel
  by_cases hlt : m < n
  ·obtain ⟨ad, rfl, hc⟩ := HX.out.cells (by omega)
   have hcell := hc m hlt
   clear hc
   by_cases he : f m < q
   ·have HE := Lib.hid (show ∀ i, i < m + 1 → f i < q from fun i hi => by
       by_cases h : i = m
       ·rw [h]; exact he
       ·exact hno.out i (by omega))
    generalize f m = y at *
    go_wp2
    exact ⟨⟨m + 1, by omega, by go_num, HE⟩, by simp [intOf]; omega⟩
   ·have HE := Lib.hid (show ¬ ∀ i, i < n → f i < q from fun h => he (h m hlt))
    generalize f m = y at *
    go_wp2
    go_ret
    exact Tells.no HE.out kV
  ·have HE := Lib.hid (show ∀ i, i < n → f i < q from fun i hi => hno.out i (by omega))
   go_wp2
   go_ret
   exact Tells.yes HE.out kV
set_option maxHeartbeats 4000000 in
theorem zz9 (r n M : Nat) (q p : Nat → Nat) (a e : Nat → Nat → Nat) (A : Option Addr) (L c : Nat) (As : Nat → Option Addr) (ns cs : Nat → Nat) (f : Nat → Nat → Nat) (w : World) (hR : Rg w r n M q p a e) (hX : PX w A L c As ns cs f) (hL : L ≤ 1000000000000000) (hn : Hid (∀ j, j < L → ns j ≤ 1000000000000000)) :
    Calls Tryz.prog 212 #[.pointer (some ⟨r, 0, none⟩), .agg #[.slice A L c]] w (Tells w (El n M q L ns f)) := by
 have hl0 := hR.l0
 have hl1 := hR.l1
 have kV : Ext w (w.alloc (.cells #[.slice A L c] 56)) := (Ext.refl w).alloc _
 have t0 := cE kV hR.size
 obtain ⟨gf, t1', hfr'⟩ := hR.ex
 have t1 := cE kV t1'
 have hfr := RW.ext hfr' kV
 have HX := Lib.hid (hX.ext kV)
 have hn32 := hR.n1
 clear hX hR t1' hfr'
 have x0 : (w.alloc (.cells #[.slice A L c] 56)).cell? ⟨w.heap.size, 0, none⟩ = some (.slice A L c) := by simp
 by_cases g0 : L = 0
 ·subst g0
  have HE := Lib.hid (show ¬ El n M q 0 ns f from fun h => by have := h.1; omega)
  go_enter Tryz.func212, Tryz.ntmps212
  go_wp2
  go_quiet (fail)
  go_wp2
  go_ret
  exact Tells.no HE.out (kV.drewN _)
 have g0b : ((L : Int) == 0) = false := by simp; omega
 by_cases g1 : M < L
 ·have HE := Lib.hid (show ¬ El n M q L ns f from fun h => by have := h.2.1; omega)
  go_enter Tryz.func212, Tryz.ntmps212
  go_wp2
  go_quiet (fail)
  go_wp2
  go_ret
  exact Tells.no HE.out (kV.drewN _)
 go_enter Tryz.func212, Tryz.ntmps212
 go_wp2
 go_quiet (fail)
 have kD : Ext w ((w.alloc (.cells #[.slice A L c] 56)).drewN _) := kV.drewN 8
 go_wp2_with fail
 generalize hVd : (w.alloc (.cells #[.slice A L c] 56)) = V at *
 clear hVd
 go_loopw [25] (fun i wr => ∃ m : Nat, m ≤ L ∧ i = .int .i64 (m : Int) ∧ Hid (∀ j, j < m → ns j = n ∧ ∀ i, i < ns j → f j i < q j) ∧ Ext V wr) (fun i _ => L - (intOf i).toNat)
 case atStart => exact ⟨0, by omega, rfl, Lib.hid fun i hi => by omega, (Ext.refl V).drewN _⟩
 case round =>
  obtain ⟨m, hm, rfl, hno, kr⟩ := hrel
  by_cases hlt : m < L
  ·obtain ⟨ad, rfl, hc⟩ := (HX.out.ext kr).cells (by omega)
   have hcell := hc m hlt
   have HXm := Lib.hid ((HX.out.ext kr).rows m hlt)
   have hnm := hn.out m hlt
   clear hc
   have t0' := cE kr t0
   have t1' := cE kr t1
   have f0 := cE kr (FR.prime hfr (i := m) (by omega))
   have f1 := cE kr (FR.table hfr (i := m) (by omega))
   by_cases hE : ns m = n
   case neg =>
    have hE2 : ((ns m : Int) == (n : Int)) = false := by simp; omega
    have hE3 : ((ns m : Int) != (n : Int)) = true := by simp; omega
    have HE := Lib.hid (show ¬ El n M q L ns f from fun h => hE (h.2.2 m hlt).1)
    clear hE
    generalize ns m = nm at *
    go_wp2
    go_ret
    exact Tells.no HE.out (kV.trans kr)
   have HNM := Lib.hid hE
   rw [hE] at hcell HXm
   clear hE
   have i0 : (0 : Int) ≤ (m : Int) := by omega
   have i1 : (m : Int) < (M : Int) := by omega
   have hee : ((n : Int) != (n : Int)) = false := by simp
   go_wp2_with fail
   refine (zrr (As m) n (cs m) (q m) (some ⟨p m, 0, none⟩) (f m) wr HXm.out (by omega)).mono ?_
   rintro ee w2 (⟨hy, rfl, k2⟩ | ⟨hy, rfl, k2⟩)
   ·have HE := Lib.hid (show ∀ j, j < m + 1 → ns j = n ∧ ∀ i, i < ns j → f j i < q j from fun j hj => by
       by_cases h : j = m
       ·subst h; exact ⟨HNM.out, fun i hi => hy i (by rw [← HNM.out]; exact hi)⟩
       ·exact hno.out j (by omega))
    clear hy
    go_wp2
    exact ⟨⟨m + 1, by omega, by go_num, HE, kr.trans k2⟩, by simp [intOf]; omega⟩
   ·have HE := Lib.hid (show ¬ El n M q L ns f from fun h => hy fun i hi => (h.2.2 m hlt).2 i (by rw [HNM.out]; exact hi))
    clear hy
    go_wp2
    go_ret
    exact Tells.no HE.out (kV.trans (kr.trans k2))
  ·have HE := Lib.hid (show El n M q L ns f from ⟨by omega, by omega, fun j hj => hno.out j (by omega)⟩)
   go_wp2
   go_ret
   exact Tells.yes HE.out (kV.trans kr)
end Go.Proofs.YtopbibfpjgjalaaGreatDoor
