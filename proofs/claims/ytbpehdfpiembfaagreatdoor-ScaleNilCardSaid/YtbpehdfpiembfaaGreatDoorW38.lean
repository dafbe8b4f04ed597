/-
  What Whole and Product of package crt answer.
-/
import Derived.Test.YtbpehdfpiembfaaGreatDoorW37
import Derived.Test.YtbpehdfpiembfaaGreatDoorW20
import Derived.Test.YtbpehdfpiembfaaGreatDoorW28
import Derived.Test.YtbpehdfpiembfaaGreatDoorW9
import Derived.Test.YtbpehdfpiembfaaGreatDoorW8
import Derived.Test.YtbpehdfpiembfaaGreatDoorW15
namespace Go.Proofs.YtbpehdfpiembfaaGreatDoor
open Go.RowKit
set_option linter.unusedVariables false
set_option maxRecDepth 100000

theorem tells_yes {w w' : World} {P : Prop} {ee : Ending} (h : Tells w P ee w') (hP : P) : ee = .returned (.bool true) ∧ Ext w w' := by
  rcases h with ⟨_, h⟩ | ⟨h, _⟩
  · exact h
  · exact absurd hP h
set_option maxHeartbeats 4000000 in
theorem Product_any (B : Option Addr) (L d : Nat) (f : Nat → Nat) (w : World) (hL : L ≤ 800) (hB : FX w B L d f) (hf : Hid (∀ j, j < L → f j < 18446744073709551616)) :
    Calls Tryz.prog 164 #[.slice B L d] w fun ee w' => ∃ A2 n2 c2, ee = .returned (.slice A2 n2 c2) ∧ n2 ≤ 1 + L ∧ NX w' A2 n2 c2 (nw (prodF f L)) ∧ Ext w w' := by
  have hfd := field6
  have HB := Lib.hid hB
  clear hB
  go_enter Tryz.func164, Tryz.ntmps164
  go_wp2_with fail
  refine (ofF_any 1 w (by omega)).mono ?_
  rintro e1 w1 ⟨A1, n1, c1, rfl, hn1, hx1, k1, hf1⟩
  replace k1 : Ext w w1 := k1
  clear hf1
  have HN := Lib.hid (show NX w1 A1 n1 c1 (nw 1) from hx1)
  clear hx1
  go_wp2_with fail
  refine (grownU_any A1 B n1 c1 L d 1 f w1 (by omega) hL HN.out (HB.out.ext k1) hf).mono ?_
  rintro e2 w2 ⟨A2, n2, c2, rfl, hn2, hx2, k2⟩
  rw [Nat.mul_one] at hx2
  have H2 := Lib.hid hx2
  clear hx2
  go_wp2
  go_ret
  exact ⟨A2, n2, c2, rfl, by omega, H2.out, k1.trans k2⟩
end Go.Proofs.YtbpehdfpiembfaaGreatDoor

/-
  What plan.whole answers where it is handed what Wholes hands it; what areLists answers.
-/
namespace Go.Proofs.YtbpehdfpiembfaaGreatDoor
open Go.RowKit
set_option linter.unusedVariables false
set_option maxRecDepth 100000

set_option maxHeartbeats 4000000 in
theorem wholeS_any (R I G L m d : Nat) (B : Option Addr) (q p r : Nat → Nat) (As : Nat → Option Addr) (ns cs : Nat → Nat) (w : World) (hL : L ≤ 24) (hg : RW w G 292 (L * 3) (stpF q p As ns cs)) (hm : m ≤ 25) (hB : NX w B m d (nw (prodF q L))) (hf : Hid (∀ j, j < L → (ns j ≤ 25 ∧ NX w (As j) (ns j) (cs j) (nw (prodF q j))) ∧ 2 ≤ q j ∧ q j < 2305843009213693952 ∧ p j < q j ∧ r j < q j)) (hX : jnF q p r 0 L < prodF q L) (hR : Hid (Reads 179 #[.pointer (some ⟨R, 0, none⟩), .pointer (some ⟨I, 0, none⟩)] w L r)) :
    Calls Tryz.prog 178 #[.agg #[.slice (some ⟨G, 0, none⟩) L L, .slice B m d], .func (.func 179) #[] #[.pointer (some ⟨R, 0, none⟩), .pointer (some ⟨I, 0, none⟩)]] w (Told w 1000 (cenB (jnF q p r 0 L) (prodF q L)) (cenN (jnF q p r 0 L) (prodF q L))) := by
  have HG := Lib.hid hg
  have HB := Lib.hid hB
  have HX := Lib.hid hX
  clear hg hB hX
  have hmk := make_share L (by omega)
  go_enter Tryz.func178, Tryz.ntmps178
  go_wp2_with fail
  clear hmk
  have hs0 : RW (((w.alloc (.cells #[.slice (some ⟨G, 0, none⟩) L L, .slice B m d] 237)).alloc (.cells #[.bool false, .slice none 0 0] 50)).alloc (.cells (newShare L) 295)) (w.heap.size + 1 + 1) 295 (L * 4) zeroH := by
    have := newShare_rw ((w.alloc (.cells #[.slice (some ⟨G, 0, none⟩) L L, .slice B m d] 237)).alloc (.cells #[.bool false, .slice none 0 0] 50)) L
    rwa [show ((w.alloc (.cells #[.slice (some ⟨G, 0, none⟩) L L, .slice B m d] 237)).alloc (.cells #[.bool false, .slice none 0 0] 50)).heap.size = w.heap.size + 1 + 1 by simp] at this
  have hr0 : RW (((w.alloc (.cells #[.slice (some ⟨G, 0, none⟩) L L, .slice B m d] 237)).alloc (.cells #[.bool false, .slice none 0 0] 50)).alloc (.cells (newShare L) 295)) (w.heap.size + 1) 50 2 (two (.bool false) (.slice none 0 0)) := by
    have : RW ((w.alloc (.cells #[.slice (some ⟨G, 0, none⟩) L L, .slice B m d] 237)).alloc (.cells #[.bool false, .slice none 0 0] 50)) (w.alloc (.cells #[.slice (some ⟨G, 0, none⟩) L L, .slice B m d] 237)).heap.size 50 2 (two (.bool false) (.slice none 0 0)) := heap_alloc_new _ _
    rw [show (w.alloc (.cells #[.slice (some ⟨G, 0, none⟩) L L, .slice B m d] 237)).heap.size = w.heap.size + 1 by simp] at this
    exact this.ext ((Ext.refl _).alloc _)
  have hp0 : RW (((w.alloc (.cells #[.slice (some ⟨G, 0, none⟩) L L, .slice B m d] 237)).alloc (.cells #[.bool false, .slice none 0 0] 50)).alloc (.cells (newShare L) 295)) w.heap.size 237 2 (two (.slice (some ⟨G, 0, none⟩) L L) (.slice B m d)) := by
    have : RW (w.alloc (.cells #[.slice (some ⟨G, 0, none⟩) L L, .slice B m d] 237)) w.heap.size 237 2 (two (.slice (some ⟨G, 0, none⟩) L L) (.slice B m d)) := heap_alloc_new _ _
    exact this.ext (((Ext.refl _).alloc _).alloc _)
  have kV : Ext w (((w.alloc (.cells #[.slice (some ⟨G, 0, none⟩) L L, .slice B m d] 237)).alloc (.cells #[.bool false, .slice none 0 0] 50)).alloc (.cells (newShare L) 295)) := (((Ext.refl w).alloc _).alloc _).alloc _
  generalize (((w.alloc (.cells #[.slice (some ⟨G, 0, none⟩) L L, .slice B m d] 237)).alloc (.cells #[.bool false, .slice none 0 0] 50)).alloc (.cells (newShare L) 295)) = V at *
  obtain ⟨S, hS⟩ : ∃ S, S = w.heap.size + 1 + 1 := ⟨_, rfl⟩
  rw [← hS] at hs0 ⊢
  have hSw : w.heap.size + 1 < S := by omega
  clear hS
  go_loopw [15] (fun i wr => ∃ k : Nat, k ≤ L ∧ i = .int .i64 (k : Int) ∧ RW wr S 295 (L * 4) (shrUp q p r As ns cs k) ∧ RW wr (w.heap.size + 1) 50 2 (two (.bool false) (.slice none 0 0)) ∧ RW wr w.heap.size 237 2 (two (.slice (some ⟨G, 0, none⟩) L L) (.slice B m d)) ∧ Ext w wr) (fun i _ => L - (intOf i).toNat)
  case atStart => exact ⟨0, by omega, rfl, hs0.congr fun i _ => by unfold shrUp; rw [if_neg (by omega)], hr0, hp0, kV⟩
  case round =>
    obtain ⟨k, hk, rfl, hs, hr, hp, kr⟩ := hrel
    clear hs0 hr0 hp0 kV
    by_cases hlt : k < L
    · obtain ⟨b0, b1, b2⟩ := stp_at (HG.out.ext kr) hlt
      have i0 : (0 : Int) ≤ (k : Int) := by omega
      have i1 : (k : Int) < (L : Int) := by omega
      go_wp2_with fail
      have kz : Ext wr (wr.alloc (.cells #[.int .u64 (q k : Int), .slice (As k) (ns k) (cs k), .int .u64 (p k : Int)] 292)) := (Ext.refl _).alloc _
      have hy : RW (wr.alloc (.cells #[.int .u64 (q k : Int), .slice (As k) (ns k) (cs k), .int .u64 (p k : Int)] 292)) wr.heap.size 292 3 (fun j => if j = 0 then .int .u64 (q k : Int) else if j = 1 then .slice (As k) (ns k) (cs k) else .int .u64 (p k : Int)) := heap_alloc_new _ _
      have hsV := hs.ext kz
      have hrV := hr.ext kz
      have hpV := hp.ext kz
      have krV := kr.trans kz
      clear kz hs hr hp b0 b1 b2
      generalize (wr.alloc (.cells #[.int .u64 (q k : Int), .slice (As k) (ns k) (cs k), .int .u64 (p k : Int)] 292)) = W at *
      generalize wr.heap.size = Y at *
      have x0 : W.cell? ⟨Y, 0, none⟩ = some (.int .u64 (q k : Int)) := hy.cell (i := 0) (by omega)
      have x1 : W.cell? ⟨Y, 1, none⟩ = some (.slice (As k) (ns k) (cs k)) := hy.cell (i := 1) (by omega)
      have x2 : W.cell? ⟨Y, 2, none⟩ = some (.int .u64 (p k : Int)) := hy.cell (i := 2) (by omega)
      have neY : Y ≠ S := hy.ne hsV (by decide)
      have ne1 : (Y = S) = False := by simp; exact neY
      have ne2 : (S = Y) = False := by simp; exact fun e => neY e.symm
      have kk : Ext W W := Ext.refl W
      go_region_held3 (fun w' => w'.cell? ⟨Y, 0, none⟩ = some (.int .u64 (q k : Int)) ∧ w'.cell? ⟨Y, 1, none⟩ = some (.slice (As k) (ns k) (cs k)) ∧ w'.cell? ⟨Y, 2, none⟩ = some (.int .u64 (p k : Int))) (go_keep)
        (first
          | (go_at_call 179; refine (hR.out k _ hlt (krV.trans (Ext.drew kk))).mono ?_; rintro e5 w5 ⟨rfl, k5⟩; replace kk : Ext W w5 := (Ext.trans (Ext.drew kk) k5); have y50 := cell_ext kk x0; have y51 := cell_ext kk x1; have y52 := cell_ext kk x2; have r5 := hsV.ext kk; have c50 := r5.cell (i := k * 4) (by omega); have c51 := r5.cell (i := k * 4 + 1) (by omega); have c52 := r5.cell (i := k * 4 + 2) (by omega); have c53 := r5.cell (i := k * 4 + 3) (by omega); have z50 := r5.frozen (k * 4); have z51 := r5.frozen (k * 4 + 1); have z52 := r5.frozen (k * 4 + 2); have z53 := r5.frozen (k * 4 + 3); have s5 := r5.lt)
          | fail)
      have hw6 : (((w5.setCell ⟨S, k * 4, none⟩ (.int .u64 (q k : Int))).setCell ⟨S, k * 4 + 1, none⟩ (.slice (As k) (ns k) (cs k))).setCell ⟨S, k * 4 + 2, none⟩ (.int .u64 (p k : Int))).setCell ⟨S, k * 4 + 3, none⟩ (.int .u64 (r k : Int)) = set4 w5 S (k * 4) (.int .u64 (q k : Int)) (.slice (As k) (ns k) (cs k)) (.int .u64 (p k : Int)) (.int .u64 (r k : Int)) := rfl
      rw [hw6]
      have e1 := shr_set r5 hlt
      have e2 := (hrV.ext kk).keep4 (g := S) (by omega) (k * 4) (.int .u64 (q k : Int)) (.slice (As k) (ns k) (cs k)) (.int .u64 (p k : Int)) (.int .u64 (r k : Int))
      have e3 := (hpV.ext kk).keep4 (g := S) (by omega) (k * 4) (.int .u64 (q k : Int)) (.slice (As k) (ns k) (cs k)) (.int .u64 (p k : Int)) (.int .u64 (r k : Int))
      have e4 := (krV.trans kk).keep4 (g := S) (by omega) (k * 4) (.int .u64 (q k : Int)) (.slice (As k) (ns k) (cs k)) (.int .u64 (p k : Int)) (.int .u64 (r k : Int))
      generalize set4 w5 S (k * 4) (.int .u64 (q k : Int)) (.slice (As k) (ns k) (cs k)) (.int .u64 (p k : Int)) (.int .u64 (r k : Int)) = w6 at *
      go_wp2_with fail
      exact ⟨⟨k + 1, by omega, by go_num, e1, e2, e3, e4⟩, by simp [intOf]; omega⟩
    · have hkL : k = L := by omega
      subst hkL
      have HS := Lib.hid (show RW wr S 295 (k * 4) (shrF q p r As ns cs) from hs.congr fun i hi => by unfold shrUp; rw [if_pos hi])
      clear hs
      have x0 : wr.cell? ⟨w.heap.size, 0, none⟩ = some (.slice (some ⟨G, 0, none⟩) k k) := hp.cell (i := 0) (by omega)
      have x1 : wr.cell? ⟨w.heap.size, 1, none⟩ = some (.slice B m d) := hp.cell (i := 1) (by omega)
      have kk : Ext wr wr := Ext.refl wr
      go_wp2_with fail
      go_region_held3 (fun w' => w'.cell? ⟨w.heap.size, 0, none⟩ = some (.slice (some ⟨G, 0, none⟩) k k) ∧ w'.cell? ⟨w.heap.size, 1, none⟩ = some (.slice B m d)) (go_keep)
        (first
          | (go_at_call 240; refine (centered6_any (some ⟨G, 0, none⟩) A1 B k k n1 c1 m d _ _ _ (by omega) (by omega) (NX.ext HN1.out kx) (NX.ext HB.out (kr.trans kk)) HX.out).mono ?_; rintro e5 w5 ⟨A2, n2, c2, rfl, hn2, hx2, k5⟩; replace kk : Ext wr w5 := (Ext.trans kk k5); have y50 := cell_ext kk x0; have y51 := cell_ext kk x1; have r5 := hr.ext kk; have c50 := r5.cell (i := 0) (by omega); have c51 := r5.cell (i := 1) (by omega); have z50 := r5.frozen 0; have z51 := r5.frozen 1; have s5 := r5.lt)
          | (go_at_call 241; refine (grownS_any none 0 0 k S 0 q p r As ns cs _ (by omega) (by omega) (NX.nil6 _) (HS.out.ext (Ext.drew kk)) (Lib.hid fun j hj => ⟨⟨(hf.out j hj).1.1, NX.ext (hf.out j hj).1.2 (kr.trans (Ext.drew kk))⟩, (hf.out j hj).2⟩)).mono ?_; rintro e4 w4 ⟨A1, n1, c1, rfl, hn1, hx1, k4⟩; have HN1 := Lib.hid hx1; clear hx1; replace kk : Ext wr w4 := (Ext.trans (Ext.drew kk) k4); have kx : Ext w4 w4 := Ext.refl w4; have y40 := cell_ext kk x0; have y41 := cell_ext kk x1; have r4 := hr.ext kk; have c40 := r4.cell (i := 0) (by omega); have c41 := r4.cell (i := 1) (by omega); have z40 := r4.frozen 0; have z41 := r4.frozen 1; have s4 := r4.lt)
          | fail)
      go_wp2
      have hb := Lib.hid (rfl : cenB (jnF q p r 0 k) (prodF q k) = cenB (jnF q p r 0 k) (prodF q k))
      have d := two_set r5 (.bool (cenB (jnF q p r 0 k) (prodF q k))) (.slice A2 n2 c2)
      have d0 : ((w5.setCell ⟨w.heap.size + 1, 0, none⟩ (.bool (cenB (jnF q p r 0 k) (prodF q k)))).setCell ⟨w.heap.size + 1, 1, none⟩ (.slice A2 n2 c2)).cell? ⟨w.heap.size + 1, 0, none⟩ = some (.bool (cenB (jnF q p r 0 k) (prodF q k))) := d.cell (i := 0) (by omega)
      have d1 : ((w5.setCell ⟨w.heap.size + 1, 0, none⟩ (.bool (cenB (jnF q p r 0 k) (prodF q k)))).setCell ⟨w.heap.size + 1, 1, none⟩ (.slice A2 n2 c2)).cell? ⟨w.heap.size + 1, 1, none⟩ = some (.slice A2 n2 c2) := d.cell (i := 1) (by omega)
      have d2 := two_nx (b' := (cenB (jnF q p r 0 k) (prodF q k))) (A2 := A2) (n2 := n2) (c2 := c2) r5 hx2
      have d3 := ((kr.trans kk).set (p := ⟨w.heap.size + 1, 0, none⟩) (by show w.heap.size ≤ w.heap.size + 1; omega) (.bool (cenB (jnF q p r 0 k) (prodF q k)))).set (p := ⟨w.heap.size + 1, 1, none⟩) (by show w.heap.size ≤ w.heap.size + 1; omega) (.slice A2 n2 c2)
      generalize (w5.setCell ⟨w.heap.size + 1, 0, none⟩ (.bool (cenB (jnF q p r 0 k) (prodF q k)))).setCell ⟨w.heap.size + 1, 1, none⟩ (.slice A2 n2 c2) = w9 at *
      exact bodyPost_ret (v := .agg #[.bool (cenB (jnF q p r 0 k) (prodF q k)), .slice A2 n2 c2]) (by simp [results, Tryz.results178, go_sem, d0, d1]) rfl ⟨A2, n2, c2, rfl, by omega, d2, d3⟩

/-- Lists that Wholes takes: one for each prime, all as long, with numbers below it. -/
def Lsts (n L : Nat) (ns : Nat → Nat) (f : Nat → Nat → Nat) (q : Nat → Nat) : Prop := ∀ j, j < L → ns j = n ∧ ∀ i, i < n → f j i < q j
theorem readS_any (R I L c n i : Nat) (A : Option Addr) (As : Nat → Option Addr) (ns cs : Nat → Nat) (f : Nat → Nat → Nat) (w : World) (hR : w.cell? ⟨R, 0, none⟩ = some (.slice A L c)) (hI : w.cell? ⟨I, 0, none⟩ = some (.int .i64 (i : Int))) (hX : PX w A L c As ns cs f) (hn : ∀ j, j < L → ns j = n) (hi : i < n) (hn2 : n ≤ 100000) (hL : L ≤ 1000) :
    Reads 179 #[.pointer (some ⟨R, 0, none⟩), .pointer (some ⟨I, 0, none⟩)] w L (fun j => f j i) := fun j w1 hj k1 => by
  have hr := cell_ext k1 hR
  have hii := cell_ext k1 hI
  have hx := hX.ext k1
  obtain ⟨ad, rfl, hc⟩ := hx.cells (by omega)
  have hcj := hc j hj
  have hnj := hn j hj
  obtain ⟨ad2, e2, hc2⟩ := (hx.rows j hj).cells (by omega)
  have hcell := hc2 i (by omega)
  rw [e2, hnj] at hcj
  clear hc hc2 hx hX
  obtain ⟨y, hy⟩ : ∃ y, y = f j i := ⟨_, rfl⟩
  rw [← hy] at hcell
  have HY := Lib.hid hy
  clear hy
  have i0 : (0 : Int) ≤ (i : Int) := by omega
  have i1 : (i : Int) < (n : Int) := by omega
  have j0 : (0 : Int) ≤ (j : Int) := by omega
  have j1 : (j : Int) < (L : Int) := by omega
  show Calls Tryz.prog 179 #[.int .i64 (j : Int), .pointer (some ⟨R, 0, none⟩), .pointer (some ⟨I, 0, none⟩)] w1 _
  go_enter Tryz.func179, Tryz.ntmps179
  go_wp2
  go_quiet (fail)
  go_wp2
  go_ret
  exact ⟨by rw [← HY.out]; rfl, by first | exact (Ext.refl _).drewN _ | exact Ext.refl _⟩
theorem tooGreat_any (R I L d j x q : Nat) (B : Option Addr) (Q : Nat → Nat) (w : World) (hR : w.cell? ⟨R, 0, none⟩ = some (.slice B L d)) (hI : w.cell? ⟨I, 0, none⟩ = some (.int .i64 (j : Int))) (hQ : FX w B L d Q) (hj : j < L) (hq : Q j = q) (hx : x < q) (hL : L ≤ 1000) :
    Calls Tryz.prog 237 #[.int .u64 (x : Int), .pointer (some ⟨R, 0, none⟩), .pointer (some ⟨I, 0, none⟩)] w fun ee w' => ee = .returned (.bool false) ∧ Ext w w' := by
  obtain ⟨ad, rfl, hc⟩ := hQ.cells (by omega)
  have hcj := hc j hj
  rw [hq] at hcj
  clear hc hQ hq
  have j0 : (0 : Int) ≤ (j : Int) := by omega
  have j1 : (j : Int) < (L : Int) := by omega
  have e1 : decide ((q : Int) ≤ (x : Int)) = false := decide_eq_false (by omega)
  go_enter Tryz.func237, Tryz.ntmps237
  go_wp2
  go_ret
  exact ⟨by simp; exact hx, Ext.refl _⟩
set_option maxHeartbeats 2000000 in
theorem idxAll_any (R I L d j q n c : Nat) (B A : Option Addr) (Q f : Nat → Nat) (w : World) (hR : w.cell? ⟨R, 0, none⟩ = some (.slice B L d)) (hI : w.cell? ⟨I, 0, none⟩ = some (.int .i64 (j : Int))) (hQ : FX w B L d Q) (hj : j < L) (hq : Q j = q) (hL : L ≤ 1000) (hX : FX w A n c f) (hn : n ≤ 100000) (hf : Hid (∀ i, i < n → f i < q)) :
    Calls Tryz.prog 268 #[.slice A n c, .func (.func 237) #[] #[.pointer (some ⟨R, 0, none⟩), .pointer (some ⟨I, 0, none⟩)]] w fun ee w' => ee = .returned (.int .i64 (-1)) ∧ Ext w w' := by
  have HX := Lib.hid hX
  have HQ := Lib.hid hQ
  clear hX hQ
  go_enter Tryz.func268, Tryz.ntmps268
  go_wp2
  go_loopw [8] (fun iv wr => ∃ m : Nat, m ≤ n ∧ iv = .int .i64 (m : Int) ∧ Ext w wr) (fun iv _ => n - (intOf iv).toNat)
  case atStart => exact ⟨0, by omega, rfl, Ext.refl _⟩
  case round =>
    obtain ⟨m, hm, rfl, kr⟩ := hrel
    by_cases hlt : m < n
    · obtain ⟨ad, rfl, hc⟩ := (HX.out.ext kr).cells (by omega)
      have hcell := hc m hlt
      have hfl := hf.out m hlt
      clear hc
      generalize f m = y at *
      go_wp2_with fail
      refine (tooGreat_any R I L d j y q B Q wr (cell_ext kr hR) (cell_ext kr hI) (HQ.out.ext kr) hj hq hfl hL).mono ?_
      rintro e w2 ⟨rfl, k2⟩
      go_wp2
      exact ⟨⟨m + 1, by omega, by go_num, kr.trans k2⟩, by simp [intOf]; omega⟩
    · go_wp2
      go_ret
      exact ⟨rfl, kr⟩
theorem hasNone_any (R I L d j q n c : Nat) (B A : Option Addr) (Q f : Nat → Nat) (w : World) (hR : w.cell? ⟨R, 0, none⟩ = some (.slice B L d)) (hI : w.cell? ⟨I, 0, none⟩ = some (.int .i64 (j : Int))) (hQ : FX w B L d Q) (hj : j < L) (hq : Q j = q) (hL : L ≤ 1000) (hX : FX w A n c f) (hn : n ≤ 100000) (hf : Hid (∀ i, i < n → f i < q)) :
    Calls Tryz.prog 238 #[.slice A n c, .func (.func 237) #[] #[.pointer (some ⟨R, 0, none⟩), .pointer (some ⟨I, 0, none⟩)]] w fun ee w' => ee = .returned (.bool false) ∧ Ext w w' := by
  have HI := Lib.hid (idxAll_any R I L d j q n c B A Q f w hR hI hQ hj hq hL hX hn hf)
  clear hR hI hQ hX
  go_enter Tryz.func238, Tryz.ntmps238
  go_wp2_with fail
  refine HI.out.mono ?_
  rintro e w2 ⟨rfl, k2⟩
  go_wp2
  go_ret
  exact ⟨rfl, k2⟩
set_option maxHeartbeats 4000000 in
theorem areLists_yes (A B : Option Addr) (L c d n : Nat) (As : Nat → Option Addr) (ns cs : Nat → Nat) (f : Nat → Nat → Nat) (q : Nat → Nat) (w : World) (hX : PX w A L c As ns cs f) (hQ : FX w B L d q) (hL : L ≤ 1000) (hn : n ≤ 100000) (h : Hid (Lsts n L ns f q)) :
    Calls Tryz.prog 176 #[.slice A L c, .slice B L d] w fun ee w' => ee = .returned (.bool true) ∧ Ext w w' := by
  have kV : Ext w (w.alloc (.cells #[.slice B L d] 23)) := (Ext.refl w).alloc _
  have x0 := one_at w (.slice B L d) 23
  have HX := Lib.hid (hX.ext kV)
  have HQ := Lib.hid (hQ.ext kV)
  have e0 : ((L : Int) != (L : Int)) = false := by simp
  have e1 : ((n : Int) != (n : Int)) = false := by simp
  clear hX hQ
  go_enter Tryz.func176, Tryz.ntmps176
  go_wp2_with fail
  generalize w.alloc (.cells #[.slice B L d] 23) = V at *
  go_loopw [15] (fun iv wr => ∃ m : Nat, m ≤ L ∧ iv = .int .i64 (m : Int) ∧ Ext V wr) (fun iv _ => L - (intOf iv).toNat)
  case atStart => exact ⟨0, by omega, rfl, Ext.refl _⟩
  case round =>
    obtain ⟨m, hm, rfl, kr⟩ := hrel
    by_cases hlt : m < L
    · obtain ⟨ad, rfl, hc⟩ := (HX.out.ext kr).cells (by omega)
      have hcell := hc m hlt
      have hcell0 := hc 0 (by omega)
      have hrow := (HX.out.ext kr).rows m hlt
      rw [(h.out m hlt).1] at hcell hrow
      rw [(h.out 0 (by omega)).1] at hcell0
      have HF := Lib.hid (show ∀ i, i < n → f m i < q m from (h.out m hlt).2)
      have HR := Lib.hid hrow
      clear hc hrow
      have i0 : (0 : Int) ≤ (m : Int) := by omega
      have i1 : (m : Int) < (L : Int) := by omega
      have hcell0' : wr.cell? ad = some (.slice (As 0) n (cs 0)) := by simpa [Addr.add] using hcell0
      have x1 := cell_ext kr x0
      have y0 := one_at wr (.int .i64 (m : Int)) 3
      have ka : Ext wr (wr.alloc (.cells #[.int .i64 (m : Int)] 3)) := (Ext.refl wr).alloc _
      have c1 := cell_ext ka hcell
      have c2 := cell_ext ka hcell0
      have c3 := cell_ext ka hcell0'
      have c4 := cell_ext ka x1
      go_wp2_with fail
      refine (hasNone_any w.heap.size wr.heap.size L d m (q m) n (cs m) B (As m) q (f m) _ c4 y0 (HQ.out.ext (kr.trans ka)) hlt rfl hL (HR.out.ext ka) hn HF).mono ?_
      rintro e w2 ⟨rfl, k2⟩
      go_wp2
      exact ⟨⟨m + 1, by omega, by go_num, kr.trans (ka.trans k2)⟩, by simp [intOf]; omega⟩
    · go_wp2
      go_ret
      exact ⟨rfl, kV.trans kr⟩
end Go.Proofs.YtbpehdfpiembfaaGreatDoor

/-
  What Wholes of package crt answers of right lists: the number of each place, centered.
-/
namespace Go.Proofs.YtbpehdfpiembfaaGreatDoor
open Go.RowKit
set_option linter.unusedVariables false
set_option maxRecDepth 100000

/-- What has been joined is below the product. -/
theorem jn_lt {q p r : Nat → Nat} : ∀ L, (∀ j, j < L → 0 < q j ∧ p j < q j) → jnF q p r 0 L < prodF q L
  | 0, _ => by show 0 < prodF q 0; unfold prodF; omega
  | L + 1, h => by
    have ih := jn_lt (r := r) L (fun j hj => h j (by omega))
    obtain ⟨h1, h2⟩ := h L (by omega)
    rw [jnF, prodF]
    unfold crtF
    have h3 := Nat.mod_lt (dif (r L) (jnF q p r 0 L % q L) (q L) * p L) h1
    generalize dif (r L) (jnF q p r 0 L % q L) (q L) * p L % q L = c at *
    generalize jnF q p r 0 L = X at *
    generalize prodF q L = P at *
    have h4 : c * P ≤ (q L - 1) * P := Nat.mul_le_mul_right _ (by omega)
    have h5 : (q L - 1) * P + P = q L * P := by rw [← Nat.succ_mul]; congr 1; omega
    first
      | omega
      | (rw [Nat.mul_comm P (q L)]; omega)
theorem info_whole : (Tryz.prog.info? 50).map (fun i => (i.zero, i.size, i.bytes)) = some (some (.agg #[.bool false, .slice none 0 0]), 2, 32) := by kernel_rfl
def zeroV (i : Nat) : Value := if i % 2 = 0 then .bool false else .slice none 0 0
def newWhole (c : Nat) : Array Value := ((List.range (c * 2)).map zeroV).toArray
theorem newWhole_rw (w : World) (c : Nat) : RW (w.alloc (.cells (newWhole c) 50)) w.heap.size 50 (c * 2) zeroV := heap_alloc_new w _
theorem make_whole (c : Nat) (hc : c ≤ 1000000) (w : World) :
    (Instr.makeSlice 52 (.int .i64 (c : Int)) (.int .i64 (c : Int))).run Tryz.prog w = .ok (.slice (some ⟨w.heap.size, 0, none⟩) c c) (w.alloc (.cells (newWhole c) 50)) := by
  obtain ⟨i0, hi, hz0, hz1, hz2⟩ := info_parts info_whole
  have hr := run_make (P := Tryz.prog) w 52 50 i0 (.agg #[.bool false, .slice none 0 0]) Tryz.underlying52 hi hz0 .i64 .i64 (c : Int) (c : Int) (by omega) (by omega) (by rw [hz2]; omega) (by omega)
  rw [hz1] at hr
  simp only [Int.toNat_natCast] at hr
  rw [hr]
  have e : madeCells (Value.agg #[.bool false, .slice none 0 0]).cells (c * 2) = newWhole c := by
    apply Array.toList_inj.1
    unfold newWhole madeCells zeroV
    apply List.ext_getElem?
    intro j
    by_cases hj : j < c * 2
    · rcases (show j % 2 = 0 ∨ j % 2 = 1 by omega) with h | h <;> simp [hj, Value.cells, h]
    · simp [hj]
  rw [e]
/-- The cells of a row of whole numbers. -/
def wfF (b : Nat → Bool) (As : Nat → Option Addr) (ns cs : Nat → Nat) (i : Nat) : Value := if i % 2 = 0 then .bool (b (i / 2)) else .slice (As (i / 2)) (ns (i / 2)) (cs (i / 2))
def wfUp (b : Nat → Bool) (As : Nat → Option Addr) (ns cs : Nat → Nat) (k i : Nat) : Value := if i < k * 2 then wfF b As ns cs i else zeroV i
/-- A row of whole numbers in memory, of which the first k are laid: their signs and sizes. -/
def WK (w : World) (g n k N : Nat) (b : Nat → Bool) (X : Nat → Nat) : Prop := ∃ (As : Nat → Option Addr) (ns cs : Nat → Nat), RW w g 50 (n * 2) (wfUp b As ns cs k) ∧ ∀ i, i < k → ns i ≤ N ∧ NX w (As i) (ns i) (cs i) (nw (X i))
theorem WK.new (w : World) (n N : Nat) (b : Nat → Bool) (X : Nat → Nat) : WK (w.alloc (.cells (newWhole n) 50)) w.heap.size n 0 N b X :=
  ⟨fun _ => none, fun _ => 0, fun _ => 0, (newWhole_rw w n).congr fun i _ => by unfold wfUp; rw [if_neg (by omega)], fun i hi => by omega⟩
theorem WK.ext {w w' : World} {g n k N : Nat} {b : Nat → Bool} {X : Nat → Nat} (h : WK w g n k N b X) (e : Ext w w') : WK w' g n k N b X := by
  obtain ⟨As, ns, cs, h1, h2⟩ := h
  exact ⟨As, ns, cs, h1.ext e, fun i hi => ⟨(h2 i hi).1, NX.ext (h2 i hi).2 e⟩⟩
/-- Two stores into block g. -/
def set2 (w : World) (g i : Nat) (a b : Value) : World := (w.setCell ⟨g, i, none⟩ a).setCell ⟨g, i + 1, none⟩ b
theorem wf_noword {b : Nat → Bool} {As : Nat → Option Addr} {ns cs : Nat → Nat} {k i : Nat} : ∀ x : Nat, wfUp b As ns cs k i ≠ .int .u64 (x : Int) := fun x => by
  unfold wfUp wfF zeroV
  split <;> split <;> (intro h; cases h)
theorem NX.set2 {w : World} {g m i : Nat} {F : Nat → Value} {A : Option Addr} {n c : Nat} {xs : List Nat} (hr : RW w g 50 m F) (hF : ∀ j (x : Nat), F j ≠ .int .u64 (x : Int)) (hi : i + 1 < m) (h : NX w A n c xs) (u v : Value) : NX (Go.Proofs.YtbpehdfpiembfaaGreatDoor.set2 w g i u v) A n c xs := by
  have h1 := NX.off h (hr.cell (i := i) (by omega)) (hF i) u
  have h2 : (w.setCell ⟨g, i, none⟩ u).cell? ⟨g, i + 1, none⟩ = some (F (i + 1)) := by
    rw [set_far (fun e => by simp at e)]
    exact hr.cell hi
  exact NX.off h1 h2 (hF (i + 1)) v
theorem RW.keep2 {w : World} {x m : Nat} {t : TypeId} {F : Nat → Value} (h : RW w x t m F) {g : Nat} (hg : x ≠ g) (i : Nat) (a b : Value) : RW (set2 w g i a b) x t m F :=
  RW.keep (RW.keep h (Below.heap_setCell _ _ _ _ (fun e => hg (by simpa using e)))) (Below.heap_setCell _ _ _ _ (fun e => hg (by simpa using e)))
theorem Ext.keep2 {a w : World} (h : Ext a w) {g : Nat} (hg : a.heap.size ≤ g) (i : Nat) (x y : Value) : Ext a (set2 w g i x y) :=
  (h.set (p := ⟨g, i, none⟩) hg x).set (p := ⟨g, i + 1, none⟩) hg y
theorem cell2 {w : World} {g i : Nat} {p : Addr} {u v x : Value} (hp : p.block ≠ g) (hc : w.cell? p = some x) : (set2 w g i u v).cell? p = some x := by
  unfold set2
  rw [set_far (fun e => hp (by rw [← e])), set_far (fun e => hp (by rw [← e]))]
  exact hc
theorem WK.put {w : World} {g n k N m c : Nat} {A : Option Addr} {b : Nat → Bool} {X : Nat → Nat} (h : WK w g n k N b X) (hk : k < n) (hm : m ≤ N) (hx : NX w A m c (nw (X k))) : WK (set2 w g (k * 2) (.bool (b k)) (.slice A m c)) g n (k + 1) N b X := by
  obtain ⟨As, ns, cs, h1, h2⟩ := h
  refine ⟨fun j => if j = k then A else As j, fun j => if j = k then m else ns j, fun j => if j = k then c else cs j, ?_, fun i hi => ?_⟩
  · refine ((h1.set (show k * 2 < n * 2 by omega) _).set (show k * 2 + 1 < n * 2 by omega) _).congr fun i hi => ?_
    by_cases e1 : i = k * 2 + 1
    · subst e1
      rw [if_pos rfl]
      unfold wfUp wfF
      dsimp only
      rw [if_pos (by omega), if_neg (by omega), show (k * 2 + 1) / 2 = k by omega, if_pos rfl, if_pos rfl, if_pos rfl]
    · rw [if_neg e1]
      by_cases e2 : i = k * 2
      · subst e2
        rw [if_pos rfl]
        unfold wfUp wfF
        rw [if_pos (by omega), if_pos (by omega), show k * 2 / 2 = k by omega]
      · rw [if_neg e2]
        unfold wfUp wfF
        by_cases e3 : i < k * 2
        · dsimp only
          rw [if_pos e3, if_pos (show i < (k + 1) * 2 by omega), if_neg (show ¬ i / 2 = k by omega), if_neg (show ¬ i / 2 = k by omega), if_neg (show ¬ i / 2 = k by omega)]
        · rw [if_neg e3, if_neg (show ¬ i < (k + 1) * 2 by omega)]
  · dsimp only
    by_cases e : i = k
    · subst e
      rw [if_pos rfl, if_pos rfl, if_pos rfl]
      exact ⟨hm, NX.set2 h1 (fun _ => wf_noword) (by omega) hx _ _⟩
    · rw [if_neg e, if_neg e, if_neg e]
      obtain ⟨h3, h4⟩ := h2 i (by omega)
      exact ⟨h3, NX.set2 h1 (fun _ => wf_noword) (by omega) h4 _ _⟩
theorem WK.at {w : World} {g n k N : Nat} {b : Nat → Bool} {X : Nat → Nat} (h : WK w g n k N b X) {i : Nat} (hi : i < k) (hk : k ≤ n) : ∃ A m c, w.cell? ⟨g, i * 2, none⟩ = some (.bool (b i)) ∧ w.cell? ⟨g, i * 2 + 1, none⟩ = some (.slice A m c) ∧ m ≤ N ∧ NX w A m c (nw (X i)) := by
  obtain ⟨As, ns, cs, h1, h2⟩ := h
  refine ⟨As i, ns i, cs i, ?_, ?_, h2 i hi⟩
  · rw [h1.cell (by omega), wfUp, if_pos (by omega), wfF, if_pos (by omega), show i * 2 / 2 = i by omega]
  · rw [h1.cell (by omega), wfUp, if_pos (by omega), wfF, if_neg (by omega), show (i * 2 + 1) / 2 = i by omega]
/-- Parts of a row. -/
def Parts (L : Nat) (q p : Nat → Nat) : Prop := ∀ j, j < L → PartOk (prodF q j % q j) (q j) (p j)
set_option maxHeartbeats 8000000 in
theorem Wholes_any (A B : Option Addr) (L c d n : Nat) (As : Nat → Option Addr) (ns cs : Nat → Nat) (f : Nat → Nat → Nat) (q : Nat → Nat) (w : World) (hX : PX w A L c As ns cs f) (hB : FX w B L d q) (hq : Hid (∀ j, j < L → q j < 18446744073709551616)) (hT : Tabs w) (hR : RowC L q) (hC : Hid (Lsts n L ns f q)) (hn0 : 0 < n) (hn : n ≤ 1000) :
    Calls Tryz.prog 116 #[.agg #[.slice A L c], .slice B L d] w fun ee w' => ∃ (p : Nat → Nat) (g : Nat), Hid (Parts L q p) ∧ ee = .returned (.tuple #[.slice (some ⟨g, 0, none⟩) n n, .int .i64 0]) ∧ w.heap.size ≤ g ∧ WK w' g n n 1000 (fun i => cenB (jnF q p (fun j => f j i) 0 L) (prodF q L)) (fun i => cenN (jnF q p (fun j => f j i) 0 L) (prodF q L)) ∧ Ext w w' := by
  have kV : Ext w (w.alloc (.cells #[.slice A L c] 28)) := (Ext.refl w).alloc _
  have x0 := one_at w (.slice A L c) 28
  have hXV := hX.ext kV
  have HX := Lib.hid hXV
  have HB := Lib.hid (hB.ext kV)
  have HT := Lib.hid (hT.ext kV)
  have HR := Lib.hid hR
  have hL0 := hR.1
  have hL := hR.2.1
  have HQ := Lib.hid (show ∀ j, j < L → 2 ≤ q j ∧ q j < 18446744073709551616 from fun j hj => by
    have := (hR.2.2 j hj).1
    have h1 := this.1
    have h2 := this.2.1
    omega)
  obtain ⟨ad, hA, hcc⟩ := hXV.cells hL0
  have c0 := hcc 0 hL0
  rw [(hC.out 0 hL0).1] at c0
  have c0' : (w.alloc (.cells #[.slice A L c] 28)).cell? ad = some (.slice (As 0) n (cs 0)) := by simpa [Addr.add] using c0
  subst hA
  have hmk := make_whole n (by omega)
  clear hX hB hT hR hXV hcc
  have i00 : (0 : Int) < (L : Int) := by omega
  go_enter Tryz.func116, Tryz.ntmps116
  go_wp2_with fail
  generalize w.alloc (.cells #[.slice (some ad) L c] 28) = V at *
  refine (isRow_any B L d q V (by omega) HB.out hq HT.out).mono ?_
  rintro e1 w1 h1
  obtain ⟨rfl, k1⟩ := tells_yes h1 HR.out
  clear h1
  have x1 := cell_ext k1 x0
  go_wp2_with fail
  refine (areLists_yes (some ad) B L c d n As ns cs f q w1 (HX.out.ext k1) (HB.out.ext k1) (by omega) (by omega) hC).mono ?_
  rintro e2 w2 ⟨rfl, k2⟩
  replace k2 := k1.trans k2
  go_wp2_with fail
  refine (planOf_any B L d q w2 hL (HB.out.ext k2) HQ).mono ?_
  rintro e3 w3 ⟨G, p, As3, ns3, cs3, A3, n3, c3, rfl, hg, hn3, hx3, hall, k3⟩
  have HG := Lib.hid hg
  have H3 := Lib.hid hx3
  have HPO := Lib.hid (show Parts L q p from fun j hj => (hall.out j hj).2.2)
  clear hg hx3
  replace k3 := k2.trans k3
  replace x1 := cell_ext k3 x0
  replace c0 := cell_ext k3 c0
  replace c0' := cell_ext k3 c0'
  clear k1 k2
  have i0 : (0 : Int) ≤ (n : Int) := by omega
  have k4 : Ext w3 (w3.alloc (.cells #[.slice (some ⟨G, 0, none⟩) L L, .slice A3 n3 c3] 237)) := (Ext.refl w3).alloc _
  have d0 := cell_ext k4 c0
  have d0' := cell_ext k4 c0'
  have d1 := cell_ext k4 x1
  go_wp2_with fail
  have hsz4 : (w3.alloc (.cells #[.slice (some ⟨G, 0, none⟩) L L, .slice A3 n3 c3] 237)).heap.size = w3.heap.size + 1 := by simp
  have hw4 := WK.new (w3.alloc (.cells #[.slice (some ⟨G, 0, none⟩) L L, .slice A3 n3 c3] 237)) n 1000 (fun i => cenB (jnF q p (fun j => f j i) 0 L) (prodF q L)) (fun i => cenN (jnF q p (fun j => f j i) 0 L) (prodF q L))
  have hp4 : RW (w3.alloc (.cells #[.slice (some ⟨G, 0, none⟩) L L, .slice A3 n3 c3] 237)) w3.heap.size 237 2 (two (.slice (some ⟨G, 0, none⟩) L L) (.slice A3 n3 c3)) := heap_alloc_new _ _
  rw [hsz4] at hw4
  have k5 : Ext w3 ((w3.alloc (.cells #[.slice (some ⟨G, 0, none⟩) L L, .slice A3 n3 c3] 237)).alloc (.cells (newWhole n) 50)) := k4.alloc _
  replace hp4 := hp4.ext ((Ext.refl _).alloc (.cells (newWhole n) 50))
  have k35 := k3.trans k5
  have hsV : V.heap.size ≤ w3.heap.size := k3.size
  clear hmk hsz4 d0 d0' d1 k4 c0 c0' x1
  generalize (w3.alloc (.cells #[.slice (some ⟨G, 0, none⟩) L L, .slice A3 n3 c3] 237)).alloc (.cells (newWhole n) 50) = V5 at *
  have HALL := Lib.hid (show ∀ j, j < L → (ns3 j ≤ 25 ∧ NX w3 (As3 j) (ns3 j) (cs3 j) (nw (prodF q j))) ∧ 2 ≤ q j ∧ q j < 2305843009213693952 ∧ p j < q j from fun j hj => ⟨⟨(hall.out j hj).1, (hall.out j hj).2.1⟩, (HQ.out j hj).1, (HR.out.2.2 j hj).1.2.1, (hall.out j hj).2.2.1⟩)
  have HX3 := Lib.hid (HX.out.ext k3)
  have x3 := cell_ext k3 x0
  have HJ := Lib.hid (show ∀ r : Nat → Nat, jnF q p r 0 L < prodF q L from fun r => jn_lt L fun j hj => ⟨by have := (HQ.out j hj).1; omega, (hall.out j hj).2.2.1⟩)
  have kw3 := kV.trans k3
  have hsw3 := kw3.size
  obtain ⟨b, hb⟩ : ∃ b : Nat → Bool, b = (fun i => cenB (jnF q p (fun j => f j i) 0 L) (prodF q L)) := ⟨_, rfl⟩
  obtain ⟨X, hXv⟩ : ∃ X : Nat → Nat, X = (fun i => cenN (jnF q p (fun j => f j i) 0 L) (prodF q L)) := ⟨_, rfl⟩
  rw [← hb, ← hXv] at hw4
  have HBV := Lib.hid hb
  have HXV := Lib.hid hXv
  clear hall x0 HX HB kV k3 k35 hb hXv HT
  obtain ⟨g5, hg5⟩ : ∃ g5, g5 = w3.heap.size + 1 := ⟨_, rfl⟩
  rw [← hg5] at hw4 ⊢
  have hg5' : w3.heap.size < g5 := by omega
  clear hg5
  go_loopw [27] (fun iv wr => ∃ k : Nat, k ≤ n ∧ iv = .int .i64 (k : Int) ∧ WK wr g5 n k 1000 b X ∧ RW wr w3.heap.size 237 2 (two (.slice (some ⟨G, 0, none⟩) L L) (.slice A3 n3 c3)) ∧ Ext w3 wr) (fun iv _ => n - (intOf iv).toNat)
  case atStart => exact ⟨0, by omega, rfl, hw4, hp4, k5⟩
  case round =>
    obtain ⟨k, hk, rfl, hwk, hp, kr⟩ := hrel
    clear hw4 hp4 k5
    by_cases hlt : k < n
    · have i1 : (k : Int) < (n : Int) := by omega
      have i2 : (0 : Int) ≤ (k : Int) := by omega
      have ka : Ext wr (wr.alloc (.cells #[.int .i64 (k : Int)] 3)) := (Ext.refl wr).alloc _
      have y0 := one_at wr (.int .i64 (k : Int)) 3
      have hy : RW (wr.alloc (.cells #[.int .i64 (k : Int)] 3)) wr.heap.size 3 1 (fun _ => .int .i64 (k : Int)) := heap_alloc_new _ _
      have hwa := hwk.ext ka
      have hpa := hp.ext ka
      have kra := kr.trans ka
      have hsr := kr.size
      obtain ⟨Bs, Ns, Cs, hrw, hxs⟩ := hwk
      have neY : wr.heap.size ≠ g5 := by have := hrw.lt; omega
      have neP : w3.heap.size ≠ g5 := by omega
      have hrwa := hrw.ext ka
      clear hwa hp kr
      go_wp2_with fail
      generalize wr.alloc (.cells #[.int .i64 (k : Int)] 3) = W at *
      obtain ⟨Y, hY⟩ : ∃ Y, Y = wr.heap.size := ⟨_, rfl⟩
      rw [← hY] at y0 hy neY ⊢
      clear hY hrw
      have p0 : W.cell? ⟨w3.heap.size, 0, none⟩ = some (.slice (some ⟨G, 0, none⟩) L L) := hpa.cell (i := 0) (by omega)
      have p1 : W.cell? ⟨w3.heap.size, 1, none⟩ = some (.slice A3 n3 c3) := hpa.cell (i := 1) (by omega)
      have ne1 : (Y = g5) = False := by simp; exact neY
      have ne2 : (g5 = Y) = False := by simp; exact fun e => neY e.symm
      have ne3 : (w3.heap.size = g5) = False := by simp; exact neP
      have ne4 : (g5 = w3.heap.size) = False := by simp; exact fun e => neP e.symm
      have HC := Lib.hid (show Lsts n L ns f q from hC.out)
      have kk : Ext W W := Ext.refl W
      go_region_held3 (fun w' => w'.cell? ⟨Y, 0, none⟩ = some (.int .i64 (k : Int)) ∧ w'.cell? ⟨w3.heap.size, 0, none⟩ = some (.slice (some ⟨G, 0, none⟩) L L) ∧ w'.cell? ⟨w3.heap.size, 1, none⟩ = some (.slice A3 n3 c3)) (go_keep)
        (first
          | (go_at_call 178; refine (wholeS_any w.heap.size Y G L n3 c3 A3 q p (fun j => f j k) As3 ns3 cs3 _ hL (HG.out.ext (kra.trans (Ext.drew kk))) hn3 (NX.ext H3.out (kra.trans (Ext.drew kk))) (Lib.hid fun j hj => ⟨⟨(HALL.out j hj).1.1, NX.ext (HALL.out j hj).1.2 (kra.trans (Ext.drew kk))⟩, (HALL.out j hj).2.1, (HALL.out j hj).2.2.1, (HALL.out j hj).2.2.2, (HC.out j hj).2 k hlt⟩) (HJ.out _) (Lib.hid (readS_any w.heap.size Y L c n k (some ad) As ns cs f _ (cell_ext (kra.trans (Ext.drew kk)) x3) (cell_ext (Ext.drew kk) y0) (HX3.out.ext (kra.trans (Ext.drew kk))) (fun j hj => (HC.out j hj).1) hlt (by omega) (by omega)))).mono ?_; rintro e5 w5 ⟨A5, n5, c5, rfl, hn5, hx5, k5⟩; replace kk : Ext W w5 := (Ext.trans (Ext.drew kk) k5); have z0 := cell_ext kk y0; have z1 := cell_ext kk p0; have z2 := cell_ext kk p1; have r5 := hrwa.ext kk; have c50 := r5.cell (i := k * 2) (by omega); have c51 := r5.cell (i := k * 2 + 1) (by omega); have f50 := r5.frozen (k * 2); have f51 := r5.frozen (k * 2 + 1); have s5 := r5.lt)
          | fail)
      all_goals
        have hw6 : (w5.setCell ⟨g5, k * 2, none⟩ (.bool (cenB (jnF q p (fun j => f j k) 0 L) (prodF q L)))).setCell ⟨g5, k * 2 + 1, none⟩ (.slice A5 n5 c5) = set2 w5 g5 (k * 2) (.bool (cenB (jnF q p (fun j => f j k) 0 L) (prodF q L))) (.slice A5 n5 c5) := rfl
        have hbk : cenB (jnF q p (fun j => f j k) 0 L) (prodF q L) = b k := by rw [HBV.out]
        rw [hw6, hbk]
        have kx := ka.trans kk
        have hput : WK (set2 w5 g5 (k * 2) (.bool (b k)) (.slice A5 n5 c5)) g5 n (k + 1) 1000 b X := WK.put ⟨Bs, Ns, Cs, r5, fun i hi => ⟨(hxs i hi).1, NX.ext (hxs i hi).2 kx⟩⟩ hlt hn5 (by rw [HXV.out]; exact hx5)
        have hp6 := (hpa.ext kk).keep2 neP (k * 2) (.bool (b k)) (.slice A5 n5 c5)
        have k6 := (kra.trans kk).keep2 (g := g5) (by omega) (k * 2) (.bool (b k)) (.slice A5 n5 c5)
        generalize set2 w5 g5 (k * 2) (.bool (b k)) (.slice A5 n5 c5) = w6 at *
        clear z0 z1 z2 c50 c51 f50 f51 s5 hw6 hbk r5 hxs hrwa hpa p0 p1 y0 hy
        go_wp2
        exact ⟨⟨k + 1, by omega, by go_num, hput, hp6, k6⟩, by simp [intOf]; omega⟩
    · obtain rfl : k = n := by omega
      have HW := Lib.hid hwk
      clear hwk
      go_wp2
      go_ret2
      exact ⟨p, g5, HPO, rfl, by omega, by rw [← HBV.out, ← HXV.out]; exact HW.out, kw3.trans kr⟩
end Go.Proofs.YtbpehdfpiembfaaGreatDoor

/-
  What package param asks of parameters: sizes, widths, primes, products.
-/
namespace Go.Proofs.YtbpehdfpiembfaaGreatDoor
open Go.RowKit
set_option linter.unusedVariables false
set_option maxRecDepth 100000

theorem bits_and_i64_nat (a b : Nat) (ha : a < 4611686018427387904) (hb : b < 4611686018427387904) : bits .and .i64 (a : Int) (b : Int) = ((a &&& b : Nat) : Int) := by
  have hx : a &&& b < 2 ^ 62 := Nat.and_lt_two_pow _ (by omega)
  have h1 : (BitVec.ofInt 64 (a : Int)).toNat = a := by
    rw [BitVec.ofInt_natCast, BitVec.toNat_ofNat]; exact Nat.mod_eq_of_lt (by omega)
  have h2 : (BitVec.ofInt 64 (b : Int)).toNat = b := by
    rw [BitVec.ofInt_natCast, BitVec.toNat_ofNat]; exact Nat.mod_eq_of_lt (by omega)
  show IntKind.i64.wrap ((BitVec.ofInt 64 (a : Int) &&& BitVec.ofInt 64 (b : Int)).toNat : Int) = _
  rw [BitVec.toNat_and, h1, h2, IntKind.wrap_i64]
  omega
/-- The bits that the row of N allows. -/
def rowS (N : Int) : Nat := if N = 8 ∨ N = 16 ∨ N = 32 ∨ N = 64 ∨ N = 128 ∨ N = 256 then 420 else if N = 1024 then 27 else if N = 2048 then 54 else if N = 4096 then 109 else 0
theorem row_any (N : Int) (w : World) :
    Calls Tryz.prog 217 #[.int .i64 N] w fun e w' => e = .returned (.int .i64 (rowS N : Int)) ∧ w = w' := by
  have key : ∀ m : Nat, rowS N = m → (N = 8 ∨ N = 16 ∨ N = 32 ∨ N = 64 ∨ N = 128 ∨ N = 256 ∨ N = 1024 ∨ N = 2048 ∨ N = 4096 ∨ (N ≠ 8 ∧ N ≠ 16 ∧ N ≠ 32 ∧ N ≠ 64 ∧ N ≠ 128 ∧ N ≠ 256 ∧ N ≠ 1024 ∧ N ≠ 2048 ∧ N ≠ 4096 ∧ m = 0)) := fun m hm => by
    unfold rowS at hm
    by_cases h : N = 8 ∨ N = 16 ∨ N = 32 ∨ N = 64 ∨ N = 128 ∨ N = 256
    · omega
    · rw [if_neg h] at hm
      by_cases h1 : N = 1024
      · omega
      · rw [if_neg h1] at hm
        by_cases h2 : N = 2048
        · omega
        · rw [if_neg h2] at hm
          by_cases h3 : N = 4096
          · omega
          · rw [if_neg h3] at hm; omega
  obtain ⟨m, hm⟩ : ∃ m, rowS N = m := ⟨_, rfl⟩
  have hk := key m hm
  clear key
  rcases hk with rfl | rfl | rfl | rfl | rfl | rfl | rfl | rfl | rfl | ⟨h1, h2, h3, h4, h5, h6, h7, h8, h9, rfl⟩
  case inr.inr.inr.inr.inr.inr.inr.inr.inr =>
    have e1 : (N == 8) = false := by simp; omega
    have e2 : (N == 16) = false := by simp; omega
    have e3 : (N == 32) = false := by simp; omega
    have e4 : (N == 64) = false := by simp; omega
    have e5 : (N == 128) = false := by simp; omega
    have e6 : (N == 256) = false := by simp; omega
    have e7 : (N == 1024) = false := by simp; omega
    have e8 : (N == 2048) = false := by simp; omega
    have e9 : (N == 4096) = false := by simp; omega
    rw [hm]
    go_enter Tryz.func217, Tryz.ntmps217
    go_wp2
    go_ret
    exact ⟨rfl, rfl⟩
  all_goals
    clear hm
    go_enter Tryz.func217, Tryz.ntmps217
    go_wp2
    go_ret
    exact ⟨rfl, rfl⟩
theorem rrow_any (N : Int) (w : World) :
    Calls Tryz.prog 61 #[.int .i64 N] w fun e w' => e = .returned (.int .i64 (rowS N : Int)) ∧ w = w' := by
  have key : ∀ m : Nat, rowS N = m → (N = 8 ∨ N = 16 ∨ N = 32 ∨ N = 64 ∨ N = 128 ∨ N = 256 ∨ N = 1024 ∨ N = 2048 ∨ N = 4096 ∨ (N ≠ 8 ∧ N ≠ 16 ∧ N ≠ 32 ∧ N ≠ 64 ∧ N ≠ 128 ∧ N ≠ 256 ∧ N ≠ 1024 ∧ N ≠ 2048 ∧ N ≠ 4096 ∧ m = 0)) := fun m hm => by
    unfold rowS at hm
    by_cases h : N = 8 ∨ N = 16 ∨ N = 32 ∨ N = 64 ∨ N = 128 ∨ N = 256
    · omega
    · rw [if_neg h] at hm
      by_cases h1 : N = 1024
      · omega
      · rw [if_neg h1] at hm
        by_cases h2 : N = 2048
        · omega
        · rw [if_neg h2] at hm
          by_cases h3 : N = 4096
          · omega
          · rw [if_neg h3] at hm; omega
  obtain ⟨m, hm⟩ : ∃ m, rowS N = m := ⟨_, rfl⟩
  have hk := key m hm
  clear key
  rcases hk with rfl | rfl | rfl | rfl | rfl | rfl | rfl | rfl | rfl | ⟨h1, h2, h3, h4, h5, h6, h7, h8, h9, rfl⟩
  case inr.inr.inr.inr.inr.inr.inr.inr.inr =>
    have e1 : (N == 8) = false := by simp; omega
    have e2 : (N == 16) = false := by simp; omega
    have e3 : (N == 32) = false := by simp; omega
    have e4 : (N == 64) = false := by simp; omega
    have e5 : (N == 128) = false := by simp; omega
    have e6 : (N == 256) = false := by simp; omega
    have e7 : (N == 1024) = false := by simp; omega
    have e8 : (N == 2048) = false := by simp; omega
    have e9 : (N == 4096) = false := by simp; omega
    rw [hm]
    go_enter Tryz.func61, Tryz.ntmps61
    go_wp2
    go_ret
    exact ⟨rfl, rfl⟩
  all_goals
    clear hm
    go_enter Tryz.func61, Tryz.ntmps61
    go_wp2
    go_ret
    exact ⟨rfl, rfl⟩
/-- May there be so many coefficients? -/
def SizeP (N : Int) : Prop := 8 ≤ N ∧ N ≤ 4096 ∧ stepS N.toNat = true
theorem top_any (N T W : Int) (A : Option Addr) (L c : Nat) (w : World) (hL : L ≤ 1000000000000000) :
    Calls Tryz.prog 59 #[.agg #[.int .i64 N, .int .u64 T, .slice A L c, .int .i64 W]] w fun e w' => e = .returned (.int .i64 ((L : Int) - 1)) ∧ Ext w w' := by
  go_enter Tryz.func59, Tryz.ntmps59
  go_wp2
  go_ret
  exact ⟨by go_simp, (Ext.refl w).alloc _⟩
set_option maxHeartbeats 1000000 in
theorem maySize_any (N T W : Int) (A : Option Addr) (L c : Nat) (w : World) (n0 : -9223372036854775808 ≤ N) (n1 : N < 9223372036854775808) :
    Calls Tryz.prog 155 #[.agg #[.int .i64 N, .int .u64 T, .slice A L c, .int .i64 W]] w (Tells w (SizeP N)) := by
  by_cases h0 : 8 ≤ N
  · by_cases h1 : N ≤ 4096
    · obtain ⟨n, rfl⟩ := Int.eq_ofNat_of_zero_le (show 0 ≤ N by omega)
      have H := Lib.hid (show SizeP (n : Int) ↔ (n &&& (n - 1)) = 0 by
        unfold SizeP
        rw [Int.toNat_natCast, stepS_is (by omega) (by omega)]
        constructor
        · rintro ⟨_, _, h⟩; exact of_decide_eq_true h
        · intro h; exact ⟨h0, h1, decide_eq_true h⟩)
      have hb := bits_and_i64_nat n (n - 1) (by omega) (by omega)
      rw [show ((n - 1 : Nat) : Int) = (n : Int) - 1 by omega] at hb
      generalize (n &&& (n - 1)) = q at *
      by_cases hq : q = 0
      · subst hq
        go_enter Tryz.func155, Tryz.ntmps155
        go_wp2
        go_ret
        exact Tells.yes (H.out.2 trivial) ((Ext.refl w).alloc _)
      · have hq2 : ((q : Int) == 0) = false := by simp; omega
        go_enter Tryz.func155, Tryz.ntmps155
        go_wp2
        go_ret
        exact Tells.no (fun h => hq (H.out.1 h)) ((Ext.refl w).alloc _)
    · have H := Lib.hid (show ¬ SizeP N from fun h => h1 h.2.1)
      go_enter Tryz.func155, Tryz.ntmps155
      go_wp2
      go_ret
      exact Tells.no H.out ((Ext.refl w).alloc _)
  · have H := Lib.hid (show ¬ SizeP N from fun h => h0 h.1)
    go_enter Tryz.func155, Tryz.ntmps155
    go_wp2
    go_ret
    exact Tells.no H.out ((Ext.refl w).alloc _)
theorem mayWidth_any (N T W : Int) (A : Option Addr) (L c : Nat) (w : World) :
    Calls Tryz.prog 156 #[.agg #[.int .i64 N, .int .u64 T, .slice A L c, .int .i64 W]] w (Tells w (1 ≤ W ∧ W ≤ 16)) := by
  by_cases h0 : 1 ≤ W
  · by_cases h1 : W ≤ 16
    · go_enter Tryz.func156, Tryz.ntmps156
      go_wp2
      go_ret
      exact Tells.yes ⟨h0, h1⟩ ((Ext.refl w).alloc _)
    · go_enter Tryz.func156, Tryz.ntmps156
      go_wp2
      go_ret
      exact Tells.no (fun h => by omega) ((Ext.refl w).alloc _)
  · go_enter Tryz.func156, Tryz.ntmps156
    go_wp2
    go_ret
    exact Tells.no (fun h => by omega) ((Ext.refl w).alloc _)
/-- May there be so many primes? -/
def CountP (L : Nat) : Prop := 1 ≤ L ∧ L ≤ 8
theorem mayCount_any (N T W : Int) (A : Option Addr) (L c : Nat) (w : World) (hL : L ≤ 1000000000000000) :
    Calls Tryz.prog 158 #[.agg #[.int .i64 N, .int .u64 T, .slice A L c, .int .i64 W]] w (Tells w (CountP L)) := by
  by_cases h0 : 1 ≤ L
  · have e0 : decide (1 ≤ (L : Int)) = true := by simp; omega
    by_cases h1 : L ≤ 8
    · have e1 : decide ((L : Int) ≤ 8) = true := by simp; omega
      have H := Lib.hid (show CountP L from ⟨h0, h1⟩)
      clear h0 h1
      go_enter Tryz.func158, Tryz.ntmps158
      go_wp2
      go_ret
      exact Tells.yes H.out ((Ext.refl w).alloc _)
    · have e1 : decide ((L : Int) ≤ 8) = false := by simp; omega
      have H := Lib.hid (show ¬ CountP L from fun h => h1 h.2)
      clear h0 h1
      go_enter Tryz.func158, Tryz.ntmps158
      go_wp2
      go_ret
      exact Tells.no H.out ((Ext.refl w).alloc _)
  · obtain rfl : L = 0 := by omega
    have H := Lib.hid (show ¬ CountP 0 from fun h => h0 h.1)
    go_enter Tryz.func158, Tryz.ntmps158
    go_wp2
    go_ret
    exact Tells.no H.out ((Ext.refl w).alloc _)
/-- A prime that polynomials of n coefficients can be multiplied by. -/
def FrP (n q : Nat) : Prop := q % (2 * n) = 1 ∧ isS q = true
theorem isFriendly_any (n q : Nat) (T W : Int) (A : Option Addr) (L c : Nat) (w : World) (hn0 : 8 ≤ n) (hn1 : n ≤ 4096) (hq : q < 18446744073709551616) (hT : Tabs w) :
    Calls Tryz.prog 216 #[.agg #[.int .i64 (n : Int), .int .u64 T, .slice A L c, .int .i64 W], .int .u64 (q : Int)] w (Tells w (FrP n q)) := by
  have HT := Lib.hid hT
  clear hT
  have kV : Ext w (w.alloc (.cells #[.int .i64 (n : Int), .int .u64 T, .slice A L c, .int .i64 W] 186)) := (Ext.refl w).alloc _
  have hz : ((2 * (n : Int)) == 0) = false := by simp; omega
  have hz2 : ¬ (2 * (n : Int)) = 0 := by omega
  by_cases h1 : q % (2 * n) = 1
  · have e : ((q : Int) % (2 * (n : Int)) == 1) = true := by
      have : (q : Int) % (2 * (n : Int)) = 1 := by rw [show 2 * (n : Int) = ((2 * n : Nat) : Int) by omega, ← Int.natCast_emod, h1]; rfl
      rw [this]; rfl
    go_enter Tryz.func216, Tryz.ntmps216
    go_wp2_with fail
    refine (is_any q _ hq (HT.out.ext kV)).mono ?_
    cases hi : isS q
    · rintro ee w2 ⟨rfl, k2⟩
      have HN := Lib.hid (show ¬ FrP n q from fun h => by rw [h.2] at hi; cases hi)
      clear hi
      go_wp2
      go_ret
      exact Tells.no HN.out (kV.trans k2)
    · rintro ee w2 ⟨rfl, k2⟩
      have HN := Lib.hid (show FrP n q from ⟨h1, hi⟩)
      clear hi
      go_wp2
      go_ret
      exact Tells.yes HN.out (kV.trans k2)
  · have e : ((q : Int) % (2 * (n : Int)) == 1) = false := by
      have : ¬ (q : Int) % (2 * (n : Int)) = 1 := by rw [show 2 * (n : Int) = ((2 * n : Nat) : Int) by omega, ← Int.natCast_emod]; omega
      simpa using this
    have HN := Lib.hid (show ¬ FrP n q from fun h => h1 h.1)
    clear h1
    go_enter Tryz.func216, Tryz.ntmps216
    go_wp2
    go_ret
    exact Tells.no HN.out kV
/-- May T be the plain modulus? -/
def PlainP (n T : Nat) : Prop := T < 1073741824 ∧ FrP n T
theorem mayPlain_any (n T : Nat) (W : Int) (A : Option Addr) (L c : Nat) (w : World) (hn0 : 8 ≤ n) (hn1 : n ≤ 4096) (hq : T < 18446744073709551616) (hT : Tabs w) :
    Calls Tryz.prog 157 #[.agg #[.int .i64 (n : Int), .int .u64 (T : Int), .slice A L c, .int .i64 W]] w (Tells w (PlainP n T)) := by
  have HT := Lib.hid hT
  clear hT
  have kV : Ext w (w.alloc (.cells #[.int .i64 (n : Int), .int .u64 (T : Int), .slice A L c, .int .i64 W] 186)) := (Ext.refl w).alloc _
  by_cases h1 : T < 1073741824
  · have e1 : decide ((T : Int) < 1073741824) = true := by simp; omega
    have H1 := Lib.hid h1
    clear h1
    go_enter Tryz.func157, Tryz.ntmps157
    go_wp2_with fail
    refine (isFriendly_any n T (T : Int) W A L c _ hn0 hn1 hq (HT.out.ext kV)).mono ?_
    rintro ee w2 (⟨hy, rfl, k2⟩ | ⟨hy, rfl, k2⟩)
    · have HN := Lib.hid (show PlainP n T from ⟨H1.out, hy⟩)
      clear hy
      go_wp2
      go_ret
      exact Tells.yes HN.out (kV.trans k2)
    · have HN := Lib.hid (show ¬ PlainP n T from fun h => hy h.2)
      clear hy
      go_wp2
      go_ret
      exact Tells.no HN.out (kV.trans k2)
  · have e1 : decide ((T : Int) < 1073741824) = false := by simp; omega
    have HN := Lib.hid (show ¬ PlainP n T from fun h => h1 h.1)
    clear h1
    go_enter Tryz.func157, Tryz.ntmps157
    go_wp2
    go_ret
    exact Tells.no HN.out kV
end Go.Proofs.YtbpehdfpiembfaaGreatDoor

/-
  Where the slots' values stand: placesOf; a batch in memory; Power; a nil batch.
-/
namespace Go.Proofs.YtbpehdfpiembfaaGreatDoor
open Go.RowKit
set_option linter.unusedVariables false
set_option maxRecDepth 100000

theorem info_place : (Tryz.prog.info? 269).map (fun i => (i.zero, i.size, i.bytes)) = some (some (.agg #[.int .i64 0, .int .i64 0]), 2, 16) := by kernel_rfl
def newPlace (c : Nat) : Array Value := ((List.range (c * 2)).map fun _ => Value.int .i64 0).toArray
theorem newPlace_rw (w : World) (c : Nat) : RW (w.alloc (.cells (newPlace c) 269)) w.heap.size 269 (c * 2) (fun _ => .int .i64 0) := heap_alloc_new w _
theorem make_place (c : Nat) (hc : c ≤ 1000000) (w : World) :
    (Instr.makeSlice 252 (.int .i64 (c : Int)) (.int .i64 (c : Int))).run Tryz.prog w = .ok (.slice (some ⟨w.heap.size, 0, none⟩) c c) (w.alloc (.cells (newPlace c) 269)) := by
  obtain ⟨i0, hi, hz0, hz1, hz2⟩ := info_parts info_place
  have hr := run_make (P := Tryz.prog) w 252 269 i0 (.agg #[.int .i64 0, .int .i64 0]) Tryz.underlying252 hi hz0 .i64 .i64 (c : Int) (c : Int) (by omega) (by omega) (by rw [hz2]; omega) (by omega)
  rw [hz1] at hr
  simp only [Int.toNat_natCast] at hr
  rw [hr]
  have e : madeCells (Value.agg #[.int .i64 0, .int .i64 0]).cells (c * 2) = newPlace c := by
    apply Array.toList_inj.1
    unfold newPlace madeCells
    apply List.ext_getElem?
    intro j
    by_cases hj : j < c * 2
    · rcases (show j % 2 = 0 ∨ j % 2 = 1 by omega) with h | h <;> simp [hj, Value.cells, h]
    · simp [hj]
  rw [e]
/-- The cells of the places. -/
def plN (n i : Nat) : Nat := if i % 2 = 0 then atB n (i / 2) else n - 1 - atB n (i / 2)
def plF (n i : Nat) : Value := .int .i64 (plN n i : Int)
theorem placeAt_any (x : Nat) (w : World) (h1 : 1 ≤ x) (hx : x ≤ 100000) : Calls Tryz.prog 250 #[.int .i64 (x : Int)] w fun e w' => e = .returned (.int .i64 (((x - 1) / 2 : Nat) : Int)) ∧ w = w' := by
  have ht : ((x : Int) - 1).tdiv 2 = (((x - 1) / 2 : Nat) : Int) := by
    rw [Int.tdiv_eq_ediv_of_nonneg (by omega)]; omega
  go_enter Tryz.func250, Tryz.ntmps250
  go_wp2
  go_ret
  exact ⟨by first | rfl | (simp only [ht]) | (congr 2; omega) | (congr 2), rfl⟩
theorem powerAt_any (x : Nat) (w : World) (hx : x ≤ 100000) : Calls Tryz.prog 212 #[.int .i64 (x : Int)] w fun e w' => e = .returned (.int .i64 ((2 * x + 1 : Nat) : Int)) ∧ w = w' := by
  go_enter Tryz.func212, Tryz.ntmps212
  go_wp2
  go_ret
  exact ⟨by first | rfl | (congr 2; omega) | simp, rfl⟩
set_option maxHeartbeats 4000000 in
theorem placesOf_any (n : Nat) (w : World) (hn0 : 2 ≤ n) (hn : n ≤ 4096) (hev : n % 2 = 0) :
    Calls Tryz.prog 194 #[.int .i64 (n : Int)] w fun ee w' => ∃ g, ee = .returned (.slice (some ⟨g, 0, none⟩) (n / 2) (n / 2)) ∧ w.heap.size ≤ g ∧ RW w' g 269 (n / 2 * 2) (plF n) ∧ Ext w w' := by
  have hmk := make_place (n / 2) (by omega)
  have hq : ((n / 2 : Nat) : Int) = (n : Int) / 2 := by omega
  have hq2 : (n : Int).tdiv 2 = ((n / 2 : Nat) : Int) := by rw [Int.tdiv_eq_ediv_of_nonneg (by omega)]; omega
  obtain ⟨h, hh⟩ : ∃ h, h = n / 2 := ⟨_, rfl⟩
  rw [← hh] at hmk hq2 ⊢
  have hhe : (h : Int) = (n : Int) / 2 := by omega
  rw [hhe] at hmk
  have hle1 : 2 * h ≤ n := by omega
  have hle2 : n ≤ 2 * h := by omega
  clear hhe hq2 hh
  clear hq
  go_enter Tryz.func194, Tryz.ntmps194
  go_wp2
  clear hmk
  have hr0 := newPlace_rw w h
  have k0 : Ext w (w.alloc (.cells (newPlace h) 269)) := (Ext.refl w).alloc _
  have hp0 : pw3 n 0 = 1 := by unfold pw3; rw [Nat.pow_zero]; exact Nat.mod_eq_of_lt (by omega)
  go_loopw [4, 12] (fun p i wr => ∃ k : Nat, k ≤ h ∧ i = .int .i64 (k : Int) ∧ p = .int .i64 (pw3 n k : Int) ∧ RW wr w.heap.size 269 (h * 2) (fun i => if i < k * 2 then plF n i else .int .i64 0) ∧ Ext w wr) (fun _ i _ => h - (intOf i).toNat)
  case atStart => exact ⟨0, by omega, rfl, by rw [hp0]; rfl, hr0.congr fun i _ => by rw [if_neg (by omega)], k0⟩
  case round =>
    obtain ⟨k, hk, rfl, rfl, hr, kr⟩ := hrel
    clear hr0 k0 hp0
    by_cases hlt : k < h
    · have hpl : pw3 n k < 2 * n := Nat.mod_lt _ (by omega)
      have hpo : 2 * atB n k + 1 ≤ pw3 n k ∧ pw3 n k ≤ 2 * atB n k + 1 := by have := pw3_at n k; omega
      have hal := at_lt (n := n) (by omega) k
      have HNX := Lib.hid (pw3_next n k)
      have HA := Lib.hid (show (pw3 n k - 1) / 2 = atB n k from rfl)
      obtain ⟨hpo1, hpo2⟩ := hpo
      generalize hx : pw3 n k = x at *
      clear hx
      go_wp2_with fail
      refine (placeAt_any x wr (by omega) (by omega)).mono ?_
      rw [HA.out]
      rintro ee w2 ⟨rfl, rfl⟩
      generalize hat : atB n k = a at *
      have c0 := hr.cell (i := k * 2) (by omega)
      have c1 := hr.cell (i := k * 2 + 1) (by omega)
      have z0 := hr.frozen (k * 2)
      have z1 := hr.frozen (k * 2 + 1)
      have sz := hr.lt
      have i0 : (0 : Int) ≤ (k : Int) := by omega
      have i1 : (k : Int) < (h : Int) := by omega
      have hz : ((2 * (n : Int)) == 0) = false := by simp; omega
      have hz2 : ¬ (2 * (n : Int)) = 0 := by omega
      have m1 : ((x : Int) * 3).tmod (2 * (n : Int)) = ((x * 3 % (2 * n) : Nat) : Int) := by
        rw [Int.tmod_eq_emod_of_nonneg (by omega), show 2 * (n : Int) = ((2 * n : Nat) : Int) by omega, show (x : Int) * 3 = ((x * 3 : Nat) : Int) by omega, ← Int.natCast_emod]
      have m2 : ((x : Int) * 3) % (2 * (n : Int)) = ((x * 3 % (2 * n) : Nat) : Int) := by
        rw [show 2 * (n : Int) = ((2 * n : Nat) : Int) by omega, show (x : Int) * 3 = ((x * 3 : Nat) : Int) by omega, ← Int.natCast_emod]
      rw [← HNX.out] at m1 m2
      have hpn : pw3 n (k + 1) < 2 * n := Nat.mod_lt _ (by omega)
      go_wp2
      have hset := ((hr.set (show k * 2 < h * 2 by omega) (.int .i64 (a : Int))).set (show k * 2 + 1 < h * 2 by omega) (.int .i64 ((n : Int) - 1 - (a : Int)))).congr (G := fun i => if i < (k + 1) * 2 then plF n i else .int .i64 0) fun i hi => by
        by_cases h1 : i = k * 2 + 1
        · subst h1
          rw [if_pos rfl, if_pos (by omega), plF, plN, if_neg (by omega), show (k * 2 + 1) / 2 = k by omega, hat]
          congr 1; omega
        · rw [if_neg h1]
          by_cases h2 : i = k * 2
          · subst h2
            rw [if_pos rfl, if_pos (by omega), plF, plN, if_pos (by omega), show k * 2 / 2 = k by omega, hat]
          · rw [if_neg h2]
            by_cases h3 : i < k * 2
            · rw [if_pos h3, if_pos (by omega)]
            · rw [if_neg h3, if_neg (by omega)]
      have kz := (kr.set (p := ⟨w.heap.size, k * 2, none⟩) (Nat.le_refl _) (.int .i64 (a : Int))).set (p := ⟨w.heap.size, k * 2 + 1, none⟩) (Nat.le_refl _) (.int .i64 ((n : Int) - 1 - (a : Int)))
      exact ⟨⟨k + 1, by omega, by go_num, by first | rfl | (congr 1; omega) | simp, hset, kz⟩, by simp [intOf]; omega⟩
    · obtain rfl : k = h := by omega
      have hfin := hr.congr (G := plF n) fun i hi => by rw [if_pos hi]
      clear hr
      go_wp2
      go_ret
      exact ⟨_, rfl, Nat.le_refl _, hfin, kr⟩
theorem bits_mask (z : Int) (j : Nat) (hj : j ≤ 40) : bits .and .i64 z ((2 ^ j - 1 : Nat) : Int) = z % ((2 ^ j : Nat) : Int) := by
  have hp : 2 ^ j ≤ 2 ^ 40 := Nat.pow_le_pow_right (by omega) hj
  have hp0 := Nat.two_pow_pos j
  have h1 : (BitVec.ofInt 64 z).toNat = (z % 18446744073709551616).toNat := by rw [BitVec.toNat_ofInt]; rfl
  have h2 : (BitVec.ofInt 64 ((2 ^ j - 1 : Nat) : Int)).toNat = 2 ^ j - 1 := by
    rw [BitVec.ofInt_natCast, BitVec.toNat_ofNat]; exact Nat.mod_eq_of_lt (by omega)
  show IntKind.i64.wrap ((BitVec.ofInt 64 z &&& BitVec.ofInt 64 ((2 ^ j - 1 : Nat) : Int)).toNat : Int) = _
  rw [BitVec.toNat_and, h1, h2, Nat.and_two_pow_sub_one_eq_mod]
  have hd : ((2 ^ j : Nat) : Int) ∣ 18446744073709551616 := by
    refine ⟨((2 ^ (64 - j) : Nat) : Int), ?_⟩
    rw [← Int.natCast_mul, ← Nat.pow_add, show j + (64 - j) = 64 by omega]; rfl
  have h3 : (((z % 18446744073709551616).toNat % 2 ^ j : Nat) : Int) = z % ((2 ^ j : Nat) : Int) := by
    rw [Int.natCast_emod, Int.toNat_of_nonneg (Int.emod_nonneg _ (by omega)), Int.emod_emod_of_dvd _ hd]
  rw [h3, IntKind.wrap_i64]
  have h4 := Int.emod_nonneg z (show ((2 ^ j : Nat) : Int) ≠ 0 by omega)
  have h5 := Int.emod_lt_of_pos z (show 0 < ((2 ^ j : Nat) : Int) by omega)
  omega
/-- A batch in memory. -/
structure Bt (w : World) (p n T k r v : Nat) : Prop where
  ex : ∃ g t, w.cell? ⟨p, 0, none⟩ = some (.int .u64 (T : Int)) ∧ w.cell? ⟨p, 1, none⟩ = some (.slice (some ⟨g, 0, none⟩) (n / 2) (n / 2)) ∧ w.cell? ⟨p, 2, none⟩ = some (.func (.func 195) #[.pointer (some ⟨t, 0, none⟩)] #[]) ∧ w.cell? ⟨p, 3, none⟩ = some (.func (.func 196) #[.pointer (some ⟨t, 0, none⟩)] #[]) ∧ RW w g 269 (n / 2 * 2) (plF n) ∧ Table w t n T k r v
theorem Bt.ext {w w' : World} {p n T k r v : Nat} (h : Bt w p n T k r v) (e : Ext w w') : Bt w' p n T k r v := by
  obtain ⟨g, t, h0, h1, h2, h3, h4, h5⟩ := h.ex
  exact ⟨g, t, cell_ext e h0, cell_ext e h1, cell_ext e h2, cell_ext e h3, h4.ext e, h5.ext e⟩
theorem isNone_nil (w : World) : Calls Tryz.prog 211 #[.pointer none] w fun e w' => e = .returned (.bool true) ∧ w = w' := by
  go_enter Tryz.func211, Tryz.ntmps211
  go_wp2
  go_ret
  exact ⟨rfl, rfl⟩
theorem isNone_no (p n T k r v : Nat) (w : World) (hB : Bt w p n T k r v) (hn0 : 2 ≤ n) (hn : n ≤ 4096) : Calls Tryz.prog 211 #[.pointer (some ⟨p, 0, none⟩)] w fun e w' => e = .returned (.bool false) ∧ w = w' := by
  obtain ⟨g, t, h0, h1, _⟩ := hB.ex
  have e1 : (((n / 2 : Nat) : Int) == 0) = false := by simp; omega
  generalize n / 2 = m at *
  go_enter Tryz.func211, Tryz.ntmps211
  go_wp2
  go_ret
  exact ⟨by first | rfl | simp_all, rfl⟩
theorem powerNil_any (z : Int) (w : World) : Calls Tryz.prog 150 #[.pointer none, .int .i64 z] w fun e w' => e = .returned (.int .i64 0) ∧ Ext w w' := by
  go_enter Tryz.func150, Tryz.ntmps150
  go_wp2_with fail
  refine (isNone_nil w).mono ?_
  rintro e w' ⟨rfl, rfl⟩
  go_wp2
  go_ret
  exact ⟨rfl, Ext.refl _⟩
/-- The slot that a step moves to slot 0. -/
def stepM (n : Nat) (z : Int) : Nat := (z % ((n / 2 : Nat) : Int)).toNat
set_option maxHeartbeats 4000000 in
theorem power_any (p n T k r v : Nat) (z : Int) (w : World) (hB : Bt w p n T k r v) (hn : Sml n) :
    Calls Tryz.prog 150 #[.pointer (some ⟨p, 0, none⟩), .int .i64 z] w fun e w' => e = .returned (.int .i64 (pw3 n (stepM n z) : Int)) ∧ Ext w w' := by
  obtain ⟨j, hj, hj2⟩ : ∃ j, n / 2 = 2 ^ j ∧ j ≤ 5 := by
    rcases hn with rfl | rfl | rfl | rfl
    · exact ⟨2, by decide, by omega⟩
    · exact ⟨3, by decide, by omega⟩
    · exact ⟨4, by decide, by omega⟩
    · exact ⟨5, by decide, by omega⟩
  have hn2 : 8 ≤ n ∧ n ≤ 64 := by rcases hn with rfl | rfl | rfl | rfl <;> omega
  have hm := bits_mask z j (by omega)
  rw [← hj] at hm
  obtain ⟨h4, h5⟩ : 0 ≤ z % ((n / 2 : Nat) : Int) ∧ z % ((n / 2 : Nat) : Int) < ((n / 2 : Nat) : Int) := ⟨Int.emod_nonneg z (by omega), Int.emod_lt_of_pos z (by omega)⟩
  obtain ⟨s, hs⟩ := Int.eq_ofNat_of_zero_le h4
  have hsm : stepM n z = s := by unfold stepM; rw [hs]; rfl
  rw [hs] at hm h5
  rw [hsm]
  have hpw := pw3_at n s
  rw [hpw]
  have hal := at_lt (n := n) (by omega) s
  have HB := Lib.hid hB
  obtain ⟨g, t, h0, h1, _, _, hr, _⟩ := hB.ex
  have c0 := hr.cell (i := s * 2) (by omega)
  rw [plF, plN, if_pos (by omega), show s * 2 / 2 = s by omega] at c0
  rw [show ((n / 2 - 1 : Nat) : Int) = ((n / 2 : Nat) : Int) - 1 by omega] at hm
  have i0 : (0 : Int) ≤ (s : Int) := by omega
  have i1 : (s : Int) < ((n / 2 : Nat) : Int) := h5
  clear hB hr h4 hs hsm hj
  have hh4 : n / 2 ≤ 100 := by omega
  generalize hh : n / 2 = h at *
  generalize hat : atB n s = a at *
  clear hpw hat
  go_enter Tryz.func150, Tryz.ntmps150
  go_wp2_with fail
  refine (isNone_no p n T k r v w HB.out (by omega) (by omega)).mono ?_
  rintro e w' ⟨rfl, rfl⟩
  go_wp2_with fail
  refine (powerAt_any a w (by omega)).mono ?_
  rintro e w' ⟨rfl, rfl⟩
  go_wp2
  go_ret
  exact ⟨rfl, Ext.refl _⟩
end Go.Proofs.YtbpehdfpiembfaaGreatDoor
