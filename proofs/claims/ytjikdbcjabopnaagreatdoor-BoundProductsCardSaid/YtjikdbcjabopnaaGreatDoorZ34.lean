import Derived.Test.YtjikdbcjabopnaaGreatDoorZ33
namespace Go.Proofs.YtjikdbcjabopnaaGreatDoor
open Go.RowKit
set_option linter.unusedVariables false
set_option linter.unusedSimpArgs false
set_option maxRecDepth 100000
theorem app2 (a b : Value) : #[a] ++ #[b] = #[a, b] := rfl
theorem app3 (a b c : Value) : #[a] ++ #[b, c] = #[a, b, c] := rfl
theorem app4 (a b c d : Value) : #[a] ++ #[b, c, d] = #[a, b, c, d] := rfl
theorem app5 (a b c d e : Value) : #[a] ++ #[b, c, d, e] = #[a, b, c, d, e] := rfl
theorem addN {w : World} {A A' : Option Addr} {n c n' c' X Y M M' : Nat} (h : NV w (.slice A n c) X M) (h' : NV w (.slice A' n' c') Y M') (hM : M ≤ 1000) (hM' : M' ≤ 1000) :
    Calls Tryz.prog 89 #[.slice A n c, .slice A' n' c'] w fun e w' => ∃ A2 n2 c2, e = .returned (.slice A2 n2 c2) ∧ n2 ≤ M + M' + 1 ∧ NX w' A2 n2 c2 (nw (X + Y)) ∧ Ext w w' := by
 obtain ⟨_, _, _, xs, e, hn, hv, hx⟩ := h
 obtain ⟨_, _, _, ys, e', hn', hv', hx'⟩ := h'
 injection e with e1 e2 e3
 injection e' with f1 f2 f3
 subst e1 e2 e3 f1 f2 f3 hv hv'
 exact (addX hx hx' (by omega) (by omega)).mono fun e w' ⟨A2, n2, c2, he, hn2, hx2, k⟩ => ⟨A2, n2, c2, he, by omega, hx2, k⟩
theorem SB.cast {w : World} {p X X' m m' : Nat} (h : SB w p X m) (e : X = X') (hm : m ≤ m') : SB w p X' m' := by
 subst e
 obtain ⟨A, n, c, h1, h2, h3⟩ := h
 exact ⟨A, n, c, h1, by omega, h3⟩
theorem upN {w : World} {A A' : Option Addr} {n c n' c' X Y M : Nat} (h : NV w (.slice A n c) X M) (h' : NX w A' n' c' (nw Y)) (hM : M ≤ 900) (hn' : n' ≤ 900) (hY : 0 < Y) :
    Calls Tryz.prog 90 #[.slice A n c, .slice A' n' c'] w fun e w' => ∃ A2 n2 c2, e = .returned (.slice A2 n2 c2) ∧ n2 ≤ M + 3 ∧ NX w' A2 n2 c2 (nw (upZ X Y)) ∧ Ext w w' := by
 obtain ⟨_, _, _, xs, e, hn, hv, hx⟩ := h
 injection e with e1 e2 e3
 subst e1 e2 e3 hv
 exact (up_any hx h' (by omega) hn' rfl (nv_nw _) hY).mono fun e w' ⟨A2, n2, c2, he, hn2, hx2, k⟩ => ⟨A2, n2, c2, he, by omega, hx2, k⟩
set_option maxHeartbeats 4000000 in
theorem freshC_any {gl n T Wd : Nat} {R S : Value} {w : World} (hn : n ≤ 4096) (hW : Wd ≤ 16) (hst : StC w gl n T Wd R S) :
    Adds 82 #[.pointer (some ⟨gl, 0, none⟩)] w (Wd * (2 * n + 1)) 10 := by
 obtain ⟨z0, hz0⟩ : ∃ z, z = 2 * n := ⟨_, rfl⟩
 obtain ⟨z1, hz1⟩ : ∃ z, z = z0 + 1 := ⟨_, rfl⟩
 have u0 : IntKind.u64.wrap (2 * (n : Int)) = (z0 : Int) := by rw [IntKind.wrap_u64]; omega
 have u1 : IntKind.u64.wrap ((z0 : Int) + 1) = (z1 : Int) := by rw [IntKind.wrap_u64]; omega
 have hzb : z1 < 18446744073709551616 := by omega
 have HZ := Lib.hid (show z1 = 2 * n + 1 by omega)
 clear hz0 hz1
 intro w1 kw hs0
 have HS := Lib.hid hs0
 have on : On w.heap.size w1 w1 := On.refl _ _
 have hp : w.heap.size ≤ w.heap.size := Nat.le_refl _
 obtain ⟨p, hpe⟩ : ∃ p, p = w.heap.size := ⟨_, rfl⟩
 rw [← hpe] at HS on ⊢
 have hp : w.heap.size ≤ p := by omega
 clear hs0 hpe
 rw [app2]
 have d0 := cell_ext kw hst.1
 have d1 := cell_ext kw hst.2.2.1
 have kk : Ext w1 w1 := Ext.refl w1
 go_enter Tryz.func82, Tryz.ntmps82
 go_wp2_with fail
 go_region_held3 (fun w' => w'.cell? ⟨gl, 0, none⟩ = some (.int .u64 (n : Int)) ∧ w'.cell? ⟨gl, 2, none⟩ = some (.int .u64 (Wd : Int))) (go_keep)
  (first
   | (go_at_call 83; refine (ofF_any Wd _ (by omega)).mono ?_; rintro e5 w5 ⟨A_a, n_a, c_a, rfl, hn_a, hx5, k5', _⟩; have k5 : Ext _ w5 := k5'; have H_a : Hid (NX w5 A_a n_a c_a (nw Wd)) := Lib.hid hx5; clear hx5 k5'; replace kk := Ext.trans (Ext.trans kk (by with_reducible repeat first | exact Ext.refl _ | apply Ext.alloc | apply Ext.drew)) k5; have d0 := cell_ext (Ext.trans kw kk) hst.1; have d1 := cell_ext (Ext.trans kw kk) hst.2.2.1)
   | (go_at_call 83; refine (ofF_any z1 _ (by omega)).mono ?_; rintro e5 w5 ⟨A_b, n_b, c_b, rfl, hn_b, hx5, k5', _⟩; have k5 : Ext _ w5 := k5'; have H_b : Hid (NX w5 A_b n_b c_b (nw z1)) := Lib.hid hx5; clear hx5 k5'; replace kk := Ext.trans (Ext.trans kk (by with_reducible repeat first | exact Ext.refl _ | apply Ext.alloc | apply Ext.drew)) k5; replace H_a := Lib.hid (NX.ext H_a.out (Ext.trans (by with_reducible repeat first | exact Ext.refl _ | apply Ext.alloc | apply Ext.drew) k5)); have d0 := cell_ext (Ext.trans kw kk) hst.1; have d1 := cell_ext (Ext.trans kw kk) hst.2.2.1)
   | (go_at_call 152; refine (plus2 (NX.val (M := 3) (NX.ext H_a.out (by with_reducible repeat first | exact Ext.refl _ | apply Ext.alloc | apply Ext.drew)) (by omega)) (NX.val (M := 3) (NX.ext H_b.out (by with_reducible repeat first | exact Ext.refl _ | apply Ext.alloc | apply Ext.drew)) (by omega)) (by omega) (by omega) (SB.ext HS.out (Ext.trans kk (by with_reducible repeat first | exact Ext.refl _ | apply Ext.alloc | apply Ext.drew)))).mono ?_; rintro e6 w6 ⟨rfl, hs6, o6⟩; replace on := (On.trans on (On.of (Ext.trans kk (by with_reducible repeat first | exact Ext.refl _ | apply Ext.alloc | apply Ext.drew)))).trans o6; replace kw := Ext.on (Ext.trans kw (Ext.trans kk (by with_reducible repeat first | exact Ext.refl _ | apply Ext.alloc | apply Ext.drew))) o6 hp; replace HS := Lib.hid hs6; clear hs6; have d0 := cell_ext kw hst.1; have d1 := cell_ext kw hst.2.2.1; replace kk : Ext w6 w6 := Ext.refl w6)
   | fail)
 go_wp2
 go_end0
 refine ⟨rfl, ?_, on⟩
 exact SB.cast HS.out (by rw [HZ.out]; simp only [Nat.zero_add]) (by omega)
set_option maxHeartbeats 4000000 in
theorem addC_any {ga gb gl n T Wd na ca nb cb nr cr r X Y : Nat} {R : Value} {Aa Ab Ar : Option Addr} {xs ys : List Nat} {w : World} (hst : StC w gl n T Wd R (.slice Ar nr cr)) (ha : w.cell? ⟨ga, 0, none⟩ = some (.slice Aa na ca)) (hb : w.cell? ⟨gb, 0, none⟩ = some (.slice Ab nb cb)) (hxa : NV w (.slice Aa na ca) X 40) (hxb : NV w (.slice Ab nb cb) Y 40) (hxr : NV w (.slice Ar nr cr) r 40) :
    Adds 84 #[.pointer (some ⟨ga, 0, none⟩), .pointer (some ⟨gb, 0, none⟩), .pointer (some ⟨gl, 0, none⟩)] w (X + Y + r) 200 := by
 intro w1 kw hs0
 have HS := Lib.hid hs0
 have on : On w.heap.size w1 w1 := On.refl _ _
 have hp : w.heap.size ≤ w.heap.size := Nat.le_refl _
 obtain ⟨p, hpe⟩ : ∃ p, p = w.heap.size := ⟨_, rfl⟩
 rw [← hpe] at HS on ⊢
 have hp : w.heap.size ≤ p := by omega
 clear hs0 hpe
 rw [app4]
 have d0 := cell_ext kw ha
 have d1 := cell_ext kw hb
 have d2 := cell_ext kw hst.2.2.2.2
 have kk : Ext w1 w1 := Ext.refl w1
 go_enter Tryz.func84, Tryz.ntmps84
 go_wp2_with fail
 refine (plus1 (NV.ext hxa (Ext.trans (Ext.trans kw kk) (by with_reducible repeat first | exact Ext.refl _ | apply Ext.alloc | apply Ext.drew))) (by omega) (by omega) (SB.ext HS.out (Ext.trans kk (by with_reducible repeat first | exact Ext.refl _ | apply Ext.alloc | apply Ext.drew)))).mono ?_
 rintro e6 w6 ⟨rfl, hs6, o6⟩
 replace on := (On.trans on (On.of (Ext.trans kk (by with_reducible repeat first | exact Ext.refl _ | apply Ext.alloc | apply Ext.drew)))).trans o6
 replace kw := Ext.on (Ext.trans kw (Ext.trans kk (by with_reducible repeat first | exact Ext.refl _ | apply Ext.alloc | apply Ext.drew))) o6 hp
 replace HS := Lib.hid hs6
 clear hs6
 have d0 := cell_ext kw ha
 have d1 := cell_ext kw hb
 have d2 := cell_ext kw hst.2.2.2.2
 replace kk : Ext w6 w6 := Ext.refl w6
 go_wp2_with fail
 refine (plus1 (NV.ext hxb (Ext.trans (Ext.trans kw kk) (by with_reducible repeat first | exact Ext.refl _ | apply Ext.alloc | apply Ext.drew))) (by omega) (by omega) (SB.ext HS.out (Ext.trans kk (by with_reducible repeat first | exact Ext.refl _ | apply Ext.alloc | apply Ext.drew)))).mono ?_
 rintro e6 w6 ⟨rfl, hs6, o6⟩
 replace on := (On.trans on (On.of (Ext.trans kk (by with_reducible repeat first | exact Ext.refl _ | apply Ext.alloc | apply Ext.drew)))).trans o6
 replace kw := Ext.on (Ext.trans kw (Ext.trans kk (by with_reducible repeat first | exact Ext.refl _ | apply Ext.alloc | apply Ext.drew))) o6 hp
 replace HS := Lib.hid hs6
 clear hs6
 have d0 := cell_ext kw ha
 have d1 := cell_ext kw hb
 have d2 := cell_ext kw hst.2.2.2.2
 replace kk : Ext w6 w6 := Ext.refl w6
 go_wp2_with fail
 refine (plus1 (NV.ext hxr (Ext.trans (Ext.trans kw kk) (by with_reducible repeat first | exact Ext.refl _ | apply Ext.alloc | apply Ext.drew))) (by omega) (by omega) (SB.ext HS.out (Ext.trans kk (by with_reducible repeat first | exact Ext.refl _ | apply Ext.alloc | apply Ext.drew)))).mono ?_
 rintro e6 w6 ⟨rfl, hs6, o6⟩
 replace on := (On.trans on (On.of (Ext.trans kk (by with_reducible repeat first | exact Ext.refl _ | apply Ext.alloc | apply Ext.drew)))).trans o6
 replace kw := Ext.on (Ext.trans kw (Ext.trans kk (by with_reducible repeat first | exact Ext.refl _ | apply Ext.alloc | apply Ext.drew))) o6 hp
 replace HS := Lib.hid hs6
 clear hs6
 have d0 := cell_ext kw ha
 have d1 := cell_ext kw hb
 have d2 := cell_ext kw hst.2.2.2.2
 replace kk : Ext w6 w6 := Ext.refl w6
 go_wp2
 go_end0
 refine ⟨rfl, ?_, on⟩
 exact SB.cast HS.out (by simp only [Nat.zero_add]) (by omega)
set_option maxHeartbeats 4000000 in
theorem mulC_any {gl gg ga gb n T Wd na ca nb cb nr cr r X Y G L cq : Nat} {Aq Aa Ab Ar : Option Addr} {f : Nat → Nat} {w : World} (hn : n ≤ 4096) (hT : T < 1073741824) (hG : G < 18446744073709551615) (hL : L ≤ 8) (hQ : 0 < prodF f L) (hfx : FX w Aq L cq f) (hf : Hid (∀ j, j < L → f j < 18446744073709551616)) (hst : StC w gl n T Wd (.slice Aq L cq) (.slice Ar nr cr)) (hg : w.cell? ⟨gg, 0, none⟩ = some (.int .u64 (G : Int))) (ha : w.cell? ⟨ga, 0, none⟩ = some (.slice Aa na ca)) (hb : w.cell? ⟨gb, 0, none⟩ = some (.slice Ab nb cb)) (hxa : NV w (.slice Aa na ca) X 40) (hxb : NV w (.slice Ab nb cb) Y 40) (hxr : NV w (.slice Ar nr cr) r 3) :
    Adds 88 #[.pointer (some ⟨gl, 0, none⟩), .pointer (some ⟨gg, 0, none⟩), .pointer (some ⟨ga, 0, none⟩), .pointer (some ⟨gb, 0, none⟩)] w (r * (G + 1) + G * (X + Y) + upZ (n * T * X * Y) (prodF f L) + (geo n 3 + 1) / 2) 600 := by
 have hnT : n * T ≤ 4096 * 1073741824 := Nat.mul_le_mul hn (by omega)
 obtain ⟨zt, hzt⟩ : ∃ z, z = n * T := ⟨_, rfl⟩
 have ut : IntKind.u64.wrap ((n : Int) * (T : Int)) = (zt : Int) := by rw [IntKind.wrap_u64, hzt, Int.natCast_mul]; exact Int.emod_eq_of_lt (by rw [← Int.natCast_mul]; omega) (by rw [← Int.natCast_mul]; omega)
 have hztb : zt < 18446744073709551616 := by omega
 have HT := Lib.hid hzt
 clear hzt
 obtain ⟨z0, hz0⟩ : ∃ z, z = G + 1 := ⟨_, rfl⟩
 have u0 : IntKind.u64.wrap ((G : Int) + 1) = (z0 : Int) := by rw [IntKind.wrap_u64]; omega
 have hz0b : z0 < 18446744073709551616 := by omega
 have HZ := Lib.hid hz0
 clear hz0
 intro w1 kw hs0
 have HS := Lib.hid hs0
 have on : On w.heap.size w1 w1 := On.refl _ _
 have hp : w.heap.size ≤ w.heap.size := Nat.le_refl _
 obtain ⟨p, hpe⟩ : ∃ p, p = w.heap.size := ⟨_, rfl⟩
 rw [← hpe] at HS on ⊢
 have hp : w.heap.size ≤ p := by omega
 clear hs0 hpe
 rw [app5]
 have d0 := cell_ext kw hst.1
 have d1 := cell_ext kw hst.2.1
 have d2 := cell_ext kw hst.2.2.1
 have d3 := cell_ext kw hst.2.2.2.1
 have d4 := cell_ext kw hst.2.2.2.2
 have d5 := cell_ext kw hg
 have d6 := cell_ext kw ha
 have d7 := cell_ext kw hb
 have kk : Ext w1 w1 := Ext.refl w1
 go_enter Tryz.func88, Tryz.ntmps88
 go_wp2_with fail
 go_region_held3 (fun w' => w'.cell? ⟨gl, 0, none⟩ = some (.int .u64 (n : Int)) ∧ w'.cell? ⟨gl, 1, none⟩ = some (.int .u64 (T : Int)) ∧ w'.cell? ⟨gl, 2, none⟩ = some (.int .u64 (Wd : Int)) ∧ w'.cell? ⟨gl, 3, none⟩ = some (.slice Aq L cq) ∧ w'.cell? ⟨gl, 4, none⟩ = some (.slice Ar nr cr) ∧ w'.cell? ⟨gg, 0, none⟩ = some (.int .u64 (G : Int)) ∧ w'.cell? ⟨ga, 0, none⟩ = some (.slice Aa na ca) ∧ w'.cell? ⟨gb, 0, none⟩ = some (.slice Ab nb cb)) (go_keep)
  (first
   | (go_at_call 83; refine (ofF_any z0 _ hz0b).mono ?_; rintro e5 w5 ⟨A_a, n_a, c_a, rfl, hn_a, hx5, k5', _⟩; have k5 : Ext _ w5 := k5'; have H_a : Hid (NX w5 A_a n_a c_a (nw z0)) := Lib.hid hx5; clear hx5 k5'; replace kk := Ext.trans (Ext.trans kk (by with_reducible repeat first | exact Ext.refl _ | apply Ext.alloc | apply Ext.drew)) k5; have d0 := cell_ext (Ext.trans kw kk) hst.1; have d1 := cell_ext (Ext.trans kw kk) hst.2.1; have d2 := cell_ext (Ext.trans kw kk) hst.2.2.1; have d3 := cell_ext (Ext.trans kw kk) hst.2.2.2.1; have d4 := cell_ext (Ext.trans kw kk) hst.2.2.2.2; have d5 := cell_ext (Ext.trans kw kk) hg; have d6 := cell_ext (Ext.trans kw kk) ha; have d7 := cell_ext (Ext.trans kw kk) hb)
   | (go_at_call 152; refine (plus2 (NV.ext hxr (Ext.trans (Ext.trans kw kk) (by with_reducible repeat first | exact Ext.refl _ | apply Ext.alloc | apply Ext.drew))) (NX.val (M := 3) (NX.ext H_a.out (by with_reducible repeat first | exact Ext.refl _ | apply Ext.alloc | apply Ext.drew)) (by omega)) (by omega) (by omega) (SB.ext HS.out (Ext.trans kk (by with_reducible repeat first | exact Ext.refl _ | apply Ext.alloc | apply Ext.drew)))).mono ?_; rintro e6 w6 ⟨rfl, hs6, o6⟩; replace on := (On.trans on (On.of (Ext.trans kk (by with_reducible repeat first | exact Ext.refl _ | apply Ext.alloc | apply Ext.drew)))).trans o6; replace kw := Ext.on (Ext.trans kw (Ext.trans kk (by with_reducible repeat first | exact Ext.refl _ | apply Ext.alloc | apply Ext.drew))) o6 hp; replace HS := Lib.hid hs6; clear hs6; have d0 := cell_ext kw hst.1; have d1 := cell_ext kw hst.2.1; have d2 := cell_ext kw hst.2.2.1; have d3 := cell_ext kw hst.2.2.2.1; have d4 := cell_ext kw hst.2.2.2.2; have d5 := cell_ext kw hg; have d6 := cell_ext kw ha; have d7 := cell_ext kw hb; replace kk : Ext w6 w6 := Ext.refl w6)
   | fail)
 go_wp2_with fail
 go_region_held3 (fun w' => w'.cell? ⟨gl, 0, none⟩ = some (.int .u64 (n : Int)) ∧ w'.cell? ⟨gl, 1, none⟩ = some (.int .u64 (T : Int)) ∧ w'.cell? ⟨gl, 2, none⟩ = some (.int .u64 (Wd : Int)) ∧ w'.cell? ⟨gl, 3, none⟩ = some (.slice Aq L cq) ∧ w'.cell? ⟨gl, 4, none⟩ = some (.slice Ar nr cr) ∧ w'.cell? ⟨gg, 0, none⟩ = some (.int .u64 (G : Int)) ∧ w'.cell? ⟨ga, 0, none⟩ = some (.slice Aa na ca) ∧ w'.cell? ⟨gb, 0, none⟩ = some (.slice Ab nb cb)) (go_keep)
  (first
   | (go_at_call 83; refine (ofF_any G _ (by omega)).mono ?_; rintro e5 w5 ⟨A_b, n_b, c_b, rfl, hn_b, hx5, k5', _⟩; have k5 : Ext _ w5 := k5'; have H_b : Hid (NX w5 A_b n_b c_b (nw G)) := Lib.hid hx5; clear hx5 k5'; replace kk := Ext.trans (Ext.trans kk (by with_reducible repeat first | exact Ext.refl _ | apply Ext.alloc | apply Ext.drew)) k5; have d0 := cell_ext (Ext.trans kw kk) hst.1; have d1 := cell_ext (Ext.trans kw kk) hst.2.1; have d2 := cell_ext (Ext.trans kw kk) hst.2.2.1; have d3 := cell_ext (Ext.trans kw kk) hst.2.2.2.1; have d4 := cell_ext (Ext.trans kw kk) hst.2.2.2.2; have d5 := cell_ext (Ext.trans kw kk) hg; have d6 := cell_ext (Ext.trans kw kk) ha; have d7 := cell_ext (Ext.trans kw kk) hb)
   | (go_at_call 89; refine (addN (hxa.ext (Ext.trans (Ext.trans kw kk) (by with_reducible repeat first | exact Ext.refl _ | apply Ext.alloc | apply Ext.drew))) (hxb.ext (Ext.trans (Ext.trans kw kk) (by with_reducible repeat first | exact Ext.refl _ | apply Ext.alloc | apply Ext.drew))) (by omega) (by omega)).mono ?_; rintro e5 w5 ⟨A_c, n_c, c_c, rfl, hn_c, hx5, k5⟩; have H_c : Hid (NX w5 A_c n_c c_c (nw (X + Y))) := Lib.hid hx5; clear hx5; replace kk := Ext.trans (Ext.trans kk (by with_reducible repeat first | exact Ext.refl _ | apply Ext.alloc | apply Ext.drew)) k5; replace H_b := Lib.hid (NX.ext H_b.out (Ext.trans (by with_reducible repeat first | exact Ext.refl _ | apply Ext.alloc | apply Ext.drew) k5)); have d0 := cell_ext (Ext.trans kw kk) hst.1; have d1 := cell_ext (Ext.trans kw kk) hst.2.1; have d2 := cell_ext (Ext.trans kw kk) hst.2.2.1; have d3 := cell_ext (Ext.trans kw kk) hst.2.2.2.1; have d4 := cell_ext (Ext.trans kw kk) hst.2.2.2.2; have d5 := cell_ext (Ext.trans kw kk) hg; have d6 := cell_ext (Ext.trans kw kk) ha; have d7 := cell_ext (Ext.trans kw kk) hb)
   | (go_at_call 152; refine (plus2 (NX.val (M := 81) (NX.ext H_b.out (by with_reducible repeat first | exact Ext.refl _ | apply Ext.alloc | apply Ext.drew)) (by omega)) (NX.val (M := 81) (NX.ext H_c.out (by with_reducible repeat first | exact Ext.refl _ | apply Ext.alloc | apply Ext.drew)) (by omega)) (by omega) (by omega) (SB.ext HS.out (Ext.trans kk (by with_reducible repeat first | exact Ext.refl _ | apply Ext.alloc | apply Ext.drew)))).mono ?_; rintro e6 w6 ⟨rfl, hs6, o6⟩; replace on := (On.trans on (On.of (Ext.trans kk (by with_reducible repeat first | exact Ext.refl _ | apply Ext.alloc | apply Ext.drew)))).trans o6; replace kw := Ext.on (Ext.trans kw (Ext.trans kk (by with_reducible repeat first | exact Ext.refl _ | apply Ext.alloc | apply Ext.drew))) o6 hp; replace HS := Lib.hid hs6; clear hs6; have d0 := cell_ext kw hst.1; have d1 := cell_ext kw hst.2.1; have d2 := cell_ext kw hst.2.2.1; have d3 := cell_ext kw hst.2.2.2.1; have d4 := cell_ext kw hst.2.2.2.2; have d5 := cell_ext kw hg; have d6 := cell_ext kw ha; have d7 := cell_ext kw hb; replace kk : Ext w6 w6 := Ext.refl w6)
   | fail)
 go_wp2_with fail
 go_region_held3 (fun w' => w'.cell? ⟨gl, 0, none⟩ = some (.int .u64 (n : Int)) ∧ w'.cell? ⟨gl, 1, none⟩ = some (.int .u64 (T : Int)) ∧ w'.cell? ⟨gl, 2, none⟩ = some (.int .u64 (Wd : Int)) ∧ w'.cell? ⟨gl, 3, none⟩ = some (.slice Aq L cq) ∧ w'.cell? ⟨gl, 4, none⟩ = some (.slice Ar nr cr) ∧ w'.cell? ⟨gg, 0, none⟩ = some (.int .u64 (G : Int)) ∧ w'.cell? ⟨ga, 0, none⟩ = some (.slice Aa na ca) ∧ w'.cell? ⟨gb, 0, none⟩ = some (.slice Ab nb cb)) (go_keep)
  (first
   | (go_at_call 83; refine (ofF_any zt _ hztb).mono ?_; rintro e5 w5 ⟨A_d, n_d, c_d, rfl, hn_d, hx5, k5', _⟩; have k5 : Ext _ w5 := k5'; have H_d : Hid (NX w5 A_d n_d c_d (nw zt)) := Lib.hid hx5; clear hx5 k5'; replace kk := Ext.trans (Ext.trans kk (by with_reducible repeat first | exact Ext.refl _ | apply Ext.alloc | apply Ext.drew)) k5; have d0 := cell_ext (Ext.trans kw kk) hst.1; have d1 := cell_ext (Ext.trans kw kk) hst.2.1; have d2 := cell_ext (Ext.trans kw kk) hst.2.2.1; have d3 := cell_ext (Ext.trans kw kk) hst.2.2.2.1; have d4 := cell_ext (Ext.trans kw kk) hst.2.2.2.2; have d5 := cell_ext (Ext.trans kw kk) hg; have d6 := cell_ext (Ext.trans kw kk) ha; have d7 := cell_ext (Ext.trans kw kk) hb)
   | (go_at_call 91; refine (times3 (NX.val (M := 40) (NX.ext H_d.out (by with_reducible repeat first | exact Ext.refl _ | apply Ext.alloc | apply Ext.drew)) (by omega)) (NV.ext hxa (Ext.trans (Ext.trans kw kk) (by with_reducible repeat first | exact Ext.refl _ | apply Ext.alloc | apply Ext.drew))) (NV.ext hxb (Ext.trans (Ext.trans kw kk) (by with_reducible repeat first | exact Ext.refl _ | apply Ext.alloc | apply Ext.drew))) (by omega)).mono ?_; rintro e5 w5 ⟨A_e, n_e, c_e, rfl, hn_e, hx5, k5⟩; have H_e : Hid (NX w5 A_e n_e c_e (nw (zt * X * Y))) := Lib.hid hx5; clear hx5; replace kk := Ext.trans (Ext.trans kk (by with_reducible repeat first | exact Ext.refl _ | apply Ext.alloc | apply Ext.drew)) k5; replace H_d := Lib.hid (NX.ext H_d.out (Ext.trans (by with_reducible repeat first | exact Ext.refl _ | apply Ext.alloc | apply Ext.drew) k5)); have d0 := cell_ext (Ext.trans kw kk) hst.1; have d1 := cell_ext (Ext.trans kw kk) hst.2.1; have d2 := cell_ext (Ext.trans kw kk) hst.2.2.1; have d3 := cell_ext (Ext.trans kw kk) hst.2.2.2.1; have d4 := cell_ext (Ext.trans kw kk) hst.2.2.2.2; have d5 := cell_ext (Ext.trans kw kk) hg; have d6 := cell_ext (Ext.trans kw kk) ha; have d7 := cell_ext (Ext.trans kw kk) hb)
   | (go_at_call 92; refine (stModulus_any n T Wd Aq L cq (.slice Ar nr cr) f _ (by omega) (hfx.ext (Ext.trans (Ext.trans kw kk) (by with_reducible repeat first | exact Ext.refl _ | apply Ext.alloc | apply Ext.drew))) hf).mono ?_; rintro e5 w5 ⟨A_g, n_g, c_g, rfl, hn_g, hx5, k5⟩; have H_g : Hid (NX w5 A_g n_g c_g (nw (prodF f L))) := Lib.hid hx5; clear hx5; replace kk := Ext.trans (Ext.trans kk (by with_reducible repeat first | exact Ext.refl _ | apply Ext.alloc | apply Ext.drew)) k5; replace H_d := Lib.hid (NX.ext H_d.out (Ext.trans (by with_reducible repeat first | exact Ext.refl _ | apply Ext.alloc | apply Ext.drew) k5)); replace H_e := Lib.hid (NX.ext H_e.out (Ext.trans (by with_reducible repeat first | exact Ext.refl _ | apply Ext.alloc | apply Ext.drew) k5)); have d0 := cell_ext (Ext.trans kw kk) hst.1; have d1 := cell_ext (Ext.trans kw kk) hst.2.1; have d2 := cell_ext (Ext.trans kw kk) hst.2.2.1; have d3 := cell_ext (Ext.trans kw kk) hst.2.2.2.1; have d4 := cell_ext (Ext.trans kw kk) hst.2.2.2.2; have d5 := cell_ext (Ext.trans kw kk) hg; have d6 := cell_ext (Ext.trans kw kk) ha; have d7 := cell_ext (Ext.trans kw kk) hb)
   | (go_at_call 90; refine (up_any (NX.ext H_e.out (by with_reducible repeat first | exact Ext.refl _ | apply Ext.alloc | apply Ext.drew)) (NX.ext H_g.out (by with_reducible repeat first | exact Ext.refl _ | apply Ext.alloc | apply Ext.drew)) (by omega) (by omega) (nv_nw _) (nv_nw _) hQ).mono ?_; rintro e5 w5 ⟨A_h, n_h, c_h, rfl, hn_h, hx5, k5⟩; have H_h : Hid (NX w5 A_h n_h c_h (nw (upZ (zt * X * Y) (prodF f L)))) := Lib.hid hx5; clear hx5; replace kk := Ext.trans (Ext.trans kk (by with_reducible repeat first | exact Ext.refl _ | apply Ext.alloc | apply Ext.drew)) k5; replace H_d := Lib.hid (NX.ext H_d.out (Ext.trans (by with_reducible repeat first | exact Ext.refl _ | apply Ext.alloc | apply Ext.drew) k5)); replace H_e := Lib.hid (NX.ext H_e.out (Ext.trans (by with_reducible repeat first | exact Ext.refl _ | apply Ext.alloc | apply Ext.drew) k5)); replace H_g := Lib.hid (NX.ext H_g.out (Ext.trans (by with_reducible repeat first | exact Ext.refl _ | apply Ext.alloc | apply Ext.drew) k5)); have d0 := cell_ext (Ext.trans kw kk) hst.1; have d1 := cell_ext (Ext.trans kw kk) hst.2.1; have d2 := cell_ext (Ext.trans kw kk) hst.2.2.1; have d3 := cell_ext (Ext.trans kw kk) hst.2.2.2.1; have d4 := cell_ext (Ext.trans kw kk) hst.2.2.2.2; have d5 := cell_ext (Ext.trans kw kk) hg; have d6 := cell_ext (Ext.trans kw kk) ha; have d7 := cell_ext (Ext.trans kw kk) hb)
   | (go_at_call 152; refine (plus1 (NX.val (M := 130) (NX.ext H_h.out (by with_reducible repeat first | exact Ext.refl _ | apply Ext.alloc | apply Ext.drew)) (by omega)) (by omega) (by omega) (SB.ext HS.out (Ext.trans kk (by with_reducible repeat first | exact Ext.refl _ | apply Ext.alloc | apply Ext.drew)))).mono ?_; rintro e6 w6 ⟨rfl, hs6, o6⟩; replace on := (On.trans on (On.of (Ext.trans kk (by with_reducible repeat first | exact Ext.refl _ | apply Ext.alloc | apply Ext.drew)))).trans o6; replace kw := Ext.on (Ext.trans kw (Ext.trans kk (by with_reducible repeat first | exact Ext.refl _ | apply Ext.alloc | apply Ext.drew))) o6 hp; replace HS := Lib.hid hs6; clear hs6; have d0 := cell_ext kw hst.1; have d1 := cell_ext kw hst.2.1; have d2 := cell_ext kw hst.2.2.1; have d3 := cell_ext kw hst.2.2.2.1; have d4 := cell_ext kw hst.2.2.2.2; have d5 := cell_ext kw hg; have d6 := cell_ext kw ha; have d7 := cell_ext kw hb; replace kk : Ext w6 w6 := Ext.refl w6)
   | fail)
 go_wp2_with fail
 refine (rounding_any n T Wd 3 (.slice Aq L cq) (.slice Ar nr cr) _ hn (by omega)).mono ?_
 rintro e5 w5 ⟨A_i, n_i, c_i, rfl, hn_i, hx5, k5⟩
 have H_i : Hid (NX w5 A_i n_i c_i (nw ((geo n 3 + 1) / 2))) := Lib.hid hx5
 clear hx5
 replace kk := Ext.trans (Ext.trans kk (by with_reducible repeat first | exact Ext.refl _ | apply Ext.alloc | apply Ext.drew)) k5
 have d0 := cell_ext (Ext.trans kw kk) hst.1
 have d1 := cell_ext (Ext.trans kw kk) hst.2.1
 have d2 := cell_ext (Ext.trans kw kk) hst.2.2.1
 have d3 := cell_ext (Ext.trans kw kk) hst.2.2.2.1
 have d4 := cell_ext (Ext.trans kw kk) hst.2.2.2.2
 have d5 := cell_ext (Ext.trans kw kk) hg
 have d6 := cell_ext (Ext.trans kw kk) ha
 have d7 := cell_ext (Ext.trans kw kk) hb
 go_wp2_with fail
 refine (plus1 (NX.val (M := 40) (NX.ext H_i.out (by with_reducible repeat first | exact Ext.refl _ | apply Ext.alloc | apply Ext.drew)) (by omega)) (by omega) (by omega) (SB.ext HS.out (Ext.trans kk (by with_reducible repeat first | exact Ext.refl _ | apply Ext.alloc | apply Ext.drew)))).mono ?_
 rintro e6 w6 ⟨rfl, hs6, o6⟩
 replace on := (On.trans on (On.of (Ext.trans kk (by with_reducible repeat first | exact Ext.refl _ | apply Ext.alloc | apply Ext.drew)))).trans o6
 replace kw := Ext.on (Ext.trans kw (Ext.trans kk (by with_reducible repeat first | exact Ext.refl _ | apply Ext.alloc | apply Ext.drew))) o6 hp
 replace HS := Lib.hid hs6
 clear hs6
 have d0 := cell_ext kw hst.1
 have d1 := cell_ext kw hst.2.1
 have d2 := cell_ext kw hst.2.2.1
 have d3 := cell_ext kw hst.2.2.2.1
 have d4 := cell_ext kw hst.2.2.2.2
 have d5 := cell_ext kw hg
 have d6 := cell_ext kw ha
 have d7 := cell_ext kw hb
 replace kk : Ext w6 w6 := Ext.refl w6
 go_wp2
 go_end0
 refine ⟨rfl, ?_, on⟩
 exact SB.cast HS.out (by rw [HZ.out, HT.out]; simp only [Nat.zero_add]) (by omega)
set_option maxHeartbeats 4000000 in
theorem lowerC_any {ga gl gv gp n T Wd na ca nr cr X L cq m q K : Nat} {Ar Aa : Option Addr} {ad : Addr} {w : World} (hn : n ≤ 4096) (hT2 : 1 ≤ T) (hT : T < 1073741824) (hm : m < L) (hK : K ≤ 3) (hq0 : 0 < q) (hq : q < 18446744073709551616) (hst : StC w gl n T Wd (.slice (some ad) L cq) (.slice Ar nr cr)) (ha : w.cell? ⟨ga, 0, none⟩ = some (.slice Aa na ca)) (hv : w.cell? ⟨gv, 0, none⟩ = some (.int .i64 (m : Int))) (hpp : w.cell? ⟨gp, 0, none⟩ = some (.int .i64 (K : Int))) (hqm : w.cell? (ad.add m) = some (.int .u64 (q : Int))) (hxa : NV w (.slice Aa na ca) X 40) :
    Adds 102 #[.pointer (some ⟨ga, 0, none⟩), .pointer (some ⟨gl, 0, none⟩), .pointer (some ⟨gv, 0, none⟩), .pointer (some ⟨gp, 0, none⟩)] w (upZ X q + (T - 1) / 2 + (geo n K + 1) / 2) 300 := by
 have i0 : (0 : Int) ≤ (m : Int) := by omega
 have i1 : (m : Int) < (L : Int) := by omega
 obtain ⟨z0, hz0⟩ : ∃ z, z = T - 1 := ⟨_, rfl⟩
 obtain ⟨z1, hz1⟩ : ∃ z, z = z0 / 2 := ⟨_, rfl⟩
 have u0 : IntKind.u64.wrap ((T : Int) - 1) = (z0 : Int) := by rw [IntKind.wrap_u64]; omega
 have u1 : (z0 : Int).tdiv 2 = (z1 : Int) := by rw [hz1]; rfl
 have u2 : (z0 : Int) / 2 = (z1 : Int) := by omega
 have hz1b : z1 < 18446744073709551616 := by omega
 have HZ := Lib.hid (show z1 = (T - 1) / 2 by omega)
 clear hz0 hz1
 intro w1 kw hs0
 have HS := Lib.hid hs0
 have on : On w.heap.size w1 w1 := On.refl _ _
 have hp : w.heap.size ≤ w.heap.size := Nat.le_refl _
 obtain ⟨p, hpe⟩ : ∃ p, p = w.heap.size := ⟨_, rfl⟩
 rw [← hpe] at HS on ⊢
 have hp : w.heap.size ≤ p := by omega
 clear hs0 hpe
 rw [app5]
 have d0 := cell_ext kw hst.1
 have d1 := cell_ext kw hst.2.1
 have d2 := cell_ext kw hst.2.2.1
 have d3 := cell_ext kw hst.2.2.2.1
 have d4 := cell_ext kw hst.2.2.2.2
 have d5 := cell_ext kw ha
 have d6 := cell_ext kw hv
 have d7 := cell_ext kw hpp
 have d8 := cell_ext kw hqm
 have kk : Ext w1 w1 := Ext.refl w1
 go_enter Tryz.func102, Tryz.ntmps102
 go_wp2_with fail
 go_region_held3 (fun w' => w'.cell? ⟨gl, 0, none⟩ = some (.int .u64 (n : Int)) ∧ w'.cell? ⟨gl, 1, none⟩ = some (.int .u64 (T : Int)) ∧ w'.cell? ⟨gl, 2, none⟩ = some (.int .u64 (Wd : Int)) ∧ w'.cell? ⟨gl, 3, none⟩ = some (.slice (some ad) L cq) ∧ w'.cell? ⟨gl, 4, none⟩ = some (.slice Ar nr cr) ∧ w'.cell? ⟨ga, 0, none⟩ = some (.slice Aa na ca) ∧ w'.cell? ⟨gv, 0, none⟩ = some (.int .i64 (m : Int)) ∧ w'.cell? ⟨gp, 0, none⟩ = some (.int .i64 (K : Int)) ∧ w'.cell? (ad.add m) = some (.int .u64 (q : Int))) (go_keep)
  (first
   | (go_at_call 83; refine (ofF_any q _ hq).mono ?_; rintro e5 w5 ⟨A_a, n_a, c_a, rfl, hn_a, hx5, k5', _⟩; have k5 : Ext _ w5 := k5'; have H_a : Hid (NX w5 A_a n_a c_a (nw q)) := Lib.hid hx5; clear hx5 k5'; replace kk := Ext.trans (Ext.trans kk (by with_reducible repeat first | exact Ext.refl _ | apply Ext.alloc | apply Ext.drew)) k5; have d0 := cell_ext (Ext.trans kw kk) hst.1; have d1 := cell_ext (Ext.trans kw kk) hst.2.1; have d2 := cell_ext (Ext.trans kw kk) hst.2.2.1; have d3 := cell_ext (Ext.trans kw kk) hst.2.2.2.1; have d4 := cell_ext (Ext.trans kw kk) hst.2.2.2.2; have d5 := cell_ext (Ext.trans kw kk) ha; have d6 := cell_ext (Ext.trans kw kk) hv; have d7 := cell_ext (Ext.trans kw kk) hpp; have d8 := cell_ext (Ext.trans kw kk) hqm)
   | (go_at_call 90; refine (upN (hxa.ext (Ext.trans (Ext.trans kw kk) (by with_reducible repeat first | exact Ext.refl _ | apply Ext.alloc | apply Ext.drew))) (NX.ext H_a.out (by with_reducible repeat first | exact Ext.refl _ | apply Ext.alloc | apply Ext.drew)) (by omega) (by omega) hq0).mono ?_; rintro e5 w5 ⟨A_b, n_b, c_b, rfl, hn_b, hx5, k5⟩; have H_b : Hid (NX w5 A_b n_b c_b (nw (upZ X q))) := Lib.hid hx5; clear hx5; replace kk := Ext.trans (Ext.trans kk (by with_reducible repeat first | exact Ext.refl _ | apply Ext.alloc | apply Ext.drew)) k5; replace H_a := Lib.hid (NX.ext H_a.out (Ext.trans (by with_reducible repeat first | exact Ext.refl _ | apply Ext.alloc | apply Ext.drew) k5)); have d0 := cell_ext (Ext.trans kw kk) hst.1; have d1 := cell_ext (Ext.trans kw kk) hst.2.1; have d2 := cell_ext (Ext.trans kw kk) hst.2.2.1; have d3 := cell_ext (Ext.trans kw kk) hst.2.2.2.1; have d4 := cell_ext (Ext.trans kw kk) hst.2.2.2.2; have d5 := cell_ext (Ext.trans kw kk) ha; have d6 := cell_ext (Ext.trans kw kk) hv; have d7 := cell_ext (Ext.trans kw kk) hpp; have d8 := cell_ext (Ext.trans kw kk) hqm)
   | (go_at_call 152; refine (plus1 (NX.val (M := 60) (NX.ext H_b.out (by with_reducible repeat first | exact Ext.refl _ | apply Ext.alloc | apply Ext.drew)) (by omega)) (by omega) (by omega) (SB.ext HS.out (Ext.trans kk (by with_reducible repeat first | exact Ext.refl _ | apply Ext.alloc | apply Ext.drew)))).mono ?_; rintro e6 w6 ⟨rfl, hs6, o6⟩; replace on := (On.trans on (On.of (Ext.trans kk (by with_reducible repeat first | exact Ext.refl _ | apply Ext.alloc | apply Ext.drew)))).trans o6; replace kw := Ext.on (Ext.trans kw (Ext.trans kk (by with_reducible repeat first | exact Ext.refl _ | apply Ext.alloc | apply Ext.drew))) o6 hp; replace HS := Lib.hid hs6; clear hs6; have d0 := cell_ext kw hst.1; have d1 := cell_ext kw hst.2.1; have d2 := cell_ext kw hst.2.2.1; have d3 := cell_ext kw hst.2.2.2.1; have d4 := cell_ext kw hst.2.2.2.2; have d5 := cell_ext kw ha; have d6 := cell_ext kw hv; have d7 := cell_ext kw hpp; have d8 := cell_ext kw hqm; replace kk : Ext w6 w6 := Ext.refl w6)
   | fail)
 go_wp2_with fail
 refine (ofF_any z1 _ hz1b).mono ?_
 rintro e5 w5 ⟨A_c, n_c, c_c, rfl, hn_c, hx5, k5', _⟩
 have k5 : Ext _ w5 := k5'
 have H_c : Hid (NX w5 A_c n_c c_c (nw z1)) := Lib.hid hx5
 clear hx5 k5'
 replace kk := Ext.trans (Ext.trans kk (by with_reducible repeat first | exact Ext.refl _ | apply Ext.alloc | apply Ext.drew)) k5
 have d0 := cell_ext (Ext.trans kw kk) hst.1
 have d1 := cell_ext (Ext.trans kw kk) hst.2.1
 have d2 := cell_ext (Ext.trans kw kk) hst.2.2.1
 have d3 := cell_ext (Ext.trans kw kk) hst.2.2.2.1
 have d4 := cell_ext (Ext.trans kw kk) hst.2.2.2.2
 have d5 := cell_ext (Ext.trans kw kk) ha
 have d6 := cell_ext (Ext.trans kw kk) hv
 have d7 := cell_ext (Ext.trans kw kk) hpp
 have d8 := cell_ext (Ext.trans kw kk) hqm
 go_wp2_with fail
 refine (plus1 (NX.val (M := 60) (NX.ext H_c.out (by with_reducible repeat first | exact Ext.refl _ | apply Ext.alloc | apply Ext.drew)) (by omega)) (by omega) (by omega) (SB.ext HS.out (Ext.trans kk (by with_reducible repeat first | exact Ext.refl _ | apply Ext.alloc | apply Ext.drew)))).mono ?_
 rintro e6 w6 ⟨rfl, hs6, o6⟩
 replace on := (On.trans on (On.of (Ext.trans kk (by with_reducible repeat first | exact Ext.refl _ | apply Ext.alloc | apply Ext.drew)))).trans o6
 replace kw := Ext.on (Ext.trans kw (Ext.trans kk (by with_reducible repeat first | exact Ext.refl _ | apply Ext.alloc | apply Ext.drew))) o6 hp
 replace HS := Lib.hid hs6
 clear hs6
 have d0 := cell_ext kw hst.1
 have d1 := cell_ext kw hst.2.1
 have d2 := cell_ext kw hst.2.2.1
 have d3 := cell_ext kw hst.2.2.2.1
 have d4 := cell_ext kw hst.2.2.2.2
 have d5 := cell_ext kw ha
 have d6 := cell_ext kw hv
 have d7 := cell_ext kw hpp
 have d8 := cell_ext kw hqm
 replace kk : Ext w6 w6 := Ext.refl w6
 go_wp2_with fail
 refine (rounding_any n T Wd K (.slice (some ad) L cq) (.slice Ar nr cr) _ hn hK).mono ?_
 rintro e5 w5 ⟨A_i, n_i, c_i, rfl, hn_i, hx5, k5⟩
 have H_i : Hid (NX w5 A_i n_i c_i (nw ((geo n K + 1) / 2))) := Lib.hid hx5
 clear hx5
 replace kk := Ext.trans (Ext.trans kk (by with_reducible repeat first | exact Ext.refl _ | apply Ext.alloc | apply Ext.drew)) k5
 have d0 := cell_ext (Ext.trans kw kk) hst.1
 have d1 := cell_ext (Ext.trans kw kk) hst.2.1
 have d2 := cell_ext (Ext.trans kw kk) hst.2.2.1
 have d3 := cell_ext (Ext.trans kw kk) hst.2.2.2.1
 have d4 := cell_ext (Ext.trans kw kk) hst.2.2.2.2
 have d5 := cell_ext (Ext.trans kw kk) ha
 have d6 := cell_ext (Ext.trans kw kk) hv
 have d7 := cell_ext (Ext.trans kw kk) hpp
 have d8 := cell_ext (Ext.trans kw kk) hqm
 go_wp2_with fail
 refine (plus1 (NX.val (M := 40) (NX.ext H_i.out (by with_reducible repeat first | exact Ext.refl _ | apply Ext.alloc | apply Ext.drew)) (by omega)) (by omega) (by omega) (SB.ext HS.out (Ext.trans kk (by with_reducible repeat first | exact Ext.refl _ | apply Ext.alloc | apply Ext.drew)))).mono ?_
 rintro e6 w6 ⟨rfl, hs6, o6⟩
 replace on := (On.trans on (On.of (Ext.trans kk (by with_reducible repeat first | exact Ext.refl _ | apply Ext.alloc | apply Ext.drew)))).trans o6
 replace kw := Ext.on (Ext.trans kw (Ext.trans kk (by with_reducible repeat first | exact Ext.refl _ | apply Ext.alloc | apply Ext.drew))) o6 hp
 replace HS := Lib.hid hs6
 clear hs6
 have d0 := cell_ext kw hst.1
 have d1 := cell_ext kw hst.2.1
 have d2 := cell_ext kw hst.2.2.1
 have d3 := cell_ext kw hst.2.2.2.1
 have d4 := cell_ext kw hst.2.2.2.2
 have d5 := cell_ext kw ha
 have d6 := cell_ext kw hv
 have d7 := cell_ext kw hpp
 have d8 := cell_ext kw hqm
 replace kk : Ext w6 w6 := Ext.refl w6
 go_wp2
 go_end0
 refine ⟨rfl, ?_, on⟩
 exact SB.cast HS.out (by rw [HZ.out]; simp only [Nat.zero_add]) (by omega)
set_option maxHeartbeats 4000000 in
theorem fitsC_any {ga gl n T Wd na ca nr cr X r : Nat} {Ar Aa : Option Addr} {R : Value} {w : World} (hT2 : 1 ≤ T) (hT : T < 1073741824) (hst : StC w gl n T Wd R (.slice Ar nr cr)) (ha : w.cell? ⟨ga, 0, none⟩ = some (.slice Aa na ca)) (hxa : NV w (.slice Aa na ca) X 40) (hxr : NV w (.slice Ar nr cr) r 40) :
    Adds 103 #[.pointer (some ⟨gl, 0, none⟩), .pointer (some ⟨ga, 0, none⟩)] w (2 * T * X + r * (T - 1)) 300 := by
 obtain ⟨z0, hz0⟩ : ∃ z, z = 2 * T := ⟨_, rfl⟩
 obtain ⟨z1, hz1⟩ : ∃ z, z = T - 1 := ⟨_, rfl⟩
 have u0 : IntKind.u64.wrap (2 * (T : Int)) = (z0 : Int) := by rw [IntKind.wrap_u64]; omega
 have u1 : IntKind.u64.wrap ((T : Int) - 1) = (z1 : Int) := by rw [IntKind.wrap_u64]; omega
 have hz0b : z0 < 18446744073709551616 := by omega
 have hz1b : z1 < 18446744073709551616 := by omega
 have HZ := Lib.hid hz0
 have HY := Lib.hid hz1
 clear hz0 hz1
 intro w1 kw hs0
 have HS := Lib.hid hs0
 have on : On w.heap.size w1 w1 := On.refl _ _
 have hp : w.heap.size ≤ w.heap.size := Nat.le_refl _
 obtain ⟨p, hpe⟩ : ∃ p, p = w.heap.size := ⟨_, rfl⟩
 rw [← hpe] at HS on ⊢
 have hp : w.heap.size ≤ p := by omega
 clear hs0 hpe
 rw [app3]
 have d0 := cell_ext kw hst.2.1
 have d1 := cell_ext kw hst.2.2.2.2
 have d2 := cell_ext kw ha
 have kk : Ext w1 w1 := Ext.refl w1
 go_enter Tryz.func103, Tryz.ntmps103
 go_wp2_with fail
 go_region_held3 (fun w' => w'.cell? ⟨gl, 1, none⟩ = some (.int .u64 (T : Int)) ∧ w'.cell? ⟨gl, 4, none⟩ = some (.slice Ar nr cr) ∧ w'.cell? ⟨ga, 0, none⟩ = some (.slice Aa na ca)) (go_keep)
  (first
   | (go_at_call 83; refine (ofF_any z0 _ hz0b).mono ?_; rintro e5 w5 ⟨A_a, n_a, c_a, rfl, hn_a, hx5, k5', _⟩; have k5 : Ext _ w5 := k5'; have H_a : Hid (NX w5 A_a n_a c_a (nw z0)) := Lib.hid hx5; clear hx5 k5'; replace kk := Ext.trans (Ext.trans kk (by with_reducible repeat first | exact Ext.refl _ | apply Ext.alloc | apply Ext.drew)) k5; have d0 := cell_ext (Ext.trans kw kk) hst.2.1; have d1 := cell_ext (Ext.trans kw kk) hst.2.2.2.2; have d2 := cell_ext (Ext.trans kw kk) ha)
   | (go_at_call 152; refine (plus2 (NX.val (M := 40) (NX.ext H_a.out (by with_reducible repeat first | exact Ext.refl _ | apply Ext.alloc | apply Ext.drew)) (by omega)) (NV.ext hxa (Ext.trans (Ext.trans kw kk) (by with_reducible repeat first | exact Ext.refl _ | apply Ext.alloc | apply Ext.drew))) (by omega) (by omega) (SB.ext HS.out (Ext.trans kk (by with_reducible repeat first | exact Ext.refl _ | apply Ext.alloc | apply Ext.drew)))).mono ?_; rintro e6 w6 ⟨rfl, hs6, o6⟩; replace on := (On.trans on (On.of (Ext.trans kk (by with_reducible repeat first | exact Ext.refl _ | apply Ext.alloc | apply Ext.drew)))).trans o6; replace kw := Ext.on (Ext.trans kw (Ext.trans kk (by with_reducible repeat first | exact Ext.refl _ | apply Ext.alloc | apply Ext.drew))) o6 hp; replace HS := Lib.hid hs6; clear hs6; have d0 := cell_ext kw hst.2.1; have d1 := cell_ext kw hst.2.2.2.2; have d2 := cell_ext kw ha; replace kk : Ext w6 w6 := Ext.refl w6)
   | fail)
 go_wp2_with fail
 go_region_held3 (fun w' => w'.cell? ⟨gl, 1, none⟩ = some (.int .u64 (T : Int)) ∧ w'.cell? ⟨gl, 4, none⟩ = some (.slice Ar nr cr) ∧ w'.cell? ⟨ga, 0, none⟩ = some (.slice Aa na ca)) (go_keep)
  (first
   | (go_at_call 83; refine (ofF_any z1 _ hz1b).mono ?_; rintro e5 w5 ⟨A_c, n_c, c_c, rfl, hn_c, hx5, k5', _⟩; have k5 : Ext _ w5 := k5'; have H_c : Hid (NX w5 A_c n_c c_c (nw z1)) := Lib.hid hx5; clear hx5 k5'; replace kk := Ext.trans (Ext.trans kk (by with_reducible repeat first | exact Ext.refl _ | apply Ext.alloc | apply Ext.drew)) k5; have d0 := cell_ext (Ext.trans kw kk) hst.2.1; have d1 := cell_ext (Ext.trans kw kk) hst.2.2.2.2; have d2 := cell_ext (Ext.trans kw kk) ha)
   | (go_at_call 152; refine (plus2 (NV.ext hxr (Ext.trans (Ext.trans kw kk) (by with_reducible repeat first | exact Ext.refl _ | apply Ext.alloc | apply Ext.drew))) (NX.val (M := 40) (NX.ext H_c.out (by with_reducible repeat first | exact Ext.refl _ | apply Ext.alloc | apply Ext.drew)) (by omega)) (by omega) (by omega) (SB.ext HS.out (Ext.trans kk (by with_reducible repeat first | exact Ext.refl _ | apply Ext.alloc | apply Ext.drew)))).mono ?_; rintro e6 w6 ⟨rfl, hs6, o6⟩; replace on := (On.trans on (On.of (Ext.trans kk (by with_reducible repeat first | exact Ext.refl _ | apply Ext.alloc | apply Ext.drew)))).trans o6; replace kw := Ext.on (Ext.trans kw (Ext.trans kk (by with_reducible repeat first | exact Ext.refl _ | apply Ext.alloc | apply Ext.drew))) o6 hp; replace HS := Lib.hid hs6; clear hs6; have d0 := cell_ext kw hst.2.1; have d1 := cell_ext kw hst.2.2.2.2; have d2 := cell_ext kw ha; replace kk : Ext w6 w6 := Ext.refl w6)
   | fail)
 go_wp2
 go_end0
 refine ⟨rfl, ?_, on⟩
 exact SB.cast HS.out (by rw [HZ.out, HY.out]; simp only [Nat.zero_add]) (by omega)
set_option maxHeartbeats 4000000 in
theorem mulTextC_any {ga gs gl n T Wd na ca nr cr X r S : Nat} {Ar Aa : Option Addr} {R : Value} {w : World} (hS : S < 9223372036854775808) (hst : StC w gl n T Wd R (.slice Ar nr cr)) (ha : w.cell? ⟨ga, 0, none⟩ = some (.slice Aa na ca)) (hs : w.cell? ⟨gs, 0, none⟩ = some (.int .u64 (S : Int))) (hxa : NV w (.slice Aa na ca) X 40) (hxr : NV w (.slice Ar nr cr) r 40) :
    Adds 95 #[.pointer (some ⟨ga, 0, none⟩), .pointer (some ⟨gs, 0, none⟩), .pointer (some ⟨gl, 0, none⟩)] w (X * S + r * ((S + 1) / 2)) 300 := by
 obtain ⟨z0, hz0⟩ : ∃ z, z = S + 1 := ⟨_, rfl⟩
 obtain ⟨z1, hz1⟩ : ∃ z, z = z0 / 2 := ⟨_, rfl⟩
 have u0 : IntKind.u64.wrap ((S : Int) + 1) = (z0 : Int) := by rw [IntKind.wrap_u64]; omega
 have u1 : (z0 : Int).tdiv 2 = (z1 : Int) := by rw [hz1]; rfl
 have u2 : (z0 : Int) / 2 = (z1 : Int) := by omega
 have u3 : IntKind.u64.wrap (z1 : Int) = (z1 : Int) := by rw [IntKind.wrap_u64]; omega
 have hz1b : z1 < 18446744073709551616 := by omega
 have HZ := Lib.hid (show z1 = (S + 1) / 2 by omega)
 clear hz0 hz1
 intro w1 kw hs0
 have HS := Lib.hid hs0
 have on : On w.heap.size w1 w1 := On.refl _ _
 have hp : w.heap.size ≤ w.heap.size := Nat.le_refl _
 obtain ⟨p, hpe⟩ : ∃ p, p = w.heap.size := ⟨_, rfl⟩
 rw [← hpe] at HS on ⊢
 have hp : w.heap.size ≤ p := by omega
 clear hs0 hpe
 rw [app4]
 have d0 := cell_ext kw hst.2.2.2.2
 have d1 := cell_ext kw ha
 have d2 := cell_ext kw hs
 have kk : Ext w1 w1 := Ext.refl w1
 go_enter Tryz.func95, Tryz.ntmps95
 go_wp2_with fail
 go_region_held3 (fun w' => w'.cell? ⟨gl, 4, none⟩ = some (.slice Ar nr cr) ∧ w'.cell? ⟨ga, 0, none⟩ = some (.slice Aa na ca) ∧ w'.cell? ⟨gs, 0, none⟩ = some (.int .u64 (S : Int))) (go_keep)
  (first
   | (go_at_call 83; refine (ofF_any S _ (by omega)).mono ?_; rintro e5 w5 ⟨A_a, n_a, c_a, rfl, hn_a, hx5, k5', _⟩; have k5 : Ext _ w5 := k5'; have H_a : Hid (NX w5 A_a n_a c_a (nw S)) := Lib.hid hx5; clear hx5 k5'; replace kk := Ext.trans (Ext.trans kk (by with_reducible repeat first | exact Ext.refl _ | apply Ext.alloc | apply Ext.drew)) k5; have d0 := cell_ext (Ext.trans kw kk) hst.2.2.2.2; have d1 := cell_ext (Ext.trans kw kk) ha; have d2 := cell_ext (Ext.trans kw kk) hs)
   | (go_at_call 152; refine (plus2 (NV.ext hxa (Ext.trans (Ext.trans kw kk) (by with_reducible repeat first | exact Ext.refl _ | apply Ext.alloc | apply Ext.drew))) (NX.val (M := 40) (NX.ext H_a.out (by with_reducible repeat first | exact Ext.refl _ | apply Ext.alloc | apply Ext.drew)) (by omega)) (by omega) (by omega) (SB.ext HS.out (Ext.trans kk (by with_reducible repeat first | exact Ext.refl _ | apply Ext.alloc | apply Ext.drew)))).mono ?_; rintro e6 w6 ⟨rfl, hs6, o6⟩; replace on := (On.trans on (On.of (Ext.trans kk (by with_reducible repeat first | exact Ext.refl _ | apply Ext.alloc | apply Ext.drew)))).trans o6; replace kw := Ext.on (Ext.trans kw (Ext.trans kk (by with_reducible repeat first | exact Ext.refl _ | apply Ext.alloc | apply Ext.drew))) o6 hp; replace HS := Lib.hid hs6; clear hs6; have d0 := cell_ext kw hst.2.2.2.2; have d1 := cell_ext kw ha; have d2 := cell_ext kw hs; replace kk : Ext w6 w6 := Ext.refl w6)
   | fail)
 go_wp2_with fail
 go_region_held3 (fun w' => w'.cell? ⟨gl, 4, none⟩ = some (.slice Ar nr cr) ∧ w'.cell? ⟨ga, 0, none⟩ = some (.slice Aa na ca) ∧ w'.cell? ⟨gs, 0, none⟩ = some (.int .u64 (S : Int))) (go_keep)
  (first
   | (go_at_call 83; refine (ofF_any z1 _ hz1b).mono ?_; rintro e5 w5 ⟨A_c, n_c, c_c, rfl, hn_c, hx5, k5', _⟩; have k5 : Ext _ w5 := k5'; have H_c : Hid (NX w5 A_c n_c c_c (nw z1)) := Lib.hid hx5; clear hx5 k5'; replace kk := Ext.trans (Ext.trans kk (by with_reducible repeat first | exact Ext.refl _ | apply Ext.alloc | apply Ext.drew)) k5; have d0 := cell_ext (Ext.trans kw kk) hst.2.2.2.2; have d1 := cell_ext (Ext.trans kw kk) ha; have d2 := cell_ext (Ext.trans kw kk) hs)
   | (go_at_call 152; refine (plus2 (NV.ext hxr (Ext.trans (Ext.trans kw kk) (by with_reducible repeat first | exact Ext.refl _ | apply Ext.alloc | apply Ext.drew))) (NX.val (M := 40) (NX.ext H_c.out (by with_reducible repeat first | exact Ext.refl _ | apply Ext.alloc | apply Ext.drew)) (by omega)) (by omega) (by omega) (SB.ext HS.out (Ext.trans kk (by with_reducible repeat first | exact Ext.refl _ | apply Ext.alloc | apply Ext.drew)))).mono ?_; rintro e6 w6 ⟨rfl, hs6, o6⟩; replace on := (On.trans on (On.of (Ext.trans kk (by with_reducible repeat first | exact Ext.refl _ | apply Ext.alloc | apply Ext.drew)))).trans o6; replace kw := Ext.on (Ext.trans kw (Ext.trans kk (by with_reducible repeat first | exact Ext.refl _ | apply Ext.alloc | apply Ext.drew))) o6 hp; replace HS := Lib.hid hs6; clear hs6; have d0 := cell_ext kw hst.2.2.2.2; have d1 := cell_ext kw ha; have d2 := cell_ext kw hs; replace kk : Ext w6 w6 := Ext.refl w6)
   | fail)
 go_wp2
 go_end0
 refine ⟨rfl, ?_, on⟩
 exact SB.cast HS.out (by rw [HZ.out]; simp only [Nat.zero_add]) (by omega)
def swS (n Wd : Nat) (f : Nat → Nat) : Nat → Nat
 | 0 => 0
 | k + 1 => swS n Wd f k + n * Wd * ((f k - 1) / 2)
set_option maxHeartbeats 4000000 in
theorem switchC_any {ga gl n T Wd na ca X L cq : Nat} {Aa Aq : Option Addr} {Sv : Value} {f : Nat → Nat} {w : World} (hn : n ≤ 4096) (hW : Wd ≤ 16) (hL : L ≤ 8) (hfx : FX w Aq L cq f) (hf : Hid (∀ j, j < L → 1 ≤ f j ∧ f j < 18446744073709551616)) (hst : StC w gl n T Wd (.slice Aq L cq) Sv) (ha : w.cell? ⟨ga, 0, none⟩ = some (.slice Aa na ca)) (hxa : NV w (.slice Aa na ca) X 40) :
    Adds 101 #[.pointer (some ⟨ga, 0, none⟩), .pointer (some ⟨gl, 0, none⟩)] w (X + swS n Wd f L) 300 := by
 intro w1 kw hs0
 have HS := Lib.hid hs0
 have on : On w.heap.size w1 w1 := On.refl _ _
 obtain ⟨p, hpe⟩ : ∃ p, p = w.heap.size := ⟨_, rfl⟩
 rw [← hpe] at HS on ⊢
 have hp : w.heap.size ≤ p := by omega
 clear hs0 hpe
 rw [app3]
 have d0 := cell_ext kw hst.1
 have d1 := cell_ext kw hst.2.2.1
 have d2 := cell_ext kw hst.2.2.2.1
 have da := cell_ext kw ha
 go_enter Tryz.func101, Tryz.ntmps101
 go_wp2_with fail
 refine (plus1 (hxa.ext kw) (by omega) (by omega) HS.out).mono ?_
 rintro e2 w2 ⟨rfl, hs2, o2⟩
 replace on := on.trans o2
 have kw2 := Ext.on kw o2 hp
 have HS2 := Lib.hid hs2
 replace d0 := cell_ext kw2 hst.1
 replace d1 := cell_ext kw2 hst.2.2.1
 replace d2 := cell_ext kw2 hst.2.2.2.1
 clear hs2 da HS
 go_wp2
 go_loopw [13] (fun i wr => ∃ k : Nat, k ≤ L ∧ i = .int .i64 (k : Int) ∧ Hid (SB wr p (X + swS n Wd f k) (42 + k * 11)) ∧ On p w1 wr ∧ Ext w wr) (fun i _ => L - (intOf i).toNat)
 case atStart => exact ⟨0, by omega, rfl, Lib.hid (SB.cast HS2.out (by simp only [Nat.zero_add]; rfl) (by omega)), on, kw2⟩
 case round =>
  obtain ⟨k, hk, rfl, HS, on', kw⟩ := hrel
  clear on
  have on := on'
  clear on'
  replace d0 := cell_ext kw hst.1
  replace d1 := cell_ext kw hst.2.2.1
  replace d2 := cell_ext kw hst.2.2.2.1
  by_cases hlt : k < L
  ·obtain ⟨ad, rfl, hc⟩ := (hfx.ext kw).cells (by omega)
   have hcell := hc k hlt
   obtain ⟨h1q, hq⟩ := hf.out k hlt
   have i0 : (0 : Int) ≤ (k : Int) := by omega
   have i1 : (k : Int) < (L : Int) := by omega
   obtain ⟨q, hqe⟩ : ∃ q, q = f k := ⟨_, rfl⟩
   rw [← hqe] at hcell h1q hq
   obtain ⟨z0, hz0⟩ : ∃ z, z = q - 1 := ⟨_, rfl⟩
   obtain ⟨z1, hz1⟩ : ∃ z, z = z0 / 2 := ⟨_, rfl⟩
   have u0 : IntKind.u64.wrap ((q : Int) - 1) = (z0 : Int) := by rw [IntKind.wrap_u64]; omega
   have u1 : (z0 : Int).tdiv 2 = (z1 : Int) := by rw [hz1]; rfl
   have u2 : (z0 : Int) / 2 = (z1 : Int) := by omega
   have u3 : IntKind.u64.wrap (z1 : Int) = (z1 : Int) := by rw [IntKind.wrap_u64]; omega
   have hz1b : z1 < 18446744073709551616 := by omega
   have HZ := Lib.hid (show swS n Wd f (k + 1) = swS n Wd f k + n * Wd * z1 by rw [swS, ← hqe]; rw [show (q - 1) / 2 = z1 by omega])
   have hkm : 42 + k * 11 ≤ 900 := by omega
   have kk : Ext wr wr := Ext.refl wr
   clear hc hqe hz0 hz1
   go_wp2_with fail
   go_region_held3 (fun w' => w'.cell? ⟨gl, 0, none⟩ = some (.int .u64 (n : Int)) ∧ w'.cell? ⟨gl, 2, none⟩ = some (.int .u64 (Wd : Int)) ∧ w'.cell? ⟨gl, 3, none⟩ = some (.slice (some ad) L cq)) (go_keep)
    (first
     | (go_at_call 83; have q_b := H_b; clear q_b; refine (ofF_any z1 _ hz1b).mono ?_; rintro e5 w5 ⟨A_c, n_c, c_c, rfl, hn_c, hx5, k5', _⟩; have k5 : Ext _ w5 := k5'; have H_c : Hid (NX w5 A_c n_c c_c (nw z1)) := Lib.hid hx5; clear hx5 k5'; replace kk := Ext.trans (Ext.trans kk (by with_reducible repeat first | exact Ext.refl _ | apply Ext.alloc | apply Ext.drew)) k5; replace H_a := Lib.hid (NX.ext H_a.out (Ext.trans (by with_reducible repeat first | exact Ext.refl _ | apply Ext.alloc | apply Ext.drew) k5)); replace H_b := Lib.hid (NX.ext H_b.out (Ext.trans (by with_reducible repeat first | exact Ext.refl _ | apply Ext.alloc | apply Ext.drew) k5)); have d0 := cell_ext (Ext.trans kw kk) hst.1; have d1 := cell_ext (Ext.trans kw kk) hst.2.2.1; have d2 := cell_ext (Ext.trans kw kk) hst.2.2.2.1)
     | (go_at_call 83; have q_a := H_a; clear q_a; refine (ofF_any Wd _ (by omega)).mono ?_; rintro e5 w5 ⟨A_b, n_b, c_b, rfl, hn_b, hx5, k5', _⟩; have k5 : Ext _ w5 := k5'; have H_b : Hid (NX w5 A_b n_b c_b (nw Wd)) := Lib.hid hx5; clear hx5 k5'; replace kk := Ext.trans (Ext.trans kk (by with_reducible repeat first | exact Ext.refl _ | apply Ext.alloc | apply Ext.drew)) k5; replace H_a := Lib.hid (NX.ext H_a.out (Ext.trans (by with_reducible repeat first | exact Ext.refl _ | apply Ext.alloc | apply Ext.drew) k5)); have d0 := cell_ext (Ext.trans kw kk) hst.1; have d1 := cell_ext (Ext.trans kw kk) hst.2.2.1; have d2 := cell_ext (Ext.trans kw kk) hst.2.2.2.1)
     | (go_at_call 83; refine (ofF_any n _ (by omega)).mono ?_; rintro e5 w5 ⟨A_a, n_a, c_a, rfl, hn_a, hx5, k5', _⟩; have k5 : Ext _ w5 := k5'; have H_a : Hid (NX w5 A_a n_a c_a (nw n)) := Lib.hid hx5; clear hx5 k5'; replace kk := Ext.trans (Ext.trans kk (by with_reducible repeat first | exact Ext.refl _ | apply Ext.alloc | apply Ext.drew)) k5; have d0 := cell_ext (Ext.trans kw kk) hst.1; have d1 := cell_ext (Ext.trans kw kk) hst.2.2.1; have d2 := cell_ext (Ext.trans kw kk) hst.2.2.2.1)
     | (go_at_call 152; refine (plus3 (NX.val (M := 3) (NX.ext H_a.out (by with_reducible repeat first | exact Ext.refl _ | apply Ext.alloc | apply Ext.drew)) (by omega)) (NX.val (M := 3) (NX.ext H_b.out (by with_reducible repeat first | exact Ext.refl _ | apply Ext.alloc | apply Ext.drew)) (by omega)) (NX.val (M := 3) (NX.ext H_c.out (by with_reducible repeat first | exact Ext.refl _ | apply Ext.alloc | apply Ext.drew)) (by omega)) (by omega) (by omega) (SB.ext HS.out (Ext.trans kk (by with_reducible repeat first | exact Ext.refl _ | apply Ext.alloc | apply Ext.drew)))).mono ?_; rintro e6 w6 ⟨rfl, hs6, o6⟩; replace on := (On.trans on (On.of (Ext.trans kk (by with_reducible repeat first | exact Ext.refl _ | apply Ext.alloc | apply Ext.drew)))).trans o6; replace kw := Ext.on (Ext.trans kw (Ext.trans kk (by with_reducible repeat first | exact Ext.refl _ | apply Ext.alloc | apply Ext.drew))) o6 hp; replace HS := Lib.hid hs6; clear hs6; have d0 := cell_ext kw hst.1; have d1 := cell_ext kw hst.2.2.1; have d2 := cell_ext kw hst.2.2.2.1; replace kk : Ext w6 w6 := Ext.refl w6)
     | fail)
   go_wp2
   exact ⟨⟨k + 1, by omega, by go_num, Lib.hid (SB.cast HS.out (by rw [HZ.out, Nat.add_assoc]) (by omega)), on, kw⟩, by simp [intOf]; omega⟩
  ·obtain rfl : k = L := by omega
   go_wp2
   go_end0
   exact ⟨rfl, SB.cast HS.out rfl (by omega), on⟩
end Go.Proofs.YtjikdbcjabopnaaGreatDoor
