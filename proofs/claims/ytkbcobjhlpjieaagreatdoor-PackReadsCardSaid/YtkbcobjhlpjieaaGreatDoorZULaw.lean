import Derived.Test.YtkbcobjhlpjieaaGreatDoorZ44
import Derived.Test.YtkbcobjhlpjieaaGreatDoorZURc
import Derived.Test.YtkbcobjhlpjieaaGreatDoorZ37
import Derived.Test.YtkbcobjhlpjieaaGreatDoorZURs
import Derived.Test.YtkbcobjhlpjieaaGreatDoorZ35
namespace Go.Proofs.YtkbcobjhlpjieaaGreatDoor
open Go.RowKit
set_option linter.unusedVariables false
set_option linter.unusedSimpArgs false
set_option maxRecDepth 100000
theorem BX.inside {w : World} {A : Option Addr} {n c : Nat} {l : List Nat} (h : BX w A n c l) : 0 < n → ∀ ad, A = some ad → ad.block < w.heap.size := fun h0 ad e => by
 obtain ⟨ad', e', h2, _⟩ := h.cells h0
 rw [e] at e'
 injection e' with e'
 rw [e']
 exact h2
theorem par_cells (w : World) (a b c d : Value) : RW (w.alloc (.cells #[a, b, c, d] 25)) w.heap.size 25 4 (parF a b c d) := heap_alloc_new w _
theorem elsR_two {w : World} {gX : Nat} {v0 v1 : Value} {x0 x1 : List (List Nat)} (hb : w.heap[gX]? = some (.cells #[v0, v1] 31)) (h0 : ElR w v0 x0) (h1 : ElR w v1 x1) : ElsR w (.slice (some ⟨gX, 0, none⟩) 2 2) [x0, x1] := by
 refine ⟨_, 2, rfl, ⟨by simp, fun ad e => (by injection e with e; subst e; exact ⟨_, _, hb⟩), fun _ => ⟨_, rfl, fun j x hx => ?_⟩⟩⟩
 rcases j with _ | _ | j
 ·simp at hx
  subst hx
  exact ⟨v0, by rw [Addr.add_lit]; simp [World.cell?, hb], h0⟩
 ·simp at hx
  subst hx
  exact ⟨v1, by rw [Addr.add_lit]; simp [World.cell?, hb], h1⟩
 ·simp at hx
theorem short_two {a b : List (List Nat)} (ha : a.length ≤ 1000 ∧ ∀ y ∈ a, y.length ≤ 100000) (hb : b.length ≤ 1000 ∧ ∀ y ∈ b, y.length ≤ 100000) : Short [a, b] :=
 ⟨by simp, fun x hx => by
  simp at hx
  rcases hx with rfl | rfl
  ·exact ha
  ·exact hb⟩
theorem box_atU {w : World} {g : Nat} {v : Value} {t : TypeId} (h : w.heap[g]? = some (.cells #[v] t)) : w.cell? ⟨g, 0, none⟩ = some v := by
 simp [World.cell?, h]
theorem at_newU {w : World} {o : Obj} {g : Nat} (h : g = w.heap.size) : (w.alloc o).heap[g]? = some o := by
 subst h
 exact heap_alloc_new w o
theorem at_oldU {w : World} {o x : Obj} {g : Nat} (h : w.heap[g]? = some x) : (w.alloc o).heap[g]? = some x := by
 have hl := (Array.getElem?_eq_some_iff.1 h).1
 rw [((Ext.refl w).alloc o).block g hl]
 exact h
theorem at_drewU {w : World} {x : Obj} {g : Nat} (h : w.heap[g]? = some x) : w.drew.heap[g]? = some x := h
set_option maxHeartbeats 16000000 in
theorem packReads_walk (n c : Nat) (A : Option Addr) (l : List Nat) (w : World) (hX : Hid (BX w A n c l)) (hTab : Tabs w) :
    Calls Tryz.prog 5 #[.slice A n c] w fun e w' => e = .returned (.bool true) ∧ Ext w w' := by
 have HTAB := Lib.hid hTab
 clear hTab
 go_enter Tryz.func5, Tryz.ntmps5
 go_wp2_with fail
 refine (fixed15_any w HTAB.out).mono ?_
 rintro e v0 ⟨rfl, k0⟩
 have K0 := Lib.hid k0
 clear k0
 by_cases hn : n ≤ 20000
 ·have i1 : ¬ (20000 : Int) < (n : Int) := by omega
  go_wp2_with (at_builtin; go_loud (refine wpList_copyB rfl _ _ rfl v0.heap.size rfl A n c l rfl rfl (hX.out.ext K0.out) (by omega) ?_; intro A2 c2 w0 hb0 k0))
  have HB := Lib.hid hb0
  have K1 := Lib.hid (K0.out.trans k0)
  clear hb0 k0
  obtain ⟨RN, hRN⟩ : ∃ R : Except Nat (PV × Unit), R = endP (headP 1 (fun _ l => (.ok ((), l) : Except Nat (Unit × List Nat))) l) := ⟨_, rfl⟩
  have HRN := Lib.hid hRN
  clear hRN
  obtain ⟨RC, hRC⟩ : ∃ R : Except Nat (PV × List (List (List Nat))), R = endP (headP 2 cipherP l) := ⟨_, rfl⟩
  have HRC := Lib.hid hRC
  clear hRC
  obtain ⟨RP, hRP⟩ : ∃ R : Except Nat (PV × List (List (List Nat))), R = endP (headP 3 publicP l) := ⟨_, rfl⟩
  have HRP := Lib.hid hRP
  clear hRP
  obtain ⟨RS4, hRS4⟩ : ∃ R : Except Nat (PV × List Int), R = endP (headP 4 secretP l) := ⟨_, rfl⟩
  have HRS4 := Lib.hid hRS4
  clear hRS4
  have KV := Lib.hid (Ext.refl w0)
  refine (show Calls Tryz.prog 23 #[.slice A2 n c2] w0 (R0Post w0 RN) from by rw [HRN.out]; exact rdN_any n c2 A2 l w0 (Lib.hid (HB.out.ext KV.out)) (Lib.hid (BX.inside (HB.out.ext KV.out))) (by omega) (HTAB.out.ext (K1.out.trans KV.out))).mono ?_
  intro e v1 h
  obtain ⟨AQ0, cQ0, rfl, hp, k⟩ := h.u0
  clear h
  go_wp2_with fail
  have x : RW (v1.alloc (.cells #[.int .i64 ((pvD RN).n : Int), .int .u64 ((pvD RN).t : Int), .slice AQ0 (pvD RN).q.length cQ0, .int .i64 ((pvD RN).w : Int)] 25)) v1.heap.size 25 4 _ := par_cells v1 _ _ _ _
  have kz : Ext v1 (v1.alloc (.cells #[.int .i64 ((pvD RN).n : Int), .int .u64 ((pvD RN).t : Int), .slice AQ0 (pvD RN).q.length cQ0, .int .i64 ((pvD RN).w : Int)] 25)) := ((Ext.refl v1).alloc _)
  generalize (v1.alloc (.cells #[.int .i64 ((pvD RN).n : Int), .int .u64 ((pvD RN).t : Int), .slice AQ0 (pvD RN).q.length cQ0, .int .i64 ((pvD RN).w : Int)] 25)) = W1 at *
  generalize v1.heap.size = g1 at *
  have X1 := Lib.hid x
  have P1 := Lib.hid (hp.ext kz)
  have T1 := Lib.hid (k.trans kz)
  clear x hp
  replace KV := Lib.hid (KV.out.trans T1.out)
  clear k kz
  refine (show Calls Tryz.prog 24 #[.slice A2 n c2] W1 (RPost (.agg #[.slice none 0 0]) W1 RC (AgR ElsR)) from by rw [HRC.out]; exact rdC_any n c2 A2 l W1 (Lib.hid (HB.out.ext KV.out)) (Lib.hid (BX.inside (HB.out.ext KV.out))) (by omega) (HTAB.out.ext (K1.out.trans KV.out))).mono ?_
  intro e v2 h
  obtain ⟨AQ1, cQ1, B1, m1, c11, rfl, hp, he, k⟩ := h.uC
  clear h
  go_wp2_with fail
  have x : RW ((v2.alloc (.cells #[.int .i64 ((pvD RC).n : Int), .int .u64 ((pvD RC).t : Int), .slice AQ1 (pvD RC).q.length cQ1, .int .i64 ((pvD RC).w : Int)] 25)).alloc (.cells #[.slice B1 m1 c11] 28)) v2.heap.size 25 4 _ := (par_cells v2 _ _ _ _).ext ((Ext.refl _).alloc _)
  have y : ((v2.alloc (.cells #[.int .i64 ((pvD RC).n : Int), .int .u64 ((pvD RC).t : Int), .slice AQ1 (pvD RC).q.length cQ1, .int .i64 ((pvD RC).w : Int)] 25)).alloc (.cells #[.slice B1 m1 c11] 28)).cell? ⟨v2.heap.size + 1, 0, none⟩ = some (.slice B1 m1 c11) := by simp
  have kz : Ext v2 ((v2.alloc (.cells #[.int .i64 ((pvD RC).n : Int), .int .u64 ((pvD RC).t : Int), .slice AQ1 (pvD RC).q.length cQ1, .int .i64 ((pvD RC).w : Int)] 25)).alloc (.cells #[.slice B1 m1 c11] 28)) := (((Ext.refl v2).alloc _).alloc _)
  generalize ((v2.alloc (.cells #[.int .i64 ((pvD RC).n : Int), .int .u64 ((pvD RC).t : Int), .slice AQ1 (pvD RC).q.length cQ1, .int .i64 ((pvD RC).w : Int)] 25)).alloc (.cells #[.slice B1 m1 c11] 28)) = W2 at *
  generalize v2.heap.size = g2 at *
  have X2 := Lib.hid x
  have P2 := Lib.hid (hp.ext kz)
  have T2 := Lib.hid (k.trans kz)
  clear x hp
  have Y2 := Lib.hid y
  clear y
  have E2 := Lib.hid (And.intro he kz)
  clear he
  replace KV := Lib.hid (KV.out.trans T2.out)
  clear k kz
  refine (show Calls Tryz.prog 25 #[.slice A2 n c2] W2 (RPost (.agg #[.slice none 0 0, .slice none 0 0]) W2 RP PubR) from by rw [HRP.out]; exact rdP_any n c2 A2 l W2 (Lib.hid (HB.out.ext KV.out)) (Lib.hid (BX.inside (HB.out.ext KV.out))) (by omega) (HTAB.out.ext (K1.out.trans KV.out))).mono ?_
  intro e v3 h
  obtain ⟨AQ2, cQ2, B2, m2, c12, D2, j2, d2, rfl, hp, he, hf, k⟩ := h.uP
  clear h
  go_wp2_with fail
  have x : RW ((v3.alloc (.cells #[.int .i64 ((pvD RP).n : Int), .int .u64 ((pvD RP).t : Int), .slice AQ2 (pvD RP).q.length cQ2, .int .i64 ((pvD RP).w : Int)] 25)).alloc (.cells #[.slice B2 m2 c12, .slice D2 j2 d2] 33)) v3.heap.size 25 4 _ := (par_cells v3 _ _ _ _).ext ((Ext.refl _).alloc _)
  have y : ((v3.alloc (.cells #[.int .i64 ((pvD RP).n : Int), .int .u64 ((pvD RP).t : Int), .slice AQ2 (pvD RP).q.length cQ2, .int .i64 ((pvD RP).w : Int)] 25)).alloc (.cells #[.slice B2 m2 c12, .slice D2 j2 d2] 33)).cell? ⟨v3.heap.size + 1, 0, none⟩ = some (.slice B2 m2 c12) := by simp
  have z : ((v3.alloc (.cells #[.int .i64 ((pvD RP).n : Int), .int .u64 ((pvD RP).t : Int), .slice AQ2 (pvD RP).q.length cQ2, .int .i64 ((pvD RP).w : Int)] 25)).alloc (.cells #[.slice B2 m2 c12, .slice D2 j2 d2] 33)).cell? ⟨v3.heap.size + 1, 1, none⟩ = some (.slice D2 j2 d2) := by simp
  have kz : Ext v3 ((v3.alloc (.cells #[.int .i64 ((pvD RP).n : Int), .int .u64 ((pvD RP).t : Int), .slice AQ2 (pvD RP).q.length cQ2, .int .i64 ((pvD RP).w : Int)] 25)).alloc (.cells #[.slice B2 m2 c12, .slice D2 j2 d2] 33)) := (((Ext.refl v3).alloc _).alloc _)
  generalize ((v3.alloc (.cells #[.int .i64 ((pvD RP).n : Int), .int .u64 ((pvD RP).t : Int), .slice AQ2 (pvD RP).q.length cQ2, .int .i64 ((pvD RP).w : Int)] 25)).alloc (.cells #[.slice B2 m2 c12, .slice D2 j2 d2] 33)) = W3 at *
  generalize v3.heap.size = g3 at *
  have X3 := Lib.hid x
  have P3 := Lib.hid (hp.ext kz)
  have T3 := Lib.hid (k.trans kz)
  clear x hp
  have Y3 := Lib.hid y
  clear y
  have Z3 := Lib.hid z
  have F3 := Lib.hid (And.intro hf kz)
  clear z hf
  have E3 := Lib.hid (And.intro he kz)
  clear he
  replace KV := Lib.hid (KV.out.trans T3.out)
  clear k kz
  refine (show Calls Tryz.prog 26 #[.slice A2 n c2] W3 (RPost (.slice none 0 0) W3 RS4 SgR) from by rw [HRS4.out]; exact rdS_any n c2 A2 l W3 (Lib.hid (HB.out.ext KV.out)) (Lib.hid (BX.inside (HB.out.ext KV.out))) (by omega) (HTAB.out.ext (K1.out.trans KV.out))).mono ?_
  intro e v4 h
  obtain ⟨AQ3, cQ3, B3, m3, c13, rfl, hp, he, k⟩ := h.uS
  clear h
  go_wp2_with fail
  have x : RW (v4.alloc (.cells #[.int .i64 ((pvD RS4).n : Int), .int .u64 ((pvD RS4).t : Int), .slice AQ3 (pvD RS4).q.length cQ3, .int .i64 ((pvD RS4).w : Int)] 25)) v4.heap.size 25 4 _ := par_cells v4 _ _ _ _
  have kz : Ext v4 (v4.alloc (.cells #[.int .i64 ((pvD RS4).n : Int), .int .u64 ((pvD RS4).t : Int), .slice AQ3 (pvD RS4).q.length cQ3, .int .i64 ((pvD RS4).w : Int)] 25)) := ((Ext.refl v4).alloc _)
  generalize (v4.alloc (.cells #[.int .i64 ((pvD RS4).n : Int), .int .u64 ((pvD RS4).t : Int), .slice AQ3 (pvD RS4).q.length cQ3, .int .i64 ((pvD RS4).w : Int)] 25)) = W4 at *
  generalize v4.heap.size = g4 at *
  have X4 := Lib.hid x
  have P4 := Lib.hid (hp.ext kz)
  have T4 := Lib.hid (k.trans kz)
  clear x hp
  have E4 := Lib.hid (And.intro he kz)
  clear he
  replace KV := Lib.hid (KV.out.trans T4.out)
  clear k kz
  refine (show Calls Tryz.prog 27 #[.slice A n c] W4 (R0Post W4 RN) from by rw [HRN.out]; exact rrN_any n c A l W4 (Lib.hid (hX.out.ext (K1.out.trans KV.out))) (Lib.hid (BX.inside (hX.out.ext (K1.out.trans KV.out)))) (by omega)).mono ?_
  intro e v5 h
  obtain ⟨AQ4, cQ4, rfl, hp, k⟩ := h.u0
  clear h
  go_wp2_with fail
  have x : RW (v5.alloc (.cells #[.int .i64 ((pvD RN).n : Int), .int .u64 ((pvD RN).t : Int), .slice AQ4 (pvD RN).q.length cQ4, .int .i64 ((pvD RN).w : Int)] 25)) v5.heap.size 25 4 _ := par_cells v5 _ _ _ _
  have kz : Ext v5 (v5.alloc (.cells #[.int .i64 ((pvD RN).n : Int), .int .u64 ((pvD RN).t : Int), .slice AQ4 (pvD RN).q.length cQ4, .int .i64 ((pvD RN).w : Int)] 25)) := ((Ext.refl v5).alloc _)
  generalize (v5.alloc (.cells #[.int .i64 ((pvD RN).n : Int), .int .u64 ((pvD RN).t : Int), .slice AQ4 (pvD RN).q.length cQ4, .int .i64 ((pvD RN).w : Int)] 25)) = W5 at *
  generalize v5.heap.size = g5 at *
  have X5 := Lib.hid x
  have P5 := Lib.hid (hp.ext kz)
  have T5 := Lib.hid (k.trans kz)
  clear x hp
  replace KV := Lib.hid (KV.out.trans T5.out)
  clear k kz
  refine (show Calls Tryz.prog 28 #[.slice A n c] W5 (RPost (.agg #[.slice none 0 0]) W5 RC (AgR ElsR)) from by rw [HRC.out]; exact rrC_any n c A l W5 (Lib.hid (hX.out.ext (K1.out.trans KV.out))) (Lib.hid (BX.inside (hX.out.ext (K1.out.trans KV.out)))) (by omega)).mono ?_
  intro e v6 h
  obtain ⟨AQ5, cQ5, B5, m5, c15, rfl, hp, he, k⟩ := h.uC
  clear h
  go_wp2_with fail
  have x : RW ((v6.alloc (.cells #[.int .i64 ((pvD RC).n : Int), .int .u64 ((pvD RC).t : Int), .slice AQ5 (pvD RC).q.length cQ5, .int .i64 ((pvD RC).w : Int)] 25)).alloc (.cells #[.slice B5 m5 c15] 28)) v6.heap.size 25 4 _ := (par_cells v6 _ _ _ _).ext ((Ext.refl _).alloc _)
  have y : ((v6.alloc (.cells #[.int .i64 ((pvD RC).n : Int), .int .u64 ((pvD RC).t : Int), .slice AQ5 (pvD RC).q.length cQ5, .int .i64 ((pvD RC).w : Int)] 25)).alloc (.cells #[.slice B5 m5 c15] 28)).cell? ⟨v6.heap.size + 1, 0, none⟩ = some (.slice B5 m5 c15) := by simp
  have kz : Ext v6 ((v6.alloc (.cells #[.int .i64 ((pvD RC).n : Int), .int .u64 ((pvD RC).t : Int), .slice AQ5 (pvD RC).q.length cQ5, .int .i64 ((pvD RC).w : Int)] 25)).alloc (.cells #[.slice B5 m5 c15] 28)) := (((Ext.refl v6).alloc _).alloc _)
  generalize ((v6.alloc (.cells #[.int .i64 ((pvD RC).n : Int), .int .u64 ((pvD RC).t : Int), .slice AQ5 (pvD RC).q.length cQ5, .int .i64 ((pvD RC).w : Int)] 25)).alloc (.cells #[.slice B5 m5 c15] 28)) = W6 at *
  generalize v6.heap.size = g6 at *
  have X6 := Lib.hid x
  have P6 := Lib.hid (hp.ext kz)
  have T6 := Lib.hid (k.trans kz)
  clear x hp
  have Y6 := Lib.hid y
  clear y
  have E6 := Lib.hid (And.intro he kz)
  clear he
  replace KV := Lib.hid (KV.out.trans T6.out)
  clear k kz
  refine (show Calls Tryz.prog 29 #[.slice A n c] W6 (RPost (.agg #[.slice none 0 0, .slice none 0 0]) W6 RP PubR) from by rw [HRP.out]; exact rrP_any n c A l W6 (Lib.hid (hX.out.ext (K1.out.trans KV.out))) (Lib.hid (BX.inside (hX.out.ext (K1.out.trans KV.out)))) (by omega)).mono ?_
  intro e v7 h
  obtain ⟨AQ6, cQ6, B6, m6, c16, D6, j6, d6, rfl, hp, he, hf, k⟩ := h.uP
  clear h
  go_wp2_with fail
  have x : RW ((v7.alloc (.cells #[.int .i64 ((pvD RP).n : Int), .int .u64 ((pvD RP).t : Int), .slice AQ6 (pvD RP).q.length cQ6, .int .i64 ((pvD RP).w : Int)] 25)).alloc (.cells #[.slice B6 m6 c16, .slice D6 j6 d6] 33)) v7.heap.size 25 4 _ := (par_cells v7 _ _ _ _).ext ((Ext.refl _).alloc _)
  have y : ((v7.alloc (.cells #[.int .i64 ((pvD RP).n : Int), .int .u64 ((pvD RP).t : Int), .slice AQ6 (pvD RP).q.length cQ6, .int .i64 ((pvD RP).w : Int)] 25)).alloc (.cells #[.slice B6 m6 c16, .slice D6 j6 d6] 33)).cell? ⟨v7.heap.size + 1, 0, none⟩ = some (.slice B6 m6 c16) := by simp
  have z : ((v7.alloc (.cells #[.int .i64 ((pvD RP).n : Int), .int .u64 ((pvD RP).t : Int), .slice AQ6 (pvD RP).q.length cQ6, .int .i64 ((pvD RP).w : Int)] 25)).alloc (.cells #[.slice B6 m6 c16, .slice D6 j6 d6] 33)).cell? ⟨v7.heap.size + 1, 1, none⟩ = some (.slice D6 j6 d6) := by simp
  have kz : Ext v7 ((v7.alloc (.cells #[.int .i64 ((pvD RP).n : Int), .int .u64 ((pvD RP).t : Int), .slice AQ6 (pvD RP).q.length cQ6, .int .i64 ((pvD RP).w : Int)] 25)).alloc (.cells #[.slice B6 m6 c16, .slice D6 j6 d6] 33)) := (((Ext.refl v7).alloc _).alloc _)
  generalize ((v7.alloc (.cells #[.int .i64 ((pvD RP).n : Int), .int .u64 ((pvD RP).t : Int), .slice AQ6 (pvD RP).q.length cQ6, .int .i64 ((pvD RP).w : Int)] 25)).alloc (.cells #[.slice B6 m6 c16, .slice D6 j6 d6] 33)) = W7 at *
  generalize v7.heap.size = g7 at *
  have X7 := Lib.hid x
  have P7 := Lib.hid (hp.ext kz)
  have T7 := Lib.hid (k.trans kz)
  clear x hp
  have Y7 := Lib.hid y
  clear y
  have Z7 := Lib.hid z
  have F7 := Lib.hid (And.intro hf kz)
  clear z hf
  have E7 := Lib.hid (And.intro he kz)
  clear he
  replace KV := Lib.hid (KV.out.trans T7.out)
  clear k kz
  refine (show Calls Tryz.prog 30 #[.slice A n c] W7 (RPost (.slice none 0 0) W7 RS4 SgR) from by rw [HRS4.out]; exact rrS_any n c A l W7 (Lib.hid (hX.out.ext (K1.out.trans KV.out))) (Lib.hid (BX.inside (hX.out.ext (K1.out.trans KV.out)))) (by omega)).mono ?_
  intro e v8 h
  obtain ⟨AQ7, cQ7, B7, m7, c17, rfl, hp, he, k⟩ := h.uS
  clear h
  go_upto_region 14 with fail
  have x : RW (v8.alloc (.cells #[.int .i64 ((pvD RS4).n : Int), .int .u64 ((pvD RS4).t : Int), .slice AQ7 (pvD RS4).q.length cQ7, .int .i64 ((pvD RS4).w : Int)] 25)) v8.heap.size 25 4 _ := par_cells v8 _ _ _ _
  have kz : Ext v8 (v8.alloc (.cells #[.int .i64 ((pvD RS4).n : Int), .int .u64 ((pvD RS4).t : Int), .slice AQ7 (pvD RS4).q.length cQ7, .int .i64 ((pvD RS4).w : Int)] 25)) := ((Ext.refl v8).alloc _)
  generalize (v8.alloc (.cells #[.int .i64 ((pvD RS4).n : Int), .int .u64 ((pvD RS4).t : Int), .slice AQ7 (pvD RS4).q.length cQ7, .int .i64 ((pvD RS4).w : Int)] 25)) = W8 at *
  generalize v8.heap.size = g8 at *
  have X8 := Lib.hid x
  have P8 := Lib.hid (hp.ext kz)
  have T8 := Lib.hid (k.trans kz)
  clear x hp
  have E8 := Lib.hid (And.intro he kz)
  clear he
  replace KV := Lib.hid (KV.out.trans T8.out)
  clear k kz
  have w14a := BX.conv (HB.out.ext KV.out)
  have w14b := BX.conv (hX.out.ext (K1.out.trans KV.out))
  go_upto_region 16 with fail
  clear w14a w14b
  have y3 := cell_ext (T4.out.trans (T5.out.trans (T6.out.trans (T7.out.trans T8.out)))) Y3.out
  have z3 := cell_ext (T4.out.trans (T5.out.trans (T6.out.trans (T7.out.trans T8.out)))) Z3.out
  have y7 := cell_ext T8.out Y7.out
  have z7 := cell_ext T8.out Z7.out
  go_cut [26, 27] (fun s26 s27 wx => ∃ g26 g27 gX gY : Nat, s26 = .pointer (some ⟨g26, 0, none⟩) ∧ s27 = .pointer (some ⟨g27, 0, none⟩) ∧ Hid (wx.cell? ⟨g26, 0, none⟩ = some (.slice (some ⟨gX, 0, none⟩) 2 2)) ∧ Hid (wx.cell? ⟨g27, 0, none⟩ = some (.slice (some ⟨gY, 0, none⟩) 2 2)) ∧ Hid (wx.heap[gX]? = some (.cells #[.slice D2 j2 d2, .slice B2 m2 c12] 31 (0, 0))) ∧ Hid (wx.heap[gY]? = some (.cells #[.slice D6 j6 d6, .slice B6 m6 c16] 31 (0, 0))) ∧ Ext W8 wx)
  case first =>
   rename_i JJ KK hJJ hKK
   refine wp_region_held_drew (S := (fun w' => Ext W8 w')) (by kernel_rfl) ?_ (fun hHeld => ?_)
   ·(try dsimp only); repeat (first | exact Ext.refl _ | refine Ext.alloc ?_ _ | refine Ext.drew ?_)
   refine wpAnyH_take (i := 0) (oi := _) (v := ?_) rfl (by kernel_rfl) (by kernel_rfl) (by kernel_rfl) (fun _ _ _ h => h) (Or.inl ⟨by rfl, ?_⟩) (by assumption) ?_
   rotate_left
   ·(intro wS hSw; (try dsimp only at hSw); have h0 := cell_ext hSw y3; have h1 := cell_ext hSw z3; have h2 := cell_ext hSw y7; have h3 := cell_ext hSw z7; (try go_simp); (try with_reducible rfl))
   try simp only [Act.put, s1, s2, s3]
   refine wpAnyH_take (i := 1) (oi := _) (v := ?_) rfl (by kernel_rfl) (by kernel_rfl) (by kernel_rfl) (fun _ _ _ h => h) (Or.inl ⟨by rfl, ?_⟩) (by assumption) ?_
   rotate_left
   ·(intro wS hSw; (try dsimp only at hSw); have h0 := cell_ext hSw y3; have h1 := cell_ext hSw z3; have h2 := cell_ext hSw y7; have h3 := cell_ext hSw z7; (try go_simp); (try with_reducible rfl))
   try simp only [Act.put, s1, s2, s3]
   refine wpAnyH_take (i := 2) (oi := _) (v := ?_) rfl (by kernel_rfl) (by kernel_rfl) (by kernel_rfl) (fun _ _ _ h => h) (Or.inl ⟨by rfl, ?_⟩) (by assumption) ?_
   rotate_left
   ·(intro wS hSw; (try dsimp only at hSw); have h0 := cell_ext hSw y3; have h1 := cell_ext hSw z3; have h2 := cell_ext hSw y7; have h3 := cell_ext hSw z7; (try go_simp); (try with_reducible rfl))
   try simp only [Act.put, s1, s2, s3]
   refine wpAnyH_take (i := 3) (oi := _) (v := ?_) rfl (by kernel_rfl) (by kernel_rfl) (by kernel_rfl) (fun _ _ _ h => h) (Or.inl ⟨by rfl, ?_⟩) (by assumption) ?_
   rotate_left
   ·(intro wS hSw; (try dsimp only at hSw); have h0 := cell_ext hSw y3; have h1 := cell_ext hSw z3; have h2 := cell_ext hSw y7; have h3 := cell_ext hSw z7; (try go_simp); (try with_reducible rfl))
   try simp only [Act.put, s1, s2, s3]
   refine wpAnyH_take (i := 6) (oi := _) (v := ?_) rfl (by kernel_rfl) (by kernel_rfl) (by kernel_rfl) (fun _ _ _ h => h) (Or.inl ⟨by rfl, ?_⟩) (by assumption) ?_
   rotate_left
   ·(intro wS hSw; (try dsimp only at hSw); have h0 := cell_ext hSw y3; have h1 := cell_ext hSw z3; have h2 := cell_ext hSw y7; have h3 := cell_ext hSw z7; (try go_simp); (try with_reducible rfl))
   try simp only [Act.put, s1, s2, s3]
   refine wpAnyH_take (i := 7) (oi := _) (v := ?_) rfl (by kernel_rfl) (by kernel_rfl) (by kernel_rfl) (fun _ _ _ h => h) (Or.inl ⟨by rfl, ?_⟩) (by assumption) ?_
   rotate_left
   ·(intro wS hSw; (try dsimp only at hSw); have h0 := cell_ext hSw y3; have h1 := cell_ext hSw z3; have h2 := cell_ext hSw y7; have h3 := cell_ext hSw z7; (try go_simp); (try with_reducible rfl))
   try simp only [Act.put, s1, s2, s3]
   refine wpAnyH_take (i := 8) (oi := _) (v := ?_) rfl (by kernel_rfl) (by kernel_rfl) (by kernel_rfl) (fun _ _ _ h => h) (Or.inl ⟨by rfl, ?_⟩) (by assumption) ?_
   rotate_left
   ·(intro wS hSw; (try dsimp only at hSw); have h0 := cell_ext hSw y3; have h1 := cell_ext hSw z3; have h2 := cell_ext hSw y7; have h3 := cell_ext hSw z7; (try go_simp); (try with_reducible rfl))
   try simp only [Act.put, s1, s2, s3]
   refine wpAnyH_take (i := 9) (oi := _) (v := ?_) rfl (by kernel_rfl) (by kernel_rfl) (by kernel_rfl) (fun _ _ _ h => h) (Or.inl ⟨by rfl, ?_⟩) (by assumption) ?_
   rotate_left
   ·(intro wS hSw; (try dsimp only at hSw); have h0 := cell_ext hSw y3; have h1 := cell_ext hSw z3; have h2 := cell_ext hSw y7; have h3 := cell_ext hSw z7; (try go_simp); (try with_reducible rfl))
   try simp only [Act.put, s1, s2, s3]
   refine wpAnyH_ready (rs := [4, 10, 12, 13]) (by kernel_rfl) (by simp) ?_
   refine AllReadyH.cons rfl (fun KQ hKQ => ?_) ?_
   ·go_simp
    refine hKQ.out _ _ ?_ (fun hHeld => ?_)
    ·(try dsimp only); repeat (first | exact Ext.refl _ | refine Ext.alloc ?_ _ | refine Ext.drew ?_)
    clear hKQ KQ
    try simp only [Act.put, s1, s2, s3]
    refine wpAnyH_take (i := 5) (oi := _) (v := ?_) rfl (by kernel_rfl) (by kernel_rfl) (by kernel_rfl) (fun _ _ _ h => h) (Or.inl ⟨by rfl, ?_⟩) (by assumption) ?_
    rotate_left
    ·(intro wS hSw; (try dsimp only at hSw); have h0 := cell_ext hSw y3; have h1 := cell_ext hSw z3; have h2 := cell_ext hSw y7; have h3 := cell_ext hSw z7; (try go_simp); (try with_reducible rfl))
    try simp only [Act.put, s1, s2, s3]
    refine wpAnyH_ready (rs := [10, 12, 13]) (by kernel_rfl) (by simp) ?_
    refine AllReadyH.cons rfl (fun KQ hKQ => ?_) ?_
    ·go_simp
     refine hKQ.out _ _ ?_ (fun hHeld => ?_)
     ·(try dsimp only); repeat (first | exact Ext.refl _ | refine Ext.alloc ?_ _ | refine Ext.drew ?_)
     clear hKQ KQ
     try simp only [Act.put, s1, s2, s3]
     refine wpAnyH_take (i := 11) (oi := _) (v := ?_) rfl (by kernel_rfl) (by kernel_rfl) (by kernel_rfl) (fun _ _ _ h => h) (Or.inl ⟨by rfl, ?_⟩) (by assumption) ?_
     rotate_left
     ·(intro wS hSw; (try dsimp only at hSw); have h0 := cell_ext hSw y3; have h1 := cell_ext hSw z3; have h2 := cell_ext hSw y7; have h3 := cell_ext hSw z7; (try go_simp); (try with_reducible rfl))
     try simp only [Act.put, s1, s2, s3]
     refine wpAnyH_ready (rs := [12, 13]) (by kernel_rfl) (by simp) ?_
     refine AllReadyH.cons rfl (fun KQ hKQ => ?_) ?_
     ·go_simp
      refine hKQ.out _ _ ?_ (fun hHeld => ?_)
      ·(try dsimp only); repeat (first | exact Ext.refl _ | refine Ext.alloc ?_ _ | refine Ext.drew ?_)
      clear hKQ KQ
      try simp only [Act.put, s1, s2, s3]
      refine wpAnyH_ready (rs := [13]) (by kernel_rfl) (by simp) ?_
      refine AllReadyH.cons rfl (fun KQ hKQ => ?_) AllReadyH.nil
      go_simp
      refine hKQ.out _ _ ?_ (fun hHeld => ?_)
      ·(try dsimp only); repeat (first | exact Ext.refl _ | refine Ext.alloc ?_ _ | refine Ext.drew ?_)
      clear hKQ KQ
      try simp only [Act.put, s1, s2, s3]
      refine wpAnyH_ready (rs := [14]) (by kernel_rfl) (by simp) ?_
      refine AllReadyH.cons rfl (fun KQ hKQ => ?_) AllReadyH.nil
      go_simp
      refine hKQ.out _ _ ?_ (fun hHeld => ?_)
      ·(try dsimp only); repeat (first | exact Ext.refl _ | refine Ext.alloc ?_ _ | refine Ext.drew ?_)
      clear hKQ KQ
      try simp only [Act.put, s1, s2, s3]
      refine wpAnyH_ready (rs := [15]) (by kernel_rfl) (by simp) ?_
      refine AllReadyH.cons rfl (fun KQ hKQ => ?_) AllReadyH.nil
      go_simp
      refine hKQ.out _ _ ?_ (fun hHeld => ?_)
      ·(try dsimp only); repeat (first | exact Ext.refl _ | refine Ext.alloc ?_ _ | refine Ext.drew ?_)
      clear hKQ KQ
      try simp only [Act.put, s1, s2, s3]
      refine wpAnyH_done (by kernel_rfl) ?_ _
      clear hHeld
      refine hKK _ _ (Met.intro (hJJ _ _ ?_))
      repeat apply Exists.intro
      refine ⟨?_, rfl⟩
      repeat apply Exists.intro
      refine ⟨rfl, rfl, Lib.hid ?_, Lib.hid ?_, Lib.hid ?_, Lib.hid ?_, ?_⟩
      ·apply box_atU
       apply at_drewU
       repeat (first | (refine at_newU ?_; simp; done) | apply at_oldU)
      ·apply box_atU
       apply at_drewU
       repeat (first | (refine at_newU ?_; simp; done) | apply at_oldU)
      ·apply at_drewU
       repeat (first | (refine at_newU ?_; simp; done) | apply at_oldU)
      ·apply at_drewU
       repeat (first | (refine at_newU ?_; simp; done) | apply at_oldU)
      ·repeat (first | exact Ext.refl _ | refine Ext.alloc ?_ _ | refine Ext.drew ?_)
     refine AllReadyH.cons rfl (fun KQ hKQ => ?_) AllReadyH.nil
     go_simp
     refine hKQ.out _ _ ?_ (fun hHeld => ?_)
     ·(try dsimp only); repeat (first | exact Ext.refl _ | refine Ext.alloc ?_ _ | refine Ext.drew ?_)
     clear hKQ KQ
     try simp only [Act.put, s1, s2, s3]
     refine wpAnyH_ready (rs := [12]) (by kernel_rfl) (by simp) ?_
     refine AllReadyH.cons rfl (fun KQ hKQ => ?_) AllReadyH.nil
     go_simp
     refine hKQ.out _ _ ?_ (fun hHeld => ?_)
     ·(try dsimp only); repeat (first | exact Ext.refl _ | refine Ext.alloc ?_ _ | refine Ext.drew ?_)
     clear hKQ KQ
     try simp only [Act.put, s1, s2, s3]
     refine wpAnyH_ready (rs := [14]) (by kernel_rfl) (by simp) ?_
     refine AllReadyH.cons rfl (fun KQ hKQ => ?_) AllReadyH.nil
     go_simp
     refine hKQ.out _ _ ?_ (fun hHeld => ?_)
     ·(try dsimp only); repeat (first | exact Ext.refl _ | refine Ext.alloc ?_ _ | refine Ext.drew ?_)
     clear hKQ KQ
     try simp only [Act.put, s1, s2, s3]
     refine wpAnyH_ready (rs := [15]) (by kernel_rfl) (by simp) ?_
     refine AllReadyH.cons rfl (fun KQ hKQ => ?_) AllReadyH.nil
     go_simp
     refine hKQ.out _ _ ?_ (fun hHeld => ?_)
     ·(try dsimp only); repeat (first | exact Ext.refl _ | refine Ext.alloc ?_ _ | refine Ext.drew ?_)
     clear hKQ KQ
     try simp only [Act.put, s1, s2, s3]
     refine wpAnyH_done (by kernel_rfl) ?_ _
     clear hHeld
     refine hKK _ _ (Met.intro (hJJ _ _ ?_))
     repeat apply Exists.intro
     refine ⟨?_, rfl⟩
     repeat apply Exists.intro
     refine ⟨rfl, rfl, Lib.hid ?_, Lib.hid ?_, Lib.hid ?_, Lib.hid ?_, ?_⟩
     ·apply box_atU
      apply at_drewU
      repeat (first | (refine at_newU ?_; simp; done) | apply at_oldU)
     ·apply box_atU
      apply at_drewU
      repeat (first | (refine at_newU ?_; simp; done) | apply at_oldU)
     ·apply at_drewU
      repeat (first | (refine at_newU ?_; simp; done) | apply at_oldU)
     ·apply at_drewU
      repeat (first | (refine at_newU ?_; simp; done) | apply at_oldU)
     ·repeat (first | exact Ext.refl _ | refine Ext.alloc ?_ _ | refine Ext.drew ?_)
    refine AllReadyH.cons rfl (fun KQ hKQ => ?_) ?_
    ·go_simp
     refine hKQ.out _ _ ?_ (fun hHeld => ?_)
     ·(try dsimp only); repeat (first | exact Ext.refl _ | refine Ext.alloc ?_ _ | refine Ext.drew ?_)
     clear hKQ KQ
     try simp only [Act.put, s1, s2, s3]
     refine wpAnyH_ready (rs := [10, 13]) (by kernel_rfl) (by simp) ?_
     refine AllReadyH.cons rfl (fun KQ hKQ => ?_) ?_
     ·go_simp
      refine hKQ.out _ _ ?_ (fun hHeld => ?_)
      ·(try dsimp only); repeat (first | exact Ext.refl _ | refine Ext.alloc ?_ _ | refine Ext.drew ?_)
      clear hKQ KQ
      try simp only [Act.put, s1, s2, s3]
      refine wpAnyH_take (i := 11) (oi := _) (v := ?_) rfl (by kernel_rfl) (by kernel_rfl) (by kernel_rfl) (fun _ _ _ h => h) (Or.inl ⟨by rfl, ?_⟩) (by assumption) ?_
      rotate_left
      ·(intro wS hSw; (try dsimp only at hSw); have h0 := cell_ext hSw y3; have h1 := cell_ext hSw z3; have h2 := cell_ext hSw y7; have h3 := cell_ext hSw z7; (try go_simp); (try with_reducible rfl))
      try simp only [Act.put, s1, s2, s3]
      refine wpAnyH_ready (rs := [13]) (by kernel_rfl) (by simp) ?_
      refine AllReadyH.cons rfl (fun KQ hKQ => ?_) AllReadyH.nil
      go_simp
      refine hKQ.out _ _ ?_ (fun hHeld => ?_)
      ·(try dsimp only); repeat (first | exact Ext.refl _ | refine Ext.alloc ?_ _ | refine Ext.drew ?_)
      clear hKQ KQ
      try simp only [Act.put, s1, s2, s3]
      refine wpAnyH_ready (rs := [14]) (by kernel_rfl) (by simp) ?_
      refine AllReadyH.cons rfl (fun KQ hKQ => ?_) AllReadyH.nil
      go_simp
      refine hKQ.out _ _ ?_ (fun hHeld => ?_)
      ·(try dsimp only); repeat (first | exact Ext.refl _ | refine Ext.alloc ?_ _ | refine Ext.drew ?_)
      clear hKQ KQ
      try simp only [Act.put, s1, s2, s3]
      refine wpAnyH_ready (rs := [15]) (by kernel_rfl) (by simp) ?_
      refine AllReadyH.cons rfl (fun KQ hKQ => ?_) AllReadyH.nil
      go_simp
      refine hKQ.out _ _ ?_ (fun hHeld => ?_)
      ·(try dsimp only); repeat (first | exact Ext.refl _ | refine Ext.alloc ?_ _ | refine Ext.drew ?_)
      clear hKQ KQ
      try simp only [Act.put, s1, s2, s3]
      refine wpAnyH_done (by kernel_rfl) ?_ _
      clear hHeld
      refine hKK _ _ (Met.intro (hJJ _ _ ?_))
      repeat apply Exists.intro
      refine ⟨?_, rfl⟩
      repeat apply Exists.intro
      refine ⟨rfl, rfl, Lib.hid ?_, Lib.hid ?_, Lib.hid ?_, Lib.hid ?_, ?_⟩
      ·apply box_atU
       apply at_drewU
       repeat (first | (refine at_newU ?_; simp; done) | apply at_oldU)
      ·apply box_atU
       apply at_drewU
       repeat (first | (refine at_newU ?_; simp; done) | apply at_oldU)
      ·apply at_drewU
       repeat (first | (refine at_newU ?_; simp; done) | apply at_oldU)
      ·apply at_drewU
       repeat (first | (refine at_newU ?_; simp; done) | apply at_oldU)
      ·repeat (first | exact Ext.refl _ | refine Ext.alloc ?_ _ | refine Ext.drew ?_)
     refine AllReadyH.cons rfl (fun KQ hKQ => ?_) AllReadyH.nil
     go_simp
     refine hKQ.out _ _ ?_ (fun hHeld => ?_)
     ·(try dsimp only); repeat (first | exact Ext.refl _ | refine Ext.alloc ?_ _ | refine Ext.drew ?_)
     clear hKQ KQ
     try simp only [Act.put, s1, s2, s3]
     refine wpAnyH_ready (rs := [10, 14]) (by kernel_rfl) (by simp) ?_
     refine AllReadyH.cons rfl (fun KQ hKQ => ?_) ?_
     ·go_simp
      refine hKQ.out _ _ ?_ (fun hHeld => ?_)
      ·(try dsimp only); repeat (first | exact Ext.refl _ | refine Ext.alloc ?_ _ | refine Ext.drew ?_)
      clear hKQ KQ
      try simp only [Act.put, s1, s2, s3]
      refine wpAnyH_take (i := 11) (oi := _) (v := ?_) rfl (by kernel_rfl) (by kernel_rfl) (by kernel_rfl) (fun _ _ _ h => h) (Or.inl ⟨by rfl, ?_⟩) (by assumption) ?_
      rotate_left
      ·(intro wS hSw; (try dsimp only at hSw); have h0 := cell_ext hSw y3; have h1 := cell_ext hSw z3; have h2 := cell_ext hSw y7; have h3 := cell_ext hSw z7; (try go_simp); (try with_reducible rfl))
      try simp only [Act.put, s1, s2, s3]
      refine wpAnyH_ready (rs := [14]) (by kernel_rfl) (by simp) ?_
      refine AllReadyH.cons rfl (fun KQ hKQ => ?_) AllReadyH.nil
      go_simp
      refine hKQ.out _ _ ?_ (fun hHeld => ?_)
      ·(try dsimp only); repeat (first | exact Ext.refl _ | refine Ext.alloc ?_ _ | refine Ext.drew ?_)
      clear hKQ KQ
      try simp only [Act.put, s1, s2, s3]
      refine wpAnyH_ready (rs := [15]) (by kernel_rfl) (by simp) ?_
      refine AllReadyH.cons rfl (fun KQ hKQ => ?_) AllReadyH.nil
      go_simp
      refine hKQ.out _ _ ?_ (fun hHeld => ?_)
      ·(try dsimp only); repeat (first | exact Ext.refl _ | refine Ext.alloc ?_ _ | refine Ext.drew ?_)
      clear hKQ KQ
      try simp only [Act.put, s1, s2, s3]
      refine wpAnyH_done (by kernel_rfl) ?_ _
      clear hHeld
      refine hKK _ _ (Met.intro (hJJ _ _ ?_))
      repeat apply Exists.intro
      refine ⟨?_, rfl⟩
      repeat apply Exists.intro
      refine ⟨rfl, rfl, Lib.hid ?_, Lib.hid ?_, Lib.hid ?_, Lib.hid ?_, ?_⟩
      ·apply box_atU
       apply at_drewU
       repeat (first | (refine at_newU ?_; simp; done) | apply at_oldU)
      ·apply box_atU
       apply at_drewU
       repeat (first | (refine at_newU ?_; simp; done) | apply at_oldU)
      ·apply at_drewU
       repeat (first | (refine at_newU ?_; simp; done) | apply at_oldU)
      ·apply at_drewU
       repeat (first | (refine at_newU ?_; simp; done) | apply at_oldU)
      ·repeat (first | exact Ext.refl _ | refine Ext.alloc ?_ _ | refine Ext.drew ?_)
     refine AllReadyH.cons rfl (fun KQ hKQ => ?_) AllReadyH.nil
     go_simp
     refine hKQ.out _ _ ?_ (fun hHeld => ?_)
     ·(try dsimp only); repeat (first | exact Ext.refl _ | refine Ext.alloc ?_ _ | refine Ext.drew ?_)
     clear hKQ KQ
     try simp only [Act.put, s1, s2, s3]
     refine wpAnyH_ready (rs := [10]) (by kernel_rfl) (by simp) ?_
     refine AllReadyH.cons rfl (fun KQ hKQ => ?_) AllReadyH.nil
     go_simp
     refine hKQ.out _ _ ?_ (fun hHeld => ?_)
     ·(try dsimp only); repeat (first | exact Ext.refl _ | refine Ext.alloc ?_ _ | refine Ext.drew ?_)
     clear hKQ KQ
     try simp only [Act.put, s1, s2, s3]
     refine wpAnyH_take (i := 11) (oi := _) (v := ?_) rfl (by kernel_rfl) (by kernel_rfl) (by kernel_rfl) (fun _ _ _ h => h) (Or.inl ⟨by rfl, ?_⟩) (by assumption) ?_
     rotate_left
     ·(intro wS hSw; (try dsimp only at hSw); have h0 := cell_ext hSw y3; have h1 := cell_ext hSw z3; have h2 := cell_ext hSw y7; have h3 := cell_ext hSw z7; (try go_simp); (try with_reducible rfl))
     try simp only [Act.put, s1, s2, s3]
     refine wpAnyH_ready (rs := [15]) (by kernel_rfl) (by simp) ?_
     refine AllReadyH.cons rfl (fun KQ hKQ => ?_) AllReadyH.nil
     go_simp
     refine hKQ.out _ _ ?_ (fun hHeld => ?_)
     ·(try dsimp only); repeat (first | exact Ext.refl _ | refine Ext.alloc ?_ _ | refine Ext.drew ?_)
     clear hKQ KQ
     try simp only [Act.put, s1, s2, s3]
     refine wpAnyH_done (by kernel_rfl) ?_ _
     clear hHeld
     refine hKK _ _ (Met.intro (hJJ _ _ ?_))
     repeat apply Exists.intro
     refine ⟨?_, rfl⟩
     repeat apply Exists.intro
     refine ⟨rfl, rfl, Lib.hid ?_, Lib.hid ?_, Lib.hid ?_, Lib.hid ?_, ?_⟩
     ·apply box_atU
      apply at_drewU
      repeat (first | (refine at_newU ?_; simp; done) | apply at_oldU)
     ·apply box_atU
      apply at_drewU
      repeat (first | (refine at_newU ?_; simp; done) | apply at_oldU)
     ·apply at_drewU
      repeat (first | (refine at_newU ?_; simp; done) | apply at_oldU)
     ·apply at_drewU
      repeat (first | (refine at_newU ?_; simp; done) | apply at_oldU)
     ·repeat (first | exact Ext.refl _ | refine Ext.alloc ?_ _ | refine Ext.drew ?_)
    refine AllReadyH.cons rfl (fun KQ hKQ => ?_) AllReadyH.nil
    go_simp
    refine hKQ.out _ _ ?_ (fun hHeld => ?_)
    ·(try dsimp only); repeat (first | exact Ext.refl _ | refine Ext.alloc ?_ _ | refine Ext.drew ?_)
    clear hKQ KQ
    try simp only [Act.put, s1, s2, s3]
    refine wpAnyH_ready (rs := [10, 12]) (by kernel_rfl) (by simp) ?_
    refine AllReadyH.cons rfl (fun KQ hKQ => ?_) ?_
    ·go_simp
     refine hKQ.out _ _ ?_ (fun hHeld => ?_)
     ·(try dsimp only); repeat (first | exact Ext.refl _ | refine Ext.alloc ?_ _ | refine Ext.drew ?_)
     clear hKQ KQ
     try simp only [Act.put, s1, s2, s3]
     refine wpAnyH_take (i := 11) (oi := _) (v := ?_) rfl (by kernel_rfl) (by kernel_rfl) (by kernel_rfl) (fun _ _ _ h => h) (Or.inl ⟨by rfl, ?_⟩) (by assumption) ?_
     rotate_left
     ·(intro wS hSw; (try dsimp only at hSw); have h0 := cell_ext hSw y3; have h1 := cell_ext hSw z3; have h2 := cell_ext hSw y7; have h3 := cell_ext hSw z7; (try go_simp); (try with_reducible rfl))
     try simp only [Act.put, s1, s2, s3]
     refine wpAnyH_ready (rs := [12]) (by kernel_rfl) (by simp) ?_
     refine AllReadyH.cons rfl (fun KQ hKQ => ?_) AllReadyH.nil
     go_simp
     refine hKQ.out _ _ ?_ (fun hHeld => ?_)
     ·(try dsimp only); repeat (first | exact Ext.refl _ | refine Ext.alloc ?_ _ | refine Ext.drew ?_)
     clear hKQ KQ
     try simp only [Act.put, s1, s2, s3]
     refine wpAnyH_ready (rs := [14]) (by kernel_rfl) (by simp) ?_
     refine AllReadyH.cons rfl (fun KQ hKQ => ?_) AllReadyH.nil
     go_simp
     refine hKQ.out _ _ ?_ (fun hHeld => ?_)
     ·(try dsimp only); repeat (first | exact Ext.refl _ | refine Ext.alloc ?_ _ | refine Ext.drew ?_)
     clear hKQ KQ
     try simp only [Act.put, s1, s2, s3]
     refine wpAnyH_ready (rs := [15]) (by kernel_rfl) (by simp) ?_
     refine AllReadyH.cons rfl (fun KQ hKQ => ?_) AllReadyH.nil
     go_simp
     refine hKQ.out _ _ ?_ (fun hHeld => ?_)
     ·(try dsimp only); repeat (first | exact Ext.refl _ | refine Ext.alloc ?_ _ | refine Ext.drew ?_)
     clear hKQ KQ
     try simp only [Act.put, s1, s2, s3]
     refine wpAnyH_done (by kernel_rfl) ?_ _
     clear hHeld
     refine hKK _ _ (Met.intro (hJJ _ _ ?_))
     repeat apply Exists.intro
     refine ⟨?_, rfl⟩
     repeat apply Exists.intro
     refine ⟨rfl, rfl, Lib.hid ?_, Lib.hid ?_, Lib.hid ?_, Lib.hid ?_, ?_⟩
     ·apply box_atU
      apply at_drewU
      repeat (first | (refine at_newU ?_; simp; done) | apply at_oldU)
     ·apply box_atU
      apply at_drewU
      repeat (first | (refine at_newU ?_; simp; done) | apply at_oldU)
     ·apply at_drewU
      repeat (first | (refine at_newU ?_; simp; done) | apply at_oldU)
     ·apply at_drewU
      repeat (first | (refine at_newU ?_; simp; done) | apply at_oldU)
     ·repeat (first | exact Ext.refl _ | refine Ext.alloc ?_ _ | refine Ext.drew ?_)
    refine AllReadyH.cons rfl (fun KQ hKQ => ?_) AllReadyH.nil
    go_simp
    refine hKQ.out _ _ ?_ (fun hHeld => ?_)
    ·(try dsimp only); repeat (first | exact Ext.refl _ | refine Ext.alloc ?_ _ | refine Ext.drew ?_)
    clear hKQ KQ
    try simp only [Act.put, s1, s2, s3]
    refine wpAnyH_ready (rs := [10, 14]) (by kernel_rfl) (by simp) ?_
    refine AllReadyH.cons rfl (fun KQ hKQ => ?_) ?_
    ·go_simp
     refine hKQ.out _ _ ?_ (fun hHeld => ?_)
     ·(try dsimp only); repeat (first | exact Ext.refl _ | refine Ext.alloc ?_ _ | refine Ext.drew ?_)
     clear hKQ KQ
     try simp only [Act.put, s1, s2, s3]
     refine wpAnyH_take (i := 11) (oi := _) (v := ?_) rfl (by kernel_rfl) (by kernel_rfl) (by kernel_rfl) (fun _ _ _ h => h) (Or.inl ⟨by rfl, ?_⟩) (by assumption) ?_
     rotate_left
     ·(intro wS hSw; (try dsimp only at hSw); have h0 := cell_ext hSw y3; have h1 := cell_ext hSw z3; have h2 := cell_ext hSw y7; have h3 := cell_ext hSw z7; (try go_simp); (try with_reducible rfl))
     try simp only [Act.put, s1, s2, s3]
     refine wpAnyH_ready (rs := [14]) (by kernel_rfl) (by simp) ?_
     refine AllReadyH.cons rfl (fun KQ hKQ => ?_) AllReadyH.nil
     go_simp
     refine hKQ.out _ _ ?_ (fun hHeld => ?_)
     ·(try dsimp only); repeat (first | exact Ext.refl _ | refine Ext.alloc ?_ _ | refine Ext.drew ?_)
     clear hKQ KQ
     try simp only [Act.put, s1, s2, s3]
     refine wpAnyH_ready (rs := [15]) (by kernel_rfl) (by simp) ?_
     refine AllReadyH.cons rfl (fun KQ hKQ => ?_) AllReadyH.nil
     go_simp
     refine hKQ.out _ _ ?_ (fun hHeld => ?_)
     ·(try dsimp only); repeat (first | exact Ext.refl _ | refine Ext.alloc ?_ _ | refine Ext.drew ?_)
     clear hKQ KQ
     try simp only [Act.put, s1, s2, s3]
     refine wpAnyH_done (by kernel_rfl) ?_ _
     clear hHeld
     refine hKK _ _ (Met.intro (hJJ _ _ ?_))
     repeat apply Exists.intro
     refine ⟨?_, rfl⟩
     repeat apply Exists.intro
     refine ⟨rfl, rfl, Lib.hid ?_, Lib.hid ?_, Lib.hid ?_, Lib.hid ?_, ?_⟩
     ·apply box_atU
      apply at_drewU
      repeat (first | (refine at_newU ?_; simp; done) | apply at_oldU)
     ·apply box_atU
      apply at_drewU
      repeat (first | (refine at_newU ?_; simp; done) | apply at_oldU)
     ·apply at_drewU
      repeat (first | (refine at_newU ?_; simp; done) | apply at_oldU)
     ·apply at_drewU
      repeat (first | (refine at_newU ?_; simp; done) | apply at_oldU)
     ·repeat (first | exact Ext.refl _ | refine Ext.alloc ?_ _ | refine Ext.drew ?_)
    refine AllReadyH.cons rfl (fun KQ hKQ => ?_) AllReadyH.nil
    go_simp
    refine hKQ.out _ _ ?_ (fun hHeld => ?_)
    ·(try dsimp only); repeat (first | exact Ext.refl _ | refine Ext.alloc ?_ _ | refine Ext.drew ?_)
    clear hKQ KQ
    try simp only [Act.put, s1, s2, s3]
    refine wpAnyH_ready (rs := [10]) (by kernel_rfl) (by simp) ?_
    refine AllReadyH.cons rfl (fun KQ hKQ => ?_) AllReadyH.nil
    go_simp
    refine hKQ.out _ _ ?_ (fun hHeld => ?_)
    ·(try dsimp only); repeat (first | exact Ext.refl _ | refine Ext.alloc ?_ _ | refine Ext.drew ?_)
    clear hKQ KQ
    try simp only [Act.put, s1, s2, s3]
    refine wpAnyH_take (i := 11) (oi := _) (v := ?_) rfl (by kernel_rfl) (by kernel_rfl) (by kernel_rfl) (fun _ _ _ h => h) (Or.inl ⟨by rfl, ?_⟩) (by assumption) ?_
    rotate_left
    ·(intro wS hSw; (try dsimp only at hSw); have h0 := cell_ext hSw y3; have h1 := cell_ext hSw z3; have h2 := cell_ext hSw y7; have h3 := cell_ext hSw z7; (try go_simp); (try with_reducible rfl))
    try simp only [Act.put, s1, s2, s3]
    refine wpAnyH_ready (rs := [15]) (by kernel_rfl) (by simp) ?_
    refine AllReadyH.cons rfl (fun KQ hKQ => ?_) AllReadyH.nil
    go_simp
    refine hKQ.out _ _ ?_ (fun hHeld => ?_)
    ·(try dsimp only); repeat (first | exact Ext.refl _ | refine Ext.alloc ?_ _ | refine Ext.drew ?_)
    clear hKQ KQ
    try simp only [Act.put, s1, s2, s3]
    refine wpAnyH_done (by kernel_rfl) ?_ _
    clear hHeld
    refine hKK _ _ (Met.intro (hJJ _ _ ?_))
    repeat apply Exists.intro
    refine ⟨?_, rfl⟩
    repeat apply Exists.intro
    refine ⟨rfl, rfl, Lib.hid ?_, Lib.hid ?_, Lib.hid ?_, Lib.hid ?_, ?_⟩
    ·apply box_atU
     apply at_drewU
     repeat (first | (refine at_newU ?_; simp; done) | apply at_oldU)
    ·apply box_atU
     apply at_drewU
     repeat (first | (refine at_newU ?_; simp; done) | apply at_oldU)
    ·apply at_drewU
     repeat (first | (refine at_newU ?_; simp; done) | apply at_oldU)
    ·apply at_drewU
     repeat (first | (refine at_newU ?_; simp; done) | apply at_oldU)
    ·repeat (first | exact Ext.refl _ | refine Ext.alloc ?_ _ | refine Ext.drew ?_)
   refine AllReadyH.cons rfl (fun KQ hKQ => ?_) ?_
   ·go_simp
    refine hKQ.out _ _ ?_ (fun hHeld => ?_)
    ·(try dsimp only); repeat (first | exact Ext.refl _ | refine Ext.alloc ?_ _ | refine Ext.drew ?_)
    clear hKQ KQ
    try simp only [Act.put, s1, s2, s3]
    refine wpAnyH_take (i := 11) (oi := _) (v := ?_) rfl (by kernel_rfl) (by kernel_rfl) (by kernel_rfl) (fun _ _ _ h => h) (Or.inl ⟨by rfl, ?_⟩) (by assumption) ?_
    rotate_left
    ·(intro wS hSw; (try dsimp only at hSw); have h0 := cell_ext hSw y3; have h1 := cell_ext hSw z3; have h2 := cell_ext hSw y7; have h3 := cell_ext hSw z7; (try go_simp); (try with_reducible rfl))
    try simp only [Act.put, s1, s2, s3]
    refine wpAnyH_ready (rs := [4, 12, 13]) (by kernel_rfl) (by simp) ?_
    refine AllReadyH.cons rfl (fun KQ hKQ => ?_) ?_
    ·go_simp
     refine hKQ.out _ _ ?_ (fun hHeld => ?_)
     ·(try dsimp only); repeat (first | exact Ext.refl _ | refine Ext.alloc ?_ _ | refine Ext.drew ?_)
     clear hKQ KQ
     try simp only [Act.put, s1, s2, s3]
     refine wpAnyH_take (i := 5) (oi := _) (v := ?_) rfl (by kernel_rfl) (by kernel_rfl) (by kernel_rfl) (fun _ _ _ h => h) (Or.inl ⟨by rfl, ?_⟩) (by assumption) ?_
     rotate_left
     ·(intro wS hSw; (try dsimp only at hSw); have h0 := cell_ext hSw y3; have h1 := cell_ext hSw z3; have h2 := cell_ext hSw y7; have h3 := cell_ext hSw z7; (try go_simp); (try with_reducible rfl))
     try simp only [Act.put, s1, s2, s3]
     refine wpAnyH_ready (rs := [12, 13]) (by kernel_rfl) (by simp) ?_
     refine AllReadyH.cons rfl (fun KQ hKQ => ?_) ?_
     ·go_simp
      refine hKQ.out _ _ ?_ (fun hHeld => ?_)
      ·(try dsimp only); repeat (first | exact Ext.refl _ | refine Ext.alloc ?_ _ | refine Ext.drew ?_)
      clear hKQ KQ
      try simp only [Act.put, s1, s2, s3]
      refine wpAnyH_ready (rs := [13]) (by kernel_rfl) (by simp) ?_
      refine AllReadyH.cons rfl (fun KQ hKQ => ?_) AllReadyH.nil
      go_simp
      refine hKQ.out _ _ ?_ (fun hHeld => ?_)
      ·(try dsimp only); repeat (first | exact Ext.refl _ | refine Ext.alloc ?_ _ | refine Ext.drew ?_)
      clear hKQ KQ
      try simp only [Act.put, s1, s2, s3]
      refine wpAnyH_ready (rs := [14]) (by kernel_rfl) (by simp) ?_
      refine AllReadyH.cons rfl (fun KQ hKQ => ?_) AllReadyH.nil
      go_simp
      refine hKQ.out _ _ ?_ (fun hHeld => ?_)
      ·(try dsimp only); repeat (first | exact Ext.refl _ | refine Ext.alloc ?_ _ | refine Ext.drew ?_)
      clear hKQ KQ
      try simp only [Act.put, s1, s2, s3]
      refine wpAnyH_ready (rs := [15]) (by kernel_rfl) (by simp) ?_
      refine AllReadyH.cons rfl (fun KQ hKQ => ?_) AllReadyH.nil
      go_simp
      refine hKQ.out _ _ ?_ (fun hHeld => ?_)
      ·(try dsimp only); repeat (first | exact Ext.refl _ | refine Ext.alloc ?_ _ | refine Ext.drew ?_)
      clear hKQ KQ
      try simp only [Act.put, s1, s2, s3]
      refine wpAnyH_done (by kernel_rfl) ?_ _
      clear hHeld
      refine hKK _ _ (Met.intro (hJJ _ _ ?_))
      repeat apply Exists.intro
      refine ⟨?_, rfl⟩
      repeat apply Exists.intro
      refine ⟨rfl, rfl, Lib.hid ?_, Lib.hid ?_, Lib.hid ?_, Lib.hid ?_, ?_⟩
      ·apply box_atU
       apply at_drewU
       repeat (first | (refine at_newU ?_; simp; done) | apply at_oldU)
      ·apply box_atU
       apply at_drewU
       repeat (first | (refine at_newU ?_; simp; done) | apply at_oldU)
      ·apply at_drewU
       repeat (first | (refine at_newU ?_; simp; done) | apply at_oldU)
      ·apply at_drewU
       repeat (first | (refine at_newU ?_; simp; done) | apply at_oldU)
      ·repeat (first | exact Ext.refl _ | refine Ext.alloc ?_ _ | refine Ext.drew ?_)
     refine AllReadyH.cons rfl (fun KQ hKQ => ?_) AllReadyH.nil
     go_simp
     refine hKQ.out _ _ ?_ (fun hHeld => ?_)
     ·(try dsimp only); repeat (first | exact Ext.refl _ | refine Ext.alloc ?_ _ | refine Ext.drew ?_)
     clear hKQ KQ
     try simp only [Act.put, s1, s2, s3]
     refine wpAnyH_ready (rs := [12]) (by kernel_rfl) (by simp) ?_
     refine AllReadyH.cons rfl (fun KQ hKQ => ?_) AllReadyH.nil
     go_simp
     refine hKQ.out _ _ ?_ (fun hHeld => ?_)
     ·(try dsimp only); repeat (first | exact Ext.refl _ | refine Ext.alloc ?_ _ | refine Ext.drew ?_)
     clear hKQ KQ
     try simp only [Act.put, s1, s2, s3]
     refine wpAnyH_ready (rs := [14]) (by kernel_rfl) (by simp) ?_
     refine AllReadyH.cons rfl (fun KQ hKQ => ?_) AllReadyH.nil
     go_simp
     refine hKQ.out _ _ ?_ (fun hHeld => ?_)
     ·(try dsimp only); repeat (first | exact Ext.refl _ | refine Ext.alloc ?_ _ | refine Ext.drew ?_)
     clear hKQ KQ
     try simp only [Act.put, s1, s2, s3]
     refine wpAnyH_ready (rs := [15]) (by kernel_rfl) (by simp) ?_
     refine AllReadyH.cons rfl (fun KQ hKQ => ?_) AllReadyH.nil
     go_simp
     refine hKQ.out _ _ ?_ (fun hHeld => ?_)
     ·(try dsimp only); repeat (first | exact Ext.refl _ | refine Ext.alloc ?_ _ | refine Ext.drew ?_)
     clear hKQ KQ
     try simp only [Act.put, s1, s2, s3]
     refine wpAnyH_done (by kernel_rfl) ?_ _
     clear hHeld
     refine hKK _ _ (Met.intro (hJJ _ _ ?_))
     repeat apply Exists.intro
     refine ⟨?_, rfl⟩
     repeat apply Exists.intro
     refine ⟨rfl, rfl, Lib.hid ?_, Lib.hid ?_, Lib.hid ?_, Lib.hid ?_, ?_⟩
     ·apply box_atU
      apply at_drewU
      repeat (first | (refine at_newU ?_; simp; done) | apply at_oldU)
     ·apply box_atU
      apply at_drewU
      repeat (first | (refine at_newU ?_; simp; done) | apply at_oldU)
     ·apply at_drewU
      repeat (first | (refine at_newU ?_; simp; done) | apply at_oldU)
     ·apply at_drewU
      repeat (first | (refine at_newU ?_; simp; done) | apply at_oldU)
     ·repeat (first | exact Ext.refl _ | refine Ext.alloc ?_ _ | refine Ext.drew ?_)
    refine AllReadyH.cons rfl (fun KQ hKQ => ?_) ?_
    ·go_simp
     refine hKQ.out _ _ ?_ (fun hHeld => ?_)
     ·(try dsimp only); repeat (first | exact Ext.refl _ | refine Ext.alloc ?_ _ | refine Ext.drew ?_)
     clear hKQ KQ
     try simp only [Act.put, s1, s2, s3]
     refine wpAnyH_ready (rs := [4, 13]) (by kernel_rfl) (by simp) ?_
     refine AllReadyH.cons rfl (fun KQ hKQ => ?_) ?_
     ·go_simp
      refine hKQ.out _ _ ?_ (fun hHeld => ?_)
      ·(try dsimp only); repeat (first | exact Ext.refl _ | refine Ext.alloc ?_ _ | refine Ext.drew ?_)
      clear hKQ KQ
      try simp only [Act.put, s1, s2, s3]
      refine wpAnyH_take (i := 5) (oi := _) (v := ?_) rfl (by kernel_rfl) (by kernel_rfl) (by kernel_rfl) (fun _ _ _ h => h) (Or.inl ⟨by rfl, ?_⟩) (by assumption) ?_
      rotate_left
      ·(intro wS hSw; (try dsimp only at hSw); have h0 := cell_ext hSw y3; have h1 := cell_ext hSw z3; have h2 := cell_ext hSw y7; have h3 := cell_ext hSw z7; (try go_simp); (try with_reducible rfl))
      try simp only [Act.put, s1, s2, s3]
      refine wpAnyH_ready (rs := [13]) (by kernel_rfl) (by simp) ?_
      refine AllReadyH.cons rfl (fun KQ hKQ => ?_) AllReadyH.nil
      go_simp
      refine hKQ.out _ _ ?_ (fun hHeld => ?_)
      ·(try dsimp only); repeat (first | exact Ext.refl _ | refine Ext.alloc ?_ _ | refine Ext.drew ?_)
      clear hKQ KQ
      try simp only [Act.put, s1, s2, s3]
      refine wpAnyH_ready (rs := [14]) (by kernel_rfl) (by simp) ?_
      refine AllReadyH.cons rfl (fun KQ hKQ => ?_) AllReadyH.nil
      go_simp
      refine hKQ.out _ _ ?_ (fun hHeld => ?_)
      ·(try dsimp only); repeat (first | exact Ext.refl _ | refine Ext.alloc ?_ _ | refine Ext.drew ?_)
      clear hKQ KQ
      try simp only [Act.put, s1, s2, s3]
      refine wpAnyH_ready (rs := [15]) (by kernel_rfl) (by simp) ?_
      refine AllReadyH.cons rfl (fun KQ hKQ => ?_) AllReadyH.nil
      go_simp
      refine hKQ.out _ _ ?_ (fun hHeld => ?_)
      ·(try dsimp only); repeat (first | exact Ext.refl _ | refine Ext.alloc ?_ _ | refine Ext.drew ?_)
      clear hKQ KQ
      try simp only [Act.put, s1, s2, s3]
      refine wpAnyH_done (by kernel_rfl) ?_ _
      clear hHeld
      refine hKK _ _ (Met.intro (hJJ _ _ ?_))
      repeat apply Exists.intro
      refine ⟨?_, rfl⟩
      repeat apply Exists.intro
      refine ⟨rfl, rfl, Lib.hid ?_, Lib.hid ?_, Lib.hid ?_, Lib.hid ?_, ?_⟩
      ·apply box_atU
       apply at_drewU
       repeat (first | (refine at_newU ?_; simp; done) | apply at_oldU)
      ·apply box_atU
       apply at_drewU
       repeat (first | (refine at_newU ?_; simp; done) | apply at_oldU)
      ·apply at_drewU
       repeat (first | (refine at_newU ?_; simp; done) | apply at_oldU)
      ·apply at_drewU
       repeat (first | (refine at_newU ?_; simp; done) | apply at_oldU)
      ·repeat (first | exact Ext.refl _ | refine Ext.alloc ?_ _ | refine Ext.drew ?_)
     refine AllReadyH.cons rfl (fun KQ hKQ => ?_) AllReadyH.nil
     go_simp
     refine hKQ.out _ _ ?_ (fun hHeld => ?_)
     ·(try dsimp only); repeat (first | exact Ext.refl _ | refine Ext.alloc ?_ _ | refine Ext.drew ?_)
     clear hKQ KQ
     try simp only [Act.put, s1, s2, s3]
     refine wpAnyH_ready (rs := [4]) (by kernel_rfl) (by simp) ?_
     refine AllReadyH.cons rfl (fun KQ hKQ => ?_) AllReadyH.nil
     go_simp
     refine hKQ.out _ _ ?_ (fun hHeld => ?_)
     ·(try dsimp only); repeat (first | exact Ext.refl _ | refine Ext.alloc ?_ _ | refine Ext.drew ?_)
     clear hKQ KQ
     try simp only [Act.put, s1, s2, s3]
     refine wpAnyH_take (i := 5) (oi := _) (v := ?_) rfl (by kernel_rfl) (by kernel_rfl) (by kernel_rfl) (fun _ _ _ h => h) (Or.inl ⟨by rfl, ?_⟩) (by assumption) ?_
     rotate_left
     ·(intro wS hSw; (try dsimp only at hSw); have h0 := cell_ext hSw y3; have h1 := cell_ext hSw z3; have h2 := cell_ext hSw y7; have h3 := cell_ext hSw z7; (try go_simp); (try with_reducible rfl))
     try simp only [Act.put, s1, s2, s3]
     refine wpAnyH_ready (rs := [14]) (by kernel_rfl) (by simp) ?_
     refine AllReadyH.cons rfl (fun KQ hKQ => ?_) AllReadyH.nil
     go_simp
     refine hKQ.out _ _ ?_ (fun hHeld => ?_)
     ·(try dsimp only); repeat (first | exact Ext.refl _ | refine Ext.alloc ?_ _ | refine Ext.drew ?_)
     clear hKQ KQ
     try simp only [Act.put, s1, s2, s3]
     refine wpAnyH_ready (rs := [15]) (by kernel_rfl) (by simp) ?_
     refine AllReadyH.cons rfl (fun KQ hKQ => ?_) AllReadyH.nil
     go_simp
     refine hKQ.out _ _ ?_ (fun hHeld => ?_)
     ·(try dsimp only); repeat (first | exact Ext.refl _ | refine Ext.alloc ?_ _ | refine Ext.drew ?_)
     clear hKQ KQ
     try simp only [Act.put, s1, s2, s3]
     refine wpAnyH_done (by kernel_rfl) ?_ _
     clear hHeld
     refine hKK _ _ (Met.intro (hJJ _ _ ?_))
     repeat apply Exists.intro
     refine ⟨?_, rfl⟩
     repeat apply Exists.intro
     refine ⟨rfl, rfl, Lib.hid ?_, Lib.hid ?_, Lib.hid ?_, Lib.hid ?_, ?_⟩
     ·apply box_atU
      apply at_drewU
      repeat (first | (refine at_newU ?_; simp; done) | apply at_oldU)
     ·apply box_atU
      apply at_drewU
      repeat (first | (refine at_newU ?_; simp; done) | apply at_oldU)
     ·apply at_drewU
      repeat (first | (refine at_newU ?_; simp; done) | apply at_oldU)
     ·apply at_drewU
      repeat (first | (refine at_newU ?_; simp; done) | apply at_oldU)
     ·repeat (first | exact Ext.refl _ | refine Ext.alloc ?_ _ | refine Ext.drew ?_)
    refine AllReadyH.cons rfl (fun KQ hKQ => ?_) AllReadyH.nil
    go_simp
    refine hKQ.out _ _ ?_ (fun hHeld => ?_)
    ·(try dsimp only); repeat (first | exact Ext.refl _ | refine Ext.alloc ?_ _ | refine Ext.drew ?_)
    clear hKQ KQ
    try simp only [Act.put, s1, s2, s3]
    refine wpAnyH_ready (rs := [4, 12]) (by kernel_rfl) (by simp) ?_
    refine AllReadyH.cons rfl (fun KQ hKQ => ?_) ?_
    ·go_simp
     refine hKQ.out _ _ ?_ (fun hHeld => ?_)
     ·(try dsimp only); repeat (first | exact Ext.refl _ | refine Ext.alloc ?_ _ | refine Ext.drew ?_)
     clear hKQ KQ
     try simp only [Act.put, s1, s2, s3]
     refine wpAnyH_take (i := 5) (oi := _) (v := ?_) rfl (by kernel_rfl) (by kernel_rfl) (by kernel_rfl) (fun _ _ _ h => h) (Or.inl ⟨by rfl, ?_⟩) (by assumption) ?_
     rotate_left
     ·(intro wS hSw; (try dsimp only at hSw); have h0 := cell_ext hSw y3; have h1 := cell_ext hSw z3; have h2 := cell_ext hSw y7; have h3 := cell_ext hSw z7; (try go_simp); (try with_reducible rfl))
     try simp only [Act.put, s1, s2, s3]
     refine wpAnyH_ready (rs := [12]) (by kernel_rfl) (by simp) ?_
     refine AllReadyH.cons rfl (fun KQ hKQ => ?_) AllReadyH.nil
     go_simp
     refine hKQ.out _ _ ?_ (fun hHeld => ?_)
     ·(try dsimp only); repeat (first | exact Ext.refl _ | refine Ext.alloc ?_ _ | refine Ext.drew ?_)
     clear hKQ KQ
     try simp only [Act.put, s1, s2, s3]
     refine wpAnyH_ready (rs := [14]) (by kernel_rfl) (by simp) ?_
     refine AllReadyH.cons rfl (fun KQ hKQ => ?_) AllReadyH.nil
     go_simp
     refine hKQ.out _ _ ?_ (fun hHeld => ?_)
     ·(try dsimp only); repeat (first | exact Ext.refl _ | refine Ext.alloc ?_ _ | refine Ext.drew ?_)
     clear hKQ KQ
     try simp only [Act.put, s1, s2, s3]
     refine wpAnyH_ready (rs := [15]) (by kernel_rfl) (by simp) ?_
     refine AllReadyH.cons rfl (fun KQ hKQ => ?_) AllReadyH.nil
     go_simp
     refine hKQ.out _ _ ?_ (fun hHeld => ?_)
     ·(try dsimp only); repeat (first | exact Ext.refl _ | refine Ext.alloc ?_ _ | refine Ext.drew ?_)
     clear hKQ KQ
     try simp only [Act.put, s1, s2, s3]
     refine wpAnyH_done (by kernel_rfl) ?_ _
     clear hHeld
     refine hKK _ _ (Met.intro (hJJ _ _ ?_))
     repeat apply Exists.intro
     refine ⟨?_, rfl⟩
     repeat apply Exists.intro
     refine ⟨rfl, rfl, Lib.hid ?_, Lib.hid ?_, Lib.hid ?_, Lib.hid ?_, ?_⟩
     ·apply box_atU
      apply at_drewU
      repeat (first | (refine at_newU ?_; simp; done) | apply at_oldU)
     ·apply box_atU
      apply at_drewU
      repeat (first | (refine at_newU ?_; simp; done) | apply at_oldU)
     ·apply at_drewU
      repeat (first | (refine at_newU ?_; simp; done) | apply at_oldU)
     ·apply at_drewU
      repeat (first | (refine at_newU ?_; simp; done) | apply at_oldU)
     ·repeat (first | exact Ext.refl _ | refine Ext.alloc ?_ _ | refine Ext.drew ?_)
    refine AllReadyH.cons rfl (fun KQ hKQ => ?_) AllReadyH.nil
    go_simp
    refine hKQ.out _ _ ?_ (fun hHeld => ?_)
    ·(try dsimp only); repeat (first | exact Ext.refl _ | refine Ext.alloc ?_ _ | refine Ext.drew ?_)
    clear hKQ KQ
    try simp only [Act.put, s1, s2, s3]
    refine wpAnyH_ready (rs := [4]) (by kernel_rfl) (by simp) ?_
    refine AllReadyH.cons rfl (fun KQ hKQ => ?_) AllReadyH.nil
    go_simp
    refine hKQ.out _ _ ?_ (fun hHeld => ?_)
    ·(try dsimp only); repeat (first | exact Ext.refl _ | refine Ext.alloc ?_ _ | refine Ext.drew ?_)
    clear hKQ KQ
    try simp only [Act.put, s1, s2, s3]
    refine wpAnyH_take (i := 5) (oi := _) (v := ?_) rfl (by kernel_rfl) (by kernel_rfl) (by kernel_rfl) (fun _ _ _ h => h) (Or.inl ⟨by rfl, ?_⟩) (by assumption) ?_
    rotate_left
    ·(intro wS hSw; (try dsimp only at hSw); have h0 := cell_ext hSw y3; have h1 := cell_ext hSw z3; have h2 := cell_ext hSw y7; have h3 := cell_ext hSw z7; (try go_simp); (try with_reducible rfl))
    try simp only [Act.put, s1, s2, s3]
    refine wpAnyH_ready (rs := [14]) (by kernel_rfl) (by simp) ?_
    refine AllReadyH.cons rfl (fun KQ hKQ => ?_) AllReadyH.nil
    go_simp
    refine hKQ.out _ _ ?_ (fun hHeld => ?_)
    ·(try dsimp only); repeat (first | exact Ext.refl _ | refine Ext.alloc ?_ _ | refine Ext.drew ?_)
    clear hKQ KQ
    try simp only [Act.put, s1, s2, s3]
    refine wpAnyH_ready (rs := [15]) (by kernel_rfl) (by simp) ?_
    refine AllReadyH.cons rfl (fun KQ hKQ => ?_) AllReadyH.nil
    go_simp
    refine hKQ.out _ _ ?_ (fun hHeld => ?_)
    ·(try dsimp only); repeat (first | exact Ext.refl _ | refine Ext.alloc ?_ _ | refine Ext.drew ?_)
    clear hKQ KQ
    try simp only [Act.put, s1, s2, s3]
    refine wpAnyH_done (by kernel_rfl) ?_ _
    clear hHeld
    refine hKK _ _ (Met.intro (hJJ _ _ ?_))
    repeat apply Exists.intro
    refine ⟨?_, rfl⟩
    repeat apply Exists.intro
    refine ⟨rfl, rfl, Lib.hid ?_, Lib.hid ?_, Lib.hid ?_, Lib.hid ?_, ?_⟩
    ·apply box_atU
     apply at_drewU
     repeat (first | (refine at_newU ?_; simp; done) | apply at_oldU)
    ·apply box_atU
     apply at_drewU
     repeat (first | (refine at_newU ?_; simp; done) | apply at_oldU)
    ·apply at_drewU
     repeat (first | (refine at_newU ?_; simp; done) | apply at_oldU)
    ·apply at_drewU
     repeat (first | (refine at_newU ?_; simp; done) | apply at_oldU)
    ·repeat (first | exact Ext.refl _ | refine Ext.alloc ?_ _ | refine Ext.drew ?_)
   refine AllReadyH.cons rfl (fun KQ hKQ => ?_) ?_
   ·go_simp
    refine hKQ.out _ _ ?_ (fun hHeld => ?_)
    ·(try dsimp only); repeat (first | exact Ext.refl _ | refine Ext.alloc ?_ _ | refine Ext.drew ?_)
    clear hKQ KQ
    try simp only [Act.put, s1, s2, s3]
    refine wpAnyH_ready (rs := [4, 10, 13]) (by kernel_rfl) (by simp) ?_
    refine AllReadyH.cons rfl (fun KQ hKQ => ?_) ?_
    ·go_simp
     refine hKQ.out _ _ ?_ (fun hHeld => ?_)
     ·(try dsimp only); repeat (first | exact Ext.refl _ | refine Ext.alloc ?_ _ | refine Ext.drew ?_)
     clear hKQ KQ
     try simp only [Act.put, s1, s2, s3]
     refine wpAnyH_take (i := 5) (oi := _) (v := ?_) rfl (by kernel_rfl) (by kernel_rfl) (by kernel_rfl) (fun _ _ _ h => h) (Or.inl ⟨by rfl, ?_⟩) (by assumption) ?_
     rotate_left
     ·(intro wS hSw; (try dsimp only at hSw); have h0 := cell_ext hSw y3; have h1 := cell_ext hSw z3; have h2 := cell_ext hSw y7; have h3 := cell_ext hSw z7; (try go_simp); (try with_reducible rfl))
     try simp only [Act.put, s1, s2, s3]
     refine wpAnyH_ready (rs := [10, 13]) (by kernel_rfl) (by simp) ?_
     refine AllReadyH.cons rfl (fun KQ hKQ => ?_) ?_
     ·go_simp
      refine hKQ.out _ _ ?_ (fun hHeld => ?_)
      ·(try dsimp only); repeat (first | exact Ext.refl _ | refine Ext.alloc ?_ _ | refine Ext.drew ?_)
      clear hKQ KQ
      try simp only [Act.put, s1, s2, s3]
      refine wpAnyH_take (i := 11) (oi := _) (v := ?_) rfl (by kernel_rfl) (by kernel_rfl) (by kernel_rfl) (fun _ _ _ h => h) (Or.inl ⟨by rfl, ?_⟩) (by assumption) ?_
      rotate_left
      ·(intro wS hSw; (try dsimp only at hSw); have h0 := cell_ext hSw y3; have h1 := cell_ext hSw z3; have h2 := cell_ext hSw y7; have h3 := cell_ext hSw z7; (try go_simp); (try with_reducible rfl))
      try simp only [Act.put, s1, s2, s3]
      refine wpAnyH_ready (rs := [13]) (by kernel_rfl) (by simp) ?_
      refine AllReadyH.cons rfl (fun KQ hKQ => ?_) AllReadyH.nil
      go_simp
      refine hKQ.out _ _ ?_ (fun hHeld => ?_)
      ·(try dsimp only); repeat (first | exact Ext.refl _ | refine Ext.alloc ?_ _ | refine Ext.drew ?_)
      clear hKQ KQ
      try simp only [Act.put, s1, s2, s3]
      refine wpAnyH_ready (rs := [14]) (by kernel_rfl) (by simp) ?_
      refine AllReadyH.cons rfl (fun KQ hKQ => ?_) AllReadyH.nil
      go_simp
      refine hKQ.out _ _ ?_ (fun hHeld => ?_)
      ·(try dsimp only); repeat (first | exact Ext.refl _ | refine Ext.alloc ?_ _ | refine Ext.drew ?_)
      clear hKQ KQ
      try simp only [Act.put, s1, s2, s3]
      refine wpAnyH_ready (rs := [15]) (by kernel_rfl) (by simp) ?_
      refine AllReadyH.cons rfl (fun KQ hKQ => ?_) AllReadyH.nil
      go_simp
      refine hKQ.out _ _ ?_ (fun hHeld => ?_)
      ·(try dsimp only); repeat (first | exact Ext.refl _ | refine Ext.alloc ?_ _ | refine Ext.drew ?_)
      clear hKQ KQ
      try simp only [Act.put, s1, s2, s3]
      refine wpAnyH_done (by kernel_rfl) ?_ _
      clear hHeld
      refine hKK _ _ (Met.intro (hJJ _ _ ?_))
      repeat apply Exists.intro
      refine ⟨?_, rfl⟩
      repeat apply Exists.intro
      refine ⟨rfl, rfl, Lib.hid ?_, Lib.hid ?_, Lib.hid ?_, Lib.hid ?_, ?_⟩
      ·apply box_atU
       apply at_drewU
       repeat (first | (refine at_newU ?_; simp; done) | apply at_oldU)
      ·apply box_atU
       apply at_drewU
       repeat (first | (refine at_newU ?_; simp; done) | apply at_oldU)
      ·apply at_drewU
       repeat (first | (refine at_newU ?_; simp; done) | apply at_oldU)
      ·apply at_drewU
       repeat (first | (refine at_newU ?_; simp; done) | apply at_oldU)
      ·repeat (first | exact Ext.refl _ | refine Ext.alloc ?_ _ | refine Ext.drew ?_)
     refine AllReadyH.cons rfl (fun KQ hKQ => ?_) AllReadyH.nil
     go_simp
     refine hKQ.out _ _ ?_ (fun hHeld => ?_)
     ·(try dsimp only); repeat (first | exact Ext.refl _ | refine Ext.alloc ?_ _ | refine Ext.drew ?_)
     clear hKQ KQ
     try simp only [Act.put, s1, s2, s3]
     refine wpAnyH_ready (rs := [10, 14]) (by kernel_rfl) (by simp) ?_
     refine AllReadyH.cons rfl (fun KQ hKQ => ?_) ?_
     ·go_simp
      refine hKQ.out _ _ ?_ (fun hHeld => ?_)
      ·(try dsimp only); repeat (first | exact Ext.refl _ | refine Ext.alloc ?_ _ | refine Ext.drew ?_)
      clear hKQ KQ
      try simp only [Act.put, s1, s2, s3]
      refine wpAnyH_take (i := 11) (oi := _) (v := ?_) rfl (by kernel_rfl) (by kernel_rfl) (by kernel_rfl) (fun _ _ _ h => h) (Or.inl ⟨by rfl, ?_⟩) (by assumption) ?_
      rotate_left
      ·(intro wS hSw; (try dsimp only at hSw); have h0 := cell_ext hSw y3; have h1 := cell_ext hSw z3; have h2 := cell_ext hSw y7; have h3 := cell_ext hSw z7; (try go_simp); (try with_reducible rfl))
      try simp only [Act.put, s1, s2, s3]
      refine wpAnyH_ready (rs := [14]) (by kernel_rfl) (by simp) ?_
      refine AllReadyH.cons rfl (fun KQ hKQ => ?_) AllReadyH.nil
      go_simp
      refine hKQ.out _ _ ?_ (fun hHeld => ?_)
      ·(try dsimp only); repeat (first | exact Ext.refl _ | refine Ext.alloc ?_ _ | refine Ext.drew ?_)
      clear hKQ KQ
      try simp only [Act.put, s1, s2, s3]
      refine wpAnyH_ready (rs := [15]) (by kernel_rfl) (by simp) ?_
      refine AllReadyH.cons rfl (fun KQ hKQ => ?_) AllReadyH.nil
      go_simp
      refine hKQ.out _ _ ?_ (fun hHeld => ?_)
      ·(try dsimp only); repeat (first | exact Ext.refl _ | refine Ext.alloc ?_ _ | refine Ext.drew ?_)
      clear hKQ KQ
      try simp only [Act.put, s1, s2, s3]
      refine wpAnyH_done (by kernel_rfl) ?_ _
      clear hHeld
      refine hKK _ _ (Met.intro (hJJ _ _ ?_))
      repeat apply Exists.intro
      refine ⟨?_, rfl⟩
      repeat apply Exists.intro
      refine ⟨rfl, rfl, Lib.hid ?_, Lib.hid ?_, Lib.hid ?_, Lib.hid ?_, ?_⟩
      ·apply box_atU
       apply at_drewU
       repeat (first | (refine at_newU ?_; simp; done) | apply at_oldU)
      ·apply box_atU
       apply at_drewU
       repeat (first | (refine at_newU ?_; simp; done) | apply at_oldU)
      ·apply at_drewU
       repeat (first | (refine at_newU ?_; simp; done) | apply at_oldU)
      ·apply at_drewU
       repeat (first | (refine at_newU ?_; simp; done) | apply at_oldU)
      ·repeat (first | exact Ext.refl _ | refine Ext.alloc ?_ _ | refine Ext.drew ?_)
     refine AllReadyH.cons rfl (fun KQ hKQ => ?_) AllReadyH.nil
     go_simp
     refine hKQ.out _ _ ?_ (fun hHeld => ?_)
     ·(try dsimp only); repeat (first | exact Ext.refl _ | refine Ext.alloc ?_ _ | refine Ext.drew ?_)
     clear hKQ KQ
     try simp only [Act.put, s1, s2, s3]
     refine wpAnyH_ready (rs := [10]) (by kernel_rfl) (by simp) ?_
     refine AllReadyH.cons rfl (fun KQ hKQ => ?_) AllReadyH.nil
     go_simp
     refine hKQ.out _ _ ?_ (fun hHeld => ?_)
     ·(try dsimp only); repeat (first | exact Ext.refl _ | refine Ext.alloc ?_ _ | refine Ext.drew ?_)
     clear hKQ KQ
     try simp only [Act.put, s1, s2, s3]
     refine wpAnyH_take (i := 11) (oi := _) (v := ?_) rfl (by kernel_rfl) (by kernel_rfl) (by kernel_rfl) (fun _ _ _ h => h) (Or.inl ⟨by rfl, ?_⟩) (by assumption) ?_
     rotate_left
     ·(intro wS hSw; (try dsimp only at hSw); have h0 := cell_ext hSw y3; have h1 := cell_ext hSw z3; have h2 := cell_ext hSw y7; have h3 := cell_ext hSw z7; (try go_simp); (try with_reducible rfl))
     try simp only [Act.put, s1, s2, s3]
     refine wpAnyH_ready (rs := [15]) (by kernel_rfl) (by simp) ?_
     refine AllReadyH.cons rfl (fun KQ hKQ => ?_) AllReadyH.nil
     go_simp
     refine hKQ.out _ _ ?_ (fun hHeld => ?_)
     ·(try dsimp only); repeat (first | exact Ext.refl _ | refine Ext.alloc ?_ _ | refine Ext.drew ?_)
     clear hKQ KQ
     try simp only [Act.put, s1, s2, s3]
     refine wpAnyH_done (by kernel_rfl) ?_ _
     clear hHeld
     refine hKK _ _ (Met.intro (hJJ _ _ ?_))
     repeat apply Exists.intro
     refine ⟨?_, rfl⟩
     repeat apply Exists.intro
     refine ⟨rfl, rfl, Lib.hid ?_, Lib.hid ?_, Lib.hid ?_, Lib.hid ?_, ?_⟩
     ·apply box_atU
      apply at_drewU
      repeat (first | (refine at_newU ?_; simp; done) | apply at_oldU)
     ·apply box_atU
      apply at_drewU
      repeat (first | (refine at_newU ?_; simp; done) | apply at_oldU)
     ·apply at_drewU
      repeat (first | (refine at_newU ?_; simp; done) | apply at_oldU)
     ·apply at_drewU
      repeat (first | (refine at_newU ?_; simp; done) | apply at_oldU)
     ·repeat (first | exact Ext.refl _ | refine Ext.alloc ?_ _ | refine Ext.drew ?_)
    refine AllReadyH.cons rfl (fun KQ hKQ => ?_) ?_
    ·go_simp
     refine hKQ.out _ _ ?_ (fun hHeld => ?_)
     ·(try dsimp only); repeat (first | exact Ext.refl _ | refine Ext.alloc ?_ _ | refine Ext.drew ?_)
     clear hKQ KQ
     try simp only [Act.put, s1, s2, s3]
     refine wpAnyH_take (i := 11) (oi := _) (v := ?_) rfl (by kernel_rfl) (by kernel_rfl) (by kernel_rfl) (fun _ _ _ h => h) (Or.inl ⟨by rfl, ?_⟩) (by assumption) ?_
     rotate_left
     ·(intro wS hSw; (try dsimp only at hSw); have h0 := cell_ext hSw y3; have h1 := cell_ext hSw z3; have h2 := cell_ext hSw y7; have h3 := cell_ext hSw z7; (try go_simp); (try with_reducible rfl))
     try simp only [Act.put, s1, s2, s3]
     refine wpAnyH_ready (rs := [4, 13]) (by kernel_rfl) (by simp) ?_
     refine AllReadyH.cons rfl (fun KQ hKQ => ?_) ?_
     ·go_simp
      refine hKQ.out _ _ ?_ (fun hHeld => ?_)
      ·(try dsimp only); repeat (first | exact Ext.refl _ | refine Ext.alloc ?_ _ | refine Ext.drew ?_)
      clear hKQ KQ
      try simp only [Act.put, s1, s2, s3]
      refine wpAnyH_take (i := 5) (oi := _) (v := ?_) rfl (by kernel_rfl) (by kernel_rfl) (by kernel_rfl) (fun _ _ _ h => h) (Or.inl ⟨by rfl, ?_⟩) (by assumption) ?_
      rotate_left
      ·(intro wS hSw; (try dsimp only at hSw); have h0 := cell_ext hSw y3; have h1 := cell_ext hSw z3; have h2 := cell_ext hSw y7; have h3 := cell_ext hSw z7; (try go_simp); (try with_reducible rfl))
      try simp only [Act.put, s1, s2, s3]
      refine wpAnyH_ready (rs := [13]) (by kernel_rfl) (by simp) ?_
      refine AllReadyH.cons rfl (fun KQ hKQ => ?_) AllReadyH.nil
      go_simp
      refine hKQ.out _ _ ?_ (fun hHeld => ?_)
      ·(try dsimp only); repeat (first | exact Ext.refl _ | refine Ext.alloc ?_ _ | refine Ext.drew ?_)
      clear hKQ KQ
      try simp only [Act.put, s1, s2, s3]
      refine wpAnyH_ready (rs := [14]) (by kernel_rfl) (by simp) ?_
      refine AllReadyH.cons rfl (fun KQ hKQ => ?_) AllReadyH.nil
      go_simp
      refine hKQ.out _ _ ?_ (fun hHeld => ?_)
      ·(try dsimp only); repeat (first | exact Ext.refl _ | refine Ext.alloc ?_ _ | refine Ext.drew ?_)
      clear hKQ KQ
      try simp only [Act.put, s1, s2, s3]
      refine wpAnyH_ready (rs := [15]) (by kernel_rfl) (by simp) ?_
      refine AllReadyH.cons rfl (fun KQ hKQ => ?_) AllReadyH.nil
      go_simp
      refine hKQ.out _ _ ?_ (fun hHeld => ?_)
      ·(try dsimp only); repeat (first | exact Ext.refl _ | refine Ext.alloc ?_ _ | refine Ext.drew ?_)
      clear hKQ KQ
      try simp only [Act.put, s1, s2, s3]
      refine wpAnyH_done (by kernel_rfl) ?_ _
      clear hHeld
      refine hKK _ _ (Met.intro (hJJ _ _ ?_))
      repeat apply Exists.intro
      refine ⟨?_, rfl⟩
      repeat apply Exists.intro
      refine ⟨rfl, rfl, Lib.hid ?_, Lib.hid ?_, Lib.hid ?_, Lib.hid ?_, ?_⟩
      ·apply box_atU
       apply at_drewU
       repeat (first | (refine at_newU ?_; simp; done) | apply at_oldU)
      ·apply box_atU
       apply at_drewU
       repeat (first | (refine at_newU ?_; simp; done) | apply at_oldU)
      ·apply at_drewU
       repeat (first | (refine at_newU ?_; simp; done) | apply at_oldU)
      ·apply at_drewU
       repeat (first | (refine at_newU ?_; simp; done) | apply at_oldU)
      ·repeat (first | exact Ext.refl _ | refine Ext.alloc ?_ _ | refine Ext.drew ?_)
     refine AllReadyH.cons rfl (fun KQ hKQ => ?_) AllReadyH.nil
     go_simp
     refine hKQ.out _ _ ?_ (fun hHeld => ?_)
     ·(try dsimp only); repeat (first | exact Ext.refl _ | refine Ext.alloc ?_ _ | refine Ext.drew ?_)
     clear hKQ KQ
     try simp only [Act.put, s1, s2, s3]
     refine wpAnyH_ready (rs := [4]) (by kernel_rfl) (by simp) ?_
     refine AllReadyH.cons rfl (fun KQ hKQ => ?_) AllReadyH.nil
     go_simp
     refine hKQ.out _ _ ?_ (fun hHeld => ?_)
     ·(try dsimp only); repeat (first | exact Ext.refl _ | refine Ext.alloc ?_ _ | refine Ext.drew ?_)
     clear hKQ KQ
     try simp only [Act.put, s1, s2, s3]
     refine wpAnyH_take (i := 5) (oi := _) (v := ?_) rfl (by kernel_rfl) (by kernel_rfl) (by kernel_rfl) (fun _ _ _ h => h) (Or.inl ⟨by rfl, ?_⟩) (by assumption) ?_
     rotate_left
     ·(intro wS hSw; (try dsimp only at hSw); have h0 := cell_ext hSw y3; have h1 := cell_ext hSw z3; have h2 := cell_ext hSw y7; have h3 := cell_ext hSw z7; (try go_simp); (try with_reducible rfl))
     try simp only [Act.put, s1, s2, s3]
     refine wpAnyH_ready (rs := [14]) (by kernel_rfl) (by simp) ?_
     refine AllReadyH.cons rfl (fun KQ hKQ => ?_) AllReadyH.nil
     go_simp
     refine hKQ.out _ _ ?_ (fun hHeld => ?_)
     ·(try dsimp only); repeat (first | exact Ext.refl _ | refine Ext.alloc ?_ _ | refine Ext.drew ?_)
     clear hKQ KQ
     try simp only [Act.put, s1, s2, s3]
     refine wpAnyH_ready (rs := [15]) (by kernel_rfl) (by simp) ?_
     refine AllReadyH.cons rfl (fun KQ hKQ => ?_) AllReadyH.nil
     go_simp
     refine hKQ.out _ _ ?_ (fun hHeld => ?_)
     ·(try dsimp only); repeat (first | exact Ext.refl _ | refine Ext.alloc ?_ _ | refine Ext.drew ?_)
     clear hKQ KQ
     try simp only [Act.put, s1, s2, s3]
     refine wpAnyH_done (by kernel_rfl) ?_ _
     clear hHeld
     refine hKK _ _ (Met.intro (hJJ _ _ ?_))
     repeat apply Exists.intro
     refine ⟨?_, rfl⟩
     repeat apply Exists.intro
     refine ⟨rfl, rfl, Lib.hid ?_, Lib.hid ?_, Lib.hid ?_, Lib.hid ?_, ?_⟩
     ·apply box_atU
      apply at_drewU
      repeat (first | (refine at_newU ?_; simp; done) | apply at_oldU)
     ·apply box_atU
      apply at_drewU
      repeat (first | (refine at_newU ?_; simp; done) | apply at_oldU)
     ·apply at_drewU
      repeat (first | (refine at_newU ?_; simp; done) | apply at_oldU)
     ·apply at_drewU
      repeat (first | (refine at_newU ?_; simp; done) | apply at_oldU)
     ·repeat (first | exact Ext.refl _ | refine Ext.alloc ?_ _ | refine Ext.drew ?_)
    refine AllReadyH.cons rfl (fun KQ hKQ => ?_) AllReadyH.nil
    go_simp
    refine hKQ.out _ _ ?_ (fun hHeld => ?_)
    ·(try dsimp only); repeat (first | exact Ext.refl _ | refine Ext.alloc ?_ _ | refine Ext.drew ?_)
    clear hKQ KQ
    try simp only [Act.put, s1, s2, s3]
    refine wpAnyH_ready (rs := [4, 10]) (by kernel_rfl) (by simp) ?_
    refine AllReadyH.cons rfl (fun KQ hKQ => ?_) ?_
    ·go_simp
     refine hKQ.out _ _ ?_ (fun hHeld => ?_)
     ·(try dsimp only); repeat (first | exact Ext.refl _ | refine Ext.alloc ?_ _ | refine Ext.drew ?_)
     clear hKQ KQ
     try simp only [Act.put, s1, s2, s3]
     refine wpAnyH_take (i := 5) (oi := _) (v := ?_) rfl (by kernel_rfl) (by kernel_rfl) (by kernel_rfl) (fun _ _ _ h => h) (Or.inl ⟨by rfl, ?_⟩) (by assumption) ?_
     rotate_left
     ·(intro wS hSw; (try dsimp only at hSw); have h0 := cell_ext hSw y3; have h1 := cell_ext hSw z3; have h2 := cell_ext hSw y7; have h3 := cell_ext hSw z7; (try go_simp); (try with_reducible rfl))
     try simp only [Act.put, s1, s2, s3]
     refine wpAnyH_ready (rs := [10, 14]) (by kernel_rfl) (by simp) ?_
     refine AllReadyH.cons rfl (fun KQ hKQ => ?_) ?_
     ·go_simp
      refine hKQ.out _ _ ?_ (fun hHeld => ?_)
      ·(try dsimp only); repeat (first | exact Ext.refl _ | refine Ext.alloc ?_ _ | refine Ext.drew ?_)
      clear hKQ KQ
      try simp only [Act.put, s1, s2, s3]
      refine wpAnyH_take (i := 11) (oi := _) (v := ?_) rfl (by kernel_rfl) (by kernel_rfl) (by kernel_rfl) (fun _ _ _ h => h) (Or.inl ⟨by rfl, ?_⟩) (by assumption) ?_
      rotate_left
      ·(intro wS hSw; (try dsimp only at hSw); have h0 := cell_ext hSw y3; have h1 := cell_ext hSw z3; have h2 := cell_ext hSw y7; have h3 := cell_ext hSw z7; (try go_simp); (try with_reducible rfl))
      try simp only [Act.put, s1, s2, s3]
      refine wpAnyH_ready (rs := [14]) (by kernel_rfl) (by simp) ?_
      refine AllReadyH.cons rfl (fun KQ hKQ => ?_) AllReadyH.nil
      go_simp
      refine hKQ.out _ _ ?_ (fun hHeld => ?_)
      ·(try dsimp only); repeat (first | exact Ext.refl _ | refine Ext.alloc ?_ _ | refine Ext.drew ?_)
      clear hKQ KQ
      try simp only [Act.put, s1, s2, s3]
      refine wpAnyH_ready (rs := [15]) (by kernel_rfl) (by simp) ?_
      refine AllReadyH.cons rfl (fun KQ hKQ => ?_) AllReadyH.nil
      go_simp
      refine hKQ.out _ _ ?_ (fun hHeld => ?_)
      ·(try dsimp only); repeat (first | exact Ext.refl _ | refine Ext.alloc ?_ _ | refine Ext.drew ?_)
      clear hKQ KQ
      try simp only [Act.put, s1, s2, s3]
      refine wpAnyH_done (by kernel_rfl) ?_ _
      clear hHeld
      refine hKK _ _ (Met.intro (hJJ _ _ ?_))
      repeat apply Exists.intro
      refine ⟨?_, rfl⟩
      repeat apply Exists.intro
      refine ⟨rfl, rfl, Lib.hid ?_, Lib.hid ?_, Lib.hid ?_, Lib.hid ?_, ?_⟩
      ·apply box_atU
       apply at_drewU
       repeat (first | (refine at_newU ?_; simp; done) | apply at_oldU)
      ·apply box_atU
       apply at_drewU
       repeat (first | (refine at_newU ?_; simp; done) | apply at_oldU)
      ·apply at_drewU
       repeat (first | (refine at_newU ?_; simp; done) | apply at_oldU)
      ·apply at_drewU
       repeat (first | (refine at_newU ?_; simp; done) | apply at_oldU)
      ·repeat (first | exact Ext.refl _ | refine Ext.alloc ?_ _ | refine Ext.drew ?_)
     refine AllReadyH.cons rfl (fun KQ hKQ => ?_) AllReadyH.nil
     go_simp
     refine hKQ.out _ _ ?_ (fun hHeld => ?_)
     ·(try dsimp only); repeat (first | exact Ext.refl _ | refine Ext.alloc ?_ _ | refine Ext.drew ?_)
     clear hKQ KQ
     try simp only [Act.put, s1, s2, s3]
     refine wpAnyH_ready (rs := [10]) (by kernel_rfl) (by simp) ?_
     refine AllReadyH.cons rfl (fun KQ hKQ => ?_) AllReadyH.nil
     go_simp
     refine hKQ.out _ _ ?_ (fun hHeld => ?_)
     ·(try dsimp only); repeat (first | exact Ext.refl _ | refine Ext.alloc ?_ _ | refine Ext.drew ?_)
     clear hKQ KQ
     try simp only [Act.put, s1, s2, s3]
     refine wpAnyH_take (i := 11) (oi := _) (v := ?_) rfl (by kernel_rfl) (by kernel_rfl) (by kernel_rfl) (fun _ _ _ h => h) (Or.inl ⟨by rfl, ?_⟩) (by assumption) ?_
     rotate_left
     ·(intro wS hSw; (try dsimp only at hSw); have h0 := cell_ext hSw y3; have h1 := cell_ext hSw z3; have h2 := cell_ext hSw y7; have h3 := cell_ext hSw z7; (try go_simp); (try with_reducible rfl))
     try simp only [Act.put, s1, s2, s3]
     refine wpAnyH_ready (rs := [15]) (by kernel_rfl) (by simp) ?_
     refine AllReadyH.cons rfl (fun KQ hKQ => ?_) AllReadyH.nil
     go_simp
     refine hKQ.out _ _ ?_ (fun hHeld => ?_)
     ·(try dsimp only); repeat (first | exact Ext.refl _ | refine Ext.alloc ?_ _ | refine Ext.drew ?_)
     clear hKQ KQ
     try simp only [Act.put, s1, s2, s3]
     refine wpAnyH_done (by kernel_rfl) ?_ _
     clear hHeld
     refine hKK _ _ (Met.intro (hJJ _ _ ?_))
     repeat apply Exists.intro
     refine ⟨?_, rfl⟩
     repeat apply Exists.intro
     refine ⟨rfl, rfl, Lib.hid ?_, Lib.hid ?_, Lib.hid ?_, Lib.hid ?_, ?_⟩
     ·apply box_atU
      apply at_drewU
      repeat (first | (refine at_newU ?_; simp; done) | apply at_oldU)
     ·apply box_atU
      apply at_drewU
      repeat (first | (refine at_newU ?_; simp; done) | apply at_oldU)
     ·apply at_drewU
      repeat (first | (refine at_newU ?_; simp; done) | apply at_oldU)
     ·apply at_drewU
      repeat (first | (refine at_newU ?_; simp; done) | apply at_oldU)
     ·repeat (first | exact Ext.refl _ | refine Ext.alloc ?_ _ | refine Ext.drew ?_)
    refine AllReadyH.cons rfl (fun KQ hKQ => ?_) AllReadyH.nil
    go_simp
    refine hKQ.out _ _ ?_ (fun hHeld => ?_)
    ·(try dsimp only); repeat (first | exact Ext.refl _ | refine Ext.alloc ?_ _ | refine Ext.drew ?_)
    clear hKQ KQ
    try simp only [Act.put, s1, s2, s3]
    refine wpAnyH_take (i := 11) (oi := _) (v := ?_) rfl (by kernel_rfl) (by kernel_rfl) (by kernel_rfl) (fun _ _ _ h => h) (Or.inl ⟨by rfl, ?_⟩) (by assumption) ?_
    rotate_left
    ·(intro wS hSw; (try dsimp only at hSw); have h0 := cell_ext hSw y3; have h1 := cell_ext hSw z3; have h2 := cell_ext hSw y7; have h3 := cell_ext hSw z7; (try go_simp); (try with_reducible rfl))
    try simp only [Act.put, s1, s2, s3]
    refine wpAnyH_ready (rs := [4]) (by kernel_rfl) (by simp) ?_
    refine AllReadyH.cons rfl (fun KQ hKQ => ?_) AllReadyH.nil
    go_simp
    refine hKQ.out _ _ ?_ (fun hHeld => ?_)
    ·(try dsimp only); repeat (first | exact Ext.refl _ | refine Ext.alloc ?_ _ | refine Ext.drew ?_)
    clear hKQ KQ
    try simp only [Act.put, s1, s2, s3]
    refine wpAnyH_take (i := 5) (oi := _) (v := ?_) rfl (by kernel_rfl) (by kernel_rfl) (by kernel_rfl) (fun _ _ _ h => h) (Or.inl ⟨by rfl, ?_⟩) (by assumption) ?_
    rotate_left
    ·(intro wS hSw; (try dsimp only at hSw); have h0 := cell_ext hSw y3; have h1 := cell_ext hSw z3; have h2 := cell_ext hSw y7; have h3 := cell_ext hSw z7; (try go_simp); (try with_reducible rfl))
    try simp only [Act.put, s1, s2, s3]
    refine wpAnyH_ready (rs := [14]) (by kernel_rfl) (by simp) ?_
    refine AllReadyH.cons rfl (fun KQ hKQ => ?_) AllReadyH.nil
    go_simp
    refine hKQ.out _ _ ?_ (fun hHeld => ?_)
    ·(try dsimp only); repeat (first | exact Ext.refl _ | refine Ext.alloc ?_ _ | refine Ext.drew ?_)
    clear hKQ KQ
    try simp only [Act.put, s1, s2, s3]
    refine wpAnyH_ready (rs := [15]) (by kernel_rfl) (by simp) ?_
    refine AllReadyH.cons rfl (fun KQ hKQ => ?_) AllReadyH.nil
    go_simp
    refine hKQ.out _ _ ?_ (fun hHeld => ?_)
    ·(try dsimp only); repeat (first | exact Ext.refl _ | refine Ext.alloc ?_ _ | refine Ext.drew ?_)
    clear hKQ KQ
    try simp only [Act.put, s1, s2, s3]
    refine wpAnyH_done (by kernel_rfl) ?_ _
    clear hHeld
    refine hKK _ _ (Met.intro (hJJ _ _ ?_))
    repeat apply Exists.intro
    refine ⟨?_, rfl⟩
    repeat apply Exists.intro
    refine ⟨rfl, rfl, Lib.hid ?_, Lib.hid ?_, Lib.hid ?_, Lib.hid ?_, ?_⟩
    ·apply box_atU
     apply at_drewU
     repeat (first | (refine at_newU ?_; simp; done) | apply at_oldU)
    ·apply box_atU
     apply at_drewU
     repeat (first | (refine at_newU ?_; simp; done) | apply at_oldU)
    ·apply at_drewU
     repeat (first | (refine at_newU ?_; simp; done) | apply at_oldU)
    ·apply at_drewU
     repeat (first | (refine at_newU ?_; simp; done) | apply at_oldU)
    ·repeat (first | exact Ext.refl _ | refine Ext.alloc ?_ _ | refine Ext.drew ?_)
   refine AllReadyH.cons rfl (fun KQ hKQ => ?_) AllReadyH.nil
   go_simp
   refine hKQ.out _ _ ?_ (fun hHeld => ?_)
   ·(try dsimp only); repeat (first | exact Ext.refl _ | refine Ext.alloc ?_ _ | refine Ext.drew ?_)
   clear hKQ KQ
   try simp only [Act.put, s1, s2, s3]
   refine wpAnyH_ready (rs := [4, 10, 12]) (by kernel_rfl) (by simp) ?_
   refine AllReadyH.cons rfl (fun KQ hKQ => ?_) ?_
   ·go_simp
    refine hKQ.out _ _ ?_ (fun hHeld => ?_)
    ·(try dsimp only); repeat (first | exact Ext.refl _ | refine Ext.alloc ?_ _ | refine Ext.drew ?_)
    clear hKQ KQ
    try simp only [Act.put, s1, s2, s3]
    refine wpAnyH_take (i := 5) (oi := _) (v := ?_) rfl (by kernel_rfl) (by kernel_rfl) (by kernel_rfl) (fun _ _ _ h => h) (Or.inl ⟨by rfl, ?_⟩) (by assumption) ?_
    rotate_left
    ·(intro wS hSw; (try dsimp only at hSw); have h0 := cell_ext hSw y3; have h1 := cell_ext hSw z3; have h2 := cell_ext hSw y7; have h3 := cell_ext hSw z7; (try go_simp); (try with_reducible rfl))
    try simp only [Act.put, s1, s2, s3]
    refine wpAnyH_ready (rs := [10, 12]) (by kernel_rfl) (by simp) ?_
    refine AllReadyH.cons rfl (fun KQ hKQ => ?_) ?_
    ·go_simp
     refine hKQ.out _ _ ?_ (fun hHeld => ?_)
     ·(try dsimp only); repeat (first | exact Ext.refl _ | refine Ext.alloc ?_ _ | refine Ext.drew ?_)
     clear hKQ KQ
     try simp only [Act.put, s1, s2, s3]
     refine wpAnyH_take (i := 11) (oi := _) (v := ?_) rfl (by kernel_rfl) (by kernel_rfl) (by kernel_rfl) (fun _ _ _ h => h) (Or.inl ⟨by rfl, ?_⟩) (by assumption) ?_
     rotate_left
     ·(intro wS hSw; (try dsimp only at hSw); have h0 := cell_ext hSw y3; have h1 := cell_ext hSw z3; have h2 := cell_ext hSw y7; have h3 := cell_ext hSw z7; (try go_simp); (try with_reducible rfl))
     try simp only [Act.put, s1, s2, s3]
     refine wpAnyH_ready (rs := [12]) (by kernel_rfl) (by simp) ?_
     refine AllReadyH.cons rfl (fun KQ hKQ => ?_) AllReadyH.nil
     go_simp
     refine hKQ.out _ _ ?_ (fun hHeld => ?_)
     ·(try dsimp only); repeat (first | exact Ext.refl _ | refine Ext.alloc ?_ _ | refine Ext.drew ?_)
     clear hKQ KQ
     try simp only [Act.put, s1, s2, s3]
     refine wpAnyH_ready (rs := [14]) (by kernel_rfl) (by simp) ?_
     refine AllReadyH.cons rfl (fun KQ hKQ => ?_) AllReadyH.nil
     go_simp
     refine hKQ.out _ _ ?_ (fun hHeld => ?_)
     ·(try dsimp only); repeat (first | exact Ext.refl _ | refine Ext.alloc ?_ _ | refine Ext.drew ?_)
     clear hKQ KQ
     try simp only [Act.put, s1, s2, s3]
     refine wpAnyH_ready (rs := [15]) (by kernel_rfl) (by simp) ?_
     refine AllReadyH.cons rfl (fun KQ hKQ => ?_) AllReadyH.nil
     go_simp
     refine hKQ.out _ _ ?_ (fun hHeld => ?_)
     ·(try dsimp only); repeat (first | exact Ext.refl _ | refine Ext.alloc ?_ _ | refine Ext.drew ?_)
     clear hKQ KQ
     try simp only [Act.put, s1, s2, s3]
     refine wpAnyH_done (by kernel_rfl) ?_ _
     clear hHeld
     refine hKK _ _ (Met.intro (hJJ _ _ ?_))
     repeat apply Exists.intro
     refine ⟨?_, rfl⟩
     repeat apply Exists.intro
     refine ⟨rfl, rfl, Lib.hid ?_, Lib.hid ?_, Lib.hid ?_, Lib.hid ?_, ?_⟩
     ·apply box_atU
      apply at_drewU
      repeat (first | (refine at_newU ?_; simp; done) | apply at_oldU)
     ·apply box_atU
      apply at_drewU
      repeat (first | (refine at_newU ?_; simp; done) | apply at_oldU)
     ·apply at_drewU
      repeat (first | (refine at_newU ?_; simp; done) | apply at_oldU)
     ·apply at_drewU
      repeat (first | (refine at_newU ?_; simp; done) | apply at_oldU)
     ·repeat (first | exact Ext.refl _ | refine Ext.alloc ?_ _ | refine Ext.drew ?_)
    refine AllReadyH.cons rfl (fun KQ hKQ => ?_) AllReadyH.nil
    go_simp
    refine hKQ.out _ _ ?_ (fun hHeld => ?_)
    ·(try dsimp only); repeat (first | exact Ext.refl _ | refine Ext.alloc ?_ _ | refine Ext.drew ?_)
    clear hKQ KQ
    try simp only [Act.put, s1, s2, s3]
    refine wpAnyH_ready (rs := [10, 14]) (by kernel_rfl) (by simp) ?_
    refine AllReadyH.cons rfl (fun KQ hKQ => ?_) ?_
    ·go_simp
     refine hKQ.out _ _ ?_ (fun hHeld => ?_)
     ·(try dsimp only); repeat (first | exact Ext.refl _ | refine Ext.alloc ?_ _ | refine Ext.drew ?_)
     clear hKQ KQ
     try simp only [Act.put, s1, s2, s3]
     refine wpAnyH_take (i := 11) (oi := _) (v := ?_) rfl (by kernel_rfl) (by kernel_rfl) (by kernel_rfl) (fun _ _ _ h => h) (Or.inl ⟨by rfl, ?_⟩) (by assumption) ?_
     rotate_left
     ·(intro wS hSw; (try dsimp only at hSw); have h0 := cell_ext hSw y3; have h1 := cell_ext hSw z3; have h2 := cell_ext hSw y7; have h3 := cell_ext hSw z7; (try go_simp); (try with_reducible rfl))
     try simp only [Act.put, s1, s2, s3]
     refine wpAnyH_ready (rs := [14]) (by kernel_rfl) (by simp) ?_
     refine AllReadyH.cons rfl (fun KQ hKQ => ?_) AllReadyH.nil
     go_simp
     refine hKQ.out _ _ ?_ (fun hHeld => ?_)
     ·(try dsimp only); repeat (first | exact Ext.refl _ | refine Ext.alloc ?_ _ | refine Ext.drew ?_)
     clear hKQ KQ
     try simp only [Act.put, s1, s2, s3]
     refine wpAnyH_ready (rs := [15]) (by kernel_rfl) (by simp) ?_
     refine AllReadyH.cons rfl (fun KQ hKQ => ?_) AllReadyH.nil
     go_simp
     refine hKQ.out _ _ ?_ (fun hHeld => ?_)
     ·(try dsimp only); repeat (first | exact Ext.refl _ | refine Ext.alloc ?_ _ | refine Ext.drew ?_)
     clear hKQ KQ
     try simp only [Act.put, s1, s2, s3]
     refine wpAnyH_done (by kernel_rfl) ?_ _
     clear hHeld
     refine hKK _ _ (Met.intro (hJJ _ _ ?_))
     repeat apply Exists.intro
     refine ⟨?_, rfl⟩
     repeat apply Exists.intro
     refine ⟨rfl, rfl, Lib.hid ?_, Lib.hid ?_, Lib.hid ?_, Lib.hid ?_, ?_⟩
     ·apply box_atU
      apply at_drewU
      repeat (first | (refine at_newU ?_; simp; done) | apply at_oldU)
     ·apply box_atU
      apply at_drewU
      repeat (first | (refine at_newU ?_; simp; done) | apply at_oldU)
     ·apply at_drewU
      repeat (first | (refine at_newU ?_; simp; done) | apply at_oldU)
     ·apply at_drewU
      repeat (first | (refine at_newU ?_; simp; done) | apply at_oldU)
     ·repeat (first | exact Ext.refl _ | refine Ext.alloc ?_ _ | refine Ext.drew ?_)
    refine AllReadyH.cons rfl (fun KQ hKQ => ?_) AllReadyH.nil
    go_simp
    refine hKQ.out _ _ ?_ (fun hHeld => ?_)
    ·(try dsimp only); repeat (first | exact Ext.refl _ | refine Ext.alloc ?_ _ | refine Ext.drew ?_)
    clear hKQ KQ
    try simp only [Act.put, s1, s2, s3]
    refine wpAnyH_ready (rs := [10]) (by kernel_rfl) (by simp) ?_
    refine AllReadyH.cons rfl (fun KQ hKQ => ?_) AllReadyH.nil
    go_simp
    refine hKQ.out _ _ ?_ (fun hHeld => ?_)
    ·(try dsimp only); repeat (first | exact Ext.refl _ | refine Ext.alloc ?_ _ | refine Ext.drew ?_)
    clear hKQ KQ
    try simp only [Act.put, s1, s2, s3]
    refine wpAnyH_take (i := 11) (oi := _) (v := ?_) rfl (by kernel_rfl) (by kernel_rfl) (by kernel_rfl) (fun _ _ _ h => h) (Or.inl ⟨by rfl, ?_⟩) (by assumption) ?_
    rotate_left
    ·(intro wS hSw; (try dsimp only at hSw); have h0 := cell_ext hSw y3; have h1 := cell_ext hSw z3; have h2 := cell_ext hSw y7; have h3 := cell_ext hSw z7; (try go_simp); (try with_reducible rfl))
    try simp only [Act.put, s1, s2, s3]
    refine wpAnyH_ready (rs := [15]) (by kernel_rfl) (by simp) ?_
    refine AllReadyH.cons rfl (fun KQ hKQ => ?_) AllReadyH.nil
    go_simp
    refine hKQ.out _ _ ?_ (fun hHeld => ?_)
    ·(try dsimp only); repeat (first | exact Ext.refl _ | refine Ext.alloc ?_ _ | refine Ext.drew ?_)
    clear hKQ KQ
    try simp only [Act.put, s1, s2, s3]
    refine wpAnyH_done (by kernel_rfl) ?_ _
    clear hHeld
    refine hKK _ _ (Met.intro (hJJ _ _ ?_))
    repeat apply Exists.intro
    refine ⟨?_, rfl⟩
    repeat apply Exists.intro
    refine ⟨rfl, rfl, Lib.hid ?_, Lib.hid ?_, Lib.hid ?_, Lib.hid ?_, ?_⟩
    ·apply box_atU
     apply at_drewU
     repeat (first | (refine at_newU ?_; simp; done) | apply at_oldU)
    ·apply box_atU
     apply at_drewU
     repeat (first | (refine at_newU ?_; simp; done) | apply at_oldU)
    ·apply at_drewU
     repeat (first | (refine at_newU ?_; simp; done) | apply at_oldU)
    ·apply at_drewU
     repeat (first | (refine at_newU ?_; simp; done) | apply at_oldU)
    ·repeat (first | exact Ext.refl _ | refine Ext.alloc ?_ _ | refine Ext.drew ?_)
   refine AllReadyH.cons rfl (fun KQ hKQ => ?_) ?_
   ·go_simp
    refine hKQ.out _ _ ?_ (fun hHeld => ?_)
    ·(try dsimp only); repeat (first | exact Ext.refl _ | refine Ext.alloc ?_ _ | refine Ext.drew ?_)
    clear hKQ KQ
    try simp only [Act.put, s1, s2, s3]
    refine wpAnyH_take (i := 11) (oi := _) (v := ?_) rfl (by kernel_rfl) (by kernel_rfl) (by kernel_rfl) (fun _ _ _ h => h) (Or.inl ⟨by rfl, ?_⟩) (by assumption) ?_
    rotate_left
    ·(intro wS hSw; (try dsimp only at hSw); have h0 := cell_ext hSw y3; have h1 := cell_ext hSw z3; have h2 := cell_ext hSw y7; have h3 := cell_ext hSw z7; (try go_simp); (try with_reducible rfl))
    try simp only [Act.put, s1, s2, s3]
    refine wpAnyH_ready (rs := [4, 12]) (by kernel_rfl) (by simp) ?_
    refine AllReadyH.cons rfl (fun KQ hKQ => ?_) ?_
    ·go_simp
     refine hKQ.out _ _ ?_ (fun hHeld => ?_)
     ·(try dsimp only); repeat (first | exact Ext.refl _ | refine Ext.alloc ?_ _ | refine Ext.drew ?_)
     clear hKQ KQ
     try simp only [Act.put, s1, s2, s3]
     refine wpAnyH_take (i := 5) (oi := _) (v := ?_) rfl (by kernel_rfl) (by kernel_rfl) (by kernel_rfl) (fun _ _ _ h => h) (Or.inl ⟨by rfl, ?_⟩) (by assumption) ?_
     rotate_left
     ·(intro wS hSw; (try dsimp only at hSw); have h0 := cell_ext hSw y3; have h1 := cell_ext hSw z3; have h2 := cell_ext hSw y7; have h3 := cell_ext hSw z7; (try go_simp); (try with_reducible rfl))
     try simp only [Act.put, s1, s2, s3]
     refine wpAnyH_ready (rs := [12]) (by kernel_rfl) (by simp) ?_
     refine AllReadyH.cons rfl (fun KQ hKQ => ?_) AllReadyH.nil
     go_simp
     refine hKQ.out _ _ ?_ (fun hHeld => ?_)
     ·(try dsimp only); repeat (first | exact Ext.refl _ | refine Ext.alloc ?_ _ | refine Ext.drew ?_)
     clear hKQ KQ
     try simp only [Act.put, s1, s2, s3]
     refine wpAnyH_ready (rs := [14]) (by kernel_rfl) (by simp) ?_
     refine AllReadyH.cons rfl (fun KQ hKQ => ?_) AllReadyH.nil
     go_simp
     refine hKQ.out _ _ ?_ (fun hHeld => ?_)
     ·(try dsimp only); repeat (first | exact Ext.refl _ | refine Ext.alloc ?_ _ | refine Ext.drew ?_)
     clear hKQ KQ
     try simp only [Act.put, s1, s2, s3]
     refine wpAnyH_ready (rs := [15]) (by kernel_rfl) (by simp) ?_
     refine AllReadyH.cons rfl (fun KQ hKQ => ?_) AllReadyH.nil
     go_simp
     refine hKQ.out _ _ ?_ (fun hHeld => ?_)
     ·(try dsimp only); repeat (first | exact Ext.refl _ | refine Ext.alloc ?_ _ | refine Ext.drew ?_)
     clear hKQ KQ
     try simp only [Act.put, s1, s2, s3]
     refine wpAnyH_done (by kernel_rfl) ?_ _
     clear hHeld
     refine hKK _ _ (Met.intro (hJJ _ _ ?_))
     repeat apply Exists.intro
     refine ⟨?_, rfl⟩
     repeat apply Exists.intro
     refine ⟨rfl, rfl, Lib.hid ?_, Lib.hid ?_, Lib.hid ?_, Lib.hid ?_, ?_⟩
     ·apply box_atU
      apply at_drewU
      repeat (first | (refine at_newU ?_; simp; done) | apply at_oldU)
     ·apply box_atU
      apply at_drewU
      repeat (first | (refine at_newU ?_; simp; done) | apply at_oldU)
     ·apply at_drewU
      repeat (first | (refine at_newU ?_; simp; done) | apply at_oldU)
     ·apply at_drewU
      repeat (first | (refine at_newU ?_; simp; done) | apply at_oldU)
     ·repeat (first | exact Ext.refl _ | refine Ext.alloc ?_ _ | refine Ext.drew ?_)
    refine AllReadyH.cons rfl (fun KQ hKQ => ?_) AllReadyH.nil
    go_simp
    refine hKQ.out _ _ ?_ (fun hHeld => ?_)
    ·(try dsimp only); repeat (first | exact Ext.refl _ | refine Ext.alloc ?_ _ | refine Ext.drew ?_)
    clear hKQ KQ
    try simp only [Act.put, s1, s2, s3]
    refine wpAnyH_ready (rs := [4]) (by kernel_rfl) (by simp) ?_
    refine AllReadyH.cons rfl (fun KQ hKQ => ?_) AllReadyH.nil
    go_simp
    refine hKQ.out _ _ ?_ (fun hHeld => ?_)
    ·(try dsimp only); repeat (first | exact Ext.refl _ | refine Ext.alloc ?_ _ | refine Ext.drew ?_)
    clear hKQ KQ
    try simp only [Act.put, s1, s2, s3]
    refine wpAnyH_take (i := 5) (oi := _) (v := ?_) rfl (by kernel_rfl) (by kernel_rfl) (by kernel_rfl) (fun _ _ _ h => h) (Or.inl ⟨by rfl, ?_⟩) (by assumption) ?_
    rotate_left
    ·(intro wS hSw; (try dsimp only at hSw); have h0 := cell_ext hSw y3; have h1 := cell_ext hSw z3; have h2 := cell_ext hSw y7; have h3 := cell_ext hSw z7; (try go_simp); (try with_reducible rfl))
    try simp only [Act.put, s1, s2, s3]
    refine wpAnyH_ready (rs := [14]) (by kernel_rfl) (by simp) ?_
    refine AllReadyH.cons rfl (fun KQ hKQ => ?_) AllReadyH.nil
    go_simp
    refine hKQ.out _ _ ?_ (fun hHeld => ?_)
    ·(try dsimp only); repeat (first | exact Ext.refl _ | refine Ext.alloc ?_ _ | refine Ext.drew ?_)
    clear hKQ KQ
    try simp only [Act.put, s1, s2, s3]
    refine wpAnyH_ready (rs := [15]) (by kernel_rfl) (by simp) ?_
    refine AllReadyH.cons rfl (fun KQ hKQ => ?_) AllReadyH.nil
    go_simp
    refine hKQ.out _ _ ?_ (fun hHeld => ?_)
    ·(try dsimp only); repeat (first | exact Ext.refl _ | refine Ext.alloc ?_ _ | refine Ext.drew ?_)
    clear hKQ KQ
    try simp only [Act.put, s1, s2, s3]
    refine wpAnyH_done (by kernel_rfl) ?_ _
    clear hHeld
    refine hKK _ _ (Met.intro (hJJ _ _ ?_))
    repeat apply Exists.intro
    refine ⟨?_, rfl⟩
    repeat apply Exists.intro
    refine ⟨rfl, rfl, Lib.hid ?_, Lib.hid ?_, Lib.hid ?_, Lib.hid ?_, ?_⟩
    ·apply box_atU
     apply at_drewU
     repeat (first | (refine at_newU ?_; simp; done) | apply at_oldU)
    ·apply box_atU
     apply at_drewU
     repeat (first | (refine at_newU ?_; simp; done) | apply at_oldU)
    ·apply at_drewU
     repeat (first | (refine at_newU ?_; simp; done) | apply at_oldU)
    ·apply at_drewU
     repeat (first | (refine at_newU ?_; simp; done) | apply at_oldU)
    ·repeat (first | exact Ext.refl _ | refine Ext.alloc ?_ _ | refine Ext.drew ?_)
   refine AllReadyH.cons rfl (fun KQ hKQ => ?_) AllReadyH.nil
   go_simp
   refine hKQ.out _ _ ?_ (fun hHeld => ?_)
   ·(try dsimp only); repeat (first | exact Ext.refl _ | refine Ext.alloc ?_ _ | refine Ext.drew ?_)
   clear hKQ KQ
   try simp only [Act.put, s1, s2, s3]
   refine wpAnyH_ready (rs := [4, 10]) (by kernel_rfl) (by simp) ?_
   refine AllReadyH.cons rfl (fun KQ hKQ => ?_) ?_
   ·go_simp
    refine hKQ.out _ _ ?_ (fun hHeld => ?_)
    ·(try dsimp only); repeat (first | exact Ext.refl _ | refine Ext.alloc ?_ _ | refine Ext.drew ?_)
    clear hKQ KQ
    try simp only [Act.put, s1, s2, s3]
    refine wpAnyH_take (i := 5) (oi := _) (v := ?_) rfl (by kernel_rfl) (by kernel_rfl) (by kernel_rfl) (fun _ _ _ h => h) (Or.inl ⟨by rfl, ?_⟩) (by assumption) ?_
    rotate_left
    ·(intro wS hSw; (try dsimp only at hSw); have h0 := cell_ext hSw y3; have h1 := cell_ext hSw z3; have h2 := cell_ext hSw y7; have h3 := cell_ext hSw z7; (try go_simp); (try with_reducible rfl))
    try simp only [Act.put, s1, s2, s3]
    refine wpAnyH_ready (rs := [10, 14]) (by kernel_rfl) (by simp) ?_
    refine AllReadyH.cons rfl (fun KQ hKQ => ?_) ?_
    ·go_simp
     refine hKQ.out _ _ ?_ (fun hHeld => ?_)
     ·(try dsimp only); repeat (first | exact Ext.refl _ | refine Ext.alloc ?_ _ | refine Ext.drew ?_)
     clear hKQ KQ
     try simp only [Act.put, s1, s2, s3]
     refine wpAnyH_take (i := 11) (oi := _) (v := ?_) rfl (by kernel_rfl) (by kernel_rfl) (by kernel_rfl) (fun _ _ _ h => h) (Or.inl ⟨by rfl, ?_⟩) (by assumption) ?_
     rotate_left
     ·(intro wS hSw; (try dsimp only at hSw); have h0 := cell_ext hSw y3; have h1 := cell_ext hSw z3; have h2 := cell_ext hSw y7; have h3 := cell_ext hSw z7; (try go_simp); (try with_reducible rfl))
     try simp only [Act.put, s1, s2, s3]
     refine wpAnyH_ready (rs := [14]) (by kernel_rfl) (by simp) ?_
     refine AllReadyH.cons rfl (fun KQ hKQ => ?_) AllReadyH.nil
     go_simp
     refine hKQ.out _ _ ?_ (fun hHeld => ?_)
     ·(try dsimp only); repeat (first | exact Ext.refl _ | refine Ext.alloc ?_ _ | refine Ext.drew ?_)
     clear hKQ KQ
     try simp only [Act.put, s1, s2, s3]
     refine wpAnyH_ready (rs := [15]) (by kernel_rfl) (by simp) ?_
     refine AllReadyH.cons rfl (fun KQ hKQ => ?_) AllReadyH.nil
     go_simp
     refine hKQ.out _ _ ?_ (fun hHeld => ?_)
     ·(try dsimp only); repeat (first | exact Ext.refl _ | refine Ext.alloc ?_ _ | refine Ext.drew ?_)
     clear hKQ KQ
     try simp only [Act.put, s1, s2, s3]
     refine wpAnyH_done (by kernel_rfl) ?_ _
     clear hHeld
     refine hKK _ _ (Met.intro (hJJ _ _ ?_))
     repeat apply Exists.intro
     refine ⟨?_, rfl⟩
     repeat apply Exists.intro
     refine ⟨rfl, rfl, Lib.hid ?_, Lib.hid ?_, Lib.hid ?_, Lib.hid ?_, ?_⟩
     ·apply box_atU
      apply at_drewU
      repeat (first | (refine at_newU ?_; simp; done) | apply at_oldU)
     ·apply box_atU
      apply at_drewU
      repeat (first | (refine at_newU ?_; simp; done) | apply at_oldU)
     ·apply at_drewU
      repeat (first | (refine at_newU ?_; simp; done) | apply at_oldU)
     ·apply at_drewU
      repeat (first | (refine at_newU ?_; simp; done) | apply at_oldU)
     ·repeat (first | exact Ext.refl _ | refine Ext.alloc ?_ _ | refine Ext.drew ?_)
    refine AllReadyH.cons rfl (fun KQ hKQ => ?_) AllReadyH.nil
    go_simp
    refine hKQ.out _ _ ?_ (fun hHeld => ?_)
    ·(try dsimp only); repeat (first | exact Ext.refl _ | refine Ext.alloc ?_ _ | refine Ext.drew ?_)
    clear hKQ KQ
    try simp only [Act.put, s1, s2, s3]
    refine wpAnyH_ready (rs := [10]) (by kernel_rfl) (by simp) ?_
    refine AllReadyH.cons rfl (fun KQ hKQ => ?_) AllReadyH.nil
    go_simp
    refine hKQ.out _ _ ?_ (fun hHeld => ?_)
    ·(try dsimp only); repeat (first | exact Ext.refl _ | refine Ext.alloc ?_ _ | refine Ext.drew ?_)
    clear hKQ KQ
    try simp only [Act.put, s1, s2, s3]
    refine wpAnyH_take (i := 11) (oi := _) (v := ?_) rfl (by kernel_rfl) (by kernel_rfl) (by kernel_rfl) (fun _ _ _ h => h) (Or.inl ⟨by rfl, ?_⟩) (by assumption) ?_
    rotate_left
    ·(intro wS hSw; (try dsimp only at hSw); have h0 := cell_ext hSw y3; have h1 := cell_ext hSw z3; have h2 := cell_ext hSw y7; have h3 := cell_ext hSw z7; (try go_simp); (try with_reducible rfl))
    try simp only [Act.put, s1, s2, s3]
    refine wpAnyH_ready (rs := [15]) (by kernel_rfl) (by simp) ?_
    refine AllReadyH.cons rfl (fun KQ hKQ => ?_) AllReadyH.nil
    go_simp
    refine hKQ.out _ _ ?_ (fun hHeld => ?_)
    ·(try dsimp only); repeat (first | exact Ext.refl _ | refine Ext.alloc ?_ _ | refine Ext.drew ?_)
    clear hKQ KQ
    try simp only [Act.put, s1, s2, s3]
    refine wpAnyH_done (by kernel_rfl) ?_ _
    clear hHeld
    refine hKK _ _ (Met.intro (hJJ _ _ ?_))
    repeat apply Exists.intro
    refine ⟨?_, rfl⟩
    repeat apply Exists.intro
    refine ⟨rfl, rfl, Lib.hid ?_, Lib.hid ?_, Lib.hid ?_, Lib.hid ?_, ?_⟩
    ·apply box_atU
     apply at_drewU
     repeat (first | (refine at_newU ?_; simp; done) | apply at_oldU)
    ·apply box_atU
     apply at_drewU
     repeat (first | (refine at_newU ?_; simp; done) | apply at_oldU)
    ·apply at_drewU
     repeat (first | (refine at_newU ?_; simp; done) | apply at_oldU)
    ·apply at_drewU
     repeat (first | (refine at_newU ?_; simp; done) | apply at_oldU)
    ·repeat (first | exact Ext.refl _ | refine Ext.alloc ?_ _ | refine Ext.drew ?_)
   refine AllReadyH.cons rfl (fun KQ hKQ => ?_) AllReadyH.nil
   go_simp
   refine hKQ.out _ _ ?_ (fun hHeld => ?_)
   ·(try dsimp only); repeat (first | exact Ext.refl _ | refine Ext.alloc ?_ _ | refine Ext.drew ?_)
   clear hKQ KQ
   try simp only [Act.put, s1, s2, s3]
   refine wpAnyH_take (i := 11) (oi := _) (v := ?_) rfl (by kernel_rfl) (by kernel_rfl) (by kernel_rfl) (fun _ _ _ h => h) (Or.inl ⟨by rfl, ?_⟩) (by assumption) ?_
   rotate_left
   ·(intro wS hSw; (try dsimp only at hSw); have h0 := cell_ext hSw y3; have h1 := cell_ext hSw z3; have h2 := cell_ext hSw y7; have h3 := cell_ext hSw z7; (try go_simp); (try with_reducible rfl))
   try simp only [Act.put, s1, s2, s3]
   refine wpAnyH_ready (rs := [4]) (by kernel_rfl) (by simp) ?_
   refine AllReadyH.cons rfl (fun KQ hKQ => ?_) AllReadyH.nil
   go_simp
   refine hKQ.out _ _ ?_ (fun hHeld => ?_)
   ·(try dsimp only); repeat (first | exact Ext.refl _ | refine Ext.alloc ?_ _ | refine Ext.drew ?_)
   clear hKQ KQ
   try simp only [Act.put, s1, s2, s3]
   refine wpAnyH_take (i := 5) (oi := _) (v := ?_) rfl (by kernel_rfl) (by kernel_rfl) (by kernel_rfl) (fun _ _ _ h => h) (Or.inl ⟨by rfl, ?_⟩) (by assumption) ?_
   rotate_left
   ·(intro wS hSw; (try dsimp only at hSw); have h0 := cell_ext hSw y3; have h1 := cell_ext hSw z3; have h2 := cell_ext hSw y7; have h3 := cell_ext hSw z7; (try go_simp); (try with_reducible rfl))
   try simp only [Act.put, s1, s2, s3]
   refine wpAnyH_ready (rs := [14]) (by kernel_rfl) (by simp) ?_
   refine AllReadyH.cons rfl (fun KQ hKQ => ?_) AllReadyH.nil
   go_simp
   refine hKQ.out _ _ ?_ (fun hHeld => ?_)
   ·(try dsimp only); repeat (first | exact Ext.refl _ | refine Ext.alloc ?_ _ | refine Ext.drew ?_)
   clear hKQ KQ
   try simp only [Act.put, s1, s2, s3]
   refine wpAnyH_ready (rs := [15]) (by kernel_rfl) (by simp) ?_
   refine AllReadyH.cons rfl (fun KQ hKQ => ?_) AllReadyH.nil
   go_simp
   refine hKQ.out _ _ ?_ (fun hHeld => ?_)
   ·(try dsimp only); repeat (first | exact Ext.refl _ | refine Ext.alloc ?_ _ | refine Ext.drew ?_)
   clear hKQ KQ
   try simp only [Act.put, s1, s2, s3]
   refine wpAnyH_done (by kernel_rfl) ?_ _
   clear hHeld
   refine hKK _ _ (Met.intro (hJJ _ _ ?_))
   repeat apply Exists.intro
   refine ⟨?_, rfl⟩
   repeat apply Exists.intro
   refine ⟨rfl, rfl, Lib.hid ?_, Lib.hid ?_, Lib.hid ?_, Lib.hid ?_, ?_⟩
   ·apply box_atU
    apply at_drewU
    repeat (first | (refine at_newU ?_; simp; done) | apply at_oldU)
   ·apply box_atU
    apply at_drewU
    repeat (first | (refine at_newU ?_; simp; done) | apply at_oldU)
   ·apply at_drewU
    repeat (first | (refine at_newU ?_; simp; done) | apply at_oldU)
   ·apply at_drewU
    repeat (first | (refine at_newU ?_; simp; done) | apply at_oldU)
   ·repeat (first | exact Ext.refl _ | refine Ext.alloc ?_ _ | refine Ext.drew ?_)
  case rest =>
   obtain ⟨g26, g27, gX, gY, rfl, rfl, hc1, hc2, hc3, hc4, kx⟩ := hcut
   have KX := Lib.hid kx
   have KC := Lib.hid (Ext.refl wc)
   clear kx
   have p10 : wc.cell? ⟨g1, 0, none⟩ = some (.int .i64 ((pvD RN).n : Int)) := RW.cell (X1.out.ext ((T2.out.trans (T3.out.trans (T4.out.trans (T5.out.trans (T6.out.trans (T7.out.trans T8.out)))))).trans (KX.out.trans KC.out))) (i := 0) (by omega)
   have p11 : wc.cell? ⟨g1, 1, none⟩ = some (.int .u64 ((pvD RN).t : Int)) := RW.cell (X1.out.ext ((T2.out.trans (T3.out.trans (T4.out.trans (T5.out.trans (T6.out.trans (T7.out.trans T8.out)))))).trans (KX.out.trans KC.out))) (i := 1) (by omega)
   have p12 : wc.cell? ⟨g1, 2, none⟩ = some (.slice AQ0 (pvD RN).q.length cQ0) := RW.cell (X1.out.ext ((T2.out.trans (T3.out.trans (T4.out.trans (T5.out.trans (T6.out.trans (T7.out.trans T8.out)))))).trans (KX.out.trans KC.out))) (i := 2) (by omega)
   have p13 : wc.cell? ⟨g1, 3, none⟩ = some (.int .i64 ((pvD RN).w : Int)) := RW.cell (X1.out.ext ((T2.out.trans (T3.out.trans (T4.out.trans (T5.out.trans (T6.out.trans (T7.out.trans T8.out)))))).trans (KX.out.trans KC.out))) (i := 3) (by omega)
   have p50 : wc.cell? ⟨g5, 0, none⟩ = some (.int .i64 ((pvD RN).n : Int)) := RW.cell (X5.out.ext ((T6.out.trans (T7.out.trans T8.out)).trans (KX.out.trans KC.out))) (i := 0) (by omega)
   have p51 : wc.cell? ⟨g5, 1, none⟩ = some (.int .u64 ((pvD RN).t : Int)) := RW.cell (X5.out.ext ((T6.out.trans (T7.out.trans T8.out)).trans (KX.out.trans KC.out))) (i := 1) (by omega)
   have p52 : wc.cell? ⟨g5, 2, none⟩ = some (.slice AQ4 (pvD RN).q.length cQ4) := RW.cell (X5.out.ext ((T6.out.trans (T7.out.trans T8.out)).trans (KX.out.trans KC.out))) (i := 2) (by omega)
   have p53 : wc.cell? ⟨g5, 3, none⟩ = some (.int .i64 ((pvD RN).w : Int)) := RW.cell (X5.out.ext ((T6.out.trans (T7.out.trans T8.out)).trans (KX.out.trans KC.out))) (i := 3) (by omega)
   go_wp2_with fail
   refine (sameParU (P1.out.ext ((T2.out.trans (T3.out.trans (T4.out.trans (T5.out.trans (T6.out.trans (T7.out.trans T8.out)))))).trans (KX.out.trans KC.out))) (P5.out.ext ((T6.out.trans (T7.out.trans T8.out)).trans (KX.out.trans KC.out)))).mono ?_
   clear p10 p11 p12 p13 p50 p51 p52 p53
   rintro e wd1 ⟨rfl, kd⟩
   replace KC := Lib.hid (KC.out.trans kd)
   clear kd
   have p20 : wd1.cell? ⟨g2, 0, none⟩ = some (.int .i64 ((pvD RC).n : Int)) := RW.cell (X2.out.ext ((T3.out.trans (T4.out.trans (T5.out.trans (T6.out.trans (T7.out.trans T8.out))))).trans (KX.out.trans KC.out))) (i := 0) (by omega)
   have p21 : wd1.cell? ⟨g2, 1, none⟩ = some (.int .u64 ((pvD RC).t : Int)) := RW.cell (X2.out.ext ((T3.out.trans (T4.out.trans (T5.out.trans (T6.out.trans (T7.out.trans T8.out))))).trans (KX.out.trans KC.out))) (i := 1) (by omega)
   have p22 : wd1.cell? ⟨g2, 2, none⟩ = some (.slice AQ1 (pvD RC).q.length cQ1) := RW.cell (X2.out.ext ((T3.out.trans (T4.out.trans (T5.out.trans (T6.out.trans (T7.out.trans T8.out))))).trans (KX.out.trans KC.out))) (i := 2) (by omega)
   have p23 : wd1.cell? ⟨g2, 3, none⟩ = some (.int .i64 ((pvD RC).w : Int)) := RW.cell (X2.out.ext ((T3.out.trans (T4.out.trans (T5.out.trans (T6.out.trans (T7.out.trans T8.out))))).trans (KX.out.trans KC.out))) (i := 3) (by omega)
   have p60 : wd1.cell? ⟨g6, 0, none⟩ = some (.int .i64 ((pvD RC).n : Int)) := RW.cell (X6.out.ext ((T7.out.trans T8.out).trans (KX.out.trans KC.out))) (i := 0) (by omega)
   have p61 : wd1.cell? ⟨g6, 1, none⟩ = some (.int .u64 ((pvD RC).t : Int)) := RW.cell (X6.out.ext ((T7.out.trans T8.out).trans (KX.out.trans KC.out))) (i := 1) (by omega)
   have p62 : wd1.cell? ⟨g6, 2, none⟩ = some (.slice AQ5 (pvD RC).q.length cQ5) := RW.cell (X6.out.ext ((T7.out.trans T8.out).trans (KX.out.trans KC.out))) (i := 2) (by omega)
   have p63 : wd1.cell? ⟨g6, 3, none⟩ = some (.int .i64 ((pvD RC).w : Int)) := RW.cell (X6.out.ext ((T7.out.trans T8.out).trans (KX.out.trans KC.out))) (i := 3) (by omega)
   go_wp2_with fail
   refine (sameParU (P2.out.ext ((T3.out.trans (T4.out.trans (T5.out.trans (T6.out.trans (T7.out.trans T8.out))))).trans (KX.out.trans KC.out))) (P6.out.ext ((T7.out.trans T8.out).trans (KX.out.trans KC.out)))).mono ?_
   clear p20 p21 p22 p23 p60 p61 p62 p63
   rintro e wd2 ⟨rfl, kd⟩
   replace KC := Lib.hid (KC.out.trans kd)
   clear kd
   have p30 : wd2.cell? ⟨g3, 0, none⟩ = some (.int .i64 ((pvD RP).n : Int)) := RW.cell (X3.out.ext ((T4.out.trans (T5.out.trans (T6.out.trans (T7.out.trans T8.out)))).trans (KX.out.trans KC.out))) (i := 0) (by omega)
   have p31 : wd2.cell? ⟨g3, 1, none⟩ = some (.int .u64 ((pvD RP).t : Int)) := RW.cell (X3.out.ext ((T4.out.trans (T5.out.trans (T6.out.trans (T7.out.trans T8.out)))).trans (KX.out.trans KC.out))) (i := 1) (by omega)
   have p32 : wd2.cell? ⟨g3, 2, none⟩ = some (.slice AQ2 (pvD RP).q.length cQ2) := RW.cell (X3.out.ext ((T4.out.trans (T5.out.trans (T6.out.trans (T7.out.trans T8.out)))).trans (KX.out.trans KC.out))) (i := 2) (by omega)
   have p33 : wd2.cell? ⟨g3, 3, none⟩ = some (.int .i64 ((pvD RP).w : Int)) := RW.cell (X3.out.ext ((T4.out.trans (T5.out.trans (T6.out.trans (T7.out.trans T8.out)))).trans (KX.out.trans KC.out))) (i := 3) (by omega)
   have p70 : wd2.cell? ⟨g7, 0, none⟩ = some (.int .i64 ((pvD RP).n : Int)) := RW.cell (X7.out.ext (T8.out.trans (KX.out.trans KC.out))) (i := 0) (by omega)
   have p71 : wd2.cell? ⟨g7, 1, none⟩ = some (.int .u64 ((pvD RP).t : Int)) := RW.cell (X7.out.ext (T8.out.trans (KX.out.trans KC.out))) (i := 1) (by omega)
   have p72 : wd2.cell? ⟨g7, 2, none⟩ = some (.slice AQ6 (pvD RP).q.length cQ6) := RW.cell (X7.out.ext (T8.out.trans (KX.out.trans KC.out))) (i := 2) (by omega)
   have p73 : wd2.cell? ⟨g7, 3, none⟩ = some (.int .i64 ((pvD RP).w : Int)) := RW.cell (X7.out.ext (T8.out.trans (KX.out.trans KC.out))) (i := 3) (by omega)
   go_wp2_with fail
   refine (sameParU (P3.out.ext ((T4.out.trans (T5.out.trans (T6.out.trans (T7.out.trans T8.out)))).trans (KX.out.trans KC.out))) (P7.out.ext (T8.out.trans (KX.out.trans KC.out)))).mono ?_
   clear p30 p31 p32 p33 p70 p71 p72 p73
   rintro e wd3 ⟨rfl, kd⟩
   replace KC := Lib.hid (KC.out.trans kd)
   clear kd
   have p40 : wd3.cell? ⟨g4, 0, none⟩ = some (.int .i64 ((pvD RS4).n : Int)) := RW.cell (X4.out.ext ((T5.out.trans (T6.out.trans (T7.out.trans T8.out))).trans (KX.out.trans KC.out))) (i := 0) (by omega)
   have p41 : wd3.cell? ⟨g4, 1, none⟩ = some (.int .u64 ((pvD RS4).t : Int)) := RW.cell (X4.out.ext ((T5.out.trans (T6.out.trans (T7.out.trans T8.out))).trans (KX.out.trans KC.out))) (i := 1) (by omega)
   have p42 : wd3.cell? ⟨g4, 2, none⟩ = some (.slice AQ3 (pvD RS4).q.length cQ3) := RW.cell (X4.out.ext ((T5.out.trans (T6.out.trans (T7.out.trans T8.out))).trans (KX.out.trans KC.out))) (i := 2) (by omega)
   have p43 : wd3.cell? ⟨g4, 3, none⟩ = some (.int .i64 ((pvD RS4).w : Int)) := RW.cell (X4.out.ext ((T5.out.trans (T6.out.trans (T7.out.trans T8.out))).trans (KX.out.trans KC.out))) (i := 3) (by omega)
   have p80 : wd3.cell? ⟨g8, 0, none⟩ = some (.int .i64 ((pvD RS4).n : Int)) := RW.cell (X8.out.ext (KX.out.trans KC.out)) (i := 0) (by omega)
   have p81 : wd3.cell? ⟨g8, 1, none⟩ = some (.int .u64 ((pvD RS4).t : Int)) := RW.cell (X8.out.ext (KX.out.trans KC.out)) (i := 1) (by omega)
   have p82 : wd3.cell? ⟨g8, 2, none⟩ = some (.slice AQ7 (pvD RS4).q.length cQ7) := RW.cell (X8.out.ext (KX.out.trans KC.out)) (i := 2) (by omega)
   have p83 : wd3.cell? ⟨g8, 3, none⟩ = some (.int .i64 ((pvD RS4).w : Int)) := RW.cell (X8.out.ext (KX.out.trans KC.out)) (i := 3) (by omega)
   go_wp2_with fail
   refine (sameParU (P4.out.ext ((T5.out.trans (T6.out.trans (T7.out.trans T8.out))).trans (KX.out.trans KC.out))) (P8.out.ext (KX.out.trans KC.out))).mono ?_
   clear p40 p41 p42 p43 p80 p81 p82 p83
   rintro e wd4 ⟨rfl, kd⟩
   replace KC := Lib.hid (KC.out.trans kd)
   clear kd
   have y2 := cell_ext ((T3.out.trans (T4.out.trans (T5.out.trans (T6.out.trans (T7.out.trans T8.out))))).trans (KX.out.trans KC.out)) Y2.out
   have y6 := cell_ext ((T7.out.trans T8.out).trans (KX.out.trans KC.out)) Y6.out
   go_wp2_with fail
   clear y2 y6
   refine (same12U B1 B5 m1 m5 c11 c15 (xD RC) wd4 (Lib.hid (elsR_stays (ts := [22, 23, 31]) (by decide) (by decide) (by decide) _ _ _ _ (Keeps.ext (E2.out.2.trans ((T3.out.trans (T4.out.trans (T5.out.trans (T6.out.trans (T7.out.trans T8.out))))).trans (KX.out.trans KC.out)))) E2.out.1)) (Lib.hid (elsR_stays (ts := [22, 23, 31]) (by decide) (by decide) (by decide) _ _ _ _ (Keeps.ext (E6.out.2.trans ((T7.out.trans T8.out).trans (KX.out.trans KC.out)))) E6.out.1)) (Lib.hid (by rw [HRC.out]; exact short_cip l))).mono ?_
   rintro e wd5 ⟨rfl, kd⟩
   replace KC := Lib.hid (KC.out.trans kd)
   clear kd
   have z1 := cell_ext KC.out hc1.out
   have z2 := cell_ext KC.out hc2.out
   have S1 := Lib.hid (elsR_two ((KC.out.block gX (Array.getElem?_eq_some_iff.1 hc3.out).1).trans hc3.out) (elR_stays (ts := [22, 23]) (by decide) (by decide) _ _ _ _ (Keeps.ext (F3.out.2.trans ((T4.out.trans (T5.out.trans (T6.out.trans (T7.out.trans T8.out)))).trans (KX.out.trans KC.out)))) F3.out.1) (elR_stays (ts := [22, 23]) (by decide) (by decide) _ _ _ _ (Keeps.ext (E3.out.2.trans ((T4.out.trans (T5.out.trans (T6.out.trans (T7.out.trans T8.out)))).trans (KX.out.trans KC.out)))) E3.out.1))
   have S2 := Lib.hid (elsR_two ((KC.out.block gY (Array.getElem?_eq_some_iff.1 hc4.out).1).trans hc4.out) (elR_stays (ts := [22, 23]) (by decide) (by decide) _ _ _ _ (Keeps.ext (F7.out.2.trans (T8.out.trans (KX.out.trans KC.out)))) F7.out.1) (elR_stays (ts := [22, 23]) (by decide) (by decide) _ _ _ _ (Keeps.ext (E7.out.2.trans (T8.out.trans (KX.out.trans KC.out)))) E7.out.1))
   go_wp2_with fail
   clear z1 z2
   refine (same12U (some ⟨gX, 0, none⟩) (some ⟨gY, 0, none⟩) 2 2 2 2 [(xD RP).getD 1 [], (xD RP).getD 0 []] wd5 S1 S2 (Lib.hid (short_two (by rw [HRP.out]; exact short_pub l 1) (by rw [HRP.out]; exact short_pub l 0)))).mono ?_
   rintro e wd6 ⟨rfl, kd⟩
   replace KC := Lib.hid (KC.out.trans kd)
   clear kd
   go_wp2_with fail
   refine (sameSgU (sgR_stays (ts := [2]) (by decide) _ _ _ _ (Keeps.ext (E4.out.2.trans ((T5.out.trans (T6.out.trans (T7.out.trans T8.out))).trans (KX.out.trans KC.out)))) E4.out.1) (sgR_stays (ts := [2]) (by decide) _ _ _ _ (Keeps.ext (E8.out.2.trans (KX.out.trans KC.out))) E8.out.1) (by rw [HRS4.out]; exact short_sec l)).mono ?_
   rintro e wd7 ⟨rfl, kd⟩
   replace KC := Lib.hid (KC.out.trans kd)
   clear kd
   go_wp2_with fail
   go_ret
   exact ⟨rfl, K1.out.trans (KV.out.trans (KX.out.trans KC.out))⟩
 ·have i1 : (20000 : Int) < (n : Int) := by omega
  go_wp2
  go_ret
  exact ⟨rfl, K0.out⟩
end Go.Proofs.YtkbcobjhlpjieaaGreatDoor
