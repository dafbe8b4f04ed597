import Derived.Test.YtjikdbcjabopnaaGreatDoorJ38
import Derived.Test.YtjikdbcjabopnaaGreatDoorJGCopy
import Derived.Test.YtjikdbcjabopnaaGreatDoorJ40
namespace Go.Proofs.YtjikdbcjabopnaaGreatDoor
open Go.RowKit
set_option linter.unusedVariables false
set_option linter.unusedSimpArgs false
set_option maxRecDepth 100000
set_option maxHeartbeats 4000000 in
theorem evNew_any {n T L c : Nat} {Wd : Int} {A : Option Addr} {q : Nat → Nat} {w : World} (hP : Hid (PA w (n : Int) T A L c Wd q)) (hok : Hid (ParP (n : Int) T L q Wd)) (hn : n ≤ 32) (hT : Tabs w) :
    Calls Tryz.prog 10 #[.agg #[.int .i64 (n : Int), .int .u64 (T : Int), .slice A L c, .int .i64 Wd]] w fun ee w' => ∃ (v s r b : Nat) (A' : Option Addr) (c' : Nat), ee = .returned (.tuple #[.pointer (some ⟨v, 0, none⟩), .int .i64 0]) ∧ Hid (Ev w' v n T L Wd q s r b A' c') ∧ Ext w w' := by
 have HT := Lib.hid hT
 clear hT
 have kV : Ext w (w.alloc (.cells #[.int .i64 (n : Int), .int .u64 (T : Int), .slice A L c, .int .i64 Wd] 25)) := (Ext.refl w).alloc _
 obtain ⟨x0, x1, x2, x3⟩ := four_at w (.int .i64 (n : Int)) (.int .u64 (T : Int)) (.slice A L c) (.int .i64 Wd) 25
 have hrow := heap_alloc_new w (.cells #[.int .i64 (n : Int), .int .u64 (T : Int), .slice A L c, .int .i64 Wd] 25)
 obtain ⟨n', W0, hn', hW0, hk⟩ := par_k hok.out
 have hl1 := hk.l1
 have hl8 := hk.l8
 obtain ⟨ad, rfl, _⟩ := hP.out.fx.cells (by omega)
 clear hk hn' hW0
 go_enter Tryz.func10, Tryz.ntmps10
 go_wp2_with fail
 generalize w.alloc (.cells #[.int .i64 (n : Int), .int .u64 (T : Int), .slice (some ad) L c, .int .i64 Wd] 25) = V at *
 refine (scaleNew_any (Lib.hid (hP.out.ext kV)) hok hn (HT.out.ext kV)).mono ?_
 rintro ee w1 ⟨s, rfl, hsc, k1⟩
 have HS := Lib.hid hsc
 clear hsc
 replace x0 := cell_ext k1 x0
 replace x1 := cell_ext k1 x1
 replace x2 := cell_ext k1 x2
 replace x3 := cell_ext k1 x3
 replace hrow := row_ext hrow k1
 replace kV := kV.trans k1
 go_wp2_with fail
 refine (bnew_any (hP.out.ext kV) (by omega) (by omega) (HT.out.ext kV)).mono ?_
 rintro ee w2 hb
 have HB := Lib.hid hb
 clear hb
 obtain ⟨hno, _⟩ | ⟨_, b, k, r', v', x', hF, hr', rfl, hbt, k2⟩ := HB.out
 ·exact absurd hok.out hno
 have HBT := Lib.hid hbt
 clear hbt HB
 replace x0 := cell_ext k2 x0
 replace x1 := cell_ext k2 x1
 replace x2 := cell_ext k2 x2
 replace x3 := cell_ext k2 x3
 replace hrow := row_ext hrow k2
 replace kV := kV.trans k2
 go_wp2_with fail
 refine (clone_any ad L c q _ (hP.out.fx.ext kV) (by omega) (Lib.hid hP.out.words)).mono ?_
 rintro ee w3 ⟨A2, c2, rfl, hx2, k3⟩
 replace x0 := cell_ext k3 x0
 replace x1 := cell_ext k3 x1
 replace x2 := cell_ext k3 x2
 replace x3 := cell_ext k3 x3
 replace hrow := row_ext hrow k3
 replace kV := kV.trans k3
 have z2 := row_z hrow 2
 have hR := parB_row hrow
 have HS2 := Lib.hid ((HS.out.ext (k2.trans k3)).onP hR (x := .slice A2 L c2))
 have HB2 := Lib.hid ((HBT.out.ext k3).onP hR (x := .slice A2 L c2))
 have HX2 := Lib.hid (hx2.onP hR (x := .slice A2 L c2))
 have y0 := st_cell hR x0 (fun _ _ _ e => by cases e) (x := .slice A2 L c2)
 have y1 := st_cell hR x1 (fun _ _ _ e => by cases e) (x := .slice A2 L c2)
 have y3 := st_cell hR x3 (fun _ _ _ e => by cases e) (x := .slice A2 L c2)
 have y2 : (w3.setCell ⟨w.heap.size, 2, none⟩ (.slice A2 L c2)).cell? ⟨w.heap.size, 2, none⟩ = some (.slice A2 L c2) := World.cell?_setCell_same _ _ _ x2
 have kS := Ext.set (p := ⟨w.heap.size, 2, none⟩) kV (Nat.le_refl _) (.slice A2 L c2)
 have hp0 := hP.out.n0
 have hp1 := hP.out.n1
 have hpt := hP.out.t1
 have hw0 := hP.out.w0
 have hw1 := hP.out.w1
 have HW := Lib.hid hP.out.words
 have HF := Lib.hid hF
 clear hx2 hrow hR x0 x1 k1 k2 k3 hF
 go_wp2_with fail
 generalize w3.setCell ⟨w.heap.size, 2, none⟩ (.slice A2 L c2) = V3 at *
 have kk : Ext V3 V3 := Ext.refl V3
 go_region_held3 (fun w' => w'.cell? ⟨w.heap.size, 0, none⟩ = some (.int .i64 (n : Int)) ∧ w'.cell? ⟨w.heap.size, 1, none⟩ = some (.int .u64 (T : Int)) ∧ w'.cell? ⟨w.heap.size, 2, none⟩ = some (.slice A2 L c2) ∧ w'.cell? ⟨w.heap.size, 3, none⟩ = some (.int .i64 Wd)) (go_keep)
  (first
   | (go_at_call 49; refine (Ring_any (Lib.hid (HS2.out.ext (by first | exact Ext.drew (Ext.refl _) | exact Ext.refl _)))).mono ?_; rintro e5 w5 ⟨r, p, a, e, rfl, hrg, k5⟩; have HRG := Lib.hid hrg; clear hrg; replace kk := Ext.trans (by first | exact Ext.drew (Ext.refl _) | exact Ext.refl _) k5; have d0 := cell_ext kk y0; have d1 := cell_ext kk y1; have d2 := cell_ext kk y2; have d3 := cell_ext kk y3)
   | fail)
 have ke : Ext w5 (w5.alloc (.cells #[.int .i64 (n : Int), .int .u64 (T : Int), .slice A2 L c2, .int .i64 Wd, .pointer (some ⟨s, 0, none⟩), .pointer (some ⟨r, 0, none⟩), .pointer (some ⟨b, 0, none⟩)] 87)) := (Ext.refl _).alloc _
 obtain ⟨e0, e1, e2, e3, e4, e5, e6⟩ := seven_at w5 (.int .i64 (n : Int)) (.int .u64 (T : Int)) (.slice A2 L c2) (.int .i64 Wd) (.pointer (some ⟨s, 0, none⟩)) (.pointer (some ⟨r, 0, none⟩)) (.pointer (some ⟨b, 0, none⟩)) 87
 have HEV : Hid (Ev (w5.alloc (.cells #[.int .i64 (n : Int), .int .u64 (T : Int), .slice A2 L c2, .int .i64 Wd, .pointer (some ⟨s, 0, none⟩), .pointer (some ⟨r, 0, none⟩), .pointer (some ⟨b, 0, none⟩)] 87)) w5.heap.size n T L Wd q s r b A2 c2) := Lib.hid ⟨e0, e1, e2, e3, e4, e5, e6, ⟨hp0, hp1, hpt, hw0, hw1, HX2.out.ext (kk.trans ke), by omega, HW.out⟩, HS2.out.ext (kk.trans ke), ⟨p, a, e, HRG.out.ext ke⟩, ⟨k, r', v', x', HF.out, by rw [hr'.out, Int.toNat_natCast], by have := HB2.out.ext (kk.trans ke); rwa [Int.toNat_natCast] at this⟩⟩
 have KE := Lib.hid (kS.trans (kk.trans ke))
 clear e0 e1 e2 e3 e4 e5 e6 ke kS
 go_wp2
 go_ret2
 exact ⟨w5.heap.size, s, r, b, A2, c2, rfl, Lib.hid HEV.out, KE.out⟩
theorem cLevel_yes {n T L c : Nat} {Wd : Int} {A : Option Addr} {q : Nat → Nat} (B : Option Addr) (m d M : Nat) (Aj : Nat → Option Addr) (Lj cj : Nat → Nat) (Bs : Nat → Nat → Option Addr) (ns cs : Nat → Nat → Nat) (f : Nat → Nat → Nat → Nat) (w : World) (hP : Hid (PA w (n : Int) T A L c Wd q)) (hL : L ≤ 100) (hN : n ≤ 32) (hT : Tabs w) (hok : Hid (ParP (n : Int) T L q Wd)) (hQ : Hid (QP w B m d Aj Lj cj Bs ns cs f)) (hm2 : 2 ≤ m) (hm : m ≤ 3) (hA : Hid (AreP n L q m Lj ns f ((M : Int) - 1))) :
    Calls Tryz.prog 121 #[.agg #[.int .i64 (n : Int), .int .u64 (T : Int), .slice A L c, .int .i64 Wd], .agg #[.slice B m d]] w fun ee w' => ee = .returned (.tuple #[.int .i64 ((M : Int) - 1), .int .i64 0]) ∧ Ext w w' := by
 have HT := Lib.hid hT
 clear hT
 have k0 : Ext w ((w.alloc (.cells #[.int .i64 (n : Int), .int .u64 (T : Int), .slice A L c, .int .i64 Wd] 25)).alloc (.cells #[.slice B m d] 28)) := ((Ext.refl w).alloc _).alloc _
 have ka : Ext (w.alloc (.cells #[.int .i64 (n : Int), .int .u64 (T : Int), .slice A L c, .int .i64 Wd] 25)) ((w.alloc (.cells #[.int .i64 (n : Int), .int .u64 (T : Int), .slice A L c, .int .i64 Wd] 25)).alloc (.cells #[.slice B m d] 28)) := (Ext.refl _).alloc _
 obtain ⟨x0, x1, x2, x3⟩ := four_at w (.int .i64 (n : Int)) (.int .u64 (T : Int)) (.slice A L c) (.int .i64 Wd) 25
 have xc := one_at (w.alloc (.cells #[.int .i64 (n : Int), .int .u64 (T : Int), .slice A L c, .int .i64 Wd] 25)) (.slice B m d) 28
 rw [show (w.alloc (.cells #[.int .i64 (n : Int), .int .u64 (T : Int), .slice A L c, .int .i64 Wd] 25)).heap.size = w.heap.size + 1 by simp] at xc
 replace x0 := cell_ext ka x0
 replace x1 := cell_ext ka x1
 replace x2 := cell_ext ka x2
 replace x3 := cell_ext ka x3
 clear ka
 go_enter Tryz.func121, Tryz.ntmps121
 go_wp2_with fail
 generalize ((w.alloc (.cells #[.int .i64 (n : Int), .int .u64 (T : Int), .slice A L c, .int .i64 Wd] 25)).alloc (.cells #[.slice B m d] 28)) = V at *
 refine (scheme_any V (Lib.hid (hP.out.ext k0)) hL hN (HT.out.ext k0) hok).mono ?_
 rintro ee V1 ⟨r, pp, a, e, rfl, hrg, k1⟩
 have HRG := Lib.hid hrg
 clear hrg
 have ka : Ext V1 (V1.alloc (.cells #[.int .i64 (n : Int), .int .u64 (T : Int), .slice A L c, .int .i64 Wd, .pointer (some ⟨r, 0, none⟩)] 239)) := (Ext.refl _).alloc _
 obtain ⟨y0, y1, y2, y3, y4⟩ := sch_at V1 (.int .i64 (n : Int)) (.int .u64 (T : Int)) (.slice A L c) (.int .i64 Wd) (.pointer (some ⟨r, 0, none⟩)) 239
 replace xc := cell_ext (k1.trans ka) xc
 have K := Lib.hid (k0.trans (k1.trans ka))
 have HRG2 := Lib.hid (HRG.out.ext ka)
 clear k1 k0 ka x0 x1 x2 x3
 go_wp2_with fail
 generalize V1.alloc (.cells #[.int .i64 (n : Int), .int .u64 (T : Int), .slice A L c, .int .i64 Wd, .pointer (some ⟨r, 0, none⟩)] 239) = V2 at *
 refine (level_yes m d M n L r (n : Int) Wd T L c A B q pp a e Aj Lj cj Bs ns cs f V2 HRG2.out (hQ.out.ext K.out) hm2 hm hA).mono ?_
 rintro ee V3 ⟨rfl, k3⟩
 have K := Lib.hid (K.out.trans k3)
 obtain ⟨z, hz⟩ : ∃ z : Int, z = (M : Int) - 1 := ⟨_, rfl⟩
 rw [← hz]
 have HZ := Lib.hid hz
 clear k3 hz hA
 go_wp2
 go_ret2
 exact ⟨by first | rfl | (simp; exact HZ.out), K.out⟩
set_option maxHeartbeats 4000000 in
theorem evLevel_any {v n T L : Nat} {Wd : Int} {q : Nat → Nat} {s r b : Nat} {A : Option Addr} {c : Nat} (B : Option Addr) (m d M : Nat) (Aj : Nat → Option Addr) (Lj cj : Nat → Nat) (Bs : Nat → Nat → Option Addr) (ns cs : Nat → Nat → Nat) (f : Nat → Nat → Nat → Nat) (w : World) (hE : Hid (Ev w v n T L Wd q s r b A c)) (hL : L ≤ 100) (hN : n ≤ 32) (hT : Hid (Tabs w)) (hok : Hid (ParP (n : Int) T L q Wd)) (hQ : Hid (QP w B m d Aj Lj cj Bs ns cs f)) (hm2 : 2 ≤ m) (hm : m ≤ 3) (hA : Hid (AreP n L q m Lj ns f ((M : Int) - 1))) :
    Calls Tryz.prog 57 #[.pointer (some ⟨v, 0, none⟩), .agg #[.slice B m d]] w fun ee w' => ee = .returned (.tuple #[.int .i64 ((M : Int) - 1), .int .i64 0]) ∧ Ext w w' := by
 have k0 : Ext w (w.alloc (.cells #[.slice B m d] 28)) := (Ext.refl w).alloc _
 have xc := one_at w (.slice B m d) 28
 have e0 := cell_ext k0 hE.out.c0
 have e1 := cell_ext k0 hE.out.c1
 have e2 := cell_ext k0 hE.out.c2
 have e3 := cell_ext k0 hE.out.c3
 have e4 := cell_ext k0 hE.out.c4
 obtain ⟨z, hz⟩ : ∃ z : Int, z = (M : Int) - 1 := ⟨_, rfl⟩
 have HL := Lib.hid (fun (w' : World) (k : Ext w w') => cLevel_yes B m d M Aj Lj cj Bs ns cs f w' (Lib.hid (hE.out.pa.ext k)) hL hN (hT.out.ext k) hok (Lib.hid (hQ.out.ext k)) hm2 hm hA)
 rw [← hz] at HL ⊢
 clear hA hz hQ
 go_enter Tryz.func57, Tryz.ntmps57
 go_wp2_with fail
 generalize w.alloc (.cells #[.slice B m d] 28) = V at *
 have kk : Ext V V := Ext.refl V
 go_region_held3 (fun w' => w'.cell? ⟨v, 0, none⟩ = some (.int .i64 (n : Int)) ∧ w'.cell? ⟨v, 1, none⟩ = some (.int .u64 (T : Int)) ∧ w'.cell? ⟨v, 2, none⟩ = some (.slice A L c) ∧ w'.cell? ⟨v, 3, none⟩ = some (.int .i64 Wd) ∧ w'.cell? ⟨w.heap.size, 0, none⟩ = some (.slice B m d)) (go_keep)
  (first
   | (go_at_call 121; refine (HL.out _ (Ext.trans k0 (by first | with_reducible exact Ext.drew (Ext.refl _) | with_reducible exact Ext.refl _))).mono ?_; rintro e5 w5 ⟨rfl, k5⟩; replace kk := Ext.trans (by first | with_reducible exact Ext.drew (Ext.refl _) | with_reducible exact Ext.refl _) k5; have d0 := cell_ext kk e0; have d1 := cell_ext kk e1; have d2 := cell_ext kk e2; have d3 := cell_ext kk e3; have d4 := cell_ext kk xc)
   | fail)
 have K := Lib.hid (k0.trans kk)
 clear k0 kk
 go_wp2
 go_ret2
 exact ⟨by first | rfl | simp, K.out⟩
set_option maxHeartbeats 4000000 in
theorem evLevels_any {v n T L : Nat} {Wd : Int} {q : Nat → Nat} {s r b : Nat} {A : Option Addr} {c : Nat} (B : Option Addr) (m d M : Nat) (Aj : Nat → Option Addr) (Lj cj : Nat → Nat) (Bs : Nat → Nat → Option Addr) (ns cs : Nat → Nat → Nat) (f : Nat → Nat → Nat → Nat) (B' : Option Addr) (m' d' M' : Nat) (Aj' : Nat → Option Addr) (Lj' cj' : Nat → Nat) (Bs' : Nat → Nat → Option Addr) (ns' cs' : Nat → Nat → Nat) (f' : Nat → Nat → Nat → Nat) (w : World) (hE : Hid (Ev w v n T L Wd q s r b A c)) (hL : L ≤ 100) (hN : n ≤ 32) (hT : Hid (Tabs w)) (hok : Hid (ParP (n : Int) T L q Wd)) (hQ : Hid (QP w B m d Aj Lj cj Bs ns cs f)) (hm2 : 2 ≤ m) (hm : m ≤ 3) (hA : Hid (AreP n L q m Lj ns f ((M : Int) - 1))) (hQ' : Hid (QP w B' m' d' Aj' Lj' cj' Bs' ns' cs' f')) (hm2' : 2 ≤ m') (hm' : m' ≤ 3) (hA' : Hid (AreP n L q m' Lj' ns' f' ((M' : Int) - 1))) :
    Calls Tryz.prog 55 #[.pointer (some ⟨v, 0, none⟩), .agg #[.slice B m d], .agg #[.slice B' m' d']] w fun ee w' => ee = .returned (.tuple #[.int .i64 ((M : Int) - 1), .int .i64 ((M' : Int) - 1), .int .i64 0]) ∧ Ext w w' := by
 have k0 : Ext w ((w.alloc (.cells #[.slice B m d] 28)).alloc (.cells #[.slice B' m' d'] 28)) := ((Ext.refl w).alloc _).alloc _
 have x0 := cell_ext ((Ext.refl _).alloc (.cells #[.slice B' m' d'] 28)) (one_at w (.slice B m d) 28)
 have x1 := one_at (w.alloc (.cells #[.slice B m d] 28)) (.slice B' m' d') 28
 rw [show (w.alloc (.cells #[.slice B m d] 28)).heap.size = w.heap.size + 1 by simp] at x1
 have HL := Lib.hid (fun (w' : World) (k : Ext w w') => evLevel_any B m d M Aj Lj cj Bs ns cs f w' (Lib.hid (hE.out.ext k)) hL hN (Lib.hid (hT.out.ext k)) hok (Lib.hid (hQ.out.ext k)) hm2 hm hA)
 have HL' := Lib.hid (fun (w' : World) (k : Ext w w') => evLevel_any B' m' d' M' Aj' Lj' cj' Bs' ns' cs' f' w' (Lib.hid (hE.out.ext k)) hL hN (Lib.hid (hT.out.ext k)) hok (Lib.hid (hQ'.out.ext k)) hm2' hm' hA')
 obtain ⟨z, hz⟩ : ∃ z : Int, z = (M : Int) - 1 := ⟨_, rfl⟩
 obtain ⟨z', hz'⟩ : ∃ z : Int, z = (M' : Int) - 1 := ⟨_, rfl⟩
 rw [← hz] at HL ⊢
 rw [← hz'] at HL' ⊢
 clear hA hz hQ hA' hz' hQ'
 go_enter Tryz.func55, Tryz.ntmps55
 go_wp2_with fail
 generalize ((w.alloc (.cells #[.slice B m d] 28)).alloc (.cells #[.slice B' m' d'] 28)) = V at *
 refine (HL.out _ k0).mono ?_
 rintro e1 w1 ⟨rfl, k1⟩
 replace x1 := cell_ext k1 x1
 replace k0 := k0.trans k1
 clear k1 x0
 go_wp2_with fail
 refine (HL'.out _ k0).mono ?_
 rintro e2 w2 ⟨rfl, k2⟩
 have K := Lib.hid (k0.trans k2)
 clear k0 k2 x1
 go_wp2
 refine bodyPost_ret (v := .tuple #[.int .i64 z, .int .i64 z', .int .i64 0]) (by simp [results, Tryz.results55, go_sem]) rfl ?_
 exact ⟨by first | rfl | simp, K.out⟩
set_option maxHeartbeats 4000000 in
theorem evAdd_lvl {v n T L : Nat} {Wd : Int} {q : Nat → Nat} {s r b : Nat} {A : Option Addr} {c : Nat} (B : Option Addr) (m d M : Nat) (Aj : Nat → Option Addr) (Lj cj : Nat → Nat) (Bs : Nat → Nat → Option Addr) (ns cs : Nat → Nat → Nat) (f : Nat → Nat → Nat → Nat) (B' : Option Addr) (m' d' M' : Nat) (Aj' : Nat → Option Addr) (Lj' cj' : Nat → Nat) (Bs' : Nat → Nat → Option Addr) (ns' cs' : Nat → Nat → Nat) (f' : Nat → Nat → Nat → Nat) (w : World) (hE : Hid (Ev w v n T L Wd q s r b A c)) (hL : L ≤ 100) (hN : n ≤ 32) (hT : Hid (Tabs w)) (hok : Hid (ParP (n : Int) T L q Wd)) (hQ : Hid (QP w B m d Aj Lj cj Bs ns cs f)) (hm2 : 2 ≤ m) (hm : m ≤ 3) (hA : Hid (AreP n L q m Lj ns f ((M : Int) - 1))) (hQ' : Hid (QP w B' m' d' Aj' Lj' cj' Bs' ns' cs' f')) (hm2' : 2 ≤ m') (hm' : m' ≤ 3) (hA' : Hid (AreP n L q m' Lj' ns' f' ((M' : Int) - 1))) (hne : M ≠ M') :
    Calls Tryz.prog 13 #[.pointer (some ⟨v, 0, none⟩), .agg #[.slice B m d], .agg #[.slice B' m' d']] w fun ee w' => ee = .returned (.tuple #[.agg #[.slice none 0 0], .int .i64 10]) ∧ Ext w w' := by
 have k0 : Ext w (((w.alloc (.cells #[.slice B m d] 28)).alloc (.cells #[.slice B' m' d'] 28)).alloc (.cells #[.slice none 0 0] 28)) := (((Ext.refl w).alloc _).alloc _).alloc _
 have x0 := cell_ext (((Ext.refl _).alloc (.cells #[.slice B' m' d'] 28)).alloc (.cells #[.slice none 0 0] 28)) (one_at w (.slice B m d) 28)
 have x1 := cell_ext ((Ext.refl _).alloc (.cells #[.slice none 0 0] 28)) (one_at (w.alloc (.cells #[.slice B m d] 28)) (.slice B' m' d') 28)
 rw [show (w.alloc (.cells #[.slice B m d] 28)).heap.size = w.heap.size + 1 by simp] at x1
 have hr := heap_alloc_new ((w.alloc (.cells #[.slice B m d] 28)).alloc (.cells #[.slice B' m' d'] 28)) (.cells #[.slice none 0 0] 28)
 rw [show ((w.alloc (.cells #[.slice B m d] 28)).alloc (.cells #[.slice B' m' d'] 28)).heap.size = w.heap.size + 2 by simp] at hr
 have HL := Lib.hid (fun (w' : World) (k : Ext w w') => evLevels_any B m d M Aj Lj cj Bs ns cs f B' m' d' M' Aj' Lj' cj' Bs' ns' cs' f' w' (Lib.hid (hE.out.ext k)) hL hN (Lib.hid (hT.out.ext k)) hok (Lib.hid (hQ.out.ext k)) hm2 hm hA (Lib.hid (hQ'.out.ext k)) hm2' hm' hA')
 obtain ⟨z, hz⟩ : ∃ z : Int, z = (M : Int) - 1 := ⟨_, rfl⟩
 obtain ⟨z', hz'⟩ : ∃ z : Int, z = (M' : Int) - 1 := ⟨_, rfl⟩
 rw [← hz, ← hz'] at HL
 have e1 : (z == z') = false := by simp; omega
 have e2 : (z != z') = true := by simp; omega
 clear hne
 clear hA hz hQ hA' hz' hQ'
 go_enter Tryz.func13, Tryz.ntmps13
 go_wp2_with fail
 generalize (((w.alloc (.cells #[.slice B m d] 28)).alloc (.cells #[.slice B' m' d'] 28)).alloc (.cells #[.slice none 0 0] 28)) = V at *
 refine (HL.out _ k0).mono ?_
 rintro e1 w1 ⟨rfl, k1⟩
 replace x0 := cell_ext k1 x0
 replace x1 := cell_ext k1 x1
 have hrow := (k1.block (w.heap.size + 2) (Array.getElem?_eq_some_iff.1 hr).1).trans hr
 have z0 : w1.frozen? ⟨w.heap.size + 2, 0, none⟩ = false := by simp [World.frozen?, hrow]
 have c0 : w1.cell? ⟨w.heap.size + 2, 0, none⟩ = some (.slice none 0 0) := by rw [cell_of_row w1 _ 0 _ _ (0, 0) hrow]; rfl
 have K := Lib.hid (Ext.set (p := ⟨w.heap.size + 2, 0, none⟩) (k0.trans k1) (by show w.heap.size ≤ w.heap.size + 2; omega) (.slice none 0 0))
 clear k0 k1 hr hrow HL
 go_wp2
 refine bodyPost_ret (v := .tuple #[.agg #[.slice none 0 0], .int .i64 10]) (by simp [results, Tryz.results13, go_sem, c0]) rfl ?_
 exact ⟨by first | rfl | simp, K.out⟩
set_option maxHeartbeats 4000000 in
theorem evMul_three {v n T L : Nat} {Wd : Int} {q : Nat → Nat} {s r b : Nat} {A : Option Addr} {c : Nat} (B : Option Addr) (m d M : Nat) (Aj : Nat → Option Addr) (Lj cj : Nat → Nat) (Bs : Nat → Nat → Option Addr) (ns cs : Nat → Nat → Nat) (f : Nat → Nat → Nat → Nat) (B' : Option Addr) (m' d' M' : Nat) (Aj' : Nat → Option Addr) (Lj' cj' : Nat → Nat) (Bs' : Nat → Nat → Option Addr) (ns' cs' : Nat → Nat → Nat) (f' : Nat → Nat → Nat → Nat) (w : World) (hE : Hid (Ev w v n T L Wd q s r b A c)) (hL : L ≤ 100) (hN : n ≤ 32) (hT : Hid (Tabs w)) (hok : Hid (ParP (n : Int) T L q Wd)) (hQ : Hid (QP w B m d Aj Lj cj Bs ns cs f)) (hm2 : 2 ≤ m) (hm : m ≤ 3) (hA : Hid (AreP n L q m Lj ns f ((M : Int) - 1))) (hQ' : Hid (QP w B' m' d' Aj' Lj' cj' Bs' ns' cs' f')) (hm2' : 2 ≤ m') (hm' : m' ≤ 3) (hA' : Hid (AreP n L q m' Lj' ns' f' ((M' : Int) - 1))) (h3 : m = 3) :
    Calls Tryz.prog 19 #[.pointer (some ⟨v, 0, none⟩), .agg #[.slice B m d], .agg #[.slice B' m' d']] w fun ee w' => ee = .returned (.tuple #[.agg #[.slice none 0 0], .int .i64 4]) ∧ Ext w w' := by
 have k0 : Ext w (((w.alloc (.cells #[.slice B m d] 28)).alloc (.cells #[.slice B' m' d'] 28)).alloc (.cells #[.slice none 0 0] 28)) := (((Ext.refl w).alloc _).alloc _).alloc _
 have x0 := cell_ext (((Ext.refl _).alloc (.cells #[.slice B' m' d'] 28)).alloc (.cells #[.slice none 0 0] 28)) (one_at w (.slice B m d) 28)
 have x1 := cell_ext ((Ext.refl _).alloc (.cells #[.slice none 0 0] 28)) (one_at (w.alloc (.cells #[.slice B m d] 28)) (.slice B' m' d') 28)
 rw [show (w.alloc (.cells #[.slice B m d] 28)).heap.size = w.heap.size + 1 by simp] at x1
 have hr := heap_alloc_new ((w.alloc (.cells #[.slice B m d] 28)).alloc (.cells #[.slice B' m' d'] 28)) (.cells #[.slice none 0 0] 28)
 rw [show ((w.alloc (.cells #[.slice B m d] 28)).alloc (.cells #[.slice B' m' d'] 28)).heap.size = w.heap.size + 2 by simp] at hr
 have HL := Lib.hid (fun (w' : World) (k : Ext w w') => evLevels_any B m d M Aj Lj cj Bs ns cs f B' m' d' M' Aj' Lj' cj' Bs' ns' cs' f' w' (Lib.hid (hE.out.ext k)) hL hN (Lib.hid (hT.out.ext k)) hok (Lib.hid (hQ.out.ext k)) hm2 hm hA (Lib.hid (hQ'.out.ext k)) hm2' hm' hA')
 obtain ⟨z, hz⟩ : ∃ z : Int, z = (M : Int) - 1 := ⟨_, rfl⟩
 obtain ⟨z', hz'⟩ : ∃ z : Int, z = (M' : Int) - 1 := ⟨_, rfl⟩
 rw [← hz, ← hz'] at HL
 have e1 : ((m : Int) == 3) = true := by simp; omega
 clear h3 hm2 hm
 clear hA hz hQ hA' hz' hQ'
 go_enter Tryz.func19, Tryz.ntmps19
 go_wp2_with fail
 generalize (((w.alloc (.cells #[.slice B m d] 28)).alloc (.cells #[.slice B' m' d'] 28)).alloc (.cells #[.slice none 0 0] 28)) = V at *
 refine (HL.out _ k0).mono ?_
 rintro e1 w1 ⟨rfl, k1⟩
 replace x0 := cell_ext k1 x0
 replace x1 := cell_ext k1 x1
 have hrow := (k1.block (w.heap.size + 2) (Array.getElem?_eq_some_iff.1 hr).1).trans hr
 have z0 : w1.frozen? ⟨w.heap.size + 2, 0, none⟩ = false := by simp [World.frozen?, hrow]
 have c0 : w1.cell? ⟨w.heap.size + 2, 0, none⟩ = some (.slice none 0 0) := by rw [cell_of_row w1 _ 0 _ _ (0, 0) hrow]; rfl
 have K := Lib.hid (Ext.set (p := ⟨w.heap.size + 2, 0, none⟩) (k0.trans k1) (by show w.heap.size ≤ w.heap.size + 2; omega) (.slice none 0 0))
 clear k0 k1 hr hrow HL
 go_wp2
 refine bodyPost_ret (v := .tuple #[.agg #[.slice none 0 0], .int .i64 4]) (by simp [results, Tryz.results19, go_sem, c0]) rfl ?_
 exact ⟨by first | rfl | simp, K.out⟩
end Go.Proofs.YtjikdbcjabopnaaGreatDoor
