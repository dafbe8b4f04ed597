import Derived.Test.YtkbcobjhlpjieaaGreatDoorZURc
namespace Go.Proofs.YtkbcobjhlpjieaaGreatDoor
open Go.RowKit
set_option linter.unusedVariables false
set_option maxRecDepth 100000
def ByteR (w : World) (v : Value) (x : Nat) : Prop := v = .int .u8 (x : Int) ∧ x < 256
theorem byteR_stays (ts : List TypeId) : Stays ts ByteR := fun w w' u x k h => h
theorem info_u8U : (Tryz.prog.info? 5).map (fun i => (i.zero, i.size, i.bytes)) = some (some (.int .u8 0), 1, 1) := by kernel_rfl
def dgB (size v j : Nat) : Nat := v / 256 ^ (size - 1 - j) % 256
def dgs (size v : Nat) : List Nat := (List.range size).map (dgB size v)
structure WS (w : World) (p : Nat) (l : List Nat) (F : Nat → Value) : Prop where
 ex : ∃ v, RW w p 144 5 (fun i => if i = 4 then v else F i) ∧ GR (p + 1) 5 ByteR w v l
theorem below_setU {p : Nat} {w a : World} (h : Below p w a) {g o : Nat} (hg : p ≤ g) (v : Value) : Below p w (a.setCell ⟨g, o, none⟩ v) := Below.setCell h (p := ⟨g, o, none⟩) hg v
set_option maxHeartbeats 4000000 in
theorem wNum_any (size v p : Nat) (l : List Nat) (F : Nat → Value) (w : World) (hT : Hid (WS w p l F)) (hs0 : 1 ≤ size) (hs : size ≤ 8) (hv : v < 18446744073709551616) (hl : l.length ≤ 1000000) :
    Calls Tryz.prog 79 #[.pointer (some ⟨p, 0, none⟩), .int .i64 (size : Int), .int .u64 (v : Int)] w fun e w' => e = .returned (.tuple #[]) ∧ WS w' p (l ++ dgs size v) F ∧ Below p w w' := by
 obtain ⟨i0, hi, hz0, hz1, hz2⟩ := info_parts info_u8U
 have hw1 : IntKind.i64.wrap ((size : Int) - 1) = (size : Int) - 1 := by rw [IntKind.wrap_i64]; omega
 go_enter Tryz.func79, Tryz.ntmps79
 go_wp2_with fail
 go_loopw [6] (fun iv wr => ∃ j : Nat, j ≤ size ∧ iv = .int .i64 ((size : Int) - 1 - (j : Int)) ∧ Hid (WS wr p (l ++ (List.range j).map (dgB size v)) F) ∧ Hid (Below p w wr)) (fun iv _ => (intOf iv + 1).toNat)
 case atStart => exact ⟨0, by omega, by simp, by simpa using hT, Lib.hid (Below.refl _ _)⟩
 case round =>
  obtain ⟨j, hj, rfl, hws, hbe⟩ := hrel
  obtain ⟨vb, h1, h2⟩ := hws.out.ex
  have c0 := h1.cell (i := 4) (by omega)
  have z0 := h1.frozen 4
  simp only [if_true] at c0
  obtain ⟨us, hou, huu⟩ := h2
  have HOU := Lib.hid hou
  have HUU := Lib.hid huu
  have H1 := Lib.hid h1
  clear h1 hou huu
  by_cases hlt : j < size
  ·have i1 : (0 : Int) ≤ (size : Int) - 1 - (j : Int) := by omega
   obtain ⟨y, hy⟩ : ∃ y, y = dgB size v j := ⟨_, rfl⟩
   have e1 : (v : Int) / 2 ^ (8 * (size - 1 - j)) % 256 = (y : Int) := by
    rw [hy]
    unfold dgB
    rw [show (256 : Nat) = 2 ^ 8 by decide, ← Nat.pow_mul]
    norm_cast
   have hy2 : y < 256 := by rw [hy]; exact Nat.mod_lt _ (by omega)
   have hll : (l ++ (List.range j).map (dgB size v)).length = l.length + j := by simp
   have HY := Lib.hid hy
   have HLL := Lib.hid hll
   obtain ⟨L, hL⟩ : ∃ L, L = (l ++ (List.range j).map (dgB size v)).length := ⟨_, rfl⟩
   have hL2 : L ≤ 1000008 := by rw [hL, hll]; omega
   rw [← hL] at HOU
   have HL := Lib.hid hL
   clear hy hll hL
   go_wp2_with (at_builtin; go_loud (refine wpList_append_own _ rfl _ _ 37 rfl (p + 1) 5 i0 (.int .u8 0) 1 1 Tryz.underlying37 hi hz0 hz1 hz2 rfl (by decide) _ _ _ rfl (HOU.out.alloc _) ⟨_, 0, none⟩ 1 1 [.int .u8 (y : Int)] rfl rfl one_cell one_int (by unfold maxLen; omega) (by omega) (by have := H1.out.lt; simp; omega) ?_; intro v7 w7 hown7 hgrow7 _; obtain ⟨A7, c7, rfl⟩ := own_slice hown7; have H7 := Lib.hid ((H1.out.ext ((Ext.refl wr).alloc (.cells #[.int .u8 (y : Int)] 5))).keep (hgrow7.block _ (H1.out.ext ((Ext.refl wr).alloc (.cells #[.int .u8 (y : Int)] 5))).lt (fun e => by have := (HOU.out.lt _ e.symm).1; omega))); have d7 := H7.out.cell (i := 4) (by omega); have z7 := H7.out.frozen 4))
   have HG7 := Lib.hid (GR.push (w := wr) (t := 5) (B := p + 1) (ts := []) (byteR_stays _) (by decide) HUU.out (by rw [← HL.out]; exact HOU.out) (show ByteR wr (.int .u8 (y : Int)) y from ⟨rfl, hy2⟩) (by rw [← HL.out]; exact hown7) hgrow7)
   have HW9 := Lib.hid (show WS (w7.setCell ⟨p, 4, none⟩ (.slice A7 (L + 1) c7)) p (l ++ (List.range (j + 1)).map (dgB size v)) F from by
    refine ⟨_, (H7.out.set (show 4 < 5 by omega) (.slice A7 (L + 1) c7)).congr (G := fun i => if i = 4 then .slice A7 (L + 1) c7 else F i) fun i hi => by by_cases e : i = 4 <;> simp [e], ?_⟩
    have h9 := HG7.out.keeps (ts := []) (byteR_stays _) (Keeps.set (o := 4) H7.out (by decide) (.slice A7 (L + 1) c7))
    rw [List.append_assoc, HY.out, map_snoc] at h9
    exact h9)
   have HB9 := Lib.hid (show Below p w (w7.setCell ⟨p, 4, none⟩ (.slice A7 (L + 1) c7)) from
    below_setU (Below.grown (Below.alloc hbe.out (by have := H1.out.lt; omega) _) hgrow7 (by have := H1.out.lt; simp; omega) (fun k e => by have := (HOU.out.lt k e).1; omega)) (Nat.le_refl _) _)
   clear d7 z7 hown7 hgrow7
   generalize w7.setCell ⟨p, 4, none⟩ (.slice A7 (L + 1) c7) = w9 at *
   go_wp2
   exact ⟨⟨j + 1, by omega, by go_num, HW9, HB9⟩, by simp [intOf]; omega⟩
  ·have i1 : ¬ (0 : Int) ≤ (size : Int) - 1 - (j : Int) := by omega
   obtain rfl : j = size := by omega
   go_wp2
   exact bodyPost_end (v := .tuple #[]) (by simp [results, Tryz.results79, go_sem]) rfl ⟨rfl, hws.out, hbe.out⟩
def flatB (l : List Nat) : List Nat := l.foldr (fun q r => dgs 8 q ++ r) []
theorem flatB_snoc (q : Nat) : ∀ l : List Nat, flatB (l ++ [q]) = flatB l ++ dgs 8 q
 | [] => by simp [flatB]
 | x :: l => by
  have := flatB_snoc q l
  unfold flatB at this ⊢
  simp only [List.cons_append, List.foldr_cons, this, List.append_assoc]
theorem dgs_len (size v : Nat) : (dgs size v).length = size := by simp [dgs]
theorem flatB_len : ∀ l : List Nat, (flatB l).length = 8 * l.length
 | [] => rfl
 | x :: l => by
  have := flatB_len l
  show (dgs 8 x ++ flatB l).length = _
  rw [List.length_append, dgs_len, this, List.length_cons]
  omega
theorem flatB_take {qs : List Nat} {i q : Nat} (h : qs[i]? = some q) : flatB (qs.take (i + 1)) = flatB (qs.take i) ++ dgs 8 q := by
 rw [List.take_add_one, h]
 exact flatB_snoc q _
def parB (n t wd : Nat) (qs : List Nat) : List Nat := dgs 2 n ++ dgs 4 t ++ dgs 1 wd ++ dgs 1 qs.length ++ flatB qs
def wrF (n t : Nat) (AQ : Option Addr) (M cQ wd : Nat) (i : Nat) : Value := if i = 0 then .int .i64 (n : Int) else if i = 1 then .int .u64 (t : Int) else if i = 2 then .slice AQ M cQ else .int .i64 (wd : Int)
theorem WS.cells {w : World} {p n t M cQ wd : Nat} {AQ : Option Addr} {l : List Nat} (h : WS w p l (wrF n t AQ M cQ wd)) :
    w.cell? ⟨p, 0, none⟩ = some (.int .i64 (n : Int)) ∧ w.cell? ⟨p, 1, none⟩ = some (.int .u64 (t : Int)) ∧ w.cell? ⟨p, 2, none⟩ = some (.slice AQ M cQ) ∧ w.cell? ⟨p, 3, none⟩ = some (.int .i64 (wd : Int)) := by
 obtain ⟨v, h1, _⟩ := h.ex
 exact ⟨h1.cell (i := 0) (by omega), h1.cell (i := 1) (by omega), h1.cell (i := 2) (by omega), h1.cell (i := 3) (by omega)⟩
theorem ext_below {w0 w w' : World} {p : Nat} (h : Ext w0 w) (k : Below p w w') (hp : w0.heap.size ≤ p) : Ext w0 w' := Below.trans h (Below.mono k hp)
set_option maxHeartbeats 8000000 in
theorem wPar_any (p n t wd M cQ : Nat) (AQ : Option Addr) (qs l : List Nat) (w0 w : World) (hT : Hid (WS w p l (wrF n t AQ M cQ wd))) (h0 : Hid (Ext w0 w)) (hp : w0.heap.size ≤ p) (hQ : Hid (LY 22 WordR w0 AQ cQ qs)) (hM : Hid (M = qs.length)) (hn : n < 9223372036854775808) (ht : t < 18446744073709551616) (hwd : wd < 9223372036854775808) (hM2 : M ≤ 1000) (hl : l.length ≤ 100) :
    Calls Tryz.prog 80 #[.pointer (some ⟨p, 0, none⟩)] w fun e w' => e = .returned (.tuple #[]) ∧ WS w' p (l ++ parB n t wd qs) (wrF n t AQ M cQ wd) ∧ Below p w w' := by
 have hwn : IntKind.u64.wrap (n : Int) = (n : Int) := by rw [IntKind.wrap_u64]; omega
 have hww : IntKind.u64.wrap (wd : Int) = (wd : Int) := by rw [IntKind.wrap_u64]; omega
 have hwm : IntKind.u64.wrap (M : Int) = (M : Int) := by rw [IntKind.wrap_u64]; omega
 obtain ⟨c0, c1, c2, c3⟩ := hT.out.cells
 go_enter Tryz.func80, Tryz.ntmps80
 go_wp2_with fail
 refine (wNum_any 2 n p l _ w hT (by omega) (by omega) (by omega) (by omega)).mono ?_
 rintro e1 w1 ⟨rfl, h1, k1⟩
 have H1 := Lib.hid h1
 have K1 := Lib.hid k1
 clear c0 c1 c2 c3 h1 k1
 obtain ⟨c0, c1, c2, c3⟩ := H1.out.cells
 go_wp2_with fail
 refine (wNum_any 4 t p _ _ w1 H1 (by omega) (by omega) ht (by simp [dgs_len]; omega)).mono ?_
 rintro e2 w2 ⟨rfl, h1, k1⟩
 have H2 := Lib.hid h1
 have K2 := Lib.hid (Below.trans K1.out k1)
 clear c0 c1 c2 c3 h1 k1
 obtain ⟨c0, c1, c2, c3⟩ := H2.out.cells
 go_wp2_with fail
 refine (wNum_any 1 wd p _ _ w2 H2 (by omega) (by omega) (by omega) (by simp [dgs_len]; omega)).mono ?_
 rintro e3 w3 ⟨rfl, h1, k1⟩
 have H3 := Lib.hid h1
 have K3 := Lib.hid (Below.trans K2.out k1)
 clear c0 c1 c2 c3 h1 k1
 obtain ⟨c0, c1, c2, c3⟩ := H3.out.cells
 go_wp2_with fail
 refine (wNum_any 1 M p _ _ w3 H3 (by omega) (by omega) (by omega) (by simp [dgs_len]; omega)).mono ?_
 rintro e4 w4 ⟨rfl, h1, k1⟩
 have H4 := Lib.hid (show WS w4 p (l ++ (dgs 2 n ++ dgs 4 t ++ dgs 1 wd ++ dgs 1 M) ++ flatB (qs.take 0)) (wrF n t AQ M cQ wd) by
  have := h1
  simp only [List.append_assoc] at this ⊢
  simpa [flatB] using this)
 have K4 := Lib.hid (Below.trans K3.out k1)
 clear c0 c1 c2 c3 h1 k1
 obtain ⟨c0, c1, c2, c3⟩ := H4.out.cells
 go_wp2_with fail
 go_loopw [42] (fun iv wr => ∃ i : Nat, i ≤ M ∧ iv = .int .i64 (i : Int) ∧ Hid (WS wr p (l ++ (dgs 2 n ++ dgs 4 t ++ dgs 1 wd ++ dgs 1 M) ++ flatB (qs.take i)) (wrF n t AQ M cQ wd)) ∧ Hid (Below p w wr)) (fun iv _ => M - (intOf iv).toNat)
 case atStart => exact ⟨0, by omega, rfl, H4, K4⟩
 case round =>
  obtain ⟨i, hi, rfl, hws, hbe⟩ := hrel
  by_cases hlt : i < M
  ·obtain ⟨q, hqi⟩ : ∃ q, qs[i]? = some q := ⟨_, List.getElem?_eq_getElem (show i < qs.length by rw [← hM.out]; exact hlt)⟩
   obtain ⟨ad, rfl, hc⟩ := (hQ.out.keeps (wordR_stays [22]) (by decide) (Keeps.ext (ext_below h0.out hbe.out hp))).cells (by rw [← hM.out]; omega)
   obtain ⟨uq, hcell, rfl, hq1⟩ := hc i q hqi
   have HQI := Lib.hid hqi
   clear hc hqi
   go_wp2_with fail
   refine (wNum_any 8 q p _ _ wr hws (by omega) (by omega) hq1 (by
    have h2 : (flatB (qs.take i)).length ≤ 8000 := by rw [flatB_len, List.length_take]; omega
    simp only [List.length_append, dgs_len]
    omega)).mono ?_
   rintro e5 w5 ⟨rfl, h1, k1⟩
   have H5 := Lib.hid (show WS w5 p (l ++ (dgs 2 n ++ dgs 4 t ++ dgs 1 wd ++ dgs 1 M) ++ flatB (qs.take (i + 1))) (wrF n t (some ad) M cQ wd) by
    rw [flatB_take HQI.out, ← List.append_assoc]; exact h1)
   have K5 := Lib.hid (Below.trans hbe.out k1)
   clear h1 k1
   go_wp2
   exact ⟨⟨i + 1, by omega, by go_num, H5, K5⟩, by simp [intOf]; omega⟩
  ·have HF := Lib.hid (show WS wr p (l ++ parB n t wd qs) (wrF n t AQ M cQ wd) by
      have h := hws.out
      rw [show i = qs.length by rw [← hM.out]; omega, List.take_length] at h
      unfold parB
      rw [← hM.out]
      simp only [List.append_assoc] at h ⊢
      exact h)
   go_wp2
   exact bodyPost_end (v := .tuple #[]) (by simp [results, Tryz.results80, go_sem]) rfl ⟨rfl, HF.out, hbe.out⟩
set_option maxHeartbeats 2000000 in
theorem wNothing_any (p : Nat) (w : World) :
    Calls Tryz.prog 38 #[.pointer (some ⟨p, 0, none⟩), .agg #[]] w fun e w' => e = .returned (.int .i64 0) ∧ w' = w.alloc (.cells #[] 82) := by
 go_enter Tryz.func38, Tryz.ntmps38
 go_wp2
 go_ret
 exact ⟨rfl, rfl⟩
abbrev BsR := LV 5 ByteR
set_option maxHeartbeats 8000000 in
theorem wWriteN_any (n t wd M cQ kind : Nat) (AQ : Option Addr) (qs : List Nat) (w : World) (hQ : Hid (LY 22 WordR w AQ cQ qs)) (hM : Hid (M = qs.length)) (hn : n < 9223372036854775808) (ht : t < 18446744073709551616) (hwd : wd < 9223372036854775808) (hM2 : M ≤ 1000) (hk : kind < 256) (hP : Hid (ParP (n : Int) t M (fun j => qs.getD j 0) (wd : Int))) (hTab : Tabs w) :
    Calls Tryz.prog 37 #[.agg #[.int .i64 (n : Int), .int .u64 (t : Int), .slice AQ M cQ, .int .i64 (wd : Int)], .int .u64 (kind : Int), .agg #[], .func (.func 38) #[] #[]] w fun e w' => ∃ A c, e = .returned (.tuple #[.slice A (dgs 1 kind ++ parB n t wd qs).length c, .int .i64 0]) ∧ BsR w' (.slice A (dgs 1 kind ++ parB n t wd qs).length c) (dgs 1 kind ++ parB n t wd qs) ∧ Ext w w' := by
 have HTAB := Lib.hid hTab
 clear hTab
 obtain ⟨bs, hbs⟩ : ∃ x, x = dgs 1 kind ++ parB n t wd qs := ⟨_, rfl⟩
 rw [← hbs]
 have HBS := Lib.hid hbs
 clear hbs
 have kY : Ext w ((w.alloc (.cells #[.int .i64 (n : Int), .int .u64 (t : Int), .slice AQ M cQ, .int .i64 (wd : Int)] 25)).alloc (.cells #[] 82)) := ((Ext.refl w).alloc _).alloc _
 have r4 : RW ((w.alloc (.cells #[.int .i64 (n : Int), .int .u64 (t : Int), .slice AQ M cQ, .int .i64 (wd : Int)] 25)).alloc (.cells #[] 82)) w.heap.size 25 4 (parF (.int .i64 (n : Int)) (.int .u64 (t : Int)) (.slice AQ M cQ) (.int .i64 (wd : Int))) := RW.ext (show RW (w.alloc (.cells #[.int .i64 (n : Int), .int .u64 (t : Int), .slice AQ M cQ, .int .i64 (wd : Int)] 25)) w.heap.size 25 4 (parF (.int .i64 (n : Int)) (.int .u64 (t : Int)) (.slice AQ M cQ) (.int .i64 (wd : Int))) from heap_alloc_new w _) ((Ext.refl _).alloc _)
 obtain ⟨c0, c1, c2, c3⟩ := r4.pc
 have R4 := Lib.hid r4
 clear r4
 go_enter Tryz.func37, Tryz.ntmps37
 go_wp2_with fail
 generalize (w.alloc (.cells #[.int .i64 (n : Int), .int .u64 (t : Int), .slice AQ M cQ, .int .i64 (wd : Int)] 25)).alloc (.cells #[] 82) = Y at *
 have hlyY := hQ.out.keeps (wordR_stays [22]) (by decide) (Keeps.ext kY)
 have hfx := hlyY.fx
 have hwds := hlyY.words
 rw [← hM.out] at hfx hwds
 refine (check_any (n : Int) t (wd : Int) AQ M cQ (fun j => qs.getD j 0) Y (by omega) (by omega) ht (by omega) hfx (Lib.hid hwds) (HTAB.out.ext kY)).mono ?_
 clear hfx hwds
 rintro e1 w2 hc
 obtain ⟨rfl, k2⟩ : e1 = .returned (.int .i64 0) ∧ Ext Y w2 := by
  rcases hc with ⟨_, h1, h2⟩ | ⟨h, _⟩
  ·exact ⟨h1, h2⟩
  ·exact absurd hP.out h
 have HLY2 := Lib.hid (hlyY.keeps (wordR_stays [22]) (by decide) (Keeps.ext k2))
 have K2 := Lib.hid (kY.trans k2)
 clear hc hlyY c0 c1 c2 c3
 obtain ⟨c0, c1, c2, c3⟩ := (R4.out.ext k2).pc
 have HWS := Lib.hid (show WS (w2.alloc (.cells #[.int .i64 (n : Int), .int .u64 (t : Int), .slice AQ M cQ, .int .i64 (wd : Int), .slice none 0 0] 144)) w2.heap.size [] (wrF n t AQ M cQ wd) from
  ⟨_, heap_alloc_new w2 _, GR.nil _ _ _ _⟩)
 have K3 := Lib.hid (show Ext w2 (w2.alloc (.cells #[.int .i64 (n : Int), .int .u64 (t : Int), .slice AQ M cQ, .int .i64 (wd : Int), .slice none 0 0] 144)) from (Ext.refl w2).alloc _)
 obtain ⟨p, hp⟩ : ∃ p, p = w2.heap.size := ⟨_, rfl⟩
 go_wp2_with fail
 generalize w2.alloc (.cells #[.int .i64 (n : Int), .int .u64 (t : Int), .slice AQ M cQ, .int .i64 (wd : Int), .slice none 0 0] 144) = W3 at *
 rw [← hp] at HWS ⊢
 have hp2 : w2.heap.size ≤ p := by omega
 have hp3 : w.heap.size ≤ p := by have := K2.out.size; omega
 clear hp c0 c1 c2 c3
 refine (wNum_any 1 kind p [] _ W3 HWS (by omega) (by omega) (by omega) (by simp)).mono ?_
 rintro e4 w4 ⟨rfl, h4, k4⟩
 have H4 := Lib.hid h4
 have K4 := Lib.hid (ext_below K3.out k4 hp2)
 clear h4 k4
 go_wp2_with fail
 refine (wPar_any p n t wd M cQ AQ qs _ w2 w4 H4 K4 hp2 HLY2 hM hn ht hwd hM2 (by simp [dgs_len])).mono ?_
 rintro e5 w5 ⟨rfl, h5, k5⟩
 have H5 := Lib.hid h5
 have K5 := Lib.hid (ext_below K4.out k5 hp2)
 clear h5 k5
 go_wp2_with fail
 refine (wNothing_any p w5).mono ?_
 rintro e6 w6 ⟨rfl, rfl⟩
 have K6 := Lib.hid (show Ext w (w5.alloc (.cells #[] 82)) from (K2.out.trans K5.out).alloc _)
 obtain ⟨vb, g1, g2⟩ := H5.out.ex
 have hv := LV.stays (byteR_stays [5]) (by decide) _ _ _ _ (Keeps.ext ((Ext.refl w5).alloc (.cells #[] 82))) g2.lv
 have d4 := (g1.ext ((Ext.refl w5).alloc (.cells #[] 82))).cell (i := 4) (by omega)
 simp only [if_true] at d4
 simp only [List.nil_append] at hv
 obtain ⟨A9, c9, rfl, hl9⟩ := hv
 have HF := Lib.hid (show BsR (w5.alloc (.cells #[] 82)) (.slice A9 (dgs 1 kind ++ parB n t wd qs).length c9) (dgs 1 kind ++ parB n t wd qs) from ⟨A9, c9, rfl, hl9⟩)
 clear g1 g2 hl9
 generalize w5.alloc (.cells #[] 82) = W9 at *
 rw [← HBS.out] at HF d4
 obtain ⟨L, hL⟩ : ∃ L, L = bs.length := ⟨_, rfl⟩
 rw [← hL] at d4
 have HL := Lib.hid hL
 clear hL
 go_wp2
 go_ret2
 exact ⟨A9, c9, by rw [← HL.out]; rfl, HF.out, K6.out⟩
set_option maxHeartbeats 8000000 in
theorem pkParams_any (n t wd M cQ : Nat) (AQ : Option Addr) (qs : List Nat) (w : World) (hQ : Hid (LY 22 WordR w AQ cQ qs)) (hM : Hid (M = qs.length)) (hn : n < 9223372036854775808) (ht : t < 18446744073709551616) (hwd : wd < 9223372036854775808) (hM2 : M ≤ 1000) (hP : Hid (ParP (n : Int) t M (fun j => qs.getD j 0) (wd : Int))) (hTab : Tabs w) :
    Calls Tryz.prog 10 #[.agg #[.int .i64 (n : Int), .int .u64 (t : Int), .slice AQ M cQ, .int .i64 (wd : Int)]] w fun e w' => ∃ A c, e = .returned (.tuple #[.slice A (dgs 1 1 ++ parB n t wd qs).length c, .int .i64 0]) ∧ BsR w' (.slice A (dgs 1 1 ++ parB n t wd qs).length c) (dgs 1 1 ++ parB n t wd qs) ∧ Ext w w' := by
 have HTAB := Lib.hid hTab
 clear hTab
 obtain ⟨bs, hbs⟩ : ∃ x, x = dgs 1 1 ++ parB n t wd qs := ⟨_, rfl⟩
 rw [← hbs]
 have HBS := Lib.hid hbs
 clear hbs
 have kY : Ext w (w.alloc (.cells #[.int .i64 (n : Int), .int .u64 (t : Int), .slice AQ M cQ, .int .i64 (wd : Int)] 25)) := (Ext.refl w).alloc _
 go_enter Tryz.func10, Tryz.ntmps10
 go_wp2_with fail
 generalize w.alloc (.cells #[.int .i64 (n : Int), .int .u64 (t : Int), .slice AQ M cQ, .int .i64 (wd : Int)] 25) = Y at *
 refine (wWriteN_any n t wd M cQ 1 AQ qs Y (Lib.hid (hQ.out.keeps (wordR_stays [22]) (by decide) (Keeps.ext kY))) hM hn ht hwd hM2 (by omega) hP (HTAB.out.ext kY)).mono ?_
 rintro e w2 ⟨A9, c9, rfl, h1, k1⟩
 have HF := Lib.hid h1
 have K := Lib.hid (kY.trans k1)
 clear h1 k1
 rw [← HBS.out] at HF ⊢
 obtain ⟨L, hL⟩ : ∃ L, L = bs.length := ⟨_, rfl⟩
 have HL := Lib.hid hL
 rw [← hL]
 clear hL
 go_wp2
 go_ret2
 exact ⟨A9, c9, by rw [← HL.out]; rfl, HF.out, K.out⟩
end Go.Proofs.YtkbcobjhlpjieaaGreatDoor
