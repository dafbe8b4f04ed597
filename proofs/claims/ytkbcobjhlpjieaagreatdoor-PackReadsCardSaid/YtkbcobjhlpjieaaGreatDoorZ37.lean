import Derived.Test.YtkbcobjhlpjieaaGreatDoorZ36
namespace Go.Proofs.YtkbcobjhlpjieaaGreatDoor
open Go.RowKit
set_option linter.unusedVariables false
set_option maxRecDepth 100000
theorem end_cases {β : Type} {T : Except Nat (β × List Nat)} {w : World} {p : Nat} (h : RR w p (restS T)) :
    (∃ x r, T = .ok (x, r) ∧ endP T = .ok x ∧ endS (restS T) = 0) ∨ (∃ c, endP T = .error c ∧ 0 < c ∧ c ≤ 14 ∧ endS (restS T) = c) := by
 rcases T with e | ⟨x, r⟩
 ·obtain ⟨A, n, c, h1, h2, h3⟩ := h
  exact .inr ⟨e, rfl, h2, h3, rfl⟩
 ·by_cases g : 0 < r.length
  ·exact .inr ⟨14, by simp [endP, g], by omega, by omega, by simp [restS, endS, g]⟩
  ·exact .inl ⟨x, r, rfl, by simp [endP, g], by simp [restS, endS, g]⟩
theorem head_eq {α : Type} (kind : Nat) (f : PV → Pr α) (l : List Nat) : headP kind f l = bindP (bindP (betP 1 kind kind) (fun _ => paramP)) (fun pv => bindP (f pv) fun x r => .ok ((pv, x), r)) l := by
 unfold headP bindP
 rcases betP 1 kind kind l with e | ⟨x, r⟩ <;> rfl
theorem paramP_ok {l r : List Nat} {pv : PV} (h : paramP l = .ok (pv, r)) : (∀ q ∈ pv.q, 0 < q) ∧ 0 < pv.q.length ∧ pv.q.length ≤ 8 ∧ pv.n ≤ 4096 ∧ 8 ≤ pv.n := by
 unfold paramP at h
 rcases e1 : numP 2 l with e | ⟨n, r1⟩
 ·rw [bindP_err e1] at h; cases h
 rw [bindP_ok e1] at h
 rcases e2 : numP 4 r1 with e | ⟨t, r2⟩
 ·rw [bindP_err e2] at h; cases h
 rw [bindP_ok e2] at h
 rcases e3 : numP 1 r2 with e | ⟨w, r3⟩
 ·rw [bindP_err e3] at h; cases h
 rw [bindP_ok e3] at h
 rcases e4 : numP 1 r3 with e | ⟨k, r4⟩
 ·rw [bindP_err e4] at h; cases h
 rw [bindP_ok e4] at h
 rcases e5 : manyP (numP 8) k r4 with e | ⟨q, r5⟩
 ·rw [bindP_err e5] at h; cases h
 rw [bindP_ok e5] at h
 split at h
 ·rename_i hP
  injection h with h
  injection h with h1 h2
  subst h1
  have q1 := hP 3 (by omega)
  have q2 := hP 4 (by omega)
  have q0 := hP 0 (by omega)
  refine ⟨fun x hx => ?_, q1.1, q1.2, by have := q0.2.1; simp only; omega, by have := q0.1; simp only; omega⟩
  obtain ⟨j, hj, e⟩ := List.getElem_of_mem hx
  have : q.getD j 0 % (2 * (n : Int).toNat) = 1 := (q2 j hj).2.2.2.1
  rw [show q.getD j 0 = x by simp [List.getD, hj, e]] at this
  rcases Nat.eq_zero_or_pos x with g | g
  ·subst g; simp at this
  ·exact g
 ·cases h
theorem start_ok {l r : List Nat} {kind : Nat} {pv : PV} (h : bindP (betP 1 kind kind) (fun _ => paramP) l = .ok (pv, r)) : (∀ q ∈ pv.q, 0 < q) ∧ 0 < pv.q.length ∧ pv.q.length ≤ 8 ∧ pv.n ≤ 4096 ∧ 8 ≤ pv.n := by
 unfold bindP at h
 split at h
 ·cases h
 ·exact paramP_ok h
theorem rr_new (w : World) (A : Option Addr) (n c : Nat) (l : List Nat) (h : BX w A n c l) (hn : n = l.length) (hl : n ≤ 100000) (hA : 0 < n → ∀ ad, A = some ad → ad.block < w.heap.size) :
    RR (w.alloc (.cells #[.slice A n c, .int .i64 0] 128)) w.heap.size (.ok l) := by
 subst hn
 refine ⟨A, c, ?_, h.ext ((Ext.refl w).alloc _), hA, hl⟩
 have h1 : (w.alloc (.cells #[.slice A l.length c, .int .i64 0] 128)).heap[w.heap.size]? = _ := heap_alloc_new w _
 exact h1
set_option maxHeartbeats 8000000 in
theorem rrN_any (nn c : Nat) (A : Option Addr) (l : List Nat) (w : World) (hX : Hid (BX w A nn c l)) (hA : Hid (0 < nn → ∀ ad, A = some ad → ad.block < w.heap.size)) (hn : nn ≤ 100000) :
    Calls Tryz.prog 27 #[.slice A nn c] w (R0Post w (endP (headP 1 (fun _ l => .ok ((), l)) l))) := by
 have HN := Lib.hid hX.out.len
 obtain ⟨T, hT0⟩ : ∃ T : Except Nat ((PV × Unit) × List Nat), T = headP 1 (fun _ l => .ok ((), l)) l := ⟨_, rfl⟩
 rw [← hT0]
 have HTR := Lib.hid (show T = bindP (bindP (betP 1 1 1) (fun _ => paramP)) (fun pv r => .ok ((pv, ()), r)) l by rw [hT0, head_eq]; rfl)
 have kA : Ext w ((w.alloc (.cells #[.int .i64 0, .int .u64 0, .slice none 0 0, .int .i64 0] 25)).alloc (.cells #[.slice A nn c, .int .i64 0] 128)) := ((Ext.refl w).alloc _).alloc _
 have HR0 := Lib.hid (show RR ((w.alloc (.cells #[.int .i64 0, .int .u64 0, .slice none 0 0, .int .i64 0] 25)).alloc (.cells #[.slice A nn c, .int .i64 0] 128)) (w.heap.size + 1) (.ok l) by
  have h := rr_new (w.alloc (.cells #[.int .i64 0, .int .u64 0, .slice none 0 0, .int .i64 0] 25)) A nn c l (hX.out.ext ((Ext.refl w).alloc _)) HN.out.symm hn (fun h0 ad e => by have := hA.out h0 ad e; simp; omega)
  rw [World.size_alloc] at h
  exact h)
 have r6 : RW ((w.alloc (.cells #[.int .i64 0, .int .u64 0, .slice none 0 0, .int .i64 0] 25)).alloc (.cells #[.slice A nn c, .int .i64 0] 128)) w.heap.size 25 4 (parF (.int .i64 0) (.int .u64 0) (.slice none 0 0) (.int .i64 0)) := RW.ext (show RW (w.alloc (.cells #[.int .i64 0, .int .u64 0, .slice none 0 0, .int .i64 0] 25)) w.heap.size 25 4 (parF (.int .i64 0) (.int .u64 0) (.slice none 0 0) (.int .i64 0)) from heap_alloc_new w _) ((Ext.refl _).alloc _)
 have hs0 : ((w.alloc (.cells #[.int .i64 0, .int .u64 0, .slice none 0 0, .int .i64 0] 25)).alloc (.cells #[.slice A nn c, .int .i64 0] 128)).heap.size = w.heap.size + 2 := by simp
 clear hT0
 go_enter Tryz.func27, Tryz.ntmps27
 go_wp2_with fail
 generalize ((w.alloc (.cells #[.int .i64 0, .int .u64 0, .slice none 0 0, .int .i64 0] 25)).alloc (.cells #[.slice A nn c, .int .i64 0] 128)) = X0 at *
 refine (rStart_any 1 (w.heap.size + 1) l X0 HR0 (by omega)).mono ?_
 rintro e1 w1 ⟨n, t, wd, qs, AQ, cQ, rfl, hly, hn1, ht1, hw1, hq1, hpv, hrr, hon⟩
 have hRT : restS (bindP (betP 1 1 1) (fun _ => paramP) l) = restS T := by
  rw [HTR.out]
  rcases hh : bindP (betP 1 1 1) (fun _ => paramP) l with e | ⟨x, r⟩
  ·rw [bindP_err hh]; rfl
  ·rw [bindP_ok hh]; rfl
 rw [hRT] at hrr
 obtain ⟨M, hM⟩ : ∃ M, M = qs.length := ⟨_, rfl⟩
 have HM := Lib.hid hM
 rw [← hM]
 have HLY := Lib.hid hly
 have HPV := Lib.hid (show ∀ x r, T = .ok (x, r) → x = (⟨n, t, wd, qs⟩, ()) ∧ 0 < qs.length from fun x r h => by
  rw [HTR.out] at h
  rcases hh : bindP (betP 1 1 1) (fun _ => paramP) l with e | ⟨pv, r'⟩
  ·rw [bindP_err hh] at h; cases h
  ·rw [bindP_ok hh] at h
   injection h with h
   injection h with h _
   obtain rfl := hpv pv r' hh
   exact ⟨h.symm, (start_ok hh).2.1⟩)
 have kW : Ext w w1 := kA.on hon (by omega)
 have hsz := hon.size
 have hq6 := Lib.hid (r6.on hon (by omega))
 have HRR := Lib.hid (hrr.ext ((Ext.refl w1).alloc (.cells #[.int .i64 (n : Int), .int .u64 (t : Int), .slice AQ M cQ, .int .i64 (wd : Int)] 25)))
 clear hM hly hpv hrr hon hRT
 go_wp2_with fail
 refine (rEnd_any (w.heap.size + 1) (restS T) _ HRR).mono ?_
 rintro e2 w2 ⟨rfl, ho2⟩
 have hon2 : On (w.heap.size + 1) w1 w2 := (On.of ((Ext.refl w1).alloc _)).trans ho2
 have kY : Ext w w2 := kW.on hon2 (by omega)
 have f0 := cell_on ho2 (show (w1.alloc (.cells #[.int .i64 (n : Int), .int .u64 (t : Int), .slice AQ M cQ, .int .i64 (wd : Int)] 25)).cell? ⟨w1.heap.size, 0, none⟩ = some (.int .i64 (n : Int)) by simp) (by omega)
 have f1 := cell_on ho2 (show (w1.alloc (.cells #[.int .i64 (n : Int), .int .u64 (t : Int), .slice AQ M cQ, .int .i64 (wd : Int)] 25)).cell? ⟨w1.heap.size, 1, none⟩ = some (.int .u64 (t : Int)) by simp) (by omega)
 have f2 := cell_on ho2 (show (w1.alloc (.cells #[.int .i64 (n : Int), .int .u64 (t : Int), .slice AQ M cQ, .int .i64 (wd : Int)] 25)).cell? ⟨w1.heap.size, 2, none⟩ = some (.slice AQ M cQ) by simp) (by omega)
 have f3 := cell_on ho2 (show (w1.alloc (.cells #[.int .i64 (n : Int), .int .u64 (t : Int), .slice AQ M cQ, .int .i64 (wd : Int)] 25)).cell? ⟨w1.heap.size, 3, none⟩ = some (.int .i64 (wd : Int)) by simp) (by omega)
 have q6 := hq6.out.on hon2 (by omega)
 have hL2 := HLY.out.keeps (wordR_stays [22]) (by decide) ((Keeps.ext ((Ext.refl w1).alloc (.cells #[.int .i64 (n : Int), .int .u64 (t : Int), .slice AQ M cQ, .int .i64 (wd : Int)] 25))).trans (HRR.out.keeps ho2 (by decide)))
 have HL2 := Lib.hid hL2
 clear ho2 hon2 hL2
 rcases end_cases HRR.out with ⟨x, r, hT1, hT2, hT3⟩ | ⟨cc, hT2, hc0, hc1, hT3⟩
 ·obtain ⟨hx1, hx2⟩ := HPV.out x r hT1
  rw [hT3]
  have H2 := Lib.hid hT2
  have HX1 := Lib.hid hx1
  have HX2 := Lib.hid hx2
  clear hT1 hT2 hT3 hx1 hx2
  have a0 : w2.cell? ⟨w.heap.size, 0, none⟩ = some (.int .i64 0) := q6.cell (i := 0) (by omega)
  have b0 := q6.frozen 0
  have a1 : w2.cell? ⟨w.heap.size, 1, none⟩ = some (.int .u64 0) := q6.cell (i := 1) (by omega)
  have b1 := q6.frozen 1
  have a2 : w2.cell? ⟨w.heap.size, 2, none⟩ = some (.slice none 0 0) := q6.cell (i := 2) (by omega)
  have b2 := q6.frozen 2
  have a3 : w2.cell? ⟨w.heap.size, 3, none⟩ = some (.int .i64 0) := q6.cell (i := 3) (by omega)
  have b3 := q6.frozen 3
  have Q6 := Lib.hid q6
  clear q6
  go_wp2_with fail
  have q6 := Q6.out
  have P6 : RW ((((w2.setCell ⟨w.heap.size, 0, none⟩ (.int .i64 (n : Int))).setCell ⟨w.heap.size, 1, none⟩ (.int .u64 (t : Int))).setCell ⟨w.heap.size, 2, none⟩ (.slice AQ M cQ)).setCell ⟨w.heap.size, 3, none⟩ (.int .i64 (wd : Int))) w.heap.size 25 4 (parF (.int .i64 (n : Int)) (.int .u64 (t : Int)) (.slice AQ M cQ) (.int .i64 (wd : Int))) := (q6.set4 (.int .i64 (n : Int)) (.int .u64 (t : Int)) (.slice AQ M cQ) (.int .i64 (wd : Int)))
  have e0 : ((((w2.setCell ⟨w.heap.size, 0, none⟩ (.int .i64 (n : Int))).setCell ⟨w.heap.size, 1, none⟩ (.int .u64 (t : Int))).setCell ⟨w.heap.size, 2, none⟩ (.slice AQ M cQ)).setCell ⟨w.heap.size, 3, none⟩ (.int .i64 (wd : Int))).cell? ⟨w.heap.size, 0, none⟩ = some (.int .i64 (n : Int)) := P6.cell (i := 0) (by omega)
  have e1 : ((((w2.setCell ⟨w.heap.size, 0, none⟩ (.int .i64 (n : Int))).setCell ⟨w.heap.size, 1, none⟩ (.int .u64 (t : Int))).setCell ⟨w.heap.size, 2, none⟩ (.slice AQ M cQ)).setCell ⟨w.heap.size, 3, none⟩ (.int .i64 (wd : Int))).cell? ⟨w.heap.size, 1, none⟩ = some (.int .u64 (t : Int)) := P6.cell (i := 1) (by omega)
  have e2 : ((((w2.setCell ⟨w.heap.size, 0, none⟩ (.int .i64 (n : Int))).setCell ⟨w.heap.size, 1, none⟩ (.int .u64 (t : Int))).setCell ⟨w.heap.size, 2, none⟩ (.slice AQ M cQ)).setCell ⟨w.heap.size, 3, none⟩ (.int .i64 (wd : Int))).cell? ⟨w.heap.size, 2, none⟩ = some (.slice AQ M cQ) := P6.cell (i := 2) (by omega)
  have e3 : ((((w2.setCell ⟨w.heap.size, 0, none⟩ (.int .i64 (n : Int))).setCell ⟨w.heap.size, 1, none⟩ (.int .u64 (t : Int))).setCell ⟨w.heap.size, 2, none⟩ (.slice AQ M cQ)).setCell ⟨w.heap.size, 3, none⟩ (.int .i64 (wd : Int))).cell? ⟨w.heap.size, 3, none⟩ = some (.int .i64 (wd : Int)) := P6.cell (i := 3) (by omega)
  have hkz : Keeps [22] w2 ((((w2.setCell ⟨w.heap.size, 0, none⟩ (.int .i64 (n : Int))).setCell ⟨w.heap.size, 1, none⟩ (.int .u64 (t : Int))).setCell ⟨w.heap.size, 2, none⟩ (.slice AQ M cQ)).setCell ⟨w.heap.size, 3, none⟩ (.int .i64 (wd : Int))) := (((((Keeps.refl _ w2).trans (Keeps.set q6 (by decide) _)).trans (Keeps.set (q6.set (show 0 < 4 by omega) (.int .i64 (n : Int))) (by decide) _)).trans (Keeps.set ((q6.set (show 0 < 4 by omega) (.int .i64 (n : Int))).set (show 1 < 4 by omega) (.int .u64 (t : Int))) (by decide) _)).trans (Keeps.set (((q6.set (show 0 < 4 by omega) (.int .i64 (n : Int))).set (show 1 < 4 by omega) (.int .u64 (t : Int))).set (show 2 < 4 by omega) (.slice AQ M cQ)) (by decide) _))
  have HF := Lib.hid (show R0Post w (endP T) (.returned (.tuple #[.agg #[.int .i64 (n : Int), .int .u64 (t : Int), .slice AQ M cQ, .int .i64 (wd : Int)], .int .i64 0])) ((((w2.setCell ⟨w.heap.size, 0, none⟩ (.int .i64 (n : Int))).setCell ⟨w.heap.size, 1, none⟩ (.int .u64 (t : Int))).setCell ⟨w.heap.size, 2, none⟩ (.slice AQ M cQ)).setCell ⟨w.heap.size, 3, none⟩ (.int .i64 (wd : Int))) from
   .inl ⟨⟨n, t, wd, qs⟩, AQ, cQ, by rw [H2.out, HX1.out], by rw [HM.out], (PVok.mk HL2.out (by simp only; omega) (by simp only; omega) (by simp only; omega) (by simp only; omega) HX2.out).keeps hkz (by decide), (ext_set (ext_set (ext_set (ext_set kY (Nat.le_refl _) (.int .i64 (n : Int))) (Nat.le_refl _) (.int .u64 (t : Int))) (Nat.le_refl _) (.slice AQ M cQ)) (Nat.le_refl _) (.int .i64 (wd : Int)))⟩)
  have HE6 := Lib.hid q6
  clear P6 hkz q6
  generalize (((w2.setCell ⟨w.heap.size, 0, none⟩ (.int .i64 (n : Int))).setCell ⟨w.heap.size, 1, none⟩ (.int .u64 (t : Int))).setCell ⟨w.heap.size, 2, none⟩ (.slice AQ M cQ)).setCell ⟨w.heap.size, 3, none⟩ (.int .i64 (wd : Int)) = Z9 at *
  exact bodyPost_ret (v := .tuple #[.agg #[.int .i64 (n : Int), .int .u64 (t : Int), .slice AQ M cQ, .int .i64 (wd : Int)], .int .i64 0]) (by simp [results, Tryz.results27, go_sem, e0, e1, e2, e3]) rfl HF.out
 ·rw [hT3]
  have i1 : ¬ (cc : Int) = 0 := by omega
  have H2 := Lib.hid hT2
  clear hT2 hT3
  have a0 : w2.cell? ⟨w.heap.size, 0, none⟩ = some (.int .i64 0) := q6.cell (i := 0) (by omega)
  have b0 := q6.frozen 0
  have a1 : w2.cell? ⟨w.heap.size, 1, none⟩ = some (.int .u64 0) := q6.cell (i := 1) (by omega)
  have b1 := q6.frozen 1
  have a2 : w2.cell? ⟨w.heap.size, 2, none⟩ = some (.slice none 0 0) := q6.cell (i := 2) (by omega)
  have b2 := q6.frozen 2
  have a3 : w2.cell? ⟨w.heap.size, 3, none⟩ = some (.int .i64 0) := q6.cell (i := 3) (by omega)
  have b3 := q6.frozen 3
  have Q6 := Lib.hid q6
  clear q6
  go_wp2_with fail
  have q6 := Q6.out
  have P6 : RW ((((w2.setCell ⟨w.heap.size, 0, none⟩ (.int .i64 0)).setCell ⟨w.heap.size, 1, none⟩ (.int .u64 0)).setCell ⟨w.heap.size, 2, none⟩ (.slice none 0 0)).setCell ⟨w.heap.size, 3, none⟩ (.int .i64 0)) w.heap.size 25 4 (parF (.int .i64 0) (.int .u64 0) (.slice none 0 0) (.int .i64 0)) := (q6.set4 (.int .i64 0) (.int .u64 0) (.slice none 0 0) (.int .i64 0))
  have e0 : ((((w2.setCell ⟨w.heap.size, 0, none⟩ (.int .i64 0)).setCell ⟨w.heap.size, 1, none⟩ (.int .u64 0)).setCell ⟨w.heap.size, 2, none⟩ (.slice none 0 0)).setCell ⟨w.heap.size, 3, none⟩ (.int .i64 0)).cell? ⟨w.heap.size, 0, none⟩ = some (.int .i64 0) := P6.cell (i := 0) (by omega)
  have e1 : ((((w2.setCell ⟨w.heap.size, 0, none⟩ (.int .i64 0)).setCell ⟨w.heap.size, 1, none⟩ (.int .u64 0)).setCell ⟨w.heap.size, 2, none⟩ (.slice none 0 0)).setCell ⟨w.heap.size, 3, none⟩ (.int .i64 0)).cell? ⟨w.heap.size, 1, none⟩ = some (.int .u64 0) := P6.cell (i := 1) (by omega)
  have e2 : ((((w2.setCell ⟨w.heap.size, 0, none⟩ (.int .i64 0)).setCell ⟨w.heap.size, 1, none⟩ (.int .u64 0)).setCell ⟨w.heap.size, 2, none⟩ (.slice none 0 0)).setCell ⟨w.heap.size, 3, none⟩ (.int .i64 0)).cell? ⟨w.heap.size, 2, none⟩ = some (.slice none 0 0) := P6.cell (i := 2) (by omega)
  have e3 : ((((w2.setCell ⟨w.heap.size, 0, none⟩ (.int .i64 0)).setCell ⟨w.heap.size, 1, none⟩ (.int .u64 0)).setCell ⟨w.heap.size, 2, none⟩ (.slice none 0 0)).setCell ⟨w.heap.size, 3, none⟩ (.int .i64 0)).cell? ⟨w.heap.size, 3, none⟩ = some (.int .i64 0) := P6.cell (i := 3) (by omega)
  have hkz : Keeps [22] w2 ((((w2.setCell ⟨w.heap.size, 0, none⟩ (.int .i64 0)).setCell ⟨w.heap.size, 1, none⟩ (.int .u64 0)).setCell ⟨w.heap.size, 2, none⟩ (.slice none 0 0)).setCell ⟨w.heap.size, 3, none⟩ (.int .i64 0)) := (((((Keeps.refl _ w2).trans (Keeps.set q6 (by decide) _)).trans (Keeps.set (q6.set (show 0 < 4 by omega) (.int .i64 0)) (by decide) _)).trans (Keeps.set ((q6.set (show 0 < 4 by omega) (.int .i64 0)).set (show 1 < 4 by omega) (.int .u64 0)) (by decide) _)).trans (Keeps.set (((q6.set (show 0 < 4 by omega) (.int .i64 0)).set (show 1 < 4 by omega) (.int .u64 0)).set (show 2 < 4 by omega) (.slice none 0 0)) (by decide) _))
  have HF := Lib.hid (show R0Post w (endP T) (.returned (.tuple #[.agg #[.int .i64 0, .int .u64 0, .slice none 0 0, .int .i64 0], .int .i64 (cc : Int)])) ((((w2.setCell ⟨w.heap.size, 0, none⟩ (.int .i64 0)).setCell ⟨w.heap.size, 1, none⟩ (.int .u64 0)).setCell ⟨w.heap.size, 2, none⟩ (.slice none 0 0)).setCell ⟨w.heap.size, 3, none⟩ (.int .i64 0)) from
   .inr ⟨cc, H2.out, hc0, hc1, rfl, (ext_set (ext_set (ext_set (ext_set kY (Nat.le_refl _) (.int .i64 0)) (Nat.le_refl _) (.int .u64 0)) (Nat.le_refl _) (.slice none 0 0)) (Nat.le_refl _) (.int .i64 0))⟩)
  have HE6 := Lib.hid q6
  clear P6 hkz q6
  generalize (((w2.setCell ⟨w.heap.size, 0, none⟩ (.int .i64 0)).setCell ⟨w.heap.size, 1, none⟩ (.int .u64 0)).setCell ⟨w.heap.size, 2, none⟩ (.slice none 0 0)).setCell ⟨w.heap.size, 3, none⟩ (.int .i64 0) = Z9 at *
  exact bodyPost_ret (v := .tuple #[.agg #[.int .i64 0, .int .u64 0, .slice none 0 0, .int .i64 0], .int .i64 (cc : Int)]) (by simp [results, Tryz.results27, go_sem, e0, e1, e2, e3]) rfl HF.out
theorem pub_pure {l : List Nat} {kind n t wd : Nat} {qs : List Nat} (hpv : ∀ pv r, bindP (betP 1 kind kind) (fun _ => paramP) l = .ok (pv, r) → pv = ⟨n, t, wd, qs⟩) :
    restS (headP kind publicP l) = restS (stp (restS (stp (restS (bindP (betP 1 kind kind) (fun _ => paramP) l)) (elemP n qs))) (elemP n qs)) ∧
    ∀ y r, headP kind publicP l = .ok (y, r) → ∃ x0 r0 x1, stp (restS (bindP (betP 1 kind kind) (fun _ => paramP) l)) (elemP n qs) = .ok (x0, r0) ∧ stp (restS (stp (restS (bindP (betP 1 kind kind) (fun _ => paramP) l)) (elemP n qs))) (elemP n qs) = .ok (x1, r) ∧ y = (⟨n, t, wd, qs⟩, [x0, x1]) := by
 rw [head_eq]
 rcases hh : bindP (betP 1 kind kind) (fun _ => paramP) l with e | ⟨pv, r1⟩
 ·rw [bindP_err hh]
  exact ⟨rfl, fun y r h => by cases h⟩
 ·obtain rfl := hpv pv r1 hh
  rw [bindP_ok hh]
  have hp : ∀ l1, publicP ⟨n, t, wd, qs⟩ l1 = manyP (elemP n qs) 2 l1 := fun _ => rfl
  simp only [stp]
  rw [show restS (.ok (⟨n, t, wd, qs⟩, r1) : Except Nat (PV × List Nat)) = .ok r1 from rfl]
  simp only
  rcases h1 : elemP n qs r1 with e | ⟨x0, r2⟩
  ·rw [bindP_err (show publicP ⟨n, t, wd, qs⟩ r1 = .error e by rw [hp, manyP_err h1])]
   exact ⟨rfl, fun y r h => by cases h⟩
  ·simp only [restS]
   rcases h2 : elemP n qs r2 with e | ⟨x1, r3⟩
   ·rw [bindP_err (show publicP ⟨n, t, wd, qs⟩ r1 = .error e by rw [hp, manyP_ok h1, manyP_err h2]; rfl)]
    exact ⟨rfl, fun y r h => by cases h⟩
   ·rw [bindP_ok (show publicP ⟨n, t, wd, qs⟩ r1 = .ok ([x0, x1], r3) by rw [hp, manyP_ok h1, manyP_ok h2]; rfl)]
    refine ⟨rfl, fun y r h => ?_⟩
    injection h with h
    injection h with h3 h4
    subst h4
    exact ⟨x0, r2, x1, rfl, rfl, h3.symm⟩
theorem elR_len {w : World} {A : Option Addr} {m c : Nat} {x : List (List Nat)} (h : ElR w (.slice A m c) x) : m = x.length := by
 obtain ⟨A', c', e, _⟩ := h
 injection e
structure RpQ (w : World) (x n t : Nat) (AQ : Option Addr) (M cQ wd : Nat) (v0 v1 : Value) (s : Except Nat (List Nat)) (qs : List Nat) (V : World) : Prop where
 ans : RW V w.heap.size 25 4 (parF (.int .i64 0) (.int .u64 0) (.slice none 0 0) (.int .i64 0))
 pub : RW V (w.heap.size + 1) 33 2 (fun _ => .slice none 0 0)
 par : RW V x 25 4 (parF (.int .i64 (n : Int)) (.int .u64 (t : Int)) (.slice AQ M cQ) (.int .i64 (wd : Int)))
 out : RW V (x + 1) 33 2 (fun j => if j = 0 then v0 else v1)
 rr : RR V (w.heap.size + 2) s
 ext : Ext w V
 ly : LY 22 WordR V AQ cQ qs
 lt : w.heap.size + 2 < x
section
variable {w : World} {x n t : Nat} {AQ : Option Addr} {M cQ wd : Nat} {v0 v1 : Value} {s s' : Except Nat (List Nat)} {qs : List Nat} {V V' : World}
theorem RpQ.call (h : RpQ w x n t AQ M cQ wd v0 v1 s qs V) (hr : RR V' (w.heap.size + 2) s') (k : On (w.heap.size + 2) V V') : RpQ w x n t AQ M cQ wd v0 v1 s' qs V' :=
 ⟨h.ans.on k (by omega), h.pub.on k (by omega), h.par.on k (by have := h.lt; omega), h.out.on k (by have := h.lt; omega), hr, h.ext.on k (by omega), h.ly.keeps (wordR_stays [22]) (by decide) (h.rr.keeps k (by decide)), h.lt⟩
theorem RpQ.set0 (h : RpQ w x n t AQ M cQ wd v0 v1 s qs V) (u : Value) : RpQ w x n t AQ M cQ wd u v1 s qs (V.setCell ⟨x + 1, 0, none⟩ u) :=
 ⟨h.ans.far (by have := h.lt; omega) u, h.pub.far (by have := h.lt; omega) u, h.par.far (by omega) u, (h.out.set (show 0 < 2 by omega) u).congr fun j hj => by rcases (show j = 0 ∨ j = 1 by omega) with rfl | rfl <;> simp, h.rr.setFar (by have := h.lt; omega) u, ext_set h.ext (by have := h.lt; omega) u, h.ly.keeps (wordR_stays [22]) (by decide) (Keeps.set h.out (by decide) u), h.lt⟩
theorem RpQ.set1 (h : RpQ w x n t AQ M cQ wd v0 v1 s qs V) (u : Value) : RpQ w x n t AQ M cQ wd v0 u s qs (V.setCell ⟨x + 1, 1, none⟩ u) :=
 ⟨h.ans.far (by have := h.lt; omega) u, h.pub.far (by have := h.lt; omega) u, h.par.far (by omega) u, (h.out.set (show 1 < 2 by omega) u).congr fun j hj => by rcases (show j = 0 ∨ j = 1 by omega) with rfl | rfl <;> simp, h.rr.setFar (by have := h.lt; omega) u, ext_set h.ext (by have := h.lt; omega) u, h.ly.keeps (wordR_stays [22]) (by decide) (Keeps.set h.out (by decide) u), h.lt⟩
end
set_option maxHeartbeats 16000000 in
theorem rrP_any (nn c : Nat) (A : Option Addr) (l : List Nat) (w : World) (hX : Hid (BX w A nn c l)) (hA : Hid (0 < nn → ∀ ad, A = some ad → ad.block < w.heap.size)) (hn : nn ≤ 100000) :
    Calls Tryz.prog 29 #[.slice A nn c] w (RPost (.agg #[.slice none 0 0, .slice none 0 0]) w (endP (headP 3 publicP l)) PubR) := by
 have HN := Lib.hid hX.out.len
 obtain ⟨T, hT0⟩ : ∃ T : Except Nat ((PV × List (List (List Nat))) × List Nat), T = headP 3 publicP l := ⟨_, rfl⟩
 rw [← hT0]
 have HT0 := Lib.hid hT0
 have kA : Ext w (((w.alloc (.cells #[.int .i64 0, .int .u64 0, .slice none 0 0, .int .i64 0] 25)).alloc (.cells #[.slice none 0 0, .slice none 0 0] 33)).alloc (.cells #[.slice A nn c, .int .i64 0] 128)) := (((Ext.refl w).alloc _).alloc _).alloc _
 have HR0 := Lib.hid (show RR (((w.alloc (.cells #[.int .i64 0, .int .u64 0, .slice none 0 0, .int .i64 0] 25)).alloc (.cells #[.slice none 0 0, .slice none 0 0] 33)).alloc (.cells #[.slice A nn c, .int .i64 0] 128)) (w.heap.size + 2) (.ok l) by
  have h := rr_new ((w.alloc (.cells #[.int .i64 0, .int .u64 0, .slice none 0 0, .int .i64 0] 25)).alloc (.cells #[.slice none 0 0, .slice none 0 0] 33)) A nn c l (hX.out.ext (((Ext.refl w).alloc _).alloc _)) HN.out.symm hn (fun h0 ad e => by have := hA.out h0 ad e; simp; omega)
  rw [World.size_alloc, World.size_alloc] at h
  exact h)
 have r6 : RW (((w.alloc (.cells #[.int .i64 0, .int .u64 0, .slice none 0 0, .int .i64 0] 25)).alloc (.cells #[.slice none 0 0, .slice none 0 0] 33)).alloc (.cells #[.slice A nn c, .int .i64 0] 128)) w.heap.size 25 4 (parF (.int .i64 0) (.int .u64 0) (.slice none 0 0) (.int .i64 0)) := RW.ext (show RW (w.alloc (.cells #[.int .i64 0, .int .u64 0, .slice none 0 0, .int .i64 0] 25)) w.heap.size 25 4 (parF (.int .i64 0) (.int .u64 0) (.slice none 0 0) (.int .i64 0)) from heap_alloc_new w _) (((Ext.refl _).alloc _).alloc _)
 have r7 : RW (((w.alloc (.cells #[.int .i64 0, .int .u64 0, .slice none 0 0, .int .i64 0] 25)).alloc (.cells #[.slice none 0 0, .slice none 0 0] 33)).alloc (.cells #[.slice A nn c, .int .i64 0] 128)) (w.heap.size + 1) 33 2 (fun _ => .slice none 0 0) := by
  have h : RW ((w.alloc (.cells #[.int .i64 0, .int .u64 0, .slice none 0 0, .int .i64 0] 25)).alloc (.cells #[.slice none 0 0, .slice none 0 0] 33)) (w.alloc (.cells #[.int .i64 0, .int .u64 0, .slice none 0 0, .int .i64 0] 25)).heap.size 33 2 (fun _ => .slice none 0 0) := heap_alloc_new (w.alloc (.cells #[.int .i64 0, .int .u64 0, .slice none 0 0, .int .i64 0] 25)) (.cells #[.slice none 0 0, .slice none 0 0] 33)
  rw [World.size_alloc] at h
  exact h.ext ((Ext.refl _).alloc _)
 have hs0 : (((w.alloc (.cells #[.int .i64 0, .int .u64 0, .slice none 0 0, .int .i64 0] 25)).alloc (.cells #[.slice none 0 0, .slice none 0 0] 33)).alloc (.cells #[.slice A nn c, .int .i64 0] 128)).heap.size = w.heap.size + 3 := by simp
 clear hT0
 go_enter Tryz.func29, Tryz.ntmps29
 go_wp2_with fail
 generalize (((w.alloc (.cells #[.int .i64 0, .int .u64 0, .slice none 0 0, .int .i64 0] 25)).alloc (.cells #[.slice none 0 0, .slice none 0 0] 33)).alloc (.cells #[.slice A nn c, .int .i64 0] 128)) = X0 at *
 refine (rStart_any 3 (w.heap.size + 2) l X0 HR0 (by omega)).mono ?_
 rintro e1 w1 ⟨n, t, wd, qs, AQ, cQ, rfl, hly, hn1, ht1, hw1, hq1, hpv, hrr, hon⟩
 obtain ⟨M, hM⟩ : ∃ M, M = qs.length := ⟨_, rfl⟩
 have HM := Lib.hid hM
 rw [← hM]
 obtain ⟨p1, p2⟩ := pub_pure (kind := 3) hpv
 obtain ⟨s1, hs1⟩ : ∃ s, s = restS (bindP (betP 1 3 3) (fun _ => paramP) l) := ⟨_, rfl⟩
 have hpos : ∀ l1, s1 = .ok l1 → M ≤ M ∧ ∀ q ∈ qs, 0 < q := fun l1 h => by
  refine ⟨Nat.le_refl _, ?_⟩
  rw [hs1] at h
  rcases hh : bindP (betP 1 3 3) (fun _ => paramP) l with e | ⟨pv, r'⟩
  ·rw [hh] at h; cases h
  ·obtain rfl := hpv pv r' hh
   exact (start_ok hh).1
 have hp0 : ∀ l1, s1 = .ok l1 → 0 < qs.length := fun l1 h => by
  rw [hs1] at h
  rcases hh : bindP (betP 1 3 3) (fun _ => paramP) l with e | ⟨pv, r'⟩
  ·rw [hh] at h; cases h
  ·obtain rfl := hpv pv r' hh
   exact (start_ok hh).2.1
 rw [← hs1] at hrr p1 p2
 have htk : qs.take M = qs := by rw [hM]; exact List.take_length
 have HTK := Lib.hid htk
 have HP1 := Lib.hid p1
 have HP2 := Lib.hid p2
 have HPOS := Lib.hid hpos
 have HP0 := Lib.hid hp0
 have hsz := hon.size
 have HQ := Lib.hid (show RpQ w w1.heap.size n t AQ M cQ wd (.slice none 0 0) (.slice none 0 0) s1 qs ((w1.alloc (.cells #[.int .i64 (n : Int), .int .u64 (t : Int), .slice AQ M cQ, .int .i64 (wd : Int)] 25)).alloc (.cells #[.slice none 0 0, .slice none 0 0] 33)) from by
  have kY : Ext w1 ((w1.alloc (.cells #[.int .i64 (n : Int), .int .u64 (t : Int), .slice AQ M cQ, .int .i64 (wd : Int)] 25)).alloc (.cells #[.slice none 0 0, .slice none 0 0] 33)) := ((Ext.refl w1).alloc _).alloc _
  refine ⟨(r6.on hon (by omega)).ext kY, (r7.on hon (by omega)).ext kY, RW.ext (show RW (w1.alloc (.cells #[.int .i64 (n : Int), .int .u64 (t : Int), .slice AQ M cQ, .int .i64 (wd : Int)] 25)) w1.heap.size 25 4 (parF (.int .i64 (n : Int)) (.int .u64 (t : Int)) (.slice AQ M cQ) (.int .i64 (wd : Int))) from heap_alloc_new w1 _) ((Ext.refl _).alloc _), ?_, hrr.ext kY, (kA.on hon (by omega)).trans kY, hly.keeps (wordR_stays [22]) (by decide) (Keeps.ext kY), by omega⟩
  have h : RW ((w1.alloc (.cells #[.int .i64 (n : Int), .int .u64 (t : Int), .slice AQ M cQ, .int .i64 (wd : Int)] 25)).alloc (.cells #[.slice none 0 0, .slice none 0 0] 33)) (w1.alloc (.cells #[.int .i64 (n : Int), .int .u64 (t : Int), .slice AQ M cQ, .int .i64 (wd : Int)] 25)).heap.size 33 2 (fun j => if j = 0 then .slice none 0 0 else .slice none 0 0) := heap_alloc_new (w1.alloc (.cells #[.int .i64 (n : Int), .int .u64 (t : Int), .slice AQ M cQ, .int .i64 (wd : Int)] 25)) (.cells #[.slice none 0 0, .slice none 0 0] 33)
  rw [World.size_alloc] at h
  exact h)
 clear hM hly hpv hrr hon hs1 hpos hp0 p1 p2 htk r6 r7
 obtain ⟨x, hx⟩ : ∃ x, x = w1.heap.size := ⟨_, rfl⟩
 go_wp2_with fail
 generalize ((w1.alloc (.cells #[.int .i64 (n : Int), .int .u64 (t : Int), .slice AQ M cQ, .int .i64 (wd : Int)] 25)).alloc (.cells #[.slice none 0 0, .slice none 0 0] 33)) = W4 at *
 rw [← hx] at HQ ⊢
 clear hx
 obtain ⟨c0, c1, c2, c3⟩ := HQ.out.par.pc
 refine (rPoly_any (w.heap.size + 2) n t wd M cQ M AQ qs s1 W4 (Lib.hid HQ.out.rr) hn1 (Lib.hid HM.out.symm) (by rw [HM.out]; exact hq1) (by rw [HM.out]; omega) (Lib.hid HQ.out.ly) HPOS).mono ?_
 rintro e2 w2 ⟨A2, m2, c2', rfl, ⟨xx2, hEl2, hEx2⟩, hr2, ho2⟩
 rw [HTK.out] at hEx2 hr2
 have hE1 : ∀ xx r, stp s1 (elemP n qs) = .ok (xx, r) → ElR w2 (.slice A2 m2 c2') xx := fun xx r h => by rw [hEx2 xx r h]; exact hEl2
 clear hEl2 hEx2
 have HQ2 := Lib.hid (HQ.out.call hr2 ho2)
 have HE1 := Lib.hid hE1
 have o0 := HQ2.out.out.cell (i := 0) (by omega)
 have o1 := HQ2.out.out.cell (i := 1) (by omega)
 have oz := HQ2.out.out.frozen 0
 simp only [if_true, show ¬ ((1 : Nat) = 0) by omega, if_false] at o0 o1
 have HQ3 := Lib.hid (HQ2.out.set0 (.slice A2 m2 c2'))
 have hkz1 : Keeps [22, 23] w2 (w2.setCell ⟨x + 1, 0, none⟩ (.slice A2 m2 c2')) := Keeps.set HQ2.out.out (by decide) _
 have HE2 := Lib.hid (show ∀ xx r, stp s1 (elemP n qs) = .ok (xx, r) → ElR (w2.setCell ⟨x + 1, 0, none⟩ (.slice A2 m2 c2')) (.slice A2 m2 c2') xx from fun xx r h => elR_stays (by decide) (by decide) _ _ _ _ hkz1 (hE1 xx r h))
 clear hE1 hr2 ho2 hkz1 c0 c1 c2 c3
 obtain ⟨c0, c1, c2, c3⟩ := HQ3.out.par.pc
 go_wp2_with fail
 generalize w2.setCell ⟨x + 1, 0, none⟩ (.slice A2 m2 c2') = W5 at *
 clear o0 o1 oz c0 c1 c2 c3
 obtain ⟨s2, hs2⟩ : ∃ s, s = restS (stp s1 (elemP n qs)) := ⟨_, rfl⟩
 rw [← hs2] at HQ3 HP1 HP2
 have HS2 := Lib.hid (show ∀ l1, s2 = .ok l1 → ∃ l0, s1 = .ok l0 from fun l1 h => by
  rw [hs2] at h
  rcases s1 with e | l0
  ·cases h
  ·exact ⟨l0, rfl⟩)
 clear hs2
 refine (rPoly_any (w.heap.size + 2) n t wd M cQ M AQ qs s2 W5 (Lib.hid HQ3.out.rr) hn1 (Lib.hid HM.out.symm) (by rw [HM.out]; exact hq1) (by rw [HM.out]; omega) (Lib.hid HQ3.out.ly) (Lib.hid fun l1 h => by obtain ⟨l0, h0⟩ := HS2.out l1 h; exact HPOS.out l0 h0)).mono ?_
 rintro e3 w3 ⟨A3, m3, c3', rfl, ⟨xx3, hEl3, hEx3⟩, hr3, ho3⟩
 rw [HTK.out] at hEx3 hr3
 have hE3 : ∀ xx r, stp s2 (elemP n qs) = .ok (xx, r) → ElR w3 (.slice A3 m3 c3') xx := fun xx r h => by rw [hEx3 xx r h]; exact hEl3
 clear hEl3 hEx3
 have HQ4 := Lib.hid (HQ3.out.call hr3 ho3)
 have hkz2 : Keeps [22, 23] W5 w3 := HQ3.out.rr.keeps ho3 (by decide)
 have o0 := HQ4.out.out.cell (i := 0) (by omega)
 have o1 := HQ4.out.out.cell (i := 1) (by omega)
 have oz := HQ4.out.out.frozen 1
 simp only [if_true, show ¬ ((1 : Nat) = 0) by omega, if_false] at o0 o1
 have HQ5 := Lib.hid (HQ4.out.set1 (.slice A3 m3 c3'))
 have hkz3 : Keeps [22, 23] w3 (w3.setCell ⟨x + 1, 1, none⟩ (.slice A3 m3 c3')) := Keeps.set HQ4.out.out (by decide) _
 have HE4 := Lib.hid (show ∀ xx r, stp s1 (elemP n qs) = .ok (xx, r) → ElR (w3.setCell ⟨x + 1, 1, none⟩ (.slice A3 m3 c3')) (.slice A2 m2 c2') xx from fun xx r h => elR_stays (by decide) (by decide) _ _ _ _ (hkz2.trans hkz3) (HE2.out xx r h))
 have HE5 := Lib.hid (show ∀ xx r, stp s2 (elemP n qs) = .ok (xx, r) → ElR (w3.setCell ⟨x + 1, 1, none⟩ (.slice A3 m3 c3')) (.slice A3 m3 c3') xx from fun xx r h => elR_stays (by decide) (by decide) _ _ _ _ hkz3 (hE3 xx r h))
 clear hE3 hr3 ho3 hkz2 hkz3
 go_wp2_with fail
 generalize w3.setCell ⟨x + 1, 1, none⟩ (.slice A3 m3 c3') = W6 at *
 clear o0 o1 oz
 have HRT := Lib.hid (show RR W6 (w.heap.size + 2) (restS T) by rw [HT0.out, HP1.out]; exact HQ5.out.rr)
 refine (rEnd_any (w.heap.size + 2) (restS T) W6 HRT).mono ?_
 rintro e4 w4 ⟨rfl, ho4⟩
 have q6 := HQ5.out.ans.on ho4 (by omega)
 have q7 := HQ5.out.pub.on ho4 (by omega)
 obtain ⟨f0, f1, f2, f3⟩ := (HQ5.out.par.on ho4 (by have := HQ5.out.lt; omega)).pc
 have hpo := HQ5.out.out.on ho4 (by have := HQ5.out.lt; omega)
 have g0 := hpo.cell (i := 0) (by omega)
 have g1 := hpo.cell (i := 1) (by omega)
 simp only [if_true, show ¬ ((1 : Nat) = 0) by omega, if_false] at g0 g1
 have kY : Ext w w4 := HQ5.out.ext.on ho4 (by omega)
 have hkk : Keeps [22, 23] W6 w4 := HRT.out.keeps ho4 (by decide)
 have HL2 := Lib.hid (HQ5.out.ly.keeps (wordR_stays [22, 23]) (by decide) hkk)
 have HE6 := Lib.hid (show ∀ xx r, stp s1 (elemP n qs) = .ok (xx, r) → ElR w4 (.slice A2 m2 c2') xx from fun xx r h => elR_stays (by decide) (by decide) _ _ _ _ hkk (HE4.out xx r h))
 have HE7 := Lib.hid (show ∀ xx r, stp s2 (elemP n qs) = .ok (xx, r) → ElR w4 (.slice A3 m3 c3') xx from fun xx r h => elR_stays (by decide) (by decide) _ _ _ _ hkk (HE5.out xx r h))
 have hxlt := HQ5.out.lt
 have hne1 : ¬ (w.heap.size = x) := by omega
 have hne2 : ¬ (x = w.heap.size) := by omega
 have hne3 : ¬ (w.heap.size = x + 1) := by omega
 have hne4 : ¬ (x + 1 = w.heap.size) := by omega
 have hne5 : ¬ (w.heap.size + 1 = x) := by omega
 have hne6 : ¬ (x = w.heap.size + 1) := by omega
 have hne7 : ¬ (w.heap.size + 1 = x + 1) := by omega
 have hne8 : ¬ (x + 1 = w.heap.size + 1) := by omega
 clear hpo ho4 hkk
 rcases end_cases HRT.out with ⟨⟨pv, xs⟩, r, hT1, hT2, hT3⟩ | ⟨cc, hT2, hc0, hc1, hT3⟩
 ·obtain ⟨x0, r0, x1, he1, he2, he3⟩ := HP2.out _ r (by rw [← HT0.out]; exact hT1)
  rw [hT3]
  have H2 := Lib.hid hT2
  have HX1 := Lib.hid he3
  have HV0 := Lib.hid (HE6.out x0 r0 he1)
  have HV1 := Lib.hid (HE7.out x1 r he2)
  have HX2 := Lib.hid (show 0 < qs.length from by
   rcases hh1 : s1 with e | l1
   ·rw [hh1] at he1; cases he1
   ·exact HP0.out l1 hh1)
  clear hT1 hT2 hT3 he1 he2 he3
  have a0 : w4.cell? ⟨w.heap.size, 0, none⟩ = some (.int .i64 0) := q6.cell (i := 0) (by omega)
  have b0 := q6.frozen 0
  have a1 : w4.cell? ⟨w.heap.size, 1, none⟩ = some (.int .u64 0) := q6.cell (i := 1) (by omega)
  have b1 := q6.frozen 1
  have a2 : w4.cell? ⟨w.heap.size, 2, none⟩ = some (.slice none 0 0) := q6.cell (i := 2) (by omega)
  have b2 := q6.frozen 2
  have a3 : w4.cell? ⟨w.heap.size, 3, none⟩ = some (.int .i64 0) := q6.cell (i := 3) (by omega)
  have b3 := q6.frozen 3
  have tc0 := q7.cell (i := 0) (by omega)
  have td0 := q7.frozen 0
  have tc1 := q7.cell (i := 1) (by omega)
  have td1 := q7.frozen 1
  have P6 : RW ((((((w4.setCell ⟨w.heap.size, 0, none⟩ (.int .i64 (n : Int))).setCell ⟨w.heap.size, 1, none⟩ (.int .u64 (t : Int))).setCell ⟨w.heap.size, 2, none⟩ (.slice AQ M cQ)).setCell ⟨w.heap.size, 3, none⟩ (.int .i64 (wd : Int))).setCell ⟨(w.heap.size + 1), 0, none⟩ (.slice A2 m2 c2')).setCell ⟨(w.heap.size + 1), 1, none⟩ (.slice A3 m3 c3')) w.heap.size 25 4 (parF (.int .i64 (n : Int)) (.int .u64 (t : Int)) (.slice AQ M cQ) (.int .i64 (wd : Int))) := (RW.far (RW.far (q6.set4 (.int .i64 (n : Int)) (.int .u64 (t : Int)) (.slice AQ M cQ) (.int .i64 (wd : Int))) (x := w.heap.size + 1) (by omega) (.slice A2 m2 c2')) (x := w.heap.size + 1) (by omega) (.slice A3 m3 c3'))
  have e0 : ((((((w4.setCell ⟨w.heap.size, 0, none⟩ (.int .i64 (n : Int))).setCell ⟨w.heap.size, 1, none⟩ (.int .u64 (t : Int))).setCell ⟨w.heap.size, 2, none⟩ (.slice AQ M cQ)).setCell ⟨w.heap.size, 3, none⟩ (.int .i64 (wd : Int))).setCell ⟨(w.heap.size + 1), 0, none⟩ (.slice A2 m2 c2')).setCell ⟨(w.heap.size + 1), 1, none⟩ (.slice A3 m3 c3')).cell? ⟨w.heap.size, 0, none⟩ = some (.int .i64 (n : Int)) := P6.cell (i := 0) (by omega)
  have e1 : ((((((w4.setCell ⟨w.heap.size, 0, none⟩ (.int .i64 (n : Int))).setCell ⟨w.heap.size, 1, none⟩ (.int .u64 (t : Int))).setCell ⟨w.heap.size, 2, none⟩ (.slice AQ M cQ)).setCell ⟨w.heap.size, 3, none⟩ (.int .i64 (wd : Int))).setCell ⟨(w.heap.size + 1), 0, none⟩ (.slice A2 m2 c2')).setCell ⟨(w.heap.size + 1), 1, none⟩ (.slice A3 m3 c3')).cell? ⟨w.heap.size, 1, none⟩ = some (.int .u64 (t : Int)) := P6.cell (i := 1) (by omega)
  have e2 : ((((((w4.setCell ⟨w.heap.size, 0, none⟩ (.int .i64 (n : Int))).setCell ⟨w.heap.size, 1, none⟩ (.int .u64 (t : Int))).setCell ⟨w.heap.size, 2, none⟩ (.slice AQ M cQ)).setCell ⟨w.heap.size, 3, none⟩ (.int .i64 (wd : Int))).setCell ⟨(w.heap.size + 1), 0, none⟩ (.slice A2 m2 c2')).setCell ⟨(w.heap.size + 1), 1, none⟩ (.slice A3 m3 c3')).cell? ⟨w.heap.size, 2, none⟩ = some (.slice AQ M cQ) := P6.cell (i := 2) (by omega)
  have e3 : ((((((w4.setCell ⟨w.heap.size, 0, none⟩ (.int .i64 (n : Int))).setCell ⟨w.heap.size, 1, none⟩ (.int .u64 (t : Int))).setCell ⟨w.heap.size, 2, none⟩ (.slice AQ M cQ)).setCell ⟨w.heap.size, 3, none⟩ (.int .i64 (wd : Int))).setCell ⟨(w.heap.size + 1), 0, none⟩ (.slice A2 m2 c2')).setCell ⟨(w.heap.size + 1), 1, none⟩ (.slice A3 m3 c3')).cell? ⟨w.heap.size, 3, none⟩ = some (.int .i64 (wd : Int)) := P6.cell (i := 3) (by omega)
  have P7 : RW ((((w4.setCell ⟨w.heap.size, 0, none⟩ (.int .i64 (n : Int))).setCell ⟨w.heap.size, 1, none⟩ (.int .u64 (t : Int))).setCell ⟨w.heap.size, 2, none⟩ (.slice AQ M cQ)).setCell ⟨w.heap.size, 3, none⟩ (.int .i64 (wd : Int))) (w.heap.size + 1) 33 2 (fun _ => .slice none 0 0) := (RW.far (RW.far (RW.far (RW.far q7 (x := w.heap.size) (by omega) (.int .i64 (n : Int))) (x := w.heap.size) (by omega) (.int .u64 (t : Int))) (x := w.heap.size) (by omega) (.slice AQ M cQ)) (x := w.heap.size) (by omega) (.int .i64 (wd : Int)))
  obtain ⟨e4, e5⟩ := ret_two P7 (.slice A2 m2 c2') (.slice A3 m3 c3')
  have hkz : Keeps [22, 23] w4 ((((((w4.setCell ⟨w.heap.size, 0, none⟩ (.int .i64 (n : Int))).setCell ⟨w.heap.size, 1, none⟩ (.int .u64 (t : Int))).setCell ⟨w.heap.size, 2, none⟩ (.slice AQ M cQ)).setCell ⟨w.heap.size, 3, none⟩ (.int .i64 (wd : Int))).setCell ⟨(w.heap.size + 1), 0, none⟩ (.slice A2 m2 c2')).setCell ⟨(w.heap.size + 1), 1, none⟩ (.slice A3 m3 c3')) := (((((((Keeps.refl _ w4).trans (Keeps.set q6 (by decide) _)).trans (Keeps.set (q6.set (show 0 < 4 by omega) (.int .i64 (n : Int))) (by decide) _)).trans (Keeps.set ((q6.set (show 0 < 4 by omega) (.int .i64 (n : Int))).set (show 1 < 4 by omega) (.int .u64 (t : Int))) (by decide) _)).trans (Keeps.set (((q6.set (show 0 < 4 by omega) (.int .i64 (n : Int))).set (show 1 < 4 by omega) (.int .u64 (t : Int))).set (show 2 < 4 by omega) (.slice AQ M cQ)) (by decide) _)).trans (Keeps.set P7 (by decide) _)).trans (Keeps.set (P7.set (show 0 < 2 by omega) (.slice A2 m2 c2')) (by decide) _))
  have HF := Lib.hid (show RPost (.agg #[.slice none 0 0, .slice none 0 0]) w (endP T) PubR (.returned (.tuple #[.agg #[.int .i64 (n : Int), .int .u64 (t : Int), .slice AQ M cQ, .int .i64 (wd : Int)], .agg #[.slice A2 m2 c2', .slice A3 m3 c3'], .int .i64 0])) ((((((w4.setCell ⟨w.heap.size, 0, none⟩ (.int .i64 (n : Int))).setCell ⟨w.heap.size, 1, none⟩ (.int .u64 (t : Int))).setCell ⟨w.heap.size, 2, none⟩ (.slice AQ M cQ)).setCell ⟨w.heap.size, 3, none⟩ (.int .i64 (wd : Int))).setCell ⟨(w.heap.size + 1), 0, none⟩ (.slice A2 m2 c2')).setCell ⟨(w.heap.size + 1), 1, none⟩ (.slice A3 m3 c3')) from
   .inl ⟨⟨n, t, wd, qs⟩, [x0, x1], _, AQ, cQ, by rw [H2.out, HX1.out], by rw [HM.out], by
   obtain rfl := elR_len HV0.out
   obtain rfl := elR_len HV1.out
   exact ⟨A2, A3, c2', c3', x0, x1, rfl, rfl, elR_stays (by decide) (by decide) _ _ _ _ hkz HV0.out, elR_stays (by decide) (by decide) _ _ _ _ hkz HV1.out⟩, (PVok.mk HL2.out (by simp only; omega) (by simp only; omega) (by simp only; omega) (by simp only; omega) HX2.out).keeps hkz (by decide), (ext_set (ext_set (ext_set (ext_set (ext_set (ext_set kY (Nat.le_refl _) (.int .i64 (n : Int))) (Nat.le_refl _) (.int .u64 (t : Int))) (Nat.le_refl _) (.slice AQ M cQ)) (Nat.le_refl _) (.int .i64 (wd : Int))) (Nat.le_succ _) (.slice A2 m2 c2')) (Nat.le_succ _) (.slice A3 m3 c3'))⟩)
  have HE6 := Lib.hid q6
  clear P6 hkz q6 q7 P7
  go_wp2_with fail
  go_region
  all_goals
   generalize (((((w4.setCell ⟨w.heap.size, 0, none⟩ (.int .i64 (n : Int))).setCell ⟨w.heap.size, 1, none⟩ (.int .u64 (t : Int))).setCell ⟨w.heap.size, 2, none⟩ (.slice AQ M cQ)).setCell ⟨w.heap.size, 3, none⟩ (.int .i64 (wd : Int))).setCell ⟨(w.heap.size + 1), 0, none⟩ (.slice A2 m2 c2')).setCell ⟨(w.heap.size + 1), 1, none⟩ (.slice A3 m3 c3') = Z9 at *
   go_wp2
   exact bodyPost_ret (v := .tuple #[.agg #[.int .i64 (n : Int), .int .u64 (t : Int), .slice AQ M cQ, .int .i64 (wd : Int)], .agg #[.slice A2 m2 c2', .slice A3 m3 c3'], .int .i64 0]) (by simp [results, Tryz.results29, go_sem, e0, e1, e2, e3, e4, e5]) rfl (HF.out.later (pubR_stays (ts := [22, 23]) (by decide) (by decide)) (Ext.refl _).drew)
 ·rw [hT3]
  have i1 : ¬ (cc : Int) = 0 := by omega
  have H2 := Lib.hid hT2
  clear hT2 hT3
  have a0 : w4.cell? ⟨w.heap.size, 0, none⟩ = some (.int .i64 0) := q6.cell (i := 0) (by omega)
  have b0 := q6.frozen 0
  have a1 : w4.cell? ⟨w.heap.size, 1, none⟩ = some (.int .u64 0) := q6.cell (i := 1) (by omega)
  have b1 := q6.frozen 1
  have a2 : w4.cell? ⟨w.heap.size, 2, none⟩ = some (.slice none 0 0) := q6.cell (i := 2) (by omega)
  have b2 := q6.frozen 2
  have a3 : w4.cell? ⟨w.heap.size, 3, none⟩ = some (.int .i64 0) := q6.cell (i := 3) (by omega)
  have b3 := q6.frozen 3
  have tc0 := q7.cell (i := 0) (by omega)
  have td0 := q7.frozen 0
  have tc1 := q7.cell (i := 1) (by omega)
  have td1 := q7.frozen 1
  have Q6 := Lib.hid q6
  clear q6
  have Q7 := Lib.hid q7
  clear q7
  go_wp2_with fail
  have q6 := Q6.out
  have q7 := Q7.out
  have P6 : RW ((((((w4.setCell ⟨w.heap.size, 0, none⟩ (.int .i64 0)).setCell ⟨w.heap.size, 1, none⟩ (.int .u64 0)).setCell ⟨w.heap.size, 2, none⟩ (.slice none 0 0)).setCell ⟨w.heap.size, 3, none⟩ (.int .i64 0)).setCell ⟨(w.heap.size + 1), 0, none⟩ (.slice none 0 0)).setCell ⟨(w.heap.size + 1), 1, none⟩ (.slice none 0 0)) w.heap.size 25 4 (parF (.int .i64 0) (.int .u64 0) (.slice none 0 0) (.int .i64 0)) := (RW.far (RW.far (q6.set4 (.int .i64 0) (.int .u64 0) (.slice none 0 0) (.int .i64 0)) (x := w.heap.size + 1) (by omega) (.slice none 0 0)) (x := w.heap.size + 1) (by omega) (.slice none 0 0))
  have e0 : ((((((w4.setCell ⟨w.heap.size, 0, none⟩ (.int .i64 0)).setCell ⟨w.heap.size, 1, none⟩ (.int .u64 0)).setCell ⟨w.heap.size, 2, none⟩ (.slice none 0 0)).setCell ⟨w.heap.size, 3, none⟩ (.int .i64 0)).setCell ⟨(w.heap.size + 1), 0, none⟩ (.slice none 0 0)).setCell ⟨(w.heap.size + 1), 1, none⟩ (.slice none 0 0)).cell? ⟨w.heap.size, 0, none⟩ = some (.int .i64 0) := P6.cell (i := 0) (by omega)
  have e1 : ((((((w4.setCell ⟨w.heap.size, 0, none⟩ (.int .i64 0)).setCell ⟨w.heap.size, 1, none⟩ (.int .u64 0)).setCell ⟨w.heap.size, 2, none⟩ (.slice none 0 0)).setCell ⟨w.heap.size, 3, none⟩ (.int .i64 0)).setCell ⟨(w.heap.size + 1), 0, none⟩ (.slice none 0 0)).setCell ⟨(w.heap.size + 1), 1, none⟩ (.slice none 0 0)).cell? ⟨w.heap.size, 1, none⟩ = some (.int .u64 0) := P6.cell (i := 1) (by omega)
  have e2 : ((((((w4.setCell ⟨w.heap.size, 0, none⟩ (.int .i64 0)).setCell ⟨w.heap.size, 1, none⟩ (.int .u64 0)).setCell ⟨w.heap.size, 2, none⟩ (.slice none 0 0)).setCell ⟨w.heap.size, 3, none⟩ (.int .i64 0)).setCell ⟨(w.heap.size + 1), 0, none⟩ (.slice none 0 0)).setCell ⟨(w.heap.size + 1), 1, none⟩ (.slice none 0 0)).cell? ⟨w.heap.size, 2, none⟩ = some (.slice none 0 0) := P6.cell (i := 2) (by omega)
  have e3 : ((((((w4.setCell ⟨w.heap.size, 0, none⟩ (.int .i64 0)).setCell ⟨w.heap.size, 1, none⟩ (.int .u64 0)).setCell ⟨w.heap.size, 2, none⟩ (.slice none 0 0)).setCell ⟨w.heap.size, 3, none⟩ (.int .i64 0)).setCell ⟨(w.heap.size + 1), 0, none⟩ (.slice none 0 0)).setCell ⟨(w.heap.size + 1), 1, none⟩ (.slice none 0 0)).cell? ⟨w.heap.size, 3, none⟩ = some (.int .i64 0) := P6.cell (i := 3) (by omega)
  have P7 : RW ((((w4.setCell ⟨w.heap.size, 0, none⟩ (.int .i64 0)).setCell ⟨w.heap.size, 1, none⟩ (.int .u64 0)).setCell ⟨w.heap.size, 2, none⟩ (.slice none 0 0)).setCell ⟨w.heap.size, 3, none⟩ (.int .i64 0)) (w.heap.size + 1) 33 2 (fun _ => .slice none 0 0) := (RW.far (RW.far (RW.far (RW.far q7 (x := w.heap.size) (by omega) (.int .i64 0)) (x := w.heap.size) (by omega) (.int .u64 0)) (x := w.heap.size) (by omega) (.slice none 0 0)) (x := w.heap.size) (by omega) (.int .i64 0))
  obtain ⟨e4, e5⟩ := ret_two P7 (.slice none 0 0) (.slice none 0 0)
  have hkz : Keeps [22, 23] w4 ((((((w4.setCell ⟨w.heap.size, 0, none⟩ (.int .i64 0)).setCell ⟨w.heap.size, 1, none⟩ (.int .u64 0)).setCell ⟨w.heap.size, 2, none⟩ (.slice none 0 0)).setCell ⟨w.heap.size, 3, none⟩ (.int .i64 0)).setCell ⟨(w.heap.size + 1), 0, none⟩ (.slice none 0 0)).setCell ⟨(w.heap.size + 1), 1, none⟩ (.slice none 0 0)) := (((((((Keeps.refl _ w4).trans (Keeps.set q6 (by decide) _)).trans (Keeps.set (q6.set (show 0 < 4 by omega) (.int .i64 0)) (by decide) _)).trans (Keeps.set ((q6.set (show 0 < 4 by omega) (.int .i64 0)).set (show 1 < 4 by omega) (.int .u64 0)) (by decide) _)).trans (Keeps.set (((q6.set (show 0 < 4 by omega) (.int .i64 0)).set (show 1 < 4 by omega) (.int .u64 0)).set (show 2 < 4 by omega) (.slice none 0 0)) (by decide) _)).trans (Keeps.set P7 (by decide) _)).trans (Keeps.set (P7.set (show 0 < 2 by omega) (.slice none 0 0)) (by decide) _))
  have HF := Lib.hid (show RPost (.agg #[.slice none 0 0, .slice none 0 0]) w (endP T) PubR (.returned (.tuple #[.agg #[.int .i64 0, .int .u64 0, .slice none 0 0, .int .i64 0], .agg #[.slice none 0 0, .slice none 0 0], .int .i64 (cc : Int)])) ((((((w4.setCell ⟨w.heap.size, 0, none⟩ (.int .i64 0)).setCell ⟨w.heap.size, 1, none⟩ (.int .u64 0)).setCell ⟨w.heap.size, 2, none⟩ (.slice none 0 0)).setCell ⟨w.heap.size, 3, none⟩ (.int .i64 0)).setCell ⟨(w.heap.size + 1), 0, none⟩ (.slice none 0 0)).setCell ⟨(w.heap.size + 1), 1, none⟩ (.slice none 0 0)) from
   .inr ⟨cc, H2.out, hc0, hc1, rfl, (ext_set (ext_set (ext_set (ext_set (ext_set (ext_set kY (Nat.le_refl _) (.int .i64 0)) (Nat.le_refl _) (.int .u64 0)) (Nat.le_refl _) (.slice none 0 0)) (Nat.le_refl _) (.int .i64 0)) (Nat.le_succ _) (.slice none 0 0)) (Nat.le_succ _) (.slice none 0 0))⟩)
  have HE6 := Lib.hid q6
  clear P6 hkz q6 q7 P7
  generalize (((((w4.setCell ⟨w.heap.size, 0, none⟩ (.int .i64 0)).setCell ⟨w.heap.size, 1, none⟩ (.int .u64 0)).setCell ⟨w.heap.size, 2, none⟩ (.slice none 0 0)).setCell ⟨w.heap.size, 3, none⟩ (.int .i64 0)).setCell ⟨(w.heap.size + 1), 0, none⟩ (.slice none 0 0)).setCell ⟨(w.heap.size + 1), 1, none⟩ (.slice none 0 0) = Z9 at *
  exact bodyPost_ret (v := .tuple #[.agg #[.int .i64 0, .int .u64 0, .slice none 0 0, .int .i64 0], .agg #[.slice none 0 0, .slice none 0 0], .int .i64 (cc : Int)]) (by simp [results, Tryz.results29, go_sem, e0, e1, e2, e3, e4, e5]) rfl HF.out
end Go.Proofs.YtkbcobjhlpjieaaGreatDoor
