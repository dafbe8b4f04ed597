import Derived.Test.YtkbcobjhlpjieaaGreatDoorZUBeh
namespace Go.Proofs.YtkbcobjhlpjieaaGreatDoor
open Go.RowKit
set_option linter.unusedVariables false
set_option maxRecDepth 100000
theorem RW.far {w : World} {g x o n : Nat} {t : TypeId} {F : Nat → Value} (h : RW w g t n F) (hne : g ≠ x) (v : Value) : RW (w.setCell ⟨x, o, none⟩ v) g t n F := h.keep (Below.heap_setCell _ _ _ _ (fun e => hne (by simpa using e)))
structure PVok (w : World) (pv : PV) (AQ : Option Addr) (cQ : Nat) : Prop where
 ly : LY 22 WordR w AQ cQ pv.q
 nl : pv.n ≤ 65535
 tl : pv.t < 4294967296
 wl : pv.w < 256
 ql : pv.q.length ≤ 255
 pos : 0 < pv.q.length
theorem PVok.keeps {w w' : World} {pv : PV} {AQ : Option Addr} {cQ : Nat} {ts : List TypeId} (h : PVok w pv AQ cQ) (k : Keeps ts w w') (ht : 22 ∈ ts) : PVok w' pv AQ cQ := ⟨h.ly.keeps (wordR_stays _) ht k, h.nl, h.tl, h.wl, h.ql, h.pos⟩
def RPost {α : Type} (z : Value) (w : World) (res : Except Nat (PV × α)) (V : World → Value → α → Prop) (e : Ending) (w' : World) : Prop :=
 (∃ pv x v AQ cQ, res = .ok (pv, x) ∧ e = .returned (.tuple #[.agg #[.int .i64 (pv.n : Int), .int .u64 (pv.t : Int), .slice AQ pv.q.length cQ, .int .i64 (pv.w : Int)], v, .int .i64 0]) ∧ V w' v x ∧ PVok w' pv AQ cQ ∧ Ext w w') ∨
 (∃ c : Nat, res = .error c ∧ 0 < c ∧ c ≤ 14 ∧ e = .returned (.tuple #[.agg #[.int .i64 0, .int .u64 0, .slice none 0 0, .int .i64 0], z, .int .i64 (c : Int)]) ∧ Ext w w')
theorem RPost.later {α : Type} {z : Value} {w : World} {res : Except Nat (PV × α)} {V : World → Value → α → Prop} {e : Ending} {w' w'' : World} {ts : List TypeId} (hV : Stays ts V) (h : RPost z w res V e w') (k : Ext w' w'') : RPost z w res V e w'' := by
 rcases h with ⟨pv, x, v, AQ, cQ, h1, h2, h3, h4, h5⟩ | ⟨c, h1, h2, h3, h4, h5⟩
 ·exact .inl ⟨pv, x, v, AQ, cQ, h1, h2, hV _ _ _ x (Keeps.ext k) h3, h4.keeps (ts := [22]) (Keeps.ext k) (by decide), h5.trans k⟩
 ·exact .inr ⟨c, h1, h2, h3, h4, h5.trans k⟩
theorem ext_set {w a : World} {g o : Nat} (h : Ext w a) (hg : w.heap.size ≤ g) (v : Value) : Ext w (a.setCell ⟨g, o, none⟩ v) := h.set (p := ⟨g, o, none⟩) hg v
def parF (a b c d : Value) (i : Nat) : Value := if i = 0 then a else if i = 1 then b else if i = 2 then c else d
theorem RW.set4 {w : World} {g : Nat} {t : TypeId} {F : Nat → Value} (h : RW w g t 4 F) (a b c d : Value) : RW ((((w.setCell ⟨g, 0, none⟩ a).setCell ⟨g, 1, none⟩ b).setCell ⟨g, 2, none⟩ c).setCell ⟨g, 3, none⟩ d) g t 4 (parF a b c d) :=
 ((((h.set (show 0 < 4 by omega) a).set (show 1 < 4 by omega) b).set (show 2 < 4 by omega) c).set (show 3 < 4 by omega) d).congr fun j hj => by
  unfold parF
  rcases (show j = 0 ∨ j = 1 ∨ j = 2 ∨ j = 3 by omega) with rfl | rfl | rfl | rfl <;> simp
theorem reader_new (w : World) (A : Option Addr) (n c : Nat) (l : List Nat) (h : BX w A n c l) (hn : n = l.length) (hA : 0 < n → ∀ ad, A = some ad → ad.block < w.heap.size) :
    RS (w.alloc (.cells #[.slice A n c, .int .i64 0, .int .u64 0, .slice none 0 0, .int .i64 0, .int .i64 0, .int .u64 0] 160)) w.heap.size l (fun i => if i = 2 then .int .u64 0 else if i = 3 then .slice none 0 0 else if i = 6 then .int .u64 0 else .int .i64 0) := by
 subst hn
 refine ⟨A, c, ?_, h.ext ((Ext.refl w).alloc _), hA⟩
 have h1 : (w.alloc (.cells #[.slice A l.length c, .int .i64 0, .int .u64 0, .slice none 0 0, .int .i64 0, .int .i64 0, .int .u64 0] 160)).heap[w.heap.size]? = _ := heap_alloc_new w _
 exact h1
set_option maxHeartbeats 8000000 in
theorem uReadN_any (fn kind n c : Nat) (A : Option Addr) (l : List Nat) (f : PV → Pr Unit) (w : World) (hX : Hid (BX w A n c l)) (hA : Hid (0 < n → ∀ ad, A = some ad → ad.block < w.heap.size)) (hn : n ≤ 100000) (hk : kind < 256) (hTab : Tabs w) (hE : Hid (EntersV fn)) (hG : Hid (∀ p w1, PtBy fn p (.agg #[]) w1 f NoR)) :
    Calls Tryz.prog 61 #[.slice A n c, .int .u64 (kind : Int), .func (.func fn) #[] #[]] w (RPost (.agg #[]) w (endP (headP kind f l)) NoR) := by
 have HTAB := Lib.hid hTab
 clear hTab
 have HN := Lib.hid hX.out.len
 have hsA : ((w.alloc (.cells #[.int .i64 0, .int .u64 0, .slice none 0 0, .int .i64 0] 25)).alloc (.cells #[] 82)).heap.size = w.heap.size + 2 := by simp
 have HT := Lib.hid (show RS (((w.alloc (.cells #[.int .i64 0, .int .u64 0, .slice none 0 0, .int .i64 0] 25)).alloc (.cells #[] 82)).alloc (.cells #[.slice A n c, .int .i64 0, .int .u64 0, .slice none 0 0, .int .i64 0, .int .i64 0, .int .u64 0] 160)) (w.heap.size + 2) l (fun i => if i = 2 then .int .u64 0 else if i = 3 then .slice none 0 0 else if i = 6 then .int .u64 0 else .int .i64 0) by
  have h := reader_new ((w.alloc (.cells #[.int .i64 0, .int .u64 0, .slice none 0 0, .int .i64 0] 25)).alloc (.cells #[] 82)) A n c l (hX.out.ext (((Ext.refl w).alloc _).alloc _)) HN.out.symm (fun h0 ad e => by have := hA.out h0 ad e; omega)
  rw [hsA] at h
  exact h)
 have kA : Ext w (((w.alloc (.cells #[.int .i64 0, .int .u64 0, .slice none 0 0, .int .i64 0] 25)).alloc (.cells #[] 82)).alloc (.cells #[.slice A n c, .int .i64 0, .int .u64 0, .slice none 0 0, .int .i64 0, .int .i64 0, .int .u64 0] 160)) := (((((Ext.refl w).alloc _).alloc _)).alloc _)
 have hs0 : (((w.alloc (.cells #[.int .i64 0, .int .u64 0, .slice none 0 0, .int .i64 0] 25)).alloc (.cells #[] 82)).alloc (.cells #[.slice A n c, .int .i64 0, .int .u64 0, .slice none 0 0, .int .i64 0, .int .i64 0, .int .u64 0] 160)).heap.size = w.heap.size + 2 + 1 := by simp
 have r6 : RW (((w.alloc (.cells #[.int .i64 0, .int .u64 0, .slice none 0 0, .int .i64 0] 25)).alloc (.cells #[] 82)).alloc (.cells #[.slice A n c, .int .i64 0, .int .u64 0, .slice none 0 0, .int .i64 0, .int .i64 0, .int .u64 0] 160)) w.heap.size 25 4 (parF (.int .i64 0) (.int .u64 0) (.slice none 0 0) (.int .i64 0)) := RW.ext (show RW (w.alloc (.cells #[.int .i64 0, .int .u64 0, .slice none 0 0, .int .i64 0] 25)) w.heap.size 25 4 (parF (.int .i64 0) (.int .u64 0) (.slice none 0 0) (.int .i64 0)) from heap_alloc_new w (.cells #[.int .i64 0, .int .u64 0, .slice none 0 0, .int .i64 0] 25)) (((Ext.refl _).alloc _).alloc _)
 have r7 : RW (((w.alloc (.cells #[.int .i64 0, .int .u64 0, .slice none 0 0, .int .i64 0] 25)).alloc (.cells #[] 82)).alloc (.cells #[.slice A n c, .int .i64 0, .int .u64 0, .slice none 0 0, .int .i64 0, .int .i64 0, .int .u64 0] 160)) (w.heap.size + 1) 82 0 (fun _ => .slice none 0 0) := by
  have h : RW ((w.alloc (.cells #[.int .i64 0, .int .u64 0, .slice none 0 0, .int .i64 0] 25)).alloc (.cells #[] 82)) (w.alloc (.cells #[.int .i64 0, .int .u64 0, .slice none 0 0, .int .i64 0] 25)).heap.size 82 0 (fun _ => .slice none 0 0) := heap_alloc_new (w.alloc (.cells #[.int .i64 0, .int .u64 0, .slice none 0 0, .int .i64 0] 25)) (.cells #[] 82)
  rw [show (w.alloc (.cells #[.int .i64 0, .int .u64 0, .slice none 0 0, .int .i64 0] 25)).heap.size = w.heap.size + 1 by simp] at h
  exact h.ext ((Ext.refl _).alloc _)
 go_enter Tryz.func61, Tryz.ntmps61
 go_wp2_with fail
 generalize (((w.alloc (.cells #[.int .i64 0, .int .u64 0, .slice none 0 0, .int .i64 0] 25)).alloc (.cells #[] 82)).alloc (.cells #[.slice A n c, .int .i64 0, .int .u64 0, .slice none 0 0, .int .i64 0, .int .i64 0, .int .u64 0] 160)) = X0 at *
 refine (uBehN_any fn kind (w.heap.size + 2) l _ f w X0 HT (by rw [HN.out]; exact hn) hk (Lib.hid kA) (by omega) HTAB.out hE (Lib.hid (hG.out _ _))).mono ?_
 rintro e w1 (⟨pv, x, r, v, S', AQ, cQ, h1, rfl, hv, h4, hkp, h5, h6⟩ | ⟨cc, h1, h2, h3, rfl, h6⟩)
 ·obtain rfl : v = .agg #[] := hv
  have hv : NoR w1 (.agg #[]) x := rfl
  have HV9 := Lib.hid hv
  clear hv
  have H4 := Lib.hid h4
  obtain ⟨Ar, cr, g1, g2, g3⟩ := h4
  have s0 := g1.cell (i := 0) (by omega)
  rw [show rcF (.slice Ar r.length cr) S' 0 = .slice Ar r.length cr from rfl] at s0
  clear g1 g2 g3
  obtain ⟨m, hm⟩ : ∃ m, m = r.length := ⟨_, rfl⟩
  rw [← hm] at s0
  have s1 : (w1.alloc (.cells #[] 82)).cell? ⟨(w.heap.size + 2), 0, none⟩ = some (.slice Ar m cr) := cell_ext ((Ext.refl w1).alloc _) s0
  by_cases hz : 0 < m
  ·have i1 : decide (0 < (m : Int)) = true := by simp; omega
   have i2 : (0 < (m : Int)) = True := by simp; omega
   go_wp2_with fail
   have q6 : RW ((w1.alloc (.cells #[] 82)).alloc (.cells #[] 82)) w.heap.size 25 4 (parF (.int .i64 0) (.int .u64 0) (.slice none 0 0) (.int .i64 0)) := RW.ext (RW.keep r6 (h6.block _ (by omega) (fun e => by injection e with e; omega))) (((Ext.refl w1).alloc _).alloc _)
   have a0 : ((w1.alloc (.cells #[] 82)).alloc (.cells #[] 82)).cell? ⟨w.heap.size, 0, none⟩ = some (.int .i64 0) := q6.cell (i := 0) (by omega)
   have b0 := q6.frozen 0
   have a1 : ((w1.alloc (.cells #[] 82)).alloc (.cells #[] 82)).cell? ⟨w.heap.size, 1, none⟩ = some (.int .u64 0) := q6.cell (i := 1) (by omega)
   have b1 := q6.frozen 1
   have a2 : ((w1.alloc (.cells #[] 82)).alloc (.cells #[] 82)).cell? ⟨w.heap.size, 2, none⟩ = some (.slice none 0 0) := q6.cell (i := 2) (by omega)
   have b2 := q6.frozen 2
   have a3 : ((w1.alloc (.cells #[] 82)).alloc (.cells #[] 82)).cell? ⟨w.heap.size, 3, none⟩ = some (.int .i64 0) := q6.cell (i := 3) (by omega)
   have b3 := q6.frozen 3
   have q7 : RW ((w1.alloc (.cells #[] 82)).alloc (.cells #[] 82)) (w.heap.size + 1) 82 0 (fun _ => .slice none 0 0) := RW.ext (RW.keep r7 (h6.block _ (by omega) (fun e => by injection e with e; omega))) (((Ext.refl w1).alloc _).alloc _)
   have kY : Ext w ((w1.alloc (.cells #[] 82)).alloc (.cells #[] 82)) := (kA.on h6 (by omega)).trans (((Ext.refl w1).alloc _).alloc _)
   have p6 := q6.set4 (.int .i64 0) (.int .u64 0) (.slice none 0 0) (.int .i64 0)
   have P6 : RW ((((((w1.alloc (.cells #[] 82)).alloc (.cells #[] 82)).setCell ⟨w.heap.size, 0, none⟩ (.int .i64 0)).setCell ⟨w.heap.size, 1, none⟩ (.int .u64 0)).setCell ⟨w.heap.size, 2, none⟩ (.slice none 0 0)).setCell ⟨w.heap.size, 3, none⟩ (.int .i64 0)) w.heap.size 25 4 (parF (.int .i64 0) (.int .u64 0) (.slice none 0 0) (.int .i64 0)) := p6
   have e0 : ((((((w1.alloc (.cells #[] 82)).alloc (.cells #[] 82)).setCell ⟨w.heap.size, 0, none⟩ (.int .i64 0)).setCell ⟨w.heap.size, 1, none⟩ (.int .u64 0)).setCell ⟨w.heap.size, 2, none⟩ (.slice none 0 0)).setCell ⟨w.heap.size, 3, none⟩ (.int .i64 0)).cell? ⟨w.heap.size, 0, none⟩ = some (.int .i64 0) := P6.cell (i := 0) (by omega)
   have e1 : ((((((w1.alloc (.cells #[] 82)).alloc (.cells #[] 82)).setCell ⟨w.heap.size, 0, none⟩ (.int .i64 0)).setCell ⟨w.heap.size, 1, none⟩ (.int .u64 0)).setCell ⟨w.heap.size, 2, none⟩ (.slice none 0 0)).setCell ⟨w.heap.size, 3, none⟩ (.int .i64 0)).cell? ⟨w.heap.size, 1, none⟩ = some (.int .u64 0) := P6.cell (i := 1) (by omega)
   have e2 : ((((((w1.alloc (.cells #[] 82)).alloc (.cells #[] 82)).setCell ⟨w.heap.size, 0, none⟩ (.int .i64 0)).setCell ⟨w.heap.size, 1, none⟩ (.int .u64 0)).setCell ⟨w.heap.size, 2, none⟩ (.slice none 0 0)).setCell ⟨w.heap.size, 3, none⟩ (.int .i64 0)).cell? ⟨w.heap.size, 2, none⟩ = some (.slice none 0 0) := P6.cell (i := 2) (by omega)
   have e3 : ((((((w1.alloc (.cells #[] 82)).alloc (.cells #[] 82)).setCell ⟨w.heap.size, 0, none⟩ (.int .i64 0)).setCell ⟨w.heap.size, 1, none⟩ (.int .u64 0)).setCell ⟨w.heap.size, 2, none⟩ (.slice none 0 0)).setCell ⟨w.heap.size, 3, none⟩ (.int .i64 0)).cell? ⟨w.heap.size, 3, none⟩ = some (.int .i64 0) := P6.cell (i := 3) (by omega)
   have HF := Lib.hid (show RPost (.agg #[]) w (endP (headP kind f l)) NoR (.returned (.tuple #[.agg #[.int .i64 0, .int .u64 0, .slice none 0 0, .int .i64 0], .agg #[], .int .i64 14])) ((((((w1.alloc (.cells #[] 82)).alloc (.cells #[] 82)).setCell ⟨w.heap.size, 0, none⟩ (.int .i64 0)).setCell ⟨w.heap.size, 1, none⟩ (.int .u64 0)).setCell ⟨w.heap.size, 2, none⟩ (.slice none 0 0)).setCell ⟨w.heap.size, 3, none⟩ (.int .i64 0)) from
    .inr ⟨14, by rw [h1]; exact if_pos (by rw [← hm]; exact hz), by omega, by omega, rfl, (ext_set (ext_set (ext_set (ext_set kY (Nat.le_refl _) (.int .i64 0)) (Nat.le_refl _) (.int .u64 0)) (Nat.le_refl _) (.slice none 0 0)) (Nat.le_refl _) (.int .i64 0))⟩)
   clear q6 p6 P6 kY q7
   have hw1s : w.heap.size + 2 + 1 ≤ w1.heap.size := by have := h6.size; omega
   clear h1 hkp h6
   have : ¬ (w.heap.size = w1.heap.size) := by omega
   have : ¬ (w1.heap.size = w.heap.size) := by omega
   have : ¬ (w.heap.size = w1.heap.size + 1) := by omega
   have : ¬ (w1.heap.size + 1 = w.heap.size) := by omega
   have : ¬ (w.heap.size + 1 = w1.heap.size) := by omega
   have : ¬ (w1.heap.size = w.heap.size + 1) := by omega
   have : ¬ (w.heap.size + 1 = w1.heap.size + 1) := by omega
   have : ¬ (w1.heap.size + 1 = w.heap.size + 1) := by omega
   generalize (w1.alloc (.cells #[] 82)).alloc (.cells #[] 82) = Y at *
   go_wp2_with fail
   go_region
   all_goals
    generalize (((Y.setCell ⟨w.heap.size, 0, none⟩ (.int .i64 0)).setCell ⟨w.heap.size, 1, none⟩ (.int .u64 0)).setCell ⟨w.heap.size, 2, none⟩ (.slice none 0 0)).setCell ⟨w.heap.size, 3, none⟩ (.int .i64 0) = Z9 at *
    go_wp2
    exact bodyPost_ret (v := .tuple #[.agg #[.int .i64 0, .int .u64 0, .slice none 0 0, .int .i64 0], .agg #[], .int .i64 14]) (by simp [results, Tryz.results61, go_sem, e0, e1, e2, e3]) rfl (HF.out.later (noR_stays [22]) (Ext.refl _).drew)
  ·have i1 : decide (0 < (m : Int)) = false := by simp; omega
   have i2 : (0 < (m : Int)) = False := by simp; omega
   have pc1 := H4.out.cell (i := 1) (by omega) (by omega)
   have pc2 := H4.out.cell (i := 2) (by omega) (by omega)
   have pc3 := H4.out.cell (i := 3) (by omega) (by omega)
   have pc4 := H4.out.cell (i := 4) (by omega) (by omega)
   rw [hkp.kn.n1] at pc1
   rw [hkp.s2] at pc2
   rw [hkp.kn.q1] at pc3
   rw [hkp.s4] at pc4
   go_wp2_with fail
   have q6 : RW (w1.alloc (.cells #[] 82)) w.heap.size 25 4 (parF (.int .i64 0) (.int .u64 0) (.slice none 0 0) (.int .i64 0)) := RW.ext (RW.keep r6 (h6.block _ (by omega) (fun e => by injection e with e; omega))) ((Ext.refl w1).alloc _)
   have a0 : (w1.alloc (.cells #[] 82)).cell? ⟨w.heap.size, 0, none⟩ = some (.int .i64 0) := q6.cell (i := 0) (by omega)
   have b0 := q6.frozen 0
   have a1 : (w1.alloc (.cells #[] 82)).cell? ⟨w.heap.size, 1, none⟩ = some (.int .u64 0) := q6.cell (i := 1) (by omega)
   have b1 := q6.frozen 1
   have a2 : (w1.alloc (.cells #[] 82)).cell? ⟨w.heap.size, 2, none⟩ = some (.slice none 0 0) := q6.cell (i := 2) (by omega)
   have b2 := q6.frozen 2
   have a3 : (w1.alloc (.cells #[] 82)).cell? ⟨w.heap.size, 3, none⟩ = some (.int .i64 0) := q6.cell (i := 3) (by omega)
   have b3 := q6.frozen 3
   have q7 : RW (w1.alloc (.cells #[] 82)) (w.heap.size + 1) 82 0 (fun _ => .slice none 0 0) := RW.ext (RW.keep r7 (h6.block _ (by omega) (fun e => by injection e with e; omega))) ((Ext.refl w1).alloc _)
   have k1 : (w1.alloc (.cells #[] 82)).cell? ⟨(w.heap.size + 2), 1, none⟩ = some (.int .i64 (pv.n : Int)) := cell_ext ((Ext.refl w1).alloc _) pc1
   have k2 : (w1.alloc (.cells #[] 82)).cell? ⟨(w.heap.size + 2), 2, none⟩ = some (.int .u64 (pv.t : Int)) := cell_ext ((Ext.refl w1).alloc _) pc2
   have k3 : (w1.alloc (.cells #[] 82)).cell? ⟨(w.heap.size + 2), 3, none⟩ = some (.slice AQ pv.q.length cQ) := cell_ext ((Ext.refl w1).alloc _) pc3
   have k4 : (w1.alloc (.cells #[] 82)).cell? ⟨(w.heap.size + 2), 4, none⟩ = some (.int .i64 (pv.w : Int)) := cell_ext ((Ext.refl w1).alloc _) pc4
   have kY : Ext w (w1.alloc (.cells #[] 82)) := (kA.on h6 (by omega)).trans ((Ext.refl w1).alloc _)
   have p6 := q6.set4 (.int .i64 (pv.n : Int)) (.int .u64 (pv.t : Int)) (.slice AQ pv.q.length cQ) (.int .i64 (pv.w : Int))
   have P6 : RW (((((w1.alloc (.cells #[] 82)).setCell ⟨w.heap.size, 0, none⟩ (.int .i64 (pv.n : Int))).setCell ⟨w.heap.size, 1, none⟩ (.int .u64 (pv.t : Int))).setCell ⟨w.heap.size, 2, none⟩ (.slice AQ pv.q.length cQ)).setCell ⟨w.heap.size, 3, none⟩ (.int .i64 (pv.w : Int))) w.heap.size 25 4 (parF (.int .i64 (pv.n : Int)) (.int .u64 (pv.t : Int)) (.slice AQ pv.q.length cQ) (.int .i64 (pv.w : Int))) := p6
   have e0 : (((((w1.alloc (.cells #[] 82)).setCell ⟨w.heap.size, 0, none⟩ (.int .i64 (pv.n : Int))).setCell ⟨w.heap.size, 1, none⟩ (.int .u64 (pv.t : Int))).setCell ⟨w.heap.size, 2, none⟩ (.slice AQ pv.q.length cQ)).setCell ⟨w.heap.size, 3, none⟩ (.int .i64 (pv.w : Int))).cell? ⟨w.heap.size, 0, none⟩ = some (.int .i64 (pv.n : Int)) := P6.cell (i := 0) (by omega)
   have e1 : (((((w1.alloc (.cells #[] 82)).setCell ⟨w.heap.size, 0, none⟩ (.int .i64 (pv.n : Int))).setCell ⟨w.heap.size, 1, none⟩ (.int .u64 (pv.t : Int))).setCell ⟨w.heap.size, 2, none⟩ (.slice AQ pv.q.length cQ)).setCell ⟨w.heap.size, 3, none⟩ (.int .i64 (pv.w : Int))).cell? ⟨w.heap.size, 1, none⟩ = some (.int .u64 (pv.t : Int)) := P6.cell (i := 1) (by omega)
   have e2 : (((((w1.alloc (.cells #[] 82)).setCell ⟨w.heap.size, 0, none⟩ (.int .i64 (pv.n : Int))).setCell ⟨w.heap.size, 1, none⟩ (.int .u64 (pv.t : Int))).setCell ⟨w.heap.size, 2, none⟩ (.slice AQ pv.q.length cQ)).setCell ⟨w.heap.size, 3, none⟩ (.int .i64 (pv.w : Int))).cell? ⟨w.heap.size, 2, none⟩ = some (.slice AQ pv.q.length cQ) := P6.cell (i := 2) (by omega)
   have e3 : (((((w1.alloc (.cells #[] 82)).setCell ⟨w.heap.size, 0, none⟩ (.int .i64 (pv.n : Int))).setCell ⟨w.heap.size, 1, none⟩ (.int .u64 (pv.t : Int))).setCell ⟨w.heap.size, 2, none⟩ (.slice AQ pv.q.length cQ)).setCell ⟨w.heap.size, 3, none⟩ (.int .i64 (pv.w : Int))).cell? ⟨w.heap.size, 3, none⟩ = some (.int .i64 (pv.w : Int)) := P6.cell (i := 3) (by omega)
   have hkz : Keeps [22] w1 (((((w1.alloc (.cells #[] 82)).setCell ⟨w.heap.size, 0, none⟩ (.int .i64 (pv.n : Int))).setCell ⟨w.heap.size, 1, none⟩ (.int .u64 (pv.t : Int))).setCell ⟨w.heap.size, 2, none⟩ (.slice AQ pv.q.length cQ)).setCell ⟨w.heap.size, 3, none⟩ (.int .i64 (pv.w : Int))) := (((((Keeps.ext ((Ext.refl w1).alloc _)).trans (Keeps.set q6 (by decide) _)).trans (Keeps.set (q6.set (show 0 < 4 by omega) (.int .i64 (pv.n : Int))) (by decide) _)).trans (Keeps.set ((q6.set (show 0 < 4 by omega) (.int .i64 (pv.n : Int))).set (show 1 < 4 by omega) (.int .u64 (pv.t : Int))) (by decide) _)).trans (Keeps.set (((q6.set (show 0 < 4 by omega) (.int .i64 (pv.n : Int))).set (show 1 < 4 by omega) (.int .u64 (pv.t : Int))).set (show 2 < 4 by omega) (.slice AQ pv.q.length cQ)) (by decide) _))
   have HF := Lib.hid (show RPost (.agg #[]) w (endP (headP kind f l)) NoR (.returned (.tuple #[.agg #[.int .i64 (pv.n : Int), .int .u64 (pv.t : Int), .slice AQ pv.q.length cQ, .int .i64 (pv.w : Int)], .agg #[], .int .i64 0])) (((((w1.alloc (.cells #[] 82)).setCell ⟨w.heap.size, 0, none⟩ (.int .i64 (pv.n : Int))).setCell ⟨w.heap.size, 1, none⟩ (.int .u64 (pv.t : Int))).setCell ⟨w.heap.size, 2, none⟩ (.slice AQ pv.q.length cQ)).setCell ⟨w.heap.size, 3, none⟩ (.int .i64 (pv.w : Int))) from
    .inl ⟨pv, x, _, AQ, cQ, by rw [h1]; exact if_neg (by rw [← hm]; exact hz), rfl, (noR_stays [22]) _ _ _ x hkz HV9.out, (PVok.mk hkp.kn.ly hkp.kn.nl hkp.t1 hkp.w1 hkp.kn.ql hkp.len).keeps hkz (by decide), (ext_set (ext_set (ext_set (ext_set kY (Nat.le_refl _) (.int .i64 (pv.n : Int))) (Nat.le_refl _) (.int .u64 (pv.t : Int))) (Nat.le_refl _) (.slice AQ pv.q.length cQ)) (Nat.le_refl _) (.int .i64 (pv.w : Int)))⟩)
   clear q6 p6 P6 kY q7
   have hw1s : w.heap.size + 2 + 1 ≤ w1.heap.size := by have := h6.size; omega
   clear h1 hkp h6 hkz pc1 pc2 pc3 pc4
   have : ¬ (w.heap.size = w1.heap.size) := by omega
   have : ¬ (w1.heap.size = w.heap.size) := by omega
   have : ¬ (w.heap.size = w1.heap.size + 1) := by omega
   have : ¬ (w1.heap.size + 1 = w.heap.size) := by omega
   have : ¬ (w.heap.size + 1 = w1.heap.size) := by omega
   have : ¬ (w1.heap.size = w.heap.size + 1) := by omega
   have : ¬ (w.heap.size + 1 = w1.heap.size + 1) := by omega
   have : ¬ (w1.heap.size + 1 = w.heap.size + 1) := by omega
   generalize w1.alloc (.cells #[] 82) = Y at *
   go_wp2_with fail
   go_region
   all_goals
    generalize (((Y.setCell ⟨w.heap.size, 0, none⟩ (.int .i64 (pv.n : Int))).setCell ⟨w.heap.size, 1, none⟩ (.int .u64 (pv.t : Int))).setCell ⟨w.heap.size, 2, none⟩ (.slice AQ pv.q.length cQ)).setCell ⟨w.heap.size, 3, none⟩ (.int .i64 (pv.w : Int)) = Z9 at *
    go_wp2
    exact bodyPost_ret (v := .tuple #[.agg #[.int .i64 (pv.n : Int), .int .u64 (pv.t : Int), .slice AQ pv.q.length cQ, .int .i64 (pv.w : Int)], .agg #[], .int .i64 0]) (by simp [results, Tryz.results61, go_sem, e0, e1, e2, e3]) rfl (HF.out.later (noR_stays [22]) (Ext.refl _).drew)
 ·have i1 : ¬ (cc : Int) = 0 := by omega
  have i3 : ((cc : Int) == 0) = false := by simp; omega
  go_wp2_with fail
  have q6 : RW ((w1.alloc (.cells #[] 82)).alloc (.cells #[] 82)) w.heap.size 25 4 (parF (.int .i64 0) (.int .u64 0) (.slice none 0 0) (.int .i64 0)) := RW.ext (RW.keep r6 (h6.block _ (by omega) (fun e => by injection e with e; omega))) (((Ext.refl w1).alloc _).alloc _)
  have a0 : ((w1.alloc (.cells #[] 82)).alloc (.cells #[] 82)).cell? ⟨w.heap.size, 0, none⟩ = some (.int .i64 0) := q6.cell (i := 0) (by omega)
  have b0 := q6.frozen 0
  have a1 : ((w1.alloc (.cells #[] 82)).alloc (.cells #[] 82)).cell? ⟨w.heap.size, 1, none⟩ = some (.int .u64 0) := q6.cell (i := 1) (by omega)
  have b1 := q6.frozen 1
  have a2 : ((w1.alloc (.cells #[] 82)).alloc (.cells #[] 82)).cell? ⟨w.heap.size, 2, none⟩ = some (.slice none 0 0) := q6.cell (i := 2) (by omega)
  have b2 := q6.frozen 2
  have a3 : ((w1.alloc (.cells #[] 82)).alloc (.cells #[] 82)).cell? ⟨w.heap.size, 3, none⟩ = some (.int .i64 0) := q6.cell (i := 3) (by omega)
  have b3 := q6.frozen 3
  have q7 : RW ((w1.alloc (.cells #[] 82)).alloc (.cells #[] 82)) (w.heap.size + 1) 82 0 (fun _ => .slice none 0 0) := RW.ext (RW.keep r7 (h6.block _ (by omega) (fun e => by injection e with e; omega))) (((Ext.refl w1).alloc _).alloc _)
  have kY : Ext w ((w1.alloc (.cells #[] 82)).alloc (.cells #[] 82)) := (kA.on h6 (by omega)).trans (((Ext.refl w1).alloc _).alloc _)
  have p6 := q6.set4 (.int .i64 0) (.int .u64 0) (.slice none 0 0) (.int .i64 0)
  have P6 : RW ((((((w1.alloc (.cells #[] 82)).alloc (.cells #[] 82)).setCell ⟨w.heap.size, 0, none⟩ (.int .i64 0)).setCell ⟨w.heap.size, 1, none⟩ (.int .u64 0)).setCell ⟨w.heap.size, 2, none⟩ (.slice none 0 0)).setCell ⟨w.heap.size, 3, none⟩ (.int .i64 0)) w.heap.size 25 4 (parF (.int .i64 0) (.int .u64 0) (.slice none 0 0) (.int .i64 0)) := p6
  have e0 : ((((((w1.alloc (.cells #[] 82)).alloc (.cells #[] 82)).setCell ⟨w.heap.size, 0, none⟩ (.int .i64 0)).setCell ⟨w.heap.size, 1, none⟩ (.int .u64 0)).setCell ⟨w.heap.size, 2, none⟩ (.slice none 0 0)).setCell ⟨w.heap.size, 3, none⟩ (.int .i64 0)).cell? ⟨w.heap.size, 0, none⟩ = some (.int .i64 0) := P6.cell (i := 0) (by omega)
  have e1 : ((((((w1.alloc (.cells #[] 82)).alloc (.cells #[] 82)).setCell ⟨w.heap.size, 0, none⟩ (.int .i64 0)).setCell ⟨w.heap.size, 1, none⟩ (.int .u64 0)).setCell ⟨w.heap.size, 2, none⟩ (.slice none 0 0)).setCell ⟨w.heap.size, 3, none⟩ (.int .i64 0)).cell? ⟨w.heap.size, 1, none⟩ = some (.int .u64 0) := P6.cell (i := 1) (by omega)
  have e2 : ((((((w1.alloc (.cells #[] 82)).alloc (.cells #[] 82)).setCell ⟨w.heap.size, 0, none⟩ (.int .i64 0)).setCell ⟨w.heap.size, 1, none⟩ (.int .u64 0)).setCell ⟨w.heap.size, 2, none⟩ (.slice none 0 0)).setCell ⟨w.heap.size, 3, none⟩ (.int .i64 0)).cell? ⟨w.heap.size, 2, none⟩ = some (.slice none 0 0) := P6.cell (i := 2) (by omega)
  have e3 : ((((((w1.alloc (.cells #[] 82)).alloc (.cells #[] 82)).setCell ⟨w.heap.size, 0, none⟩ (.int .i64 0)).setCell ⟨w.heap.size, 1, none⟩ (.int .u64 0)).setCell ⟨w.heap.size, 2, none⟩ (.slice none 0 0)).setCell ⟨w.heap.size, 3, none⟩ (.int .i64 0)).cell? ⟨w.heap.size, 3, none⟩ = some (.int .i64 0) := P6.cell (i := 3) (by omega)
  have HF := Lib.hid (show RPost (.agg #[]) w (endP (headP kind f l)) NoR (.returned (.tuple #[.agg #[.int .i64 0, .int .u64 0, .slice none 0 0, .int .i64 0], .agg #[], .int .i64 (cc : Int)])) ((((((w1.alloc (.cells #[] 82)).alloc (.cells #[] 82)).setCell ⟨w.heap.size, 0, none⟩ (.int .i64 0)).setCell ⟨w.heap.size, 1, none⟩ (.int .u64 0)).setCell ⟨w.heap.size, 2, none⟩ (.slice none 0 0)).setCell ⟨w.heap.size, 3, none⟩ (.int .i64 0)) from
   .inr ⟨cc, by rw [h1]; rfl, h2, h3, rfl, (ext_set (ext_set (ext_set (ext_set kY (Nat.le_refl _) (.int .i64 0)) (Nat.le_refl _) (.int .u64 0)) (Nat.le_refl _) (.slice none 0 0)) (Nat.le_refl _) (.int .i64 0))⟩)
  clear q6 p6 P6 kY q7
  have hw1s : w.heap.size + 2 + 1 ≤ w1.heap.size := by have := h6.size; omega
  clear h1 h6
  have : ¬ (w.heap.size = w1.heap.size) := by omega
  have : ¬ (w1.heap.size = w.heap.size) := by omega
  have : ¬ (w.heap.size = w1.heap.size + 1) := by omega
  have : ¬ (w1.heap.size + 1 = w.heap.size) := by omega
  have : ¬ (w.heap.size + 1 = w1.heap.size) := by omega
  have : ¬ (w1.heap.size = w.heap.size + 1) := by omega
  have : ¬ (w.heap.size + 1 = w1.heap.size + 1) := by omega
  have : ¬ (w1.heap.size + 1 = w.heap.size + 1) := by omega
  generalize (w1.alloc (.cells #[] 82)).alloc (.cells #[] 82) = Y at *
  go_wp2_with fail
  go_region
  all_goals
   generalize (((Y.setCell ⟨w.heap.size, 0, none⟩ (.int .i64 0)).setCell ⟨w.heap.size, 1, none⟩ (.int .u64 0)).setCell ⟨w.heap.size, 2, none⟩ (.slice none 0 0)).setCell ⟨w.heap.size, 3, none⟩ (.int .i64 0) = Z9 at *
   go_wp2
   exact bodyPost_ret (v := .tuple #[.agg #[.int .i64 0, .int .u64 0, .slice none 0 0, .int .i64 0], .agg #[], .int .i64 (cc : Int)]) (by simp [results, Tryz.results61, go_sem, e0, e1, e2, e3]) rfl (HF.out.later (noR_stays [22]) (Ext.refl _).drew)
set_option maxHeartbeats 8000000 in
theorem uReadC_any (fn kind n c : Nat) (A : Option Addr) (l : List Nat) (f : PV → Pr (List (List (List Nat)))) (w : World) (hX : Hid (BX w A n c l)) (hA : Hid (0 < n → ∀ ad, A = some ad → ad.block < w.heap.size)) (hn : n ≤ 100000) (hk : kind < 256) (hTab : Tabs w) (hE : Hid (EntersV fn)) (hG : Hid (∀ p w1, PtBy fn p (.agg #[.slice none 0 0]) w1 f (AgR ElsR))) :
    Calls Tryz.prog 63 #[.slice A n c, .int .u64 (kind : Int), .func (.func fn) #[] #[]] w (RPost (.agg #[.slice none 0 0]) w (endP (headP kind f l)) (AgR ElsR)) := by
 have HTAB := Lib.hid hTab
 clear hTab
 have HN := Lib.hid hX.out.len
 have hsA : ((w.alloc (.cells #[.int .i64 0, .int .u64 0, .slice none 0 0, .int .i64 0] 25)).alloc (.cells #[.slice none 0 0] 28)).heap.size = w.heap.size + 2 := by simp
 have HT := Lib.hid (show RS (((w.alloc (.cells #[.int .i64 0, .int .u64 0, .slice none 0 0, .int .i64 0] 25)).alloc (.cells #[.slice none 0 0] 28)).alloc (.cells #[.slice A n c, .int .i64 0, .int .u64 0, .slice none 0 0, .int .i64 0, .int .i64 0, .int .u64 0] 160)) (w.heap.size + 2) l (fun i => if i = 2 then .int .u64 0 else if i = 3 then .slice none 0 0 else if i = 6 then .int .u64 0 else .int .i64 0) by
  have h := reader_new ((w.alloc (.cells #[.int .i64 0, .int .u64 0, .slice none 0 0, .int .i64 0] 25)).alloc (.cells #[.slice none 0 0] 28)) A n c l (hX.out.ext (((Ext.refl w).alloc _).alloc _)) HN.out.symm (fun h0 ad e => by have := hA.out h0 ad e; omega)
  rw [hsA] at h
  exact h)
 have kA : Ext w (((w.alloc (.cells #[.int .i64 0, .int .u64 0, .slice none 0 0, .int .i64 0] 25)).alloc (.cells #[.slice none 0 0] 28)).alloc (.cells #[.slice A n c, .int .i64 0, .int .u64 0, .slice none 0 0, .int .i64 0, .int .i64 0, .int .u64 0] 160)) := (((((Ext.refl w).alloc _).alloc _)).alloc _)
 have hs0 : (((w.alloc (.cells #[.int .i64 0, .int .u64 0, .slice none 0 0, .int .i64 0] 25)).alloc (.cells #[.slice none 0 0] 28)).alloc (.cells #[.slice A n c, .int .i64 0, .int .u64 0, .slice none 0 0, .int .i64 0, .int .i64 0, .int .u64 0] 160)).heap.size = w.heap.size + 2 + 1 := by simp
 have r6 : RW (((w.alloc (.cells #[.int .i64 0, .int .u64 0, .slice none 0 0, .int .i64 0] 25)).alloc (.cells #[.slice none 0 0] 28)).alloc (.cells #[.slice A n c, .int .i64 0, .int .u64 0, .slice none 0 0, .int .i64 0, .int .i64 0, .int .u64 0] 160)) w.heap.size 25 4 (parF (.int .i64 0) (.int .u64 0) (.slice none 0 0) (.int .i64 0)) := RW.ext (show RW (w.alloc (.cells #[.int .i64 0, .int .u64 0, .slice none 0 0, .int .i64 0] 25)) w.heap.size 25 4 (parF (.int .i64 0) (.int .u64 0) (.slice none 0 0) (.int .i64 0)) from heap_alloc_new w (.cells #[.int .i64 0, .int .u64 0, .slice none 0 0, .int .i64 0] 25)) (((Ext.refl _).alloc _).alloc _)
 have r7 : RW (((w.alloc (.cells #[.int .i64 0, .int .u64 0, .slice none 0 0, .int .i64 0] 25)).alloc (.cells #[.slice none 0 0] 28)).alloc (.cells #[.slice A n c, .int .i64 0, .int .u64 0, .slice none 0 0, .int .i64 0, .int .i64 0, .int .u64 0] 160)) (w.heap.size + 1) 28 1 (fun _ => .slice none 0 0) := by
  have h : RW ((w.alloc (.cells #[.int .i64 0, .int .u64 0, .slice none 0 0, .int .i64 0] 25)).alloc (.cells #[.slice none 0 0] 28)) (w.alloc (.cells #[.int .i64 0, .int .u64 0, .slice none 0 0, .int .i64 0] 25)).heap.size 28 1 (fun _ => .slice none 0 0) := heap_alloc_new (w.alloc (.cells #[.int .i64 0, .int .u64 0, .slice none 0 0, .int .i64 0] 25)) (.cells #[.slice none 0 0] 28)
  rw [show (w.alloc (.cells #[.int .i64 0, .int .u64 0, .slice none 0 0, .int .i64 0] 25)).heap.size = w.heap.size + 1 by simp] at h
  exact h.ext ((Ext.refl _).alloc _)
 go_enter Tryz.func63, Tryz.ntmps63
 go_wp2_with fail
 generalize (((w.alloc (.cells #[.int .i64 0, .int .u64 0, .slice none 0 0, .int .i64 0] 25)).alloc (.cells #[.slice none 0 0] 28)).alloc (.cells #[.slice A n c, .int .i64 0, .int .u64 0, .slice none 0 0, .int .i64 0, .int .i64 0, .int .u64 0] 160)) = X0 at *
 refine (uBehC_any fn kind (w.heap.size + 2) l _ f w X0 HT (by rw [HN.out]; exact hn) hk (Lib.hid kA) (by omega) HTAB.out hE (Lib.hid (hG.out _ _))).mono ?_
 rintro e w1 (⟨pv, x, r, v, S', AQ, cQ, h1, rfl, hv, h4, hkp, h5, h6⟩ | ⟨cc, h1, h2, h3, rfl, h6⟩)
 ·obtain ⟨A2, m2, c2, rfl⟩ : ∃ A m c, v = .agg #[.slice A m c] := by
     obtain ⟨u, rfl, A, c, rfl, _⟩ := hv
     exact ⟨A, x.length, c, rfl⟩
  have HV9 := Lib.hid hv
  clear hv
  have H4 := Lib.hid h4
  obtain ⟨Ar, cr, g1, g2, g3⟩ := h4
  have s0 := g1.cell (i := 0) (by omega)
  rw [show rcF (.slice Ar r.length cr) S' 0 = .slice Ar r.length cr from rfl] at s0
  clear g1 g2 g3
  obtain ⟨m, hm⟩ : ∃ m, m = r.length := ⟨_, rfl⟩
  rw [← hm] at s0
  have s1 : (w1.alloc (.cells #[.slice A2 m2 c2] 28)).cell? ⟨(w.heap.size + 2), 0, none⟩ = some (.slice Ar m cr) := cell_ext ((Ext.refl w1).alloc _) s0
  by_cases hz : 0 < m
  ·have i1 : decide (0 < (m : Int)) = true := by simp; omega
   have i2 : (0 < (m : Int)) = True := by simp; omega
   go_wp2_with fail
   have q6 : RW ((w1.alloc (.cells #[.slice A2 m2 c2] 28)).alloc (.cells #[.slice none 0 0] 28)) w.heap.size 25 4 (parF (.int .i64 0) (.int .u64 0) (.slice none 0 0) (.int .i64 0)) := RW.ext (RW.keep r6 (h6.block _ (by omega) (fun e => by injection e with e; omega))) (((Ext.refl w1).alloc _).alloc _)
   have a0 : ((w1.alloc (.cells #[.slice A2 m2 c2] 28)).alloc (.cells #[.slice none 0 0] 28)).cell? ⟨w.heap.size, 0, none⟩ = some (.int .i64 0) := q6.cell (i := 0) (by omega)
   have b0 := q6.frozen 0
   have a1 : ((w1.alloc (.cells #[.slice A2 m2 c2] 28)).alloc (.cells #[.slice none 0 0] 28)).cell? ⟨w.heap.size, 1, none⟩ = some (.int .u64 0) := q6.cell (i := 1) (by omega)
   have b1 := q6.frozen 1
   have a2 : ((w1.alloc (.cells #[.slice A2 m2 c2] 28)).alloc (.cells #[.slice none 0 0] 28)).cell? ⟨w.heap.size, 2, none⟩ = some (.slice none 0 0) := q6.cell (i := 2) (by omega)
   have b2 := q6.frozen 2
   have a3 : ((w1.alloc (.cells #[.slice A2 m2 c2] 28)).alloc (.cells #[.slice none 0 0] 28)).cell? ⟨w.heap.size, 3, none⟩ = some (.int .i64 0) := q6.cell (i := 3) (by omega)
   have b3 := q6.frozen 3
   have q7 : RW ((w1.alloc (.cells #[.slice A2 m2 c2] 28)).alloc (.cells #[.slice none 0 0] 28)) (w.heap.size + 1) 28 1 (fun _ => .slice none 0 0) := RW.ext (RW.keep r7 (h6.block _ (by omega) (fun e => by injection e with e; omega))) (((Ext.refl w1).alloc _).alloc _)
   have tc0 := q7.cell (i := 0) (by omega)
   have td0 := q7.frozen 0
   have l0 : ((w1.alloc (.cells #[.slice A2 m2 c2] 28)).alloc (.cells #[.slice none 0 0] 28)).cell? ⟨w1.heap.size + 1, 0, none⟩ = some (.slice none 0 0) := by simp
   have kY : Ext w ((w1.alloc (.cells #[.slice A2 m2 c2] 28)).alloc (.cells #[.slice none 0 0] 28)) := (kA.on h6 (by omega)).trans (((Ext.refl w1).alloc _).alloc _)
   have p6 := q6.set4 (.int .i64 0) (.int .u64 0) (.slice none 0 0) (.int .i64 0)
   have P6 : RW (((((((w1.alloc (.cells #[.slice A2 m2 c2] 28)).alloc (.cells #[.slice none 0 0] 28)).setCell ⟨w.heap.size, 0, none⟩ (.int .i64 0)).setCell ⟨w.heap.size, 1, none⟩ (.int .u64 0)).setCell ⟨w.heap.size, 2, none⟩ (.slice none 0 0)).setCell ⟨w.heap.size, 3, none⟩ (.int .i64 0)).setCell ⟨(w.heap.size + 1), 0, none⟩ (.slice none 0 0)) w.heap.size 25 4 (parF (.int .i64 0) (.int .u64 0) (.slice none 0 0) (.int .i64 0)) := (RW.far p6 (x := w.heap.size + 1) (by omega) (.slice none 0 0))
   have e0 : (((((((w1.alloc (.cells #[.slice A2 m2 c2] 28)).alloc (.cells #[.slice none 0 0] 28)).setCell ⟨w.heap.size, 0, none⟩ (.int .i64 0)).setCell ⟨w.heap.size, 1, none⟩ (.int .u64 0)).setCell ⟨w.heap.size, 2, none⟩ (.slice none 0 0)).setCell ⟨w.heap.size, 3, none⟩ (.int .i64 0)).setCell ⟨(w.heap.size + 1), 0, none⟩ (.slice none 0 0)).cell? ⟨w.heap.size, 0, none⟩ = some (.int .i64 0) := P6.cell (i := 0) (by omega)
   have e1 : (((((((w1.alloc (.cells #[.slice A2 m2 c2] 28)).alloc (.cells #[.slice none 0 0] 28)).setCell ⟨w.heap.size, 0, none⟩ (.int .i64 0)).setCell ⟨w.heap.size, 1, none⟩ (.int .u64 0)).setCell ⟨w.heap.size, 2, none⟩ (.slice none 0 0)).setCell ⟨w.heap.size, 3, none⟩ (.int .i64 0)).setCell ⟨(w.heap.size + 1), 0, none⟩ (.slice none 0 0)).cell? ⟨w.heap.size, 1, none⟩ = some (.int .u64 0) := P6.cell (i := 1) (by omega)
   have e2 : (((((((w1.alloc (.cells #[.slice A2 m2 c2] 28)).alloc (.cells #[.slice none 0 0] 28)).setCell ⟨w.heap.size, 0, none⟩ (.int .i64 0)).setCell ⟨w.heap.size, 1, none⟩ (.int .u64 0)).setCell ⟨w.heap.size, 2, none⟩ (.slice none 0 0)).setCell ⟨w.heap.size, 3, none⟩ (.int .i64 0)).setCell ⟨(w.heap.size + 1), 0, none⟩ (.slice none 0 0)).cell? ⟨w.heap.size, 2, none⟩ = some (.slice none 0 0) := P6.cell (i := 2) (by omega)
   have e3 : (((((((w1.alloc (.cells #[.slice A2 m2 c2] 28)).alloc (.cells #[.slice none 0 0] 28)).setCell ⟨w.heap.size, 0, none⟩ (.int .i64 0)).setCell ⟨w.heap.size, 1, none⟩ (.int .u64 0)).setCell ⟨w.heap.size, 2, none⟩ (.slice none 0 0)).setCell ⟨w.heap.size, 3, none⟩ (.int .i64 0)).setCell ⟨(w.heap.size + 1), 0, none⟩ (.slice none 0 0)).cell? ⟨w.heap.size, 3, none⟩ = some (.int .i64 0) := P6.cell (i := 3) (by omega)
   have P7 : RW ((((((w1.alloc (.cells #[.slice A2 m2 c2] 28)).alloc (.cells #[.slice none 0 0] 28)).setCell ⟨w.heap.size, 0, none⟩ (.int .i64 0)).setCell ⟨w.heap.size, 1, none⟩ (.int .u64 0)).setCell ⟨w.heap.size, 2, none⟩ (.slice none 0 0)).setCell ⟨w.heap.size, 3, none⟩ (.int .i64 0)) (w.heap.size + 1) 28 1 (fun _ => .slice none 0 0) := (RW.far (RW.far (RW.far (RW.far q7 (x := w.heap.size) (by omega) (.int .i64 0)) (x := w.heap.size) (by omega) (.int .u64 0)) (x := w.heap.size) (by omega) (.slice none 0 0)) (x := w.heap.size) (by omega) (.int .i64 0))
   have e4 := ret_cell P7 (.slice none 0 0)
   have HF := Lib.hid (show RPost (.agg #[.slice none 0 0]) w (endP (headP kind f l)) (AgR ElsR) (.returned (.tuple #[.agg #[.int .i64 0, .int .u64 0, .slice none 0 0, .int .i64 0], .agg #[.slice none 0 0], .int .i64 14])) (((((((w1.alloc (.cells #[.slice A2 m2 c2] 28)).alloc (.cells #[.slice none 0 0] 28)).setCell ⟨w.heap.size, 0, none⟩ (.int .i64 0)).setCell ⟨w.heap.size, 1, none⟩ (.int .u64 0)).setCell ⟨w.heap.size, 2, none⟩ (.slice none 0 0)).setCell ⟨w.heap.size, 3, none⟩ (.int .i64 0)).setCell ⟨(w.heap.size + 1), 0, none⟩ (.slice none 0 0)) from
    .inr ⟨14, by rw [h1]; exact if_pos (by rw [← hm]; exact hz), by omega, by omega, rfl, (ext_set (ext_set (ext_set (ext_set (ext_set kY (Nat.le_refl _) (.int .i64 0)) (Nat.le_refl _) (.int .u64 0)) (Nat.le_refl _) (.slice none 0 0)) (Nat.le_refl _) (.int .i64 0)) (Nat.le_succ _) (.slice none 0 0))⟩)
   clear q6 p6 P6 kY q7 P7
   have hw1s : w.heap.size + 2 + 1 ≤ w1.heap.size := by have := h6.size; omega
   clear h1 hkp h6
   have : ¬ (w.heap.size = w1.heap.size) := by omega
   have : ¬ (w1.heap.size = w.heap.size) := by omega
   have : ¬ (w.heap.size = w1.heap.size + 1) := by omega
   have : ¬ (w1.heap.size + 1 = w.heap.size) := by omega
   have : ¬ (w.heap.size + 1 = w1.heap.size) := by omega
   have : ¬ (w1.heap.size = w.heap.size + 1) := by omega
   have : ¬ (w.heap.size + 1 = w1.heap.size + 1) := by omega
   have : ¬ (w1.heap.size + 1 = w.heap.size + 1) := by omega
   generalize (w1.alloc (.cells #[.slice A2 m2 c2] 28)).alloc (.cells #[.slice none 0 0] 28) = Y at *
   go_wp2_with fail
   go_region
   all_goals
    generalize ((((Y.setCell ⟨w.heap.size, 0, none⟩ (.int .i64 0)).setCell ⟨w.heap.size, 1, none⟩ (.int .u64 0)).setCell ⟨w.heap.size, 2, none⟩ (.slice none 0 0)).setCell ⟨w.heap.size, 3, none⟩ (.int .i64 0)).setCell ⟨(w.heap.size + 1), 0, none⟩ (.slice none 0 0) = Z9 at *
    go_wp2
    exact bodyPost_ret (v := .tuple #[.agg #[.int .i64 0, .int .u64 0, .slice none 0 0, .int .i64 0], .agg #[.slice none 0 0], .int .i64 14]) (by simp [results, Tryz.results63, go_sem, e0, e1, e2, e3, e4]) rfl (HF.out.later (agR_stays (elsR_stays (ts := [22, 23, 31]) (by decide) (by decide) (by decide))) (Ext.refl _).drew)
  ·have i1 : decide (0 < (m : Int)) = false := by simp; omega
   have i2 : (0 < (m : Int)) = False := by simp; omega
   have pc1 := H4.out.cell (i := 1) (by omega) (by omega)
   have pc2 := H4.out.cell (i := 2) (by omega) (by omega)
   have pc3 := H4.out.cell (i := 3) (by omega) (by omega)
   have pc4 := H4.out.cell (i := 4) (by omega) (by omega)
   rw [hkp.kn.n1] at pc1
   rw [hkp.s2] at pc2
   rw [hkp.kn.q1] at pc3
   rw [hkp.s4] at pc4
   go_wp2_with fail
   have q6 : RW (w1.alloc (.cells #[.slice A2 m2 c2] 28)) w.heap.size 25 4 (parF (.int .i64 0) (.int .u64 0) (.slice none 0 0) (.int .i64 0)) := RW.ext (RW.keep r6 (h6.block _ (by omega) (fun e => by injection e with e; omega))) ((Ext.refl w1).alloc _)
   have a0 : (w1.alloc (.cells #[.slice A2 m2 c2] 28)).cell? ⟨w.heap.size, 0, none⟩ = some (.int .i64 0) := q6.cell (i := 0) (by omega)
   have b0 := q6.frozen 0
   have a1 : (w1.alloc (.cells #[.slice A2 m2 c2] 28)).cell? ⟨w.heap.size, 1, none⟩ = some (.int .u64 0) := q6.cell (i := 1) (by omega)
   have b1 := q6.frozen 1
   have a2 : (w1.alloc (.cells #[.slice A2 m2 c2] 28)).cell? ⟨w.heap.size, 2, none⟩ = some (.slice none 0 0) := q6.cell (i := 2) (by omega)
   have b2 := q6.frozen 2
   have a3 : (w1.alloc (.cells #[.slice A2 m2 c2] 28)).cell? ⟨w.heap.size, 3, none⟩ = some (.int .i64 0) := q6.cell (i := 3) (by omega)
   have b3 := q6.frozen 3
   have q7 : RW (w1.alloc (.cells #[.slice A2 m2 c2] 28)) (w.heap.size + 1) 28 1 (fun _ => .slice none 0 0) := RW.ext (RW.keep r7 (h6.block _ (by omega) (fun e => by injection e with e; omega))) ((Ext.refl w1).alloc _)
   have tc0 := q7.cell (i := 0) (by omega)
   have td0 := q7.frozen 0
   have l0 : (w1.alloc (.cells #[.slice A2 m2 c2] 28)).cell? ⟨w1.heap.size, 0, none⟩ = some (.slice A2 m2 c2) := by simp
   have k1 : (w1.alloc (.cells #[.slice A2 m2 c2] 28)).cell? ⟨(w.heap.size + 2), 1, none⟩ = some (.int .i64 (pv.n : Int)) := cell_ext ((Ext.refl w1).alloc _) pc1
   have k2 : (w1.alloc (.cells #[.slice A2 m2 c2] 28)).cell? ⟨(w.heap.size + 2), 2, none⟩ = some (.int .u64 (pv.t : Int)) := cell_ext ((Ext.refl w1).alloc _) pc2
   have k3 : (w1.alloc (.cells #[.slice A2 m2 c2] 28)).cell? ⟨(w.heap.size + 2), 3, none⟩ = some (.slice AQ pv.q.length cQ) := cell_ext ((Ext.refl w1).alloc _) pc3
   have k4 : (w1.alloc (.cells #[.slice A2 m2 c2] 28)).cell? ⟨(w.heap.size + 2), 4, none⟩ = some (.int .i64 (pv.w : Int)) := cell_ext ((Ext.refl w1).alloc _) pc4
   have kY : Ext w (w1.alloc (.cells #[.slice A2 m2 c2] 28)) := (kA.on h6 (by omega)).trans ((Ext.refl w1).alloc _)
   have p6 := q6.set4 (.int .i64 (pv.n : Int)) (.int .u64 (pv.t : Int)) (.slice AQ pv.q.length cQ) (.int .i64 (pv.w : Int))
   have P6 : RW ((((((w1.alloc (.cells #[.slice A2 m2 c2] 28)).setCell ⟨w.heap.size, 0, none⟩ (.int .i64 (pv.n : Int))).setCell ⟨w.heap.size, 1, none⟩ (.int .u64 (pv.t : Int))).setCell ⟨w.heap.size, 2, none⟩ (.slice AQ pv.q.length cQ)).setCell ⟨w.heap.size, 3, none⟩ (.int .i64 (pv.w : Int))).setCell ⟨(w.heap.size + 1), 0, none⟩ (.slice A2 m2 c2)) w.heap.size 25 4 (parF (.int .i64 (pv.n : Int)) (.int .u64 (pv.t : Int)) (.slice AQ pv.q.length cQ) (.int .i64 (pv.w : Int))) := (RW.far p6 (x := w.heap.size + 1) (by omega) (.slice A2 m2 c2))
   have e0 : ((((((w1.alloc (.cells #[.slice A2 m2 c2] 28)).setCell ⟨w.heap.size, 0, none⟩ (.int .i64 (pv.n : Int))).setCell ⟨w.heap.size, 1, none⟩ (.int .u64 (pv.t : Int))).setCell ⟨w.heap.size, 2, none⟩ (.slice AQ pv.q.length cQ)).setCell ⟨w.heap.size, 3, none⟩ (.int .i64 (pv.w : Int))).setCell ⟨(w.heap.size + 1), 0, none⟩ (.slice A2 m2 c2)).cell? ⟨w.heap.size, 0, none⟩ = some (.int .i64 (pv.n : Int)) := P6.cell (i := 0) (by omega)
   have e1 : ((((((w1.alloc (.cells #[.slice A2 m2 c2] 28)).setCell ⟨w.heap.size, 0, none⟩ (.int .i64 (pv.n : Int))).setCell ⟨w.heap.size, 1, none⟩ (.int .u64 (pv.t : Int))).setCell ⟨w.heap.size, 2, none⟩ (.slice AQ pv.q.length cQ)).setCell ⟨w.heap.size, 3, none⟩ (.int .i64 (pv.w : Int))).setCell ⟨(w.heap.size + 1), 0, none⟩ (.slice A2 m2 c2)).cell? ⟨w.heap.size, 1, none⟩ = some (.int .u64 (pv.t : Int)) := P6.cell (i := 1) (by omega)
   have e2 : ((((((w1.alloc (.cells #[.slice A2 m2 c2] 28)).setCell ⟨w.heap.size, 0, none⟩ (.int .i64 (pv.n : Int))).setCell ⟨w.heap.size, 1, none⟩ (.int .u64 (pv.t : Int))).setCell ⟨w.heap.size, 2, none⟩ (.slice AQ pv.q.length cQ)).setCell ⟨w.heap.size, 3, none⟩ (.int .i64 (pv.w : Int))).setCell ⟨(w.heap.size + 1), 0, none⟩ (.slice A2 m2 c2)).cell? ⟨w.heap.size, 2, none⟩ = some (.slice AQ pv.q.length cQ) := P6.cell (i := 2) (by omega)
   have e3 : ((((((w1.alloc (.cells #[.slice A2 m2 c2] 28)).setCell ⟨w.heap.size, 0, none⟩ (.int .i64 (pv.n : Int))).setCell ⟨w.heap.size, 1, none⟩ (.int .u64 (pv.t : Int))).setCell ⟨w.heap.size, 2, none⟩ (.slice AQ pv.q.length cQ)).setCell ⟨w.heap.size, 3, none⟩ (.int .i64 (pv.w : Int))).setCell ⟨(w.heap.size + 1), 0, none⟩ (.slice A2 m2 c2)).cell? ⟨w.heap.size, 3, none⟩ = some (.int .i64 (pv.w : Int)) := P6.cell (i := 3) (by omega)
   have P7 : RW (((((w1.alloc (.cells #[.slice A2 m2 c2] 28)).setCell ⟨w.heap.size, 0, none⟩ (.int .i64 (pv.n : Int))).setCell ⟨w.heap.size, 1, none⟩ (.int .u64 (pv.t : Int))).setCell ⟨w.heap.size, 2, none⟩ (.slice AQ pv.q.length cQ)).setCell ⟨w.heap.size, 3, none⟩ (.int .i64 (pv.w : Int))) (w.heap.size + 1) 28 1 (fun _ => .slice none 0 0) := (RW.far (RW.far (RW.far (RW.far q7 (x := w.heap.size) (by omega) (.int .i64 (pv.n : Int))) (x := w.heap.size) (by omega) (.int .u64 (pv.t : Int))) (x := w.heap.size) (by omega) (.slice AQ pv.q.length cQ)) (x := w.heap.size) (by omega) (.int .i64 (pv.w : Int)))
   have e4 := ret_cell P7 (.slice A2 m2 c2)
   have hkz : Keeps [22, 23, 31] w1 ((((((w1.alloc (.cells #[.slice A2 m2 c2] 28)).setCell ⟨w.heap.size, 0, none⟩ (.int .i64 (pv.n : Int))).setCell ⟨w.heap.size, 1, none⟩ (.int .u64 (pv.t : Int))).setCell ⟨w.heap.size, 2, none⟩ (.slice AQ pv.q.length cQ)).setCell ⟨w.heap.size, 3, none⟩ (.int .i64 (pv.w : Int))).setCell ⟨(w.heap.size + 1), 0, none⟩ (.slice A2 m2 c2)) := ((((((Keeps.ext ((Ext.refl w1).alloc _)).trans (Keeps.set q6 (by decide) _)).trans (Keeps.set (q6.set (show 0 < 4 by omega) (.int .i64 (pv.n : Int))) (by decide) _)).trans (Keeps.set ((q6.set (show 0 < 4 by omega) (.int .i64 (pv.n : Int))).set (show 1 < 4 by omega) (.int .u64 (pv.t : Int))) (by decide) _)).trans (Keeps.set (((q6.set (show 0 < 4 by omega) (.int .i64 (pv.n : Int))).set (show 1 < 4 by omega) (.int .u64 (pv.t : Int))).set (show 2 < 4 by omega) (.slice AQ pv.q.length cQ)) (by decide) _)).trans (Keeps.set (RW.far (RW.far (RW.far (RW.far q7 (x := w.heap.size) (by omega) (.int .i64 (pv.n : Int))) (x := w.heap.size) (by omega) (.int .u64 (pv.t : Int))) (x := w.heap.size) (by omega) (.slice AQ pv.q.length cQ)) (x := w.heap.size) (by omega) (.int .i64 (pv.w : Int))) (by decide) _))
   have HF := Lib.hid (show RPost (.agg #[.slice none 0 0]) w (endP (headP kind f l)) (AgR ElsR) (.returned (.tuple #[.agg #[.int .i64 (pv.n : Int), .int .u64 (pv.t : Int), .slice AQ pv.q.length cQ, .int .i64 (pv.w : Int)], .agg #[.slice A2 m2 c2], .int .i64 0])) ((((((w1.alloc (.cells #[.slice A2 m2 c2] 28)).setCell ⟨w.heap.size, 0, none⟩ (.int .i64 (pv.n : Int))).setCell ⟨w.heap.size, 1, none⟩ (.int .u64 (pv.t : Int))).setCell ⟨w.heap.size, 2, none⟩ (.slice AQ pv.q.length cQ)).setCell ⟨w.heap.size, 3, none⟩ (.int .i64 (pv.w : Int))).setCell ⟨(w.heap.size + 1), 0, none⟩ (.slice A2 m2 c2)) from
    .inl ⟨pv, x, _, AQ, cQ, by rw [h1]; exact if_neg (by rw [← hm]; exact hz), rfl, (agR_stays (elsR_stays (ts := [22, 23, 31]) (by decide) (by decide) (by decide))) _ _ _ x hkz HV9.out, (PVok.mk hkp.kn.ly hkp.kn.nl hkp.t1 hkp.w1 hkp.kn.ql hkp.len).keeps hkz (by decide), (ext_set (ext_set (ext_set (ext_set (ext_set kY (Nat.le_refl _) (.int .i64 (pv.n : Int))) (Nat.le_refl _) (.int .u64 (pv.t : Int))) (Nat.le_refl _) (.slice AQ pv.q.length cQ)) (Nat.le_refl _) (.int .i64 (pv.w : Int))) (Nat.le_succ _) (.slice A2 m2 c2))⟩)
   clear q6 p6 P6 kY q7 P7
   have hw1s : w.heap.size + 2 + 1 ≤ w1.heap.size := by have := h6.size; omega
   clear h1 hkp h6 hkz pc1 pc2 pc3 pc4
   have : ¬ (w.heap.size = w1.heap.size) := by omega
   have : ¬ (w1.heap.size = w.heap.size) := by omega
   have : ¬ (w.heap.size = w1.heap.size + 1) := by omega
   have : ¬ (w1.heap.size + 1 = w.heap.size) := by omega
   have : ¬ (w.heap.size + 1 = w1.heap.size) := by omega
   have : ¬ (w1.heap.size = w.heap.size + 1) := by omega
   have : ¬ (w.heap.size + 1 = w1.heap.size + 1) := by omega
   have : ¬ (w1.heap.size + 1 = w.heap.size + 1) := by omega
   generalize w1.alloc (.cells #[.slice A2 m2 c2] 28) = Y at *
   go_wp2_with fail
   go_region
   all_goals
    generalize ((((Y.setCell ⟨w.heap.size, 0, none⟩ (.int .i64 (pv.n : Int))).setCell ⟨w.heap.size, 1, none⟩ (.int .u64 (pv.t : Int))).setCell ⟨w.heap.size, 2, none⟩ (.slice AQ pv.q.length cQ)).setCell ⟨w.heap.size, 3, none⟩ (.int .i64 (pv.w : Int))).setCell ⟨(w.heap.size + 1), 0, none⟩ (.slice A2 m2 c2) = Z9 at *
    go_wp2
    exact bodyPost_ret (v := .tuple #[.agg #[.int .i64 (pv.n : Int), .int .u64 (pv.t : Int), .slice AQ pv.q.length cQ, .int .i64 (pv.w : Int)], .agg #[.slice A2 m2 c2], .int .i64 0]) (by simp [results, Tryz.results63, go_sem, e0, e1, e2, e3, e4]) rfl (HF.out.later (agR_stays (elsR_stays (ts := [22, 23, 31]) (by decide) (by decide) (by decide))) (Ext.refl _).drew)
 ·have i1 : ¬ (cc : Int) = 0 := by omega
  have i3 : ((cc : Int) == 0) = false := by simp; omega
  go_wp2_with fail
  have q6 : RW ((w1.alloc (.cells #[.slice none 0 0] 28)).alloc (.cells #[.slice none 0 0] 28)) w.heap.size 25 4 (parF (.int .i64 0) (.int .u64 0) (.slice none 0 0) (.int .i64 0)) := RW.ext (RW.keep r6 (h6.block _ (by omega) (fun e => by injection e with e; omega))) (((Ext.refl w1).alloc _).alloc _)
  have a0 : ((w1.alloc (.cells #[.slice none 0 0] 28)).alloc (.cells #[.slice none 0 0] 28)).cell? ⟨w.heap.size, 0, none⟩ = some (.int .i64 0) := q6.cell (i := 0) (by omega)
  have b0 := q6.frozen 0
  have a1 : ((w1.alloc (.cells #[.slice none 0 0] 28)).alloc (.cells #[.slice none 0 0] 28)).cell? ⟨w.heap.size, 1, none⟩ = some (.int .u64 0) := q6.cell (i := 1) (by omega)
  have b1 := q6.frozen 1
  have a2 : ((w1.alloc (.cells #[.slice none 0 0] 28)).alloc (.cells #[.slice none 0 0] 28)).cell? ⟨w.heap.size, 2, none⟩ = some (.slice none 0 0) := q6.cell (i := 2) (by omega)
  have b2 := q6.frozen 2
  have a3 : ((w1.alloc (.cells #[.slice none 0 0] 28)).alloc (.cells #[.slice none 0 0] 28)).cell? ⟨w.heap.size, 3, none⟩ = some (.int .i64 0) := q6.cell (i := 3) (by omega)
  have b3 := q6.frozen 3
  have q7 : RW ((w1.alloc (.cells #[.slice none 0 0] 28)).alloc (.cells #[.slice none 0 0] 28)) (w.heap.size + 1) 28 1 (fun _ => .slice none 0 0) := RW.ext (RW.keep r7 (h6.block _ (by omega) (fun e => by injection e with e; omega))) (((Ext.refl w1).alloc _).alloc _)
  have tc0 := q7.cell (i := 0) (by omega)
  have td0 := q7.frozen 0
  have l0 : ((w1.alloc (.cells #[.slice none 0 0] 28)).alloc (.cells #[.slice none 0 0] 28)).cell? ⟨w1.heap.size + 1, 0, none⟩ = some (.slice none 0 0) := by simp
  have kY : Ext w ((w1.alloc (.cells #[.slice none 0 0] 28)).alloc (.cells #[.slice none 0 0] 28)) := (kA.on h6 (by omega)).trans (((Ext.refl w1).alloc _).alloc _)
  have p6 := q6.set4 (.int .i64 0) (.int .u64 0) (.slice none 0 0) (.int .i64 0)
  have P6 : RW (((((((w1.alloc (.cells #[.slice none 0 0] 28)).alloc (.cells #[.slice none 0 0] 28)).setCell ⟨w.heap.size, 0, none⟩ (.int .i64 0)).setCell ⟨w.heap.size, 1, none⟩ (.int .u64 0)).setCell ⟨w.heap.size, 2, none⟩ (.slice none 0 0)).setCell ⟨w.heap.size, 3, none⟩ (.int .i64 0)).setCell ⟨(w.heap.size + 1), 0, none⟩ (.slice none 0 0)) w.heap.size 25 4 (parF (.int .i64 0) (.int .u64 0) (.slice none 0 0) (.int .i64 0)) := (RW.far p6 (x := w.heap.size + 1) (by omega) (.slice none 0 0))
  have e0 : (((((((w1.alloc (.cells #[.slice none 0 0] 28)).alloc (.cells #[.slice none 0 0] 28)).setCell ⟨w.heap.size, 0, none⟩ (.int .i64 0)).setCell ⟨w.heap.size, 1, none⟩ (.int .u64 0)).setCell ⟨w.heap.size, 2, none⟩ (.slice none 0 0)).setCell ⟨w.heap.size, 3, none⟩ (.int .i64 0)).setCell ⟨(w.heap.size + 1), 0, none⟩ (.slice none 0 0)).cell? ⟨w.heap.size, 0, none⟩ = some (.int .i64 0) := P6.cell (i := 0) (by omega)
  have e1 : (((((((w1.alloc (.cells #[.slice none 0 0] 28)).alloc (.cells #[.slice none 0 0] 28)).setCell ⟨w.heap.size, 0, none⟩ (.int .i64 0)).setCell ⟨w.heap.size, 1, none⟩ (.int .u64 0)).setCell ⟨w.heap.size, 2, none⟩ (.slice none 0 0)).setCell ⟨w.heap.size, 3, none⟩ (.int .i64 0)).setCell ⟨(w.heap.size + 1), 0, none⟩ (.slice none 0 0)).cell? ⟨w.heap.size, 1, none⟩ = some (.int .u64 0) := P6.cell (i := 1) (by omega)
  have e2 : (((((((w1.alloc (.cells #[.slice none 0 0] 28)).alloc (.cells #[.slice none 0 0] 28)).setCell ⟨w.heap.size, 0, none⟩ (.int .i64 0)).setCell ⟨w.heap.size, 1, none⟩ (.int .u64 0)).setCell ⟨w.heap.size, 2, none⟩ (.slice none 0 0)).setCell ⟨w.heap.size, 3, none⟩ (.int .i64 0)).setCell ⟨(w.heap.size + 1), 0, none⟩ (.slice none 0 0)).cell? ⟨w.heap.size, 2, none⟩ = some (.slice none 0 0) := P6.cell (i := 2) (by omega)
  have e3 : (((((((w1.alloc (.cells #[.slice none 0 0] 28)).alloc (.cells #[.slice none 0 0] 28)).setCell ⟨w.heap.size, 0, none⟩ (.int .i64 0)).setCell ⟨w.heap.size, 1, none⟩ (.int .u64 0)).setCell ⟨w.heap.size, 2, none⟩ (.slice none 0 0)).setCell ⟨w.heap.size, 3, none⟩ (.int .i64 0)).setCell ⟨(w.heap.size + 1), 0, none⟩ (.slice none 0 0)).cell? ⟨w.heap.size, 3, none⟩ = some (.int .i64 0) := P6.cell (i := 3) (by omega)
  have P7 : RW ((((((w1.alloc (.cells #[.slice none 0 0] 28)).alloc (.cells #[.slice none 0 0] 28)).setCell ⟨w.heap.size, 0, none⟩ (.int .i64 0)).setCell ⟨w.heap.size, 1, none⟩ (.int .u64 0)).setCell ⟨w.heap.size, 2, none⟩ (.slice none 0 0)).setCell ⟨w.heap.size, 3, none⟩ (.int .i64 0)) (w.heap.size + 1) 28 1 (fun _ => .slice none 0 0) := (RW.far (RW.far (RW.far (RW.far q7 (x := w.heap.size) (by omega) (.int .i64 0)) (x := w.heap.size) (by omega) (.int .u64 0)) (x := w.heap.size) (by omega) (.slice none 0 0)) (x := w.heap.size) (by omega) (.int .i64 0))
  have e4 := ret_cell P7 (.slice none 0 0)
  have HF := Lib.hid (show RPost (.agg #[.slice none 0 0]) w (endP (headP kind f l)) (AgR ElsR) (.returned (.tuple #[.agg #[.int .i64 0, .int .u64 0, .slice none 0 0, .int .i64 0], .agg #[.slice none 0 0], .int .i64 (cc : Int)])) (((((((w1.alloc (.cells #[.slice none 0 0] 28)).alloc (.cells #[.slice none 0 0] 28)).setCell ⟨w.heap.size, 0, none⟩ (.int .i64 0)).setCell ⟨w.heap.size, 1, none⟩ (.int .u64 0)).setCell ⟨w.heap.size, 2, none⟩ (.slice none 0 0)).setCell ⟨w.heap.size, 3, none⟩ (.int .i64 0)).setCell ⟨(w.heap.size + 1), 0, none⟩ (.slice none 0 0)) from
   .inr ⟨cc, by rw [h1]; rfl, h2, h3, rfl, (ext_set (ext_set (ext_set (ext_set (ext_set kY (Nat.le_refl _) (.int .i64 0)) (Nat.le_refl _) (.int .u64 0)) (Nat.le_refl _) (.slice none 0 0)) (Nat.le_refl _) (.int .i64 0)) (Nat.le_succ _) (.slice none 0 0))⟩)
  clear q6 p6 P6 kY q7 P7
  have hw1s : w.heap.size + 2 + 1 ≤ w1.heap.size := by have := h6.size; omega
  clear h1 h6
  have : ¬ (w.heap.size = w1.heap.size) := by omega
  have : ¬ (w1.heap.size = w.heap.size) := by omega
  have : ¬ (w.heap.size = w1.heap.size + 1) := by omega
  have : ¬ (w1.heap.size + 1 = w.heap.size) := by omega
  have : ¬ (w.heap.size + 1 = w1.heap.size) := by omega
  have : ¬ (w1.heap.size = w.heap.size + 1) := by omega
  have : ¬ (w.heap.size + 1 = w1.heap.size + 1) := by omega
  have : ¬ (w1.heap.size + 1 = w.heap.size + 1) := by omega
  generalize (w1.alloc (.cells #[.slice none 0 0] 28)).alloc (.cells #[.slice none 0 0] 28) = Y at *
  go_wp2_with fail
  go_region
  all_goals
   generalize ((((Y.setCell ⟨w.heap.size, 0, none⟩ (.int .i64 0)).setCell ⟨w.heap.size, 1, none⟩ (.int .u64 0)).setCell ⟨w.heap.size, 2, none⟩ (.slice none 0 0)).setCell ⟨w.heap.size, 3, none⟩ (.int .i64 0)).setCell ⟨(w.heap.size + 1), 0, none⟩ (.slice none 0 0) = Z9 at *
   go_wp2
   exact bodyPost_ret (v := .tuple #[.agg #[.int .i64 0, .int .u64 0, .slice none 0 0, .int .i64 0], .agg #[.slice none 0 0], .int .i64 (cc : Int)]) (by simp [results, Tryz.results63, go_sem, e0, e1, e2, e3, e4]) rfl (HF.out.later (agR_stays (elsR_stays (ts := [22, 23, 31]) (by decide) (by decide) (by decide))) (Ext.refl _).drew)
set_option maxHeartbeats 8000000 in
theorem uReadP_any (fn kind n c : Nat) (A : Option Addr) (l : List Nat) (f : PV → Pr (List (List (List Nat)))) (w : World) (hX : Hid (BX w A n c l)) (hA : Hid (0 < n → ∀ ad, A = some ad → ad.block < w.heap.size)) (hn : n ≤ 100000) (hk : kind < 256) (hTab : Tabs w) (hE : Hid (EntersV fn)) (hG : Hid (∀ p w1, PtBy fn p (.agg #[.slice none 0 0, .slice none 0 0]) w1 f PubR)) :
    Calls Tryz.prog 65 #[.slice A n c, .int .u64 (kind : Int), .func (.func fn) #[] #[]] w (RPost (.agg #[.slice none 0 0, .slice none 0 0]) w (endP (headP kind f l)) PubR) := by
 have HTAB := Lib.hid hTab
 clear hTab
 have HN := Lib.hid hX.out.len
 have hsA : ((w.alloc (.cells #[.int .i64 0, .int .u64 0, .slice none 0 0, .int .i64 0] 25)).alloc (.cells #[.slice none 0 0, .slice none 0 0] 33)).heap.size = w.heap.size + 2 := by simp
 have HT := Lib.hid (show RS (((w.alloc (.cells #[.int .i64 0, .int .u64 0, .slice none 0 0, .int .i64 0] 25)).alloc (.cells #[.slice none 0 0, .slice none 0 0] 33)).alloc (.cells #[.slice A n c, .int .i64 0, .int .u64 0, .slice none 0 0, .int .i64 0, .int .i64 0, .int .u64 0] 160)) (w.heap.size + 2) l (fun i => if i = 2 then .int .u64 0 else if i = 3 then .slice none 0 0 else if i = 6 then .int .u64 0 else .int .i64 0) by
  have h := reader_new ((w.alloc (.cells #[.int .i64 0, .int .u64 0, .slice none 0 0, .int .i64 0] 25)).alloc (.cells #[.slice none 0 0, .slice none 0 0] 33)) A n c l (hX.out.ext (((Ext.refl w).alloc _).alloc _)) HN.out.symm (fun h0 ad e => by have := hA.out h0 ad e; omega)
  rw [hsA] at h
  exact h)
 have kA : Ext w (((w.alloc (.cells #[.int .i64 0, .int .u64 0, .slice none 0 0, .int .i64 0] 25)).alloc (.cells #[.slice none 0 0, .slice none 0 0] 33)).alloc (.cells #[.slice A n c, .int .i64 0, .int .u64 0, .slice none 0 0, .int .i64 0, .int .i64 0, .int .u64 0] 160)) := (((((Ext.refl w).alloc _).alloc _)).alloc _)
 have hs0 : (((w.alloc (.cells #[.int .i64 0, .int .u64 0, .slice none 0 0, .int .i64 0] 25)).alloc (.cells #[.slice none 0 0, .slice none 0 0] 33)).alloc (.cells #[.slice A n c, .int .i64 0, .int .u64 0, .slice none 0 0, .int .i64 0, .int .i64 0, .int .u64 0] 160)).heap.size = w.heap.size + 2 + 1 := by simp
 have r6 : RW (((w.alloc (.cells #[.int .i64 0, .int .u64 0, .slice none 0 0, .int .i64 0] 25)).alloc (.cells #[.slice none 0 0, .slice none 0 0] 33)).alloc (.cells #[.slice A n c, .int .i64 0, .int .u64 0, .slice none 0 0, .int .i64 0, .int .i64 0, .int .u64 0] 160)) w.heap.size 25 4 (parF (.int .i64 0) (.int .u64 0) (.slice none 0 0) (.int .i64 0)) := RW.ext (show RW (w.alloc (.cells #[.int .i64 0, .int .u64 0, .slice none 0 0, .int .i64 0] 25)) w.heap.size 25 4 (parF (.int .i64 0) (.int .u64 0) (.slice none 0 0) (.int .i64 0)) from heap_alloc_new w (.cells #[.int .i64 0, .int .u64 0, .slice none 0 0, .int .i64 0] 25)) (((Ext.refl _).alloc _).alloc _)
 have r7 : RW (((w.alloc (.cells #[.int .i64 0, .int .u64 0, .slice none 0 0, .int .i64 0] 25)).alloc (.cells #[.slice none 0 0, .slice none 0 0] 33)).alloc (.cells #[.slice A n c, .int .i64 0, .int .u64 0, .slice none 0 0, .int .i64 0, .int .i64 0, .int .u64 0] 160)) (w.heap.size + 1) 33 2 (fun _ => .slice none 0 0) := by
  have h : RW ((w.alloc (.cells #[.int .i64 0, .int .u64 0, .slice none 0 0, .int .i64 0] 25)).alloc (.cells #[.slice none 0 0, .slice none 0 0] 33)) (w.alloc (.cells #[.int .i64 0, .int .u64 0, .slice none 0 0, .int .i64 0] 25)).heap.size 33 2 (fun _ => .slice none 0 0) := heap_alloc_new (w.alloc (.cells #[.int .i64 0, .int .u64 0, .slice none 0 0, .int .i64 0] 25)) (.cells #[.slice none 0 0, .slice none 0 0] 33)
  rw [show (w.alloc (.cells #[.int .i64 0, .int .u64 0, .slice none 0 0, .int .i64 0] 25)).heap.size = w.heap.size + 1 by simp] at h
  exact h.ext ((Ext.refl _).alloc _)
 go_enter Tryz.func65, Tryz.ntmps65
 go_wp2_with fail
 generalize (((w.alloc (.cells #[.int .i64 0, .int .u64 0, .slice none 0 0, .int .i64 0] 25)).alloc (.cells #[.slice none 0 0, .slice none 0 0] 33)).alloc (.cells #[.slice A n c, .int .i64 0, .int .u64 0, .slice none 0 0, .int .i64 0, .int .i64 0, .int .u64 0] 160)) = X0 at *
 refine (uBehP_any fn kind (w.heap.size + 2) l _ f w X0 HT (by rw [HN.out]; exact hn) hk (Lib.hid kA) (by omega) HTAB.out hE (Lib.hid (hG.out _ _))).mono ?_
 rintro e w1 (⟨pv, x, r, v, S', AQ, cQ, h1, rfl, hv, h4, hkp, h5, h6⟩ | ⟨cc, h1, h2, h3, rfl, h6⟩)
 ·obtain ⟨A2, m2, c2, A3, m3, c3, rfl⟩ : ∃ A m c A3 m3 c3, v = .agg #[.slice A m c, .slice A3 m3 c3] := by
     obtain ⟨A0, A1, c0, c1, x0, x1, _, rfl, _⟩ := hv
     exact ⟨_, _, _, _, _, _, rfl⟩
  have HV9 := Lib.hid hv
  clear hv
  have H4 := Lib.hid h4
  obtain ⟨Ar, cr, g1, g2, g3⟩ := h4
  have s0 := g1.cell (i := 0) (by omega)
  rw [show rcF (.slice Ar r.length cr) S' 0 = .slice Ar r.length cr from rfl] at s0
  clear g1 g2 g3
  obtain ⟨m, hm⟩ : ∃ m, m = r.length := ⟨_, rfl⟩
  rw [← hm] at s0
  have s1 : (w1.alloc (.cells #[.slice A2 m2 c2, .slice A3 m3 c3] 33)).cell? ⟨(w.heap.size + 2), 0, none⟩ = some (.slice Ar m cr) := cell_ext ((Ext.refl w1).alloc _) s0
  by_cases hz : 0 < m
  ·have i1 : decide (0 < (m : Int)) = true := by simp; omega
   have i2 : (0 < (m : Int)) = True := by simp; omega
   go_wp2_with fail
   have q6 : RW ((w1.alloc (.cells #[.slice A2 m2 c2, .slice A3 m3 c3] 33)).alloc (.cells #[.slice none 0 0, .slice none 0 0] 33)) w.heap.size 25 4 (parF (.int .i64 0) (.int .u64 0) (.slice none 0 0) (.int .i64 0)) := RW.ext (RW.keep r6 (h6.block _ (by omega) (fun e => by injection e with e; omega))) (((Ext.refl w1).alloc _).alloc _)
   have a0 : ((w1.alloc (.cells #[.slice A2 m2 c2, .slice A3 m3 c3] 33)).alloc (.cells #[.slice none 0 0, .slice none 0 0] 33)).cell? ⟨w.heap.size, 0, none⟩ = some (.int .i64 0) := q6.cell (i := 0) (by omega)
   have b0 := q6.frozen 0
   have a1 : ((w1.alloc (.cells #[.slice A2 m2 c2, .slice A3 m3 c3] 33)).alloc (.cells #[.slice none 0 0, .slice none 0 0] 33)).cell? ⟨w.heap.size, 1, none⟩ = some (.int .u64 0) := q6.cell (i := 1) (by omega)
   have b1 := q6.frozen 1
   have a2 : ((w1.alloc (.cells #[.slice A2 m2 c2, .slice A3 m3 c3] 33)).alloc (.cells #[.slice none 0 0, .slice none 0 0] 33)).cell? ⟨w.heap.size, 2, none⟩ = some (.slice none 0 0) := q6.cell (i := 2) (by omega)
   have b2 := q6.frozen 2
   have a3 : ((w1.alloc (.cells #[.slice A2 m2 c2, .slice A3 m3 c3] 33)).alloc (.cells #[.slice none 0 0, .slice none 0 0] 33)).cell? ⟨w.heap.size, 3, none⟩ = some (.int .i64 0) := q6.cell (i := 3) (by omega)
   have b3 := q6.frozen 3
   have q7 : RW ((w1.alloc (.cells #[.slice A2 m2 c2, .slice A3 m3 c3] 33)).alloc (.cells #[.slice none 0 0, .slice none 0 0] 33)) (w.heap.size + 1) 33 2 (fun _ => .slice none 0 0) := RW.ext (RW.keep r7 (h6.block _ (by omega) (fun e => by injection e with e; omega))) (((Ext.refl w1).alloc _).alloc _)
   have tc0 := q7.cell (i := 0) (by omega)
   have td0 := q7.frozen 0
   have tc1 := q7.cell (i := 1) (by omega)
   have td1 := q7.frozen 1
   have l0 : ((w1.alloc (.cells #[.slice A2 m2 c2, .slice A3 m3 c3] 33)).alloc (.cells #[.slice none 0 0, .slice none 0 0] 33)).cell? ⟨w1.heap.size + 1, 0, none⟩ = some (.slice none 0 0) := by simp
   have l1 : ((w1.alloc (.cells #[.slice A2 m2 c2, .slice A3 m3 c3] 33)).alloc (.cells #[.slice none 0 0, .slice none 0 0] 33)).cell? ⟨w1.heap.size + 1, 1, none⟩ = some (.slice none 0 0) := by simp
   have kY : Ext w ((w1.alloc (.cells #[.slice A2 m2 c2, .slice A3 m3 c3] 33)).alloc (.cells #[.slice none 0 0, .slice none 0 0] 33)) := (kA.on h6 (by omega)).trans (((Ext.refl w1).alloc _).alloc _)
   have p6 := q6.set4 (.int .i64 0) (.int .u64 0) (.slice none 0 0) (.int .i64 0)
   have P6 : RW ((((((((w1.alloc (.cells #[.slice A2 m2 c2, .slice A3 m3 c3] 33)).alloc (.cells #[.slice none 0 0, .slice none 0 0] 33)).setCell ⟨w.heap.size, 0, none⟩ (.int .i64 0)).setCell ⟨w.heap.size, 1, none⟩ (.int .u64 0)).setCell ⟨w.heap.size, 2, none⟩ (.slice none 0 0)).setCell ⟨w.heap.size, 3, none⟩ (.int .i64 0)).setCell ⟨(w.heap.size + 1), 0, none⟩ (.slice none 0 0)).setCell ⟨(w.heap.size + 1), 1, none⟩ (.slice none 0 0)) w.heap.size 25 4 (parF (.int .i64 0) (.int .u64 0) (.slice none 0 0) (.int .i64 0)) := (RW.far (RW.far p6 (x := w.heap.size + 1) (by omega) (.slice none 0 0)) (x := w.heap.size + 1) (by omega) (.slice none 0 0))
   have e0 : ((((((((w1.alloc (.cells #[.slice A2 m2 c2, .slice A3 m3 c3] 33)).alloc (.cells #[.slice none 0 0, .slice none 0 0] 33)).setCell ⟨w.heap.size, 0, none⟩ (.int .i64 0)).setCell ⟨w.heap.size, 1, none⟩ (.int .u64 0)).setCell ⟨w.heap.size, 2, none⟩ (.slice none 0 0)).setCell ⟨w.heap.size, 3, none⟩ (.int .i64 0)).setCell ⟨(w.heap.size + 1), 0, none⟩ (.slice none 0 0)).setCell ⟨(w.heap.size + 1), 1, none⟩ (.slice none 0 0)).cell? ⟨w.heap.size, 0, none⟩ = some (.int .i64 0) := P6.cell (i := 0) (by omega)
   have e1 : ((((((((w1.alloc (.cells #[.slice A2 m2 c2, .slice A3 m3 c3] 33)).alloc (.cells #[.slice none 0 0, .slice none 0 0] 33)).setCell ⟨w.heap.size, 0, none⟩ (.int .i64 0)).setCell ⟨w.heap.size, 1, none⟩ (.int .u64 0)).setCell ⟨w.heap.size, 2, none⟩ (.slice none 0 0)).setCell ⟨w.heap.size, 3, none⟩ (.int .i64 0)).setCell ⟨(w.heap.size + 1), 0, none⟩ (.slice none 0 0)).setCell ⟨(w.heap.size + 1), 1, none⟩ (.slice none 0 0)).cell? ⟨w.heap.size, 1, none⟩ = some (.int .u64 0) := P6.cell (i := 1) (by omega)
   have e2 : ((((((((w1.alloc (.cells #[.slice A2 m2 c2, .slice A3 m3 c3] 33)).alloc (.cells #[.slice none 0 0, .slice none 0 0] 33)).setCell ⟨w.heap.size, 0, none⟩ (.int .i64 0)).setCell ⟨w.heap.size, 1, none⟩ (.int .u64 0)).setCell ⟨w.heap.size, 2, none⟩ (.slice none 0 0)).setCell ⟨w.heap.size, 3, none⟩ (.int .i64 0)).setCell ⟨(w.heap.size + 1), 0, none⟩ (.slice none 0 0)).setCell ⟨(w.heap.size + 1), 1, none⟩ (.slice none 0 0)).cell? ⟨w.heap.size, 2, none⟩ = some (.slice none 0 0) := P6.cell (i := 2) (by omega)
   have e3 : ((((((((w1.alloc (.cells #[.slice A2 m2 c2, .slice A3 m3 c3] 33)).alloc (.cells #[.slice none 0 0, .slice none 0 0] 33)).setCell ⟨w.heap.size, 0, none⟩ (.int .i64 0)).setCell ⟨w.heap.size, 1, none⟩ (.int .u64 0)).setCell ⟨w.heap.size, 2, none⟩ (.slice none 0 0)).setCell ⟨w.heap.size, 3, none⟩ (.int .i64 0)).setCell ⟨(w.heap.size + 1), 0, none⟩ (.slice none 0 0)).setCell ⟨(w.heap.size + 1), 1, none⟩ (.slice none 0 0)).cell? ⟨w.heap.size, 3, none⟩ = some (.int .i64 0) := P6.cell (i := 3) (by omega)
   have P7 : RW ((((((w1.alloc (.cells #[.slice A2 m2 c2, .slice A3 m3 c3] 33)).alloc (.cells #[.slice none 0 0, .slice none 0 0] 33)).setCell ⟨w.heap.size, 0, none⟩ (.int .i64 0)).setCell ⟨w.heap.size, 1, none⟩ (.int .u64 0)).setCell ⟨w.heap.size, 2, none⟩ (.slice none 0 0)).setCell ⟨w.heap.size, 3, none⟩ (.int .i64 0)) (w.heap.size + 1) 33 2 (fun _ => .slice none 0 0) := (RW.far (RW.far (RW.far (RW.far q7 (x := w.heap.size) (by omega) (.int .i64 0)) (x := w.heap.size) (by omega) (.int .u64 0)) (x := w.heap.size) (by omega) (.slice none 0 0)) (x := w.heap.size) (by omega) (.int .i64 0))
   obtain ⟨e4, e5⟩ := ret_two P7 (.slice none 0 0) (.slice none 0 0)
   have HF := Lib.hid (show RPost (.agg #[.slice none 0 0, .slice none 0 0]) w (endP (headP kind f l)) PubR (.returned (.tuple #[.agg #[.int .i64 0, .int .u64 0, .slice none 0 0, .int .i64 0], .agg #[.slice none 0 0, .slice none 0 0], .int .i64 14])) ((((((((w1.alloc (.cells #[.slice A2 m2 c2, .slice A3 m3 c3] 33)).alloc (.cells #[.slice none 0 0, .slice none 0 0] 33)).setCell ⟨w.heap.size, 0, none⟩ (.int .i64 0)).setCell ⟨w.heap.size, 1, none⟩ (.int .u64 0)).setCell ⟨w.heap.size, 2, none⟩ (.slice none 0 0)).setCell ⟨w.heap.size, 3, none⟩ (.int .i64 0)).setCell ⟨(w.heap.size + 1), 0, none⟩ (.slice none 0 0)).setCell ⟨(w.heap.size + 1), 1, none⟩ (.slice none 0 0)) from
    .inr ⟨14, by rw [h1]; exact if_pos (by rw [← hm]; exact hz), by omega, by omega, rfl, (ext_set (ext_set (ext_set (ext_set (ext_set (ext_set kY (Nat.le_refl _) (.int .i64 0)) (Nat.le_refl _) (.int .u64 0)) (Nat.le_refl _) (.slice none 0 0)) (Nat.le_refl _) (.int .i64 0)) (Nat.le_succ _) (.slice none 0 0)) (Nat.le_succ _) (.slice none 0 0))⟩)
   clear q6 p6 P6 kY q7 P7
   have hw1s : w.heap.size + 2 + 1 ≤ w1.heap.size := by have := h6.size; omega
   clear h1 hkp h6
   have : ¬ (w.heap.size = w1.heap.size) := by omega
   have : ¬ (w1.heap.size = w.heap.size) := by omega
   have : ¬ (w.heap.size = w1.heap.size + 1) := by omega
   have : ¬ (w1.heap.size + 1 = w.heap.size) := by omega
   have : ¬ (w.heap.size + 1 = w1.heap.size) := by omega
   have : ¬ (w1.heap.size = w.heap.size + 1) := by omega
   have : ¬ (w.heap.size + 1 = w1.heap.size + 1) := by omega
   have : ¬ (w1.heap.size + 1 = w.heap.size + 1) := by omega
   generalize (w1.alloc (.cells #[.slice A2 m2 c2, .slice A3 m3 c3] 33)).alloc (.cells #[.slice none 0 0, .slice none 0 0] 33) = Y at *
   go_wp2_with fail
   go_region
   all_goals
    generalize (((((Y.setCell ⟨w.heap.size, 0, none⟩ (.int .i64 0)).setCell ⟨w.heap.size, 1, none⟩ (.int .u64 0)).setCell ⟨w.heap.size, 2, none⟩ (.slice none 0 0)).setCell ⟨w.heap.size, 3, none⟩ (.int .i64 0)).setCell ⟨(w.heap.size + 1), 0, none⟩ (.slice none 0 0)).setCell ⟨(w.heap.size + 1), 1, none⟩ (.slice none 0 0) = Z9 at *
    go_wp2
    exact bodyPost_ret (v := .tuple #[.agg #[.int .i64 0, .int .u64 0, .slice none 0 0, .int .i64 0], .agg #[.slice none 0 0, .slice none 0 0], .int .i64 14]) (by simp [results, Tryz.results65, go_sem, e0, e1, e2, e3, e4, e5]) rfl (HF.out.later (pubR_stays (ts := [22, 23]) (by decide) (by decide)) (Ext.refl _).drew)
  ·have i1 : decide (0 < (m : Int)) = false := by simp; omega
   have i2 : (0 < (m : Int)) = False := by simp; omega
   have pc1 := H4.out.cell (i := 1) (by omega) (by omega)
   have pc2 := H4.out.cell (i := 2) (by omega) (by omega)
   have pc3 := H4.out.cell (i := 3) (by omega) (by omega)
   have pc4 := H4.out.cell (i := 4) (by omega) (by omega)
   rw [hkp.kn.n1] at pc1
   rw [hkp.s2] at pc2
   rw [hkp.kn.q1] at pc3
   rw [hkp.s4] at pc4
   go_wp2_with fail
   have q6 : RW (w1.alloc (.cells #[.slice A2 m2 c2, .slice A3 m3 c3] 33)) w.heap.size 25 4 (parF (.int .i64 0) (.int .u64 0) (.slice none 0 0) (.int .i64 0)) := RW.ext (RW.keep r6 (h6.block _ (by omega) (fun e => by injection e with e; omega))) ((Ext.refl w1).alloc _)
   have a0 : (w1.alloc (.cells #[.slice A2 m2 c2, .slice A3 m3 c3] 33)).cell? ⟨w.heap.size, 0, none⟩ = some (.int .i64 0) := q6.cell (i := 0) (by omega)
   have b0 := q6.frozen 0
   have a1 : (w1.alloc (.cells #[.slice A2 m2 c2, .slice A3 m3 c3] 33)).cell? ⟨w.heap.size, 1, none⟩ = some (.int .u64 0) := q6.cell (i := 1) (by omega)
   have b1 := q6.frozen 1
   have a2 : (w1.alloc (.cells #[.slice A2 m2 c2, .slice A3 m3 c3] 33)).cell? ⟨w.heap.size, 2, none⟩ = some (.slice none 0 0) := q6.cell (i := 2) (by omega)
   have b2 := q6.frozen 2
   have a3 : (w1.alloc (.cells #[.slice A2 m2 c2, .slice A3 m3 c3] 33)).cell? ⟨w.heap.size, 3, none⟩ = some (.int .i64 0) := q6.cell (i := 3) (by omega)
   have b3 := q6.frozen 3
   have q7 : RW (w1.alloc (.cells #[.slice A2 m2 c2, .slice A3 m3 c3] 33)) (w.heap.size + 1) 33 2 (fun _ => .slice none 0 0) := RW.ext (RW.keep r7 (h6.block _ (by omega) (fun e => by injection e with e; omega))) ((Ext.refl w1).alloc _)
   have tc0 := q7.cell (i := 0) (by omega)
   have td0 := q7.frozen 0
   have tc1 := q7.cell (i := 1) (by omega)
   have td1 := q7.frozen 1
   have l0 : (w1.alloc (.cells #[.slice A2 m2 c2, .slice A3 m3 c3] 33)).cell? ⟨w1.heap.size, 0, none⟩ = some (.slice A2 m2 c2) := by simp
   have l1 : (w1.alloc (.cells #[.slice A2 m2 c2, .slice A3 m3 c3] 33)).cell? ⟨w1.heap.size, 1, none⟩ = some (.slice A3 m3 c3) := by simp
   have k1 : (w1.alloc (.cells #[.slice A2 m2 c2, .slice A3 m3 c3] 33)).cell? ⟨(w.heap.size + 2), 1, none⟩ = some (.int .i64 (pv.n : Int)) := cell_ext ((Ext.refl w1).alloc _) pc1
   have k2 : (w1.alloc (.cells #[.slice A2 m2 c2, .slice A3 m3 c3] 33)).cell? ⟨(w.heap.size + 2), 2, none⟩ = some (.int .u64 (pv.t : Int)) := cell_ext ((Ext.refl w1).alloc _) pc2
   have k3 : (w1.alloc (.cells #[.slice A2 m2 c2, .slice A3 m3 c3] 33)).cell? ⟨(w.heap.size + 2), 3, none⟩ = some (.slice AQ pv.q.length cQ) := cell_ext ((Ext.refl w1).alloc _) pc3
   have k4 : (w1.alloc (.cells #[.slice A2 m2 c2, .slice A3 m3 c3] 33)).cell? ⟨(w.heap.size + 2), 4, none⟩ = some (.int .i64 (pv.w : Int)) := cell_ext ((Ext.refl w1).alloc _) pc4
   have kY : Ext w (w1.alloc (.cells #[.slice A2 m2 c2, .slice A3 m3 c3] 33)) := (kA.on h6 (by omega)).trans ((Ext.refl w1).alloc _)
   have p6 := q6.set4 (.int .i64 (pv.n : Int)) (.int .u64 (pv.t : Int)) (.slice AQ pv.q.length cQ) (.int .i64 (pv.w : Int))
   have P6 : RW (((((((w1.alloc (.cells #[.slice A2 m2 c2, .slice A3 m3 c3] 33)).setCell ⟨w.heap.size, 0, none⟩ (.int .i64 (pv.n : Int))).setCell ⟨w.heap.size, 1, none⟩ (.int .u64 (pv.t : Int))).setCell ⟨w.heap.size, 2, none⟩ (.slice AQ pv.q.length cQ)).setCell ⟨w.heap.size, 3, none⟩ (.int .i64 (pv.w : Int))).setCell ⟨(w.heap.size + 1), 0, none⟩ (.slice A2 m2 c2)).setCell ⟨(w.heap.size + 1), 1, none⟩ (.slice A3 m3 c3)) w.heap.size 25 4 (parF (.int .i64 (pv.n : Int)) (.int .u64 (pv.t : Int)) (.slice AQ pv.q.length cQ) (.int .i64 (pv.w : Int))) := (RW.far (RW.far p6 (x := w.heap.size + 1) (by omega) (.slice A2 m2 c2)) (x := w.heap.size + 1) (by omega) (.slice A3 m3 c3))
   have e0 : (((((((w1.alloc (.cells #[.slice A2 m2 c2, .slice A3 m3 c3] 33)).setCell ⟨w.heap.size, 0, none⟩ (.int .i64 (pv.n : Int))).setCell ⟨w.heap.size, 1, none⟩ (.int .u64 (pv.t : Int))).setCell ⟨w.heap.size, 2, none⟩ (.slice AQ pv.q.length cQ)).setCell ⟨w.heap.size, 3, none⟩ (.int .i64 (pv.w : Int))).setCell ⟨(w.heap.size + 1), 0, none⟩ (.slice A2 m2 c2)).setCell ⟨(w.heap.size + 1), 1, none⟩ (.slice A3 m3 c3)).cell? ⟨w.heap.size, 0, none⟩ = some (.int .i64 (pv.n : Int)) := P6.cell (i := 0) (by omega)
   have e1 : (((((((w1.alloc (.cells #[.slice A2 m2 c2, .slice A3 m3 c3] 33)).setCell ⟨w.heap.size, 0, none⟩ (.int .i64 (pv.n : Int))).setCell ⟨w.heap.size, 1, none⟩ (.int .u64 (pv.t : Int))).setCell ⟨w.heap.size, 2, none⟩ (.slice AQ pv.q.length cQ)).setCell ⟨w.heap.size, 3, none⟩ (.int .i64 (pv.w : Int))).setCell ⟨(w.heap.size + 1), 0, none⟩ (.slice A2 m2 c2)).setCell ⟨(w.heap.size + 1), 1, none⟩ (.slice A3 m3 c3)).cell? ⟨w.heap.size, 1, none⟩ = some (.int .u64 (pv.t : Int)) := P6.cell (i := 1) (by omega)
   have e2 : (((((((w1.alloc (.cells #[.slice A2 m2 c2, .slice A3 m3 c3] 33)).setCell ⟨w.heap.size, 0, none⟩ (.int .i64 (pv.n : Int))).setCell ⟨w.heap.size, 1, none⟩ (.int .u64 (pv.t : Int))).setCell ⟨w.heap.size, 2, none⟩ (.slice AQ pv.q.length cQ)).setCell ⟨w.heap.size, 3, none⟩ (.int .i64 (pv.w : Int))).setCell ⟨(w.heap.size + 1), 0, none⟩ (.slice A2 m2 c2)).setCell ⟨(w.heap.size + 1), 1, none⟩ (.slice A3 m3 c3)).cell? ⟨w.heap.size, 2, none⟩ = some (.slice AQ pv.q.length cQ) := P6.cell (i := 2) (by omega)
   have e3 : (((((((w1.alloc (.cells #[.slice A2 m2 c2, .slice A3 m3 c3] 33)).setCell ⟨w.heap.size, 0, none⟩ (.int .i64 (pv.n : Int))).setCell ⟨w.heap.size, 1, none⟩ (.int .u64 (pv.t : Int))).setCell ⟨w.heap.size, 2, none⟩ (.slice AQ pv.q.length cQ)).setCell ⟨w.heap.size, 3, none⟩ (.int .i64 (pv.w : Int))).setCell ⟨(w.heap.size + 1), 0, none⟩ (.slice A2 m2 c2)).setCell ⟨(w.heap.size + 1), 1, none⟩ (.slice A3 m3 c3)).cell? ⟨w.heap.size, 3, none⟩ = some (.int .i64 (pv.w : Int)) := P6.cell (i := 3) (by omega)
   have P7 : RW (((((w1.alloc (.cells #[.slice A2 m2 c2, .slice A3 m3 c3] 33)).setCell ⟨w.heap.size, 0, none⟩ (.int .i64 (pv.n : Int))).setCell ⟨w.heap.size, 1, none⟩ (.int .u64 (pv.t : Int))).setCell ⟨w.heap.size, 2, none⟩ (.slice AQ pv.q.length cQ)).setCell ⟨w.heap.size, 3, none⟩ (.int .i64 (pv.w : Int))) (w.heap.size + 1) 33 2 (fun _ => .slice none 0 0) := (RW.far (RW.far (RW.far (RW.far q7 (x := w.heap.size) (by omega) (.int .i64 (pv.n : Int))) (x := w.heap.size) (by omega) (.int .u64 (pv.t : Int))) (x := w.heap.size) (by omega) (.slice AQ pv.q.length cQ)) (x := w.heap.size) (by omega) (.int .i64 (pv.w : Int)))
   obtain ⟨e4, e5⟩ := ret_two P7 (.slice A2 m2 c2) (.slice A3 m3 c3)
   have hkz : Keeps [22, 23] w1 (((((((w1.alloc (.cells #[.slice A2 m2 c2, .slice A3 m3 c3] 33)).setCell ⟨w.heap.size, 0, none⟩ (.int .i64 (pv.n : Int))).setCell ⟨w.heap.size, 1, none⟩ (.int .u64 (pv.t : Int))).setCell ⟨w.heap.size, 2, none⟩ (.slice AQ pv.q.length cQ)).setCell ⟨w.heap.size, 3, none⟩ (.int .i64 (pv.w : Int))).setCell ⟨(w.heap.size + 1), 0, none⟩ (.slice A2 m2 c2)).setCell ⟨(w.heap.size + 1), 1, none⟩ (.slice A3 m3 c3)) := (((((((Keeps.ext ((Ext.refl w1).alloc _)).trans (Keeps.set q6 (by decide) _)).trans (Keeps.set (q6.set (show 0 < 4 by omega) (.int .i64 (pv.n : Int))) (by decide) _)).trans (Keeps.set ((q6.set (show 0 < 4 by omega) (.int .i64 (pv.n : Int))).set (show 1 < 4 by omega) (.int .u64 (pv.t : Int))) (by decide) _)).trans (Keeps.set (((q6.set (show 0 < 4 by omega) (.int .i64 (pv.n : Int))).set (show 1 < 4 by omega) (.int .u64 (pv.t : Int))).set (show 2 < 4 by omega) (.slice AQ pv.q.length cQ)) (by decide) _)).trans (Keeps.set (RW.far (RW.far (RW.far (RW.far q7 (x := w.heap.size) (by omega) (.int .i64 (pv.n : Int))) (x := w.heap.size) (by omega) (.int .u64 (pv.t : Int))) (x := w.heap.size) (by omega) (.slice AQ pv.q.length cQ)) (x := w.heap.size) (by omega) (.int .i64 (pv.w : Int))) (by decide) _)).trans (Keeps.set ((RW.far (RW.far (RW.far (RW.far q7 (x := w.heap.size) (by omega) (.int .i64 (pv.n : Int))) (x := w.heap.size) (by omega) (.int .u64 (pv.t : Int))) (x := w.heap.size) (by omega) (.slice AQ pv.q.length cQ)) (x := w.heap.size) (by omega) (.int .i64 (pv.w : Int))).set (show 0 < 2 by omega) (.slice A2 m2 c2)) (by decide) _))
   have HF := Lib.hid (show RPost (.agg #[.slice none 0 0, .slice none 0 0]) w (endP (headP kind f l)) PubR (.returned (.tuple #[.agg #[.int .i64 (pv.n : Int), .int .u64 (pv.t : Int), .slice AQ pv.q.length cQ, .int .i64 (pv.w : Int)], .agg #[.slice A2 m2 c2, .slice A3 m3 c3], .int .i64 0])) (((((((w1.alloc (.cells #[.slice A2 m2 c2, .slice A3 m3 c3] 33)).setCell ⟨w.heap.size, 0, none⟩ (.int .i64 (pv.n : Int))).setCell ⟨w.heap.size, 1, none⟩ (.int .u64 (pv.t : Int))).setCell ⟨w.heap.size, 2, none⟩ (.slice AQ pv.q.length cQ)).setCell ⟨w.heap.size, 3, none⟩ (.int .i64 (pv.w : Int))).setCell ⟨(w.heap.size + 1), 0, none⟩ (.slice A2 m2 c2)).setCell ⟨(w.heap.size + 1), 1, none⟩ (.slice A3 m3 c3)) from
    .inl ⟨pv, x, _, AQ, cQ, by rw [h1]; exact if_neg (by rw [← hm]; exact hz), rfl, (pubR_stays (ts := [22, 23]) (by decide) (by decide)) _ _ _ x hkz HV9.out, (PVok.mk hkp.kn.ly hkp.kn.nl hkp.t1 hkp.w1 hkp.kn.ql hkp.len).keeps hkz (by decide), (ext_set (ext_set (ext_set (ext_set (ext_set (ext_set kY (Nat.le_refl _) (.int .i64 (pv.n : Int))) (Nat.le_refl _) (.int .u64 (pv.t : Int))) (Nat.le_refl _) (.slice AQ pv.q.length cQ)) (Nat.le_refl _) (.int .i64 (pv.w : Int))) (Nat.le_succ _) (.slice A2 m2 c2)) (Nat.le_succ _) (.slice A3 m3 c3))⟩)
   clear q6 p6 P6 kY q7 P7
   have hw1s : w.heap.size + 2 + 1 ≤ w1.heap.size := by have := h6.size; omega
   clear h1 hkp h6 hkz pc1 pc2 pc3 pc4
   have : ¬ (w.heap.size = w1.heap.size) := by omega
   have : ¬ (w1.heap.size = w.heap.size) := by omega
   have : ¬ (w.heap.size = w1.heap.size + 1) := by omega
   have : ¬ (w1.heap.size + 1 = w.heap.size) := by omega
   have : ¬ (w.heap.size + 1 = w1.heap.size) := by omega
   have : ¬ (w1.heap.size = w.heap.size + 1) := by omega
   have : ¬ (w.heap.size + 1 = w1.heap.size + 1) := by omega
   have : ¬ (w1.heap.size + 1 = w.heap.size + 1) := by omega
   generalize w1.alloc (.cells #[.slice A2 m2 c2, .slice A3 m3 c3] 33) = Y at *
   go_wp2_with fail
   go_region
   all_goals
    generalize (((((Y.setCell ⟨w.heap.size, 0, none⟩ (.int .i64 (pv.n : Int))).setCell ⟨w.heap.size, 1, none⟩ (.int .u64 (pv.t : Int))).setCell ⟨w.heap.size, 2, none⟩ (.slice AQ pv.q.length cQ)).setCell ⟨w.heap.size, 3, none⟩ (.int .i64 (pv.w : Int))).setCell ⟨(w.heap.size + 1), 0, none⟩ (.slice A2 m2 c2)).setCell ⟨(w.heap.size + 1), 1, none⟩ (.slice A3 m3 c3) = Z9 at *
    go_wp2
    exact bodyPost_ret (v := .tuple #[.agg #[.int .i64 (pv.n : Int), .int .u64 (pv.t : Int), .slice AQ pv.q.length cQ, .int .i64 (pv.w : Int)], .agg #[.slice A2 m2 c2, .slice A3 m3 c3], .int .i64 0]) (by simp [results, Tryz.results65, go_sem, e0, e1, e2, e3, e4, e5]) rfl (HF.out.later (pubR_stays (ts := [22, 23]) (by decide) (by decide)) (Ext.refl _).drew)
 ·have i1 : ¬ (cc : Int) = 0 := by omega
  have i3 : ((cc : Int) == 0) = false := by simp; omega
  go_wp2_with fail
  have q6 : RW ((w1.alloc (.cells #[.slice none 0 0, .slice none 0 0] 33)).alloc (.cells #[.slice none 0 0, .slice none 0 0] 33)) w.heap.size 25 4 (parF (.int .i64 0) (.int .u64 0) (.slice none 0 0) (.int .i64 0)) := RW.ext (RW.keep r6 (h6.block _ (by omega) (fun e => by injection e with e; omega))) (((Ext.refl w1).alloc _).alloc _)
  have a0 : ((w1.alloc (.cells #[.slice none 0 0, .slice none 0 0] 33)).alloc (.cells #[.slice none 0 0, .slice none 0 0] 33)).cell? ⟨w.heap.size, 0, none⟩ = some (.int .i64 0) := q6.cell (i := 0) (by omega)
  have b0 := q6.frozen 0
  have a1 : ((w1.alloc (.cells #[.slice none 0 0, .slice none 0 0] 33)).alloc (.cells #[.slice none 0 0, .slice none 0 0] 33)).cell? ⟨w.heap.size, 1, none⟩ = some (.int .u64 0) := q6.cell (i := 1) (by omega)
  have b1 := q6.frozen 1
  have a2 : ((w1.alloc (.cells #[.slice none 0 0, .slice none 0 0] 33)).alloc (.cells #[.slice none 0 0, .slice none 0 0] 33)).cell? ⟨w.heap.size, 2, none⟩ = some (.slice none 0 0) := q6.cell (i := 2) (by omega)
  have b2 := q6.frozen 2
  have a3 : ((w1.alloc (.cells #[.slice none 0 0, .slice none 0 0] 33)).alloc (.cells #[.slice none 0 0, .slice none 0 0] 33)).cell? ⟨w.heap.size, 3, none⟩ = some (.int .i64 0) := q6.cell (i := 3) (by omega)
  have b3 := q6.frozen 3
  have q7 : RW ((w1.alloc (.cells #[.slice none 0 0, .slice none 0 0] 33)).alloc (.cells #[.slice none 0 0, .slice none 0 0] 33)) (w.heap.size + 1) 33 2 (fun _ => .slice none 0 0) := RW.ext (RW.keep r7 (h6.block _ (by omega) (fun e => by injection e with e; omega))) (((Ext.refl w1).alloc _).alloc _)
  have tc0 := q7.cell (i := 0) (by omega)
  have td0 := q7.frozen 0
  have tc1 := q7.cell (i := 1) (by omega)
  have td1 := q7.frozen 1
  have l0 : ((w1.alloc (.cells #[.slice none 0 0, .slice none 0 0] 33)).alloc (.cells #[.slice none 0 0, .slice none 0 0] 33)).cell? ⟨w1.heap.size + 1, 0, none⟩ = some (.slice none 0 0) := by simp
  have l1 : ((w1.alloc (.cells #[.slice none 0 0, .slice none 0 0] 33)).alloc (.cells #[.slice none 0 0, .slice none 0 0] 33)).cell? ⟨w1.heap.size + 1, 1, none⟩ = some (.slice none 0 0) := by simp
  have kY : Ext w ((w1.alloc (.cells #[.slice none 0 0, .slice none 0 0] 33)).alloc (.cells #[.slice none 0 0, .slice none 0 0] 33)) := (kA.on h6 (by omega)).trans (((Ext.refl w1).alloc _).alloc _)
  have p6 := q6.set4 (.int .i64 0) (.int .u64 0) (.slice none 0 0) (.int .i64 0)
  have P6 : RW ((((((((w1.alloc (.cells #[.slice none 0 0, .slice none 0 0] 33)).alloc (.cells #[.slice none 0 0, .slice none 0 0] 33)).setCell ⟨w.heap.size, 0, none⟩ (.int .i64 0)).setCell ⟨w.heap.size, 1, none⟩ (.int .u64 0)).setCell ⟨w.heap.size, 2, none⟩ (.slice none 0 0)).setCell ⟨w.heap.size, 3, none⟩ (.int .i64 0)).setCell ⟨(w.heap.size + 1), 0, none⟩ (.slice none 0 0)).setCell ⟨(w.heap.size + 1), 1, none⟩ (.slice none 0 0)) w.heap.size 25 4 (parF (.int .i64 0) (.int .u64 0) (.slice none 0 0) (.int .i64 0)) := (RW.far (RW.far p6 (x := w.heap.size + 1) (by omega) (.slice none 0 0)) (x := w.heap.size + 1) (by omega) (.slice none 0 0))
  have e0 : ((((((((w1.alloc (.cells #[.slice none 0 0, .slice none 0 0] 33)).alloc (.cells #[.slice none 0 0, .slice none 0 0] 33)).setCell ⟨w.heap.size, 0, none⟩ (.int .i64 0)).setCell ⟨w.heap.size, 1, none⟩ (.int .u64 0)).setCell ⟨w.heap.size, 2, none⟩ (.slice none 0 0)).setCell ⟨w.heap.size, 3, none⟩ (.int .i64 0)).setCell ⟨(w.heap.size + 1), 0, none⟩ (.slice none 0 0)).setCell ⟨(w.heap.size + 1), 1, none⟩ (.slice none 0 0)).cell? ⟨w.heap.size, 0, none⟩ = some (.int .i64 0) := P6.cell (i := 0) (by omega)
  have e1 : ((((((((w1.alloc (.cells #[.slice none 0 0, .slice none 0 0] 33)).alloc (.cells #[.slice none 0 0, .slice none 0 0] 33)).setCell ⟨w.heap.size, 0, none⟩ (.int .i64 0)).setCell ⟨w.heap.size, 1, none⟩ (.int .u64 0)).setCell ⟨w.heap.size, 2, none⟩ (.slice none 0 0)).setCell ⟨w.heap.size, 3, none⟩ (.int .i64 0)).setCell ⟨(w.heap.size + 1), 0, none⟩ (.slice none 0 0)).setCell ⟨(w.heap.size + 1), 1, none⟩ (.slice none 0 0)).cell? ⟨w.heap.size, 1, none⟩ = some (.int .u64 0) := P6.cell (i := 1) (by omega)
  have e2 : ((((((((w1.alloc (.cells #[.slice none 0 0, .slice none 0 0] 33)).alloc (.cells #[.slice none 0 0, .slice none 0 0] 33)).setCell ⟨w.heap.size, 0, none⟩ (.int .i64 0)).setCell ⟨w.heap.size, 1, none⟩ (.int .u64 0)).setCell ⟨w.heap.size, 2, none⟩ (.slice none 0 0)).setCell ⟨w.heap.size, 3, none⟩ (.int .i64 0)).setCell ⟨(w.heap.size + 1), 0, none⟩ (.slice none 0 0)).setCell ⟨(w.heap.size + 1), 1, none⟩ (.slice none 0 0)).cell? ⟨w.heap.size, 2, none⟩ = some (.slice none 0 0) := P6.cell (i := 2) (by omega)
  have e3 : ((((((((w1.alloc (.cells #[.slice none 0 0, .slice none 0 0] 33)).alloc (.cells #[.slice none 0 0, .slice none 0 0] 33)).setCell ⟨w.heap.size, 0, none⟩ (.int .i64 0)).setCell ⟨w.heap.size, 1, none⟩ (.int .u64 0)).setCell ⟨w.heap.size, 2, none⟩ (.slice none 0 0)).setCell ⟨w.heap.size, 3, none⟩ (.int .i64 0)).setCell ⟨(w.heap.size + 1), 0, none⟩ (.slice none 0 0)).setCell ⟨(w.heap.size + 1), 1, none⟩ (.slice none 0 0)).cell? ⟨w.heap.size, 3, none⟩ = some (.int .i64 0) := P6.cell (i := 3) (by omega)
  have P7 : RW ((((((w1.alloc (.cells #[.slice none 0 0, .slice none 0 0] 33)).alloc (.cells #[.slice none 0 0, .slice none 0 0] 33)).setCell ⟨w.heap.size, 0, none⟩ (.int .i64 0)).setCell ⟨w.heap.size, 1, none⟩ (.int .u64 0)).setCell ⟨w.heap.size, 2, none⟩ (.slice none 0 0)).setCell ⟨w.heap.size, 3, none⟩ (.int .i64 0)) (w.heap.size + 1) 33 2 (fun _ => .slice none 0 0) := (RW.far (RW.far (RW.far (RW.far q7 (x := w.heap.size) (by omega) (.int .i64 0)) (x := w.heap.size) (by omega) (.int .u64 0)) (x := w.heap.size) (by omega) (.slice none 0 0)) (x := w.heap.size) (by omega) (.int .i64 0))
  obtain ⟨e4, e5⟩ := ret_two P7 (.slice none 0 0) (.slice none 0 0)
  have HF := Lib.hid (show RPost (.agg #[.slice none 0 0, .slice none 0 0]) w (endP (headP kind f l)) PubR (.returned (.tuple #[.agg #[.int .i64 0, .int .u64 0, .slice none 0 0, .int .i64 0], .agg #[.slice none 0 0, .slice none 0 0], .int .i64 (cc : Int)])) ((((((((w1.alloc (.cells #[.slice none 0 0, .slice none 0 0] 33)).alloc (.cells #[.slice none 0 0, .slice none 0 0] 33)).setCell ⟨w.heap.size, 0, none⟩ (.int .i64 0)).setCell ⟨w.heap.size, 1, none⟩ (.int .u64 0)).setCell ⟨w.heap.size, 2, none⟩ (.slice none 0 0)).setCell ⟨w.heap.size, 3, none⟩ (.int .i64 0)).setCell ⟨(w.heap.size + 1), 0, none⟩ (.slice none 0 0)).setCell ⟨(w.heap.size + 1), 1, none⟩ (.slice none 0 0)) from
   .inr ⟨cc, by rw [h1]; rfl, h2, h3, rfl, (ext_set (ext_set (ext_set (ext_set (ext_set (ext_set kY (Nat.le_refl _) (.int .i64 0)) (Nat.le_refl _) (.int .u64 0)) (Nat.le_refl _) (.slice none 0 0)) (Nat.le_refl _) (.int .i64 0)) (Nat.le_succ _) (.slice none 0 0)) (Nat.le_succ _) (.slice none 0 0))⟩)
  clear q6 p6 P6 kY q7 P7
  have hw1s : w.heap.size + 2 + 1 ≤ w1.heap.size := by have := h6.size; omega
  clear h1 h6
  have : ¬ (w.heap.size = w1.heap.size) := by omega
  have : ¬ (w1.heap.size = w.heap.size) := by omega
  have : ¬ (w.heap.size = w1.heap.size + 1) := by omega
  have : ¬ (w1.heap.size + 1 = w.heap.size) := by omega
  have : ¬ (w.heap.size + 1 = w1.heap.size) := by omega
  have : ¬ (w1.heap.size = w.heap.size + 1) := by omega
  have : ¬ (w.heap.size + 1 = w1.heap.size + 1) := by omega
  have : ¬ (w1.heap.size + 1 = w.heap.size + 1) := by omega
  generalize (w1.alloc (.cells #[.slice none 0 0, .slice none 0 0] 33)).alloc (.cells #[.slice none 0 0, .slice none 0 0] 33) = Y at *
  go_wp2_with fail
  go_region
  all_goals
   generalize (((((Y.setCell ⟨w.heap.size, 0, none⟩ (.int .i64 0)).setCell ⟨w.heap.size, 1, none⟩ (.int .u64 0)).setCell ⟨w.heap.size, 2, none⟩ (.slice none 0 0)).setCell ⟨w.heap.size, 3, none⟩ (.int .i64 0)).setCell ⟨(w.heap.size + 1), 0, none⟩ (.slice none 0 0)).setCell ⟨(w.heap.size + 1), 1, none⟩ (.slice none 0 0) = Z9 at *
   go_wp2
   exact bodyPost_ret (v := .tuple #[.agg #[.int .i64 0, .int .u64 0, .slice none 0 0, .int .i64 0], .agg #[.slice none 0 0, .slice none 0 0], .int .i64 (cc : Int)]) (by simp [results, Tryz.results65, go_sem, e0, e1, e2, e3, e4, e5]) rfl (HF.out.later (pubR_stays (ts := [22, 23]) (by decide) (by decide)) (Ext.refl _).drew)
set_option maxHeartbeats 8000000 in
theorem uReadS_any (fn kind n c : Nat) (A : Option Addr) (l : List Nat) (f : PV → Pr (List Int)) (w : World) (hX : Hid (BX w A n c l)) (hA : Hid (0 < n → ∀ ad, A = some ad → ad.block < w.heap.size)) (hn : n ≤ 100000) (hk : kind < 256) (hTab : Tabs w) (hE : Hid (EntersV fn)) (hG : Hid (∀ p w1, PtBy fn p (.slice none 0 0) w1 f SgR)) :
    Calls Tryz.prog 67 #[.slice A n c, .int .u64 (kind : Int), .func (.func fn) #[] #[]] w (RPost (.slice none 0 0) w (endP (headP kind f l)) SgR) := by
 have HTAB := Lib.hid hTab
 clear hTab
 have HN := Lib.hid hX.out.len
 have hsA : (w.alloc (.cells #[.int .i64 0, .int .u64 0, .slice none 0 0, .int .i64 0] 25)).heap.size = w.heap.size + 1 := by simp
 have HT := Lib.hid (show RS ((w.alloc (.cells #[.int .i64 0, .int .u64 0, .slice none 0 0, .int .i64 0] 25)).alloc (.cells #[.slice A n c, .int .i64 0, .int .u64 0, .slice none 0 0, .int .i64 0, .int .i64 0, .int .u64 0] 160)) (w.heap.size + 1) l (fun i => if i = 2 then .int .u64 0 else if i = 3 then .slice none 0 0 else if i = 6 then .int .u64 0 else .int .i64 0) by
  have h := reader_new (w.alloc (.cells #[.int .i64 0, .int .u64 0, .slice none 0 0, .int .i64 0] 25)) A n c l (hX.out.ext (((Ext.refl w).alloc _))) HN.out.symm (fun h0 ad e => by have := hA.out h0 ad e; omega)
  rw [hsA] at h
  exact h)
 have kA : Ext w ((w.alloc (.cells #[.int .i64 0, .int .u64 0, .slice none 0 0, .int .i64 0] 25)).alloc (.cells #[.slice A n c, .int .i64 0, .int .u64 0, .slice none 0 0, .int .i64 0, .int .i64 0, .int .u64 0] 160)) := (((((Ext.refl w).alloc _))).alloc _)
 have hs0 : ((w.alloc (.cells #[.int .i64 0, .int .u64 0, .slice none 0 0, .int .i64 0] 25)).alloc (.cells #[.slice A n c, .int .i64 0, .int .u64 0, .slice none 0 0, .int .i64 0, .int .i64 0, .int .u64 0] 160)).heap.size = w.heap.size + 1 + 1 := by simp
 have r6 : RW ((w.alloc (.cells #[.int .i64 0, .int .u64 0, .slice none 0 0, .int .i64 0] 25)).alloc (.cells #[.slice A n c, .int .i64 0, .int .u64 0, .slice none 0 0, .int .i64 0, .int .i64 0, .int .u64 0] 160)) w.heap.size 25 4 (parF (.int .i64 0) (.int .u64 0) (.slice none 0 0) (.int .i64 0)) := RW.ext (show RW (w.alloc (.cells #[.int .i64 0, .int .u64 0, .slice none 0 0, .int .i64 0] 25)) w.heap.size 25 4 (parF (.int .i64 0) (.int .u64 0) (.slice none 0 0) (.int .i64 0)) from heap_alloc_new w (.cells #[.int .i64 0, .int .u64 0, .slice none 0 0, .int .i64 0] 25)) ((Ext.refl _).alloc _)
 go_enter Tryz.func67, Tryz.ntmps67
 go_wp2_with fail
 generalize ((w.alloc (.cells #[.int .i64 0, .int .u64 0, .slice none 0 0, .int .i64 0] 25)).alloc (.cells #[.slice A n c, .int .i64 0, .int .u64 0, .slice none 0 0, .int .i64 0, .int .i64 0, .int .u64 0] 160)) = X0 at *
 refine (uBehS_any fn kind (w.heap.size + 1) l _ f w X0 HT (by rw [HN.out]; exact hn) hk (Lib.hid kA) (by omega) HTAB.out hE (Lib.hid (hG.out _ _))).mono ?_
 rintro e w1 (⟨pv, x, r, v, S', AQ, cQ, h1, rfl, hv, h4, hkp, h5, h6⟩ | ⟨cc, h1, h2, h3, rfl, h6⟩)
 ·obtain ⟨A2, m2, c2, rfl⟩ : ∃ A m c, v = .slice A m c := by
     obtain ⟨A, c, rfl, _⟩ := hv
     exact ⟨A, x.length, c, rfl⟩
  have HV9 := Lib.hid hv
  clear hv
  have H4 := Lib.hid h4
  obtain ⟨Ar, cr, g1, g2, g3⟩ := h4
  have s0 := g1.cell (i := 0) (by omega)
  rw [show rcF (.slice Ar r.length cr) S' 0 = .slice Ar r.length cr from rfl] at s0
  clear g1 g2 g3
  obtain ⟨m, hm⟩ : ∃ m, m = r.length := ⟨_, rfl⟩
  rw [← hm] at s0
  by_cases hz : 0 < m
  ·have i1 : decide (0 < (m : Int)) = true := by simp; omega
   have i2 : (0 < (m : Int)) = True := by simp; omega
   have q6 : RW w1 w.heap.size 25 4 (parF (.int .i64 0) (.int .u64 0) (.slice none 0 0) (.int .i64 0)) := RW.ext (RW.keep r6 (h6.block _ (by omega) (fun e => by injection e with e; omega))) (Ext.refl w1)
   have a0 : w1.cell? ⟨w.heap.size, 0, none⟩ = some (.int .i64 0) := q6.cell (i := 0) (by omega)
   have b0 := q6.frozen 0
   have a1 : w1.cell? ⟨w.heap.size, 1, none⟩ = some (.int .u64 0) := q6.cell (i := 1) (by omega)
   have b1 := q6.frozen 1
   have a2 : w1.cell? ⟨w.heap.size, 2, none⟩ = some (.slice none 0 0) := q6.cell (i := 2) (by omega)
   have b2 := q6.frozen 2
   have a3 : w1.cell? ⟨w.heap.size, 3, none⟩ = some (.int .i64 0) := q6.cell (i := 3) (by omega)
   have b3 := q6.frozen 3
   have Q6 := Lib.hid q6
   clear q6
   go_wp2_with fail
   have q6 := Q6.out
   have kY : Ext w w1 := (kA.on h6 (by omega)).trans (Ext.refl w1)
   have p6 := q6.set4 (.int .i64 0) (.int .u64 0) (.slice none 0 0) (.int .i64 0)
   have P6 : RW ((((w1.setCell ⟨w.heap.size, 0, none⟩ (.int .i64 0)).setCell ⟨w.heap.size, 1, none⟩ (.int .u64 0)).setCell ⟨w.heap.size, 2, none⟩ (.slice none 0 0)).setCell ⟨w.heap.size, 3, none⟩ (.int .i64 0)) w.heap.size 25 4 (parF (.int .i64 0) (.int .u64 0) (.slice none 0 0) (.int .i64 0)) := p6
   have e0 : ((((w1.setCell ⟨w.heap.size, 0, none⟩ (.int .i64 0)).setCell ⟨w.heap.size, 1, none⟩ (.int .u64 0)).setCell ⟨w.heap.size, 2, none⟩ (.slice none 0 0)).setCell ⟨w.heap.size, 3, none⟩ (.int .i64 0)).cell? ⟨w.heap.size, 0, none⟩ = some (.int .i64 0) := P6.cell (i := 0) (by omega)
   have e1 : ((((w1.setCell ⟨w.heap.size, 0, none⟩ (.int .i64 0)).setCell ⟨w.heap.size, 1, none⟩ (.int .u64 0)).setCell ⟨w.heap.size, 2, none⟩ (.slice none 0 0)).setCell ⟨w.heap.size, 3, none⟩ (.int .i64 0)).cell? ⟨w.heap.size, 1, none⟩ = some (.int .u64 0) := P6.cell (i := 1) (by omega)
   have e2 : ((((w1.setCell ⟨w.heap.size, 0, none⟩ (.int .i64 0)).setCell ⟨w.heap.size, 1, none⟩ (.int .u64 0)).setCell ⟨w.heap.size, 2, none⟩ (.slice none 0 0)).setCell ⟨w.heap.size, 3, none⟩ (.int .i64 0)).cell? ⟨w.heap.size, 2, none⟩ = some (.slice none 0 0) := P6.cell (i := 2) (by omega)
   have e3 : ((((w1.setCell ⟨w.heap.size, 0, none⟩ (.int .i64 0)).setCell ⟨w.heap.size, 1, none⟩ (.int .u64 0)).setCell ⟨w.heap.size, 2, none⟩ (.slice none 0 0)).setCell ⟨w.heap.size, 3, none⟩ (.int .i64 0)).cell? ⟨w.heap.size, 3, none⟩ = some (.int .i64 0) := P6.cell (i := 3) (by omega)
   have HF := Lib.hid (show RPost (.slice none 0 0) w (endP (headP kind f l)) SgR (.returned (.tuple #[.agg #[.int .i64 0, .int .u64 0, .slice none 0 0, .int .i64 0], .slice none 0 0, .int .i64 14])) ((((w1.setCell ⟨w.heap.size, 0, none⟩ (.int .i64 0)).setCell ⟨w.heap.size, 1, none⟩ (.int .u64 0)).setCell ⟨w.heap.size, 2, none⟩ (.slice none 0 0)).setCell ⟨w.heap.size, 3, none⟩ (.int .i64 0)) from
    .inr ⟨14, by rw [h1]; exact if_pos (by rw [← hm]; exact hz), by omega, by omega, rfl, (ext_set (ext_set (ext_set (ext_set kY (Nat.le_refl _) (.int .i64 0)) (Nat.le_refl _) (.int .u64 0)) (Nat.le_refl _) (.slice none 0 0)) (Nat.le_refl _) (.int .i64 0))⟩)
   clear q6 p6 P6 kY
   have hw1s : w.heap.size + 1 + 1 ≤ w1.heap.size := by have := h6.size; omega
   clear h1 hkp h6
   have : ¬ (w.heap.size = w1.heap.size) := by omega
   have : ¬ (w1.heap.size = w.heap.size) := by omega
   have : ¬ (w.heap.size = w1.heap.size + 1) := by omega
   have : ¬ (w1.heap.size + 1 = w.heap.size) := by omega
   have : ¬ (w.heap.size + 1 = w1.heap.size) := by omega
   have : ¬ (w1.heap.size = w.heap.size + 1) := by omega
   have : ¬ (w.heap.size + 1 = w1.heap.size + 1) := by omega
   have : ¬ (w1.heap.size + 1 = w.heap.size + 1) := by omega
   generalize (((w1.setCell ⟨w.heap.size, 0, none⟩ (.int .i64 0)).setCell ⟨w.heap.size, 1, none⟩ (.int .u64 0)).setCell ⟨w.heap.size, 2, none⟩ (.slice none 0 0)).setCell ⟨w.heap.size, 3, none⟩ (.int .i64 0) = Z9 at *
   exact bodyPost_ret (v := .tuple #[.agg #[.int .i64 0, .int .u64 0, .slice none 0 0, .int .i64 0], .slice none 0 0, .int .i64 14]) (by simp [results, Tryz.results67, go_sem, e0, e1, e2, e3]) rfl HF.out
  ·have i1 : decide (0 < (m : Int)) = false := by simp; omega
   have i2 : (0 < (m : Int)) = False := by simp; omega
   have pc1 := H4.out.cell (i := 1) (by omega) (by omega)
   have pc2 := H4.out.cell (i := 2) (by omega) (by omega)
   have pc3 := H4.out.cell (i := 3) (by omega) (by omega)
   have pc4 := H4.out.cell (i := 4) (by omega) (by omega)
   rw [hkp.kn.n1] at pc1
   rw [hkp.s2] at pc2
   rw [hkp.kn.q1] at pc3
   rw [hkp.s4] at pc4
   have q6 : RW w1 w.heap.size 25 4 (parF (.int .i64 0) (.int .u64 0) (.slice none 0 0) (.int .i64 0)) := RW.ext (RW.keep r6 (h6.block _ (by omega) (fun e => by injection e with e; omega))) (Ext.refl w1)
   have a0 : w1.cell? ⟨w.heap.size, 0, none⟩ = some (.int .i64 0) := q6.cell (i := 0) (by omega)
   have b0 := q6.frozen 0
   have a1 : w1.cell? ⟨w.heap.size, 1, none⟩ = some (.int .u64 0) := q6.cell (i := 1) (by omega)
   have b1 := q6.frozen 1
   have a2 : w1.cell? ⟨w.heap.size, 2, none⟩ = some (.slice none 0 0) := q6.cell (i := 2) (by omega)
   have b2 := q6.frozen 2
   have a3 : w1.cell? ⟨w.heap.size, 3, none⟩ = some (.int .i64 0) := q6.cell (i := 3) (by omega)
   have b3 := q6.frozen 3
   have Q6 := Lib.hid q6
   clear q6
   have k1 : w1.cell? ⟨(w.heap.size + 1), 1, none⟩ = some (.int .i64 (pv.n : Int)) := cell_ext (Ext.refl w1) pc1
   have k2 : w1.cell? ⟨(w.heap.size + 1), 2, none⟩ = some (.int .u64 (pv.t : Int)) := cell_ext (Ext.refl w1) pc2
   have k3 : w1.cell? ⟨(w.heap.size + 1), 3, none⟩ = some (.slice AQ pv.q.length cQ) := cell_ext (Ext.refl w1) pc3
   have k4 : w1.cell? ⟨(w.heap.size + 1), 4, none⟩ = some (.int .i64 (pv.w : Int)) := cell_ext (Ext.refl w1) pc4
   go_wp2_with fail
   have q6 := Q6.out
   have kY : Ext w w1 := (kA.on h6 (by omega)).trans (Ext.refl w1)
   have p6 := q6.set4 (.int .i64 (pv.n : Int)) (.int .u64 (pv.t : Int)) (.slice AQ pv.q.length cQ) (.int .i64 (pv.w : Int))
   have P6 : RW ((((w1.setCell ⟨w.heap.size, 0, none⟩ (.int .i64 (pv.n : Int))).setCell ⟨w.heap.size, 1, none⟩ (.int .u64 (pv.t : Int))).setCell ⟨w.heap.size, 2, none⟩ (.slice AQ pv.q.length cQ)).setCell ⟨w.heap.size, 3, none⟩ (.int .i64 (pv.w : Int))) w.heap.size 25 4 (parF (.int .i64 (pv.n : Int)) (.int .u64 (pv.t : Int)) (.slice AQ pv.q.length cQ) (.int .i64 (pv.w : Int))) := p6
   have e0 : ((((w1.setCell ⟨w.heap.size, 0, none⟩ (.int .i64 (pv.n : Int))).setCell ⟨w.heap.size, 1, none⟩ (.int .u64 (pv.t : Int))).setCell ⟨w.heap.size, 2, none⟩ (.slice AQ pv.q.length cQ)).setCell ⟨w.heap.size, 3, none⟩ (.int .i64 (pv.w : Int))).cell? ⟨w.heap.size, 0, none⟩ = some (.int .i64 (pv.n : Int)) := P6.cell (i := 0) (by omega)
   have e1 : ((((w1.setCell ⟨w.heap.size, 0, none⟩ (.int .i64 (pv.n : Int))).setCell ⟨w.heap.size, 1, none⟩ (.int .u64 (pv.t : Int))).setCell ⟨w.heap.size, 2, none⟩ (.slice AQ pv.q.length cQ)).setCell ⟨w.heap.size, 3, none⟩ (.int .i64 (pv.w : Int))).cell? ⟨w.heap.size, 1, none⟩ = some (.int .u64 (pv.t : Int)) := P6.cell (i := 1) (by omega)
   have e2 : ((((w1.setCell ⟨w.heap.size, 0, none⟩ (.int .i64 (pv.n : Int))).setCell ⟨w.heap.size, 1, none⟩ (.int .u64 (pv.t : Int))).setCell ⟨w.heap.size, 2, none⟩ (.slice AQ pv.q.length cQ)).setCell ⟨w.heap.size, 3, none⟩ (.int .i64 (pv.w : Int))).cell? ⟨w.heap.size, 2, none⟩ = some (.slice AQ pv.q.length cQ) := P6.cell (i := 2) (by omega)
   have e3 : ((((w1.setCell ⟨w.heap.size, 0, none⟩ (.int .i64 (pv.n : Int))).setCell ⟨w.heap.size, 1, none⟩ (.int .u64 (pv.t : Int))).setCell ⟨w.heap.size, 2, none⟩ (.slice AQ pv.q.length cQ)).setCell ⟨w.heap.size, 3, none⟩ (.int .i64 (pv.w : Int))).cell? ⟨w.heap.size, 3, none⟩ = some (.int .i64 (pv.w : Int)) := P6.cell (i := 3) (by omega)
   have hkz : Keeps [2, 22] w1 ((((w1.setCell ⟨w.heap.size, 0, none⟩ (.int .i64 (pv.n : Int))).setCell ⟨w.heap.size, 1, none⟩ (.int .u64 (pv.t : Int))).setCell ⟨w.heap.size, 2, none⟩ (.slice AQ pv.q.length cQ)).setCell ⟨w.heap.size, 3, none⟩ (.int .i64 (pv.w : Int))) := (((((Keeps.ext (Ext.refl w1)).trans (Keeps.set q6 (by decide) _)).trans (Keeps.set (q6.set (show 0 < 4 by omega) (.int .i64 (pv.n : Int))) (by decide) _)).trans (Keeps.set ((q6.set (show 0 < 4 by omega) (.int .i64 (pv.n : Int))).set (show 1 < 4 by omega) (.int .u64 (pv.t : Int))) (by decide) _)).trans (Keeps.set (((q6.set (show 0 < 4 by omega) (.int .i64 (pv.n : Int))).set (show 1 < 4 by omega) (.int .u64 (pv.t : Int))).set (show 2 < 4 by omega) (.slice AQ pv.q.length cQ)) (by decide) _))
   have HF := Lib.hid (show RPost (.slice none 0 0) w (endP (headP kind f l)) SgR (.returned (.tuple #[.agg #[.int .i64 (pv.n : Int), .int .u64 (pv.t : Int), .slice AQ pv.q.length cQ, .int .i64 (pv.w : Int)], .slice A2 m2 c2, .int .i64 0])) ((((w1.setCell ⟨w.heap.size, 0, none⟩ (.int .i64 (pv.n : Int))).setCell ⟨w.heap.size, 1, none⟩ (.int .u64 (pv.t : Int))).setCell ⟨w.heap.size, 2, none⟩ (.slice AQ pv.q.length cQ)).setCell ⟨w.heap.size, 3, none⟩ (.int .i64 (pv.w : Int))) from
    .inl ⟨pv, x, _, AQ, cQ, by rw [h1]; exact if_neg (by rw [← hm]; exact hz), rfl, (sgR_stays (ts := [2, 22]) (by decide)) _ _ _ x hkz HV9.out, (PVok.mk hkp.kn.ly hkp.kn.nl hkp.t1 hkp.w1 hkp.kn.ql hkp.len).keeps hkz (by decide), (ext_set (ext_set (ext_set (ext_set kY (Nat.le_refl _) (.int .i64 (pv.n : Int))) (Nat.le_refl _) (.int .u64 (pv.t : Int))) (Nat.le_refl _) (.slice AQ pv.q.length cQ)) (Nat.le_refl _) (.int .i64 (pv.w : Int)))⟩)
   clear q6 p6 P6 kY
   have hw1s : w.heap.size + 1 + 1 ≤ w1.heap.size := by have := h6.size; omega
   clear h1 hkp h6 hkz pc1 pc2 pc3 pc4
   have : ¬ (w.heap.size = w1.heap.size) := by omega
   have : ¬ (w1.heap.size = w.heap.size) := by omega
   have : ¬ (w.heap.size = w1.heap.size + 1) := by omega
   have : ¬ (w1.heap.size + 1 = w.heap.size) := by omega
   have : ¬ (w.heap.size + 1 = w1.heap.size) := by omega
   have : ¬ (w1.heap.size = w.heap.size + 1) := by omega
   have : ¬ (w.heap.size + 1 = w1.heap.size + 1) := by omega
   have : ¬ (w1.heap.size + 1 = w.heap.size + 1) := by omega
   generalize (((w1.setCell ⟨w.heap.size, 0, none⟩ (.int .i64 (pv.n : Int))).setCell ⟨w.heap.size, 1, none⟩ (.int .u64 (pv.t : Int))).setCell ⟨w.heap.size, 2, none⟩ (.slice AQ pv.q.length cQ)).setCell ⟨w.heap.size, 3, none⟩ (.int .i64 (pv.w : Int)) = Z9 at *
   exact bodyPost_ret (v := .tuple #[.agg #[.int .i64 (pv.n : Int), .int .u64 (pv.t : Int), .slice AQ pv.q.length cQ, .int .i64 (pv.w : Int)], .slice A2 m2 c2, .int .i64 0]) (by simp [results, Tryz.results67, go_sem, e0, e1, e2, e3]) rfl HF.out
 ·have i1 : ¬ (cc : Int) = 0 := by omega
  have i3 : ((cc : Int) == 0) = false := by simp; omega
  have q6 : RW w1 w.heap.size 25 4 (parF (.int .i64 0) (.int .u64 0) (.slice none 0 0) (.int .i64 0)) := RW.ext (RW.keep r6 (h6.block _ (by omega) (fun e => by injection e with e; omega))) (Ext.refl w1)
  have a0 : w1.cell? ⟨w.heap.size, 0, none⟩ = some (.int .i64 0) := q6.cell (i := 0) (by omega)
  have b0 := q6.frozen 0
  have a1 : w1.cell? ⟨w.heap.size, 1, none⟩ = some (.int .u64 0) := q6.cell (i := 1) (by omega)
  have b1 := q6.frozen 1
  have a2 : w1.cell? ⟨w.heap.size, 2, none⟩ = some (.slice none 0 0) := q6.cell (i := 2) (by omega)
  have b2 := q6.frozen 2
  have a3 : w1.cell? ⟨w.heap.size, 3, none⟩ = some (.int .i64 0) := q6.cell (i := 3) (by omega)
  have b3 := q6.frozen 3
  have Q6 := Lib.hid q6
  clear q6
  go_wp2_with fail
  have q6 := Q6.out
  have kY : Ext w w1 := (kA.on h6 (by omega)).trans (Ext.refl w1)
  have p6 := q6.set4 (.int .i64 0) (.int .u64 0) (.slice none 0 0) (.int .i64 0)
  have P6 : RW ((((w1.setCell ⟨w.heap.size, 0, none⟩ (.int .i64 0)).setCell ⟨w.heap.size, 1, none⟩ (.int .u64 0)).setCell ⟨w.heap.size, 2, none⟩ (.slice none 0 0)).setCell ⟨w.heap.size, 3, none⟩ (.int .i64 0)) w.heap.size 25 4 (parF (.int .i64 0) (.int .u64 0) (.slice none 0 0) (.int .i64 0)) := p6
  have e0 : ((((w1.setCell ⟨w.heap.size, 0, none⟩ (.int .i64 0)).setCell ⟨w.heap.size, 1, none⟩ (.int .u64 0)).setCell ⟨w.heap.size, 2, none⟩ (.slice none 0 0)).setCell ⟨w.heap.size, 3, none⟩ (.int .i64 0)).cell? ⟨w.heap.size, 0, none⟩ = some (.int .i64 0) := P6.cell (i := 0) (by omega)
  have e1 : ((((w1.setCell ⟨w.heap.size, 0, none⟩ (.int .i64 0)).setCell ⟨w.heap.size, 1, none⟩ (.int .u64 0)).setCell ⟨w.heap.size, 2, none⟩ (.slice none 0 0)).setCell ⟨w.heap.size, 3, none⟩ (.int .i64 0)).cell? ⟨w.heap.size, 1, none⟩ = some (.int .u64 0) := P6.cell (i := 1) (by omega)
  have e2 : ((((w1.setCell ⟨w.heap.size, 0, none⟩ (.int .i64 0)).setCell ⟨w.heap.size, 1, none⟩ (.int .u64 0)).setCell ⟨w.heap.size, 2, none⟩ (.slice none 0 0)).setCell ⟨w.heap.size, 3, none⟩ (.int .i64 0)).cell? ⟨w.heap.size, 2, none⟩ = some (.slice none 0 0) := P6.cell (i := 2) (by omega)
  have e3 : ((((w1.setCell ⟨w.heap.size, 0, none⟩ (.int .i64 0)).setCell ⟨w.heap.size, 1, none⟩ (.int .u64 0)).setCell ⟨w.heap.size, 2, none⟩ (.slice none 0 0)).setCell ⟨w.heap.size, 3, none⟩ (.int .i64 0)).cell? ⟨w.heap.size, 3, none⟩ = some (.int .i64 0) := P6.cell (i := 3) (by omega)
  have HF := Lib.hid (show RPost (.slice none 0 0) w (endP (headP kind f l)) SgR (.returned (.tuple #[.agg #[.int .i64 0, .int .u64 0, .slice none 0 0, .int .i64 0], .slice none 0 0, .int .i64 (cc : Int)])) ((((w1.setCell ⟨w.heap.size, 0, none⟩ (.int .i64 0)).setCell ⟨w.heap.size, 1, none⟩ (.int .u64 0)).setCell ⟨w.heap.size, 2, none⟩ (.slice none 0 0)).setCell ⟨w.heap.size, 3, none⟩ (.int .i64 0)) from
   .inr ⟨cc, by rw [h1]; rfl, h2, h3, rfl, (ext_set (ext_set (ext_set (ext_set kY (Nat.le_refl _) (.int .i64 0)) (Nat.le_refl _) (.int .u64 0)) (Nat.le_refl _) (.slice none 0 0)) (Nat.le_refl _) (.int .i64 0))⟩)
  clear q6 p6 P6 kY
  have hw1s : w.heap.size + 1 + 1 ≤ w1.heap.size := by have := h6.size; omega
  clear h1 h6
  have : ¬ (w.heap.size = w1.heap.size) := by omega
  have : ¬ (w1.heap.size = w.heap.size) := by omega
  have : ¬ (w.heap.size = w1.heap.size + 1) := by omega
  have : ¬ (w1.heap.size + 1 = w.heap.size) := by omega
  have : ¬ (w.heap.size + 1 = w1.heap.size) := by omega
  have : ¬ (w1.heap.size = w.heap.size + 1) := by omega
  have : ¬ (w.heap.size + 1 = w1.heap.size + 1) := by omega
  have : ¬ (w1.heap.size + 1 = w.heap.size + 1) := by omega
  generalize (((w1.setCell ⟨w.heap.size, 0, none⟩ (.int .i64 0)).setCell ⟨w.heap.size, 1, none⟩ (.int .u64 0)).setCell ⟨w.heap.size, 2, none⟩ (.slice none 0 0)).setCell ⟨w.heap.size, 3, none⟩ (.int .i64 0) = Z9 at *
  exact bodyPost_ret (v := .tuple #[.agg #[.int .i64 0, .int .u64 0, .slice none 0 0, .int .i64 0], .slice none 0 0, .int .i64 (cc : Int)]) (by simp [results, Tryz.results67, go_sem, e0, e1, e2, e3]) rfl HF.out
end Go.Proofs.YtkbcobjhlpjieaaGreatDoor
