import Derived.Test.YtkbcobjhlpjieaaGreatDoorZ32
namespace Go.Proofs.YtkbcobjhlpjieaaGreatDoor
open Go.RowKit
set_option linter.unusedVariables false
set_option maxRecDepth 100000
structure KP (w : World) (S : Nat → Value) (pv : PV) (AQ : Option Addr) (cQ : Nat) : Prop where
 kn : Kn w S pv.n pv.q AQ cQ
 s2 : S 2 = .int .u64 (pv.t : Int)
 s4 : S 4 = .int .i64 (pv.w : Int)
 len : 0 < pv.q.length
 t1 : pv.t < 4294967296
 w1 : pv.w < 256
theorem KP.keeps {w w' : World} {S : Nat → Value} {pv : PV} {AQ : Option Addr} {cQ : Nat} {ts : List TypeId} (h : KP w S pv AQ cQ) (k : Keeps ts w w') (ht : 22 ∈ ts) : KP w' S pv AQ cQ :=
 ⟨h.kn.keeps k ht, h.s2, h.s4, h.len, h.t1, h.w1⟩
theorem KP.of {w : World} {S S' : Nat → Value} {pv : PV} {AQ : Option Addr} {cQ : Nat} (h : KP w S pv AQ cQ) (e : ∀ i, 1 ≤ i → i ≤ 4 → S' i = S i) : KP w S' pv AQ cQ :=
 ⟨⟨by rw [e 1 (by omega) (by omega)]; exact h.kn.n1, by rw [e 2 (by omega) (by omega)]; exact h.kn.t1, by rw [e 4 (by omega) (by omega)]; exact h.kn.w1, by rw [e 3 (by omega) (by omega)]; exact h.kn.q1, h.kn.ly, h.kn.nl, h.kn.ql, h.kn.pos⟩, by rw [e 2 (by omega) (by omega)]; exact h.s2, by rw [e 4 (by omega) (by omega)]; exact h.s4, h.len, h.t1, h.w1⟩
def BhPost {α : Type} (p : Nat) (z : Value) (w : World) (res : Except Nat ((PV × α) × List Nat)) (V : World → Value → α → Prop) (e : Ending) (w' : World) : Prop :=
 (∃ pv x r v S' AQ cQ, res = .ok ((pv, x), r) ∧ e = .returned (.tuple #[v, .int .i64 0]) ∧ V w' v x ∧ RS w' p r S' ∧ KP w' S' pv AQ cQ ∧ r.length ≤ 100000 ∧ On p w w') ∨
 (∃ c : Nat, res = .error c ∧ 0 < c ∧ c ≤ 14 ∧ e = .returned (.tuple #[z, .int .i64 (c : Int)]) ∧ On p w w')
def PtBy {α : Type} (fn p : Nat) (z : Value) (w : World) (f : PV → Pr α) (V : World → Value → α → Prop) : Prop :=
 ∀ (pv : PV) (l : List Nat) (w1 : World) (S : Nat → Value) (AQ : Option Addr) (cQ : Nat), On p w w1 → RS w1 p l S → l.length ≤ 100000 → KP w1 S pv AQ cQ → S 5 = .int .i64 ((pv.q.length - 1 : Nat) : Int) →
  Calls Tryz.prog fn #[.pointer (some ⟨p, 0, none⟩)] w1 (PtPost p S z w1 (f pv l) V)
theorem KP.on {w w' : World} {p : Nat} {r : List Nat} {S : Nat → Value} {pv : PV} {AQ : Option Addr} {cQ : Nat} (h : KP w S pv AQ cQ) (hr : RS w p r S) (k : On p w w') : KP w' S pv AQ cQ := h.keeps (ts := [22]) (hr.keeps k (by decide)) (by decide)
def NoR (w : World) (v : Value) (x : Unit) : Prop := v = .agg #[]
theorem noR_stays (ts : List TypeId) : Stays ts NoR := fun _ _ _ _ _ h => h
theorem agR_stays {α : Type} {R : World → Value → α → Prop} {ts : List TypeId} (h : Stays ts R) : Stays ts (AgR R) := fun w w' v x k hx => by
 obtain ⟨u, e, hr⟩ := hx
 exact ⟨u, e, h _ _ _ _ k hr⟩
set_option maxHeartbeats 8000000 in
theorem uBehN_any (fn kind p : Nat) (l : List Nat) (S : Nat → Value) (f : PV → Pr Unit) (w0 w : World) (hT : Hid (RS w p l S)) (hl : l.length ≤ 100000) (hk : kind < 256) (h0 : Hid (Ext w0 w)) (hp0 : w0.heap.size ≤ p) (hTab : Tabs w0) (hE : Hid (EntersV fn)) (hG : Hid (PtBy fn p (.agg #[]) w f NoR)) :
    Calls Tryz.prog 98 #[.pointer (some ⟨p, 0, none⟩), .int .u64 (kind : Int), .func (.func fn) #[] #[]] w (BhPost p (.agg #[]) w (headP kind f l) NoR) := by
 have HTAB := Lib.hid hTab
 clear hTab
 have hpw := hT.out.lt
 have kA : Ext w ((w.alloc (.cells #[] 82)).alloc (.cells #[] 82)) := ((Ext.refl w).alloc _).alloc _
 have HT := Lib.hid (hT.out.ext kA)
 have HO := Lib.hid ((On.of kA : On p w _))
 have hr6 : RW ((w.alloc (.cells #[] 82)).alloc (.cells #[] 82)) w.heap.size 82 0 (fun _ => .slice none 0 0) := RW.ext (heap_alloc_new w (.cells #[] 82)) ((Ext.refl _).alloc _)
 have hr8 : RW ((w.alloc (.cells #[] 82)).alloc (.cells #[] 82)) (w.heap.size + 1) 82 0 (fun _ => .slice none 0 0) := by
  have h : RW ((w.alloc (.cells #[] 82)).alloc (.cells #[] 82)) (w.alloc (.cells #[] 82)).heap.size 82 0 (fun _ => .slice none 0 0) := heap_alloc_new (w.alloc (.cells #[] 82)) (.cells #[] 82)
  rw [show (w.alloc (.cells #[] 82)).heap.size = w.heap.size + 1 by simp] at h
  exact h
 have hs0 : ((w.alloc (.cells #[] 82)).alloc (.cells #[] 82)).heap.size = w.heap.size + 2 := by simp
 have n6 : w.heap.size ≠ p := by omega
 have n8 : w.heap.size + 1 ≠ p := by omega
 go_enter Tryz.func98, Tryz.ntmps98
 go_wp2_with fail
 generalize ((w.alloc (.cells #[] 82)).alloc (.cells #[] 82)) = X0 at *
 refine (between_any 1 kind kind p l S X0 HT (by omega) (by omega) hl (by omega) (by omega)).mono ?_
 rintro e w1 (⟨x0, r1, v1, h1, rfl, ⟨rfl, hx⟩, h4, h5, h6⟩ | ⟨c, h1, h2, h3, rfl, h5, h7⟩)
 ·have HB1 := Lib.hid h1
  have H4 := Lib.hid h4
  have H6 := Lib.hid h6
  clear h1 h4 h6
  go_wp2_with fail
  refine (uPar_any p r1 S w0 w1 H4 h5 (Lib.hid (h0.out.on (HO.out.trans H6.out) hp0)) hp0 HTAB.out).mono ?_
  rintro e w2 (⟨pv, r2, S', AQ, cQ, h1, rfl, h4, h5b, hkn, hs2, hs4, hs5, hs6, hlen, ht1, hw1, h6⟩ | ⟨c, h1, h2, h3, rfl, h6, h7⟩)
  ·have HKP := Lib.hid (KP.mk hkn hs2 hs4 hlen ht1 hw1)
   have HB2 := Lib.hid h1
   have H7 := Lib.hid h4
   have HS5 := Lib.hid hs5
   have HON := Lib.hid (H6.out.trans h6)
   have HH := Lib.hid (show headP kind f l = bindP (f pv) (fun x r => .ok ((pv, x), r)) r2 by
    unfold headP
    rw [bindP_ok HB1.out, bindP_ok h1])
   clear h1 h4 h6 hkn hs2 hs4 hs5 hs6 hlen ht1 hw1
   go_wp2_with fail
   rw [hE.out, Oper.upon_enter]
   refine (hG.out pv r2 w2 S' AQ cQ (HO.out.trans HON.out) H7.out h5b HKP.out HS5.out).mono ?_
   rintro e w3 ⟨S3, hS3, ⟨x, r3, v, h1, rfl, hv, h4, h5c, h6⟩ | ⟨c, h1, h2, h3, rfl, h6, h7⟩⟩
   ·obtain rfl : v = .agg #[] := hv
    have hv : NoR w3 (.agg #[]) x := rfl
    have g6 : RW w3 w.heap.size 82 0 (fun _ => .slice none 0 0) := RW.keep hr6 ((HON.out.trans h6).block _ (by omega) (fun e => n6 (by injection e)))
    have hKK : Keeps [22] w3 w3 := (Keeps.refl _ _)
    have HF := Lib.hid (show BhPost p (.agg #[]) w (headP kind f l) NoR (.returned (.tuple #[.agg #[], .int .i64 0])) w3 from
     .inl ⟨pv, x, r3, _, S3, AQ, cQ, by rw [HH.out, bindP_ok h1], rfl, (noR_stays [22]) _ _ _ x hKK hv, h4, ((HKP.out.on H7.out h6).of hS3).keeps hKK (by decide), h5c, ((HO.out.trans HON.out).trans h6)⟩)
    clear h1 hv h4 h6 hKK
    go_wp2
    exact bodyPost_ret (v := .tuple #[.agg #[], .int .i64 0]) (by simp [results, Tryz.results98, go_sem]) rfl HF.out
   ·have hon := HON.out.trans h6
    have h6 : RW w3 w.heap.size 82 0 (fun _ => .slice none 0 0) := RW.keep hr6 (hon.block _ (by omega) (fun e => n6 (by injection e)))
    have h8 : RW w3 (w.heap.size + 1) 82 0 (fun _ => .slice none 0 0) := RW.keep hr8 (hon.block _ (by omega) (fun e => n8 (by injection e)))
    have HF := Lib.hid (show BhPost p (.agg #[]) w (headP kind f l) NoR (.returned (.tuple #[.agg #[], .int .i64 (c : Int)])) w3 from
     .inr ⟨c, by rw [HH.out, bindP_err h1], h2, h3, rfl, (HO.out.trans hon)⟩)
    have i1 : ¬ (c : Int) = 0 := by omega
    clear h1 h6 h7 hon
    go_wp2
    exact bodyPost_ret (v := .tuple #[.agg #[], .int .i64 (c : Int)]) (by simp [results, Tryz.results98, go_sem]) rfl HF.out
  ·have hon := H6.out.trans h6
   have h6 : RW w2 w.heap.size 82 0 (fun _ => .slice none 0 0) := RW.keep hr6 (hon.block _ (by omega) (fun e => n6 (by injection e)))
   have h8 : RW w2 (w.heap.size + 1) 82 0 (fun _ => .slice none 0 0) := RW.keep hr8 (hon.block _ (by omega) (fun e => n8 (by injection e)))
   have HF := Lib.hid (show BhPost p (.agg #[]) w (headP kind f l) NoR (.returned (.tuple #[.agg #[], .int .i64 (c : Int)])) w2 from
    .inr ⟨c, by unfold headP; rw [bindP_ok HB1.out, bindP_err h1], h2, h3, rfl, (HO.out.trans hon)⟩)
   have i1 : ¬ (c : Int) = 0 := by omega
   clear h1 h6 h7 hon
   go_wp2
   exact bodyPost_ret (v := .tuple #[.agg #[], .int .i64 (c : Int)]) (by simp [results, Tryz.results98, go_sem]) rfl HF.out
 ·have hon := h5
  have h6 : RW w1 w.heap.size 82 0 (fun _ => .slice none 0 0) := RW.keep hr6 (hon.block _ (by omega) (fun e => n6 (by injection e)))
  have h8 : RW w1 (w.heap.size + 1) 82 0 (fun _ => .slice none 0 0) := RW.keep hr8 (hon.block _ (by omega) (fun e => n8 (by injection e)))
  have HF := Lib.hid (show BhPost p (.agg #[]) w (headP kind f l) NoR (.returned (.tuple #[.agg #[], .int .i64 (c : Int)])) w1 from
   .inr ⟨c, by unfold headP; rw [bindP_err h1], h2, h3, rfl, (HO.out.trans hon)⟩)
  have i1 : ¬ (c : Int) = 0 := by omega
  clear h1 h5 h7 hon
  go_wp2
  exact bodyPost_ret (v := .tuple #[.agg #[], .int .i64 (c : Int)]) (by simp [results, Tryz.results98, go_sem]) rfl HF.out
set_option maxHeartbeats 8000000 in
theorem uBehC_any (fn kind p : Nat) (l : List Nat) (S : Nat → Value) (f : PV → Pr (List (List (List Nat)))) (w0 w : World) (hT : Hid (RS w p l S)) (hl : l.length ≤ 100000) (hk : kind < 256) (h0 : Hid (Ext w0 w)) (hp0 : w0.heap.size ≤ p) (hTab : Tabs w0) (hE : Hid (EntersV fn)) (hG : Hid (PtBy fn p (.agg #[.slice none 0 0]) w f (AgR ElsR))) :
    Calls Tryz.prog 99 #[.pointer (some ⟨p, 0, none⟩), .int .u64 (kind : Int), .func (.func fn) #[] #[]] w (BhPost p (.agg #[.slice none 0 0]) w (headP kind f l) (AgR ElsR)) := by
 have HTAB := Lib.hid hTab
 clear hTab
 have hpw := hT.out.lt
 have kA : Ext w ((w.alloc (.cells #[.slice none 0 0] 28)).alloc (.cells #[.slice none 0 0] 28)) := ((Ext.refl w).alloc _).alloc _
 have HT := Lib.hid (hT.out.ext kA)
 have HO := Lib.hid ((On.of kA : On p w _))
 have hr6 : RW ((w.alloc (.cells #[.slice none 0 0] 28)).alloc (.cells #[.slice none 0 0] 28)) w.heap.size 28 1 (fun _ => .slice none 0 0) := RW.ext (heap_alloc_new w (.cells #[.slice none 0 0] 28)) ((Ext.refl _).alloc _)
 have hr8 : RW ((w.alloc (.cells #[.slice none 0 0] 28)).alloc (.cells #[.slice none 0 0] 28)) (w.heap.size + 1) 28 1 (fun _ => .slice none 0 0) := by
  have h : RW ((w.alloc (.cells #[.slice none 0 0] 28)).alloc (.cells #[.slice none 0 0] 28)) (w.alloc (.cells #[.slice none 0 0] 28)).heap.size 28 1 (fun _ => .slice none 0 0) := heap_alloc_new (w.alloc (.cells #[.slice none 0 0] 28)) (.cells #[.slice none 0 0] 28)
  rw [show (w.alloc (.cells #[.slice none 0 0] 28)).heap.size = w.heap.size + 1 by simp] at h
  exact h
 have hs0 : ((w.alloc (.cells #[.slice none 0 0] 28)).alloc (.cells #[.slice none 0 0] 28)).heap.size = w.heap.size + 2 := by simp
 have n6 : w.heap.size ≠ p := by omega
 have n8 : w.heap.size + 1 ≠ p := by omega
 go_enter Tryz.func99, Tryz.ntmps99
 go_wp2_with fail
 generalize ((w.alloc (.cells #[.slice none 0 0] 28)).alloc (.cells #[.slice none 0 0] 28)) = X0 at *
 refine (between_any 1 kind kind p l S X0 HT (by omega) (by omega) hl (by omega) (by omega)).mono ?_
 rintro e w1 (⟨x0, r1, v1, h1, rfl, ⟨rfl, hx⟩, h4, h5, h6⟩ | ⟨c, h1, h2, h3, rfl, h5, h7⟩)
 ·have HB1 := Lib.hid h1
  have H4 := Lib.hid h4
  have H6 := Lib.hid h6
  clear h1 h4 h6
  go_wp2_with fail
  refine (uPar_any p r1 S w0 w1 H4 h5 (Lib.hid (h0.out.on (HO.out.trans H6.out) hp0)) hp0 HTAB.out).mono ?_
  rintro e w2 (⟨pv, r2, S', AQ, cQ, h1, rfl, h4, h5b, hkn, hs2, hs4, hs5, hs6, hlen, ht1, hw1, h6⟩ | ⟨c, h1, h2, h3, rfl, h6, h7⟩)
  ·have HKP := Lib.hid (KP.mk hkn hs2 hs4 hlen ht1 hw1)
   have HB2 := Lib.hid h1
   have H7 := Lib.hid h4
   have HS5 := Lib.hid hs5
   have HON := Lib.hid (H6.out.trans h6)
   have HH := Lib.hid (show headP kind f l = bindP (f pv) (fun x r => .ok ((pv, x), r)) r2 by
    unfold headP
    rw [bindP_ok HB1.out, bindP_ok h1])
   clear h1 h4 h6 hkn hs2 hs4 hs5 hs6 hlen ht1 hw1
   go_wp2_with fail
   rw [hE.out, Oper.upon_enter]
   refine (hG.out pv r2 w2 S' AQ cQ (HO.out.trans HON.out) H7.out h5b HKP.out HS5.out).mono ?_
   rintro e w3 ⟨S3, hS3, ⟨x, r3, v, h1, rfl, hv, h4, h5c, h6⟩ | ⟨c, h1, h2, h3, rfl, h6, h7⟩⟩
   ·obtain ⟨A2, m2, c2, rfl⟩ : ∃ A m c, v = .agg #[.slice A m c] := by
       obtain ⟨u, rfl, A, c, rfl, _⟩ := hv
       exact ⟨A, x.length, c, rfl⟩
    have g6 : RW w3 w.heap.size 28 1 (fun _ => .slice none 0 0) := RW.keep hr6 ((HON.out.trans h6).block _ (by omega) (fun e => n6 (by injection e)))
    have d0 := g6.cell (i := 0) (by omega)
    have y0 := g6.frozen 0
    have e0 := ret_cell g6 (.slice A2 m2 c2)
    have hKK : Keeps [22, 23, 31] w3 (w3.setCell ⟨w.heap.size, 0, none⟩ (.slice A2 m2 c2)) := (Keeps.set g6 (by decide) _)
    have HF := Lib.hid (show BhPost p (.agg #[.slice none 0 0]) w (headP kind f l) (AgR ElsR) (.returned (.tuple #[.agg #[.slice A2 m2 c2], .int .i64 0])) (w3.setCell ⟨w.heap.size, 0, none⟩ (.slice A2 m2 c2)) from
     .inl ⟨pv, x, r3, _, S3, AQ, cQ, by rw [HH.out, bindP_ok h1], rfl, (agR_stays (elsR_stays (ts := [22, 23, 31]) (by decide) (by decide) (by decide))) _ _ _ x hKK hv, (h4.setFar hpw _), ((HKP.out.on H7.out h6).of hS3).keeps hKK (by decide), h5c, (((HO.out.trans HON.out).trans h6).setFar (Nat.le_refl _) _)⟩)
    clear h1 hv h4 h6 hKK
    go_wp2
    generalize w3.setCell ⟨w.heap.size, 0, none⟩ (.slice A2 m2 c2) = w9 at *
    exact bodyPost_ret (v := .tuple #[.agg #[.slice A2 m2 c2], .int .i64 0]) (by simp [results, Tryz.results99, go_sem, e0]) rfl HF.out
   ·have hon := HON.out.trans h6
    have h6 : RW w3 w.heap.size 28 1 (fun _ => .slice none 0 0) := RW.keep hr6 (hon.block _ (by omega) (fun e => n6 (by injection e)))
    have h8 : RW w3 (w.heap.size + 1) 28 1 (fun _ => .slice none 0 0) := RW.keep hr8 (hon.block _ (by omega) (fun e => n8 (by injection e)))
    have d0 := h6.cell (i := 0) (by omega)
    have y0 := h6.frozen 0
    have f0 := h8.cell (i := 0) (by omega)
    have e0 := ret_cell h6 (.slice none 0 0)
    have HF := Lib.hid (show BhPost p (.agg #[.slice none 0 0]) w (headP kind f l) (AgR ElsR) (.returned (.tuple #[.agg #[.slice none 0 0], .int .i64 (c : Int)])) (w3.setCell ⟨w.heap.size, 0, none⟩ (.slice none 0 0)) from
     .inr ⟨c, by rw [HH.out, bindP_err h1], h2, h3, rfl, ((HO.out.trans hon).setFar (Nat.le_refl _) _)⟩)
    have i1 : ¬ (c : Int) = 0 := by omega
    clear h1 h6 h7 hon
    go_wp2
    generalize w3.setCell ⟨w.heap.size, 0, none⟩ (.slice none 0 0) = w9 at *
    exact bodyPost_ret (v := .tuple #[.agg #[.slice none 0 0], .int .i64 (c : Int)]) (by simp [results, Tryz.results99, go_sem, e0]) rfl HF.out
  ·have hon := H6.out.trans h6
   have h6 : RW w2 w.heap.size 28 1 (fun _ => .slice none 0 0) := RW.keep hr6 (hon.block _ (by omega) (fun e => n6 (by injection e)))
   have h8 : RW w2 (w.heap.size + 1) 28 1 (fun _ => .slice none 0 0) := RW.keep hr8 (hon.block _ (by omega) (fun e => n8 (by injection e)))
   have d0 := h6.cell (i := 0) (by omega)
   have y0 := h6.frozen 0
   have f0 := h8.cell (i := 0) (by omega)
   have e0 := ret_cell h6 (.slice none 0 0)
   have HF := Lib.hid (show BhPost p (.agg #[.slice none 0 0]) w (headP kind f l) (AgR ElsR) (.returned (.tuple #[.agg #[.slice none 0 0], .int .i64 (c : Int)])) (w2.setCell ⟨w.heap.size, 0, none⟩ (.slice none 0 0)) from
    .inr ⟨c, by unfold headP; rw [bindP_ok HB1.out, bindP_err h1], h2, h3, rfl, ((HO.out.trans hon).setFar (Nat.le_refl _) _)⟩)
   have i1 : ¬ (c : Int) = 0 := by omega
   clear h1 h6 h7 hon
   go_wp2
   generalize w2.setCell ⟨w.heap.size, 0, none⟩ (.slice none 0 0) = w9 at *
   exact bodyPost_ret (v := .tuple #[.agg #[.slice none 0 0], .int .i64 (c : Int)]) (by simp [results, Tryz.results99, go_sem, e0]) rfl HF.out
 ·have hon := h5
  have h6 : RW w1 w.heap.size 28 1 (fun _ => .slice none 0 0) := RW.keep hr6 (hon.block _ (by omega) (fun e => n6 (by injection e)))
  have h8 : RW w1 (w.heap.size + 1) 28 1 (fun _ => .slice none 0 0) := RW.keep hr8 (hon.block _ (by omega) (fun e => n8 (by injection e)))
  have d0 := h6.cell (i := 0) (by omega)
  have y0 := h6.frozen 0
  have f0 := h8.cell (i := 0) (by omega)
  have e0 := ret_cell h6 (.slice none 0 0)
  have HF := Lib.hid (show BhPost p (.agg #[.slice none 0 0]) w (headP kind f l) (AgR ElsR) (.returned (.tuple #[.agg #[.slice none 0 0], .int .i64 (c : Int)])) (w1.setCell ⟨w.heap.size, 0, none⟩ (.slice none 0 0)) from
   .inr ⟨c, by unfold headP; rw [bindP_err h1], h2, h3, rfl, ((HO.out.trans hon).setFar (Nat.le_refl _) _)⟩)
  have i1 : ¬ (c : Int) = 0 := by omega
  clear h1 h5 h7 hon
  go_wp2
  generalize w1.setCell ⟨w.heap.size, 0, none⟩ (.slice none 0 0) = w9 at *
  exact bodyPost_ret (v := .tuple #[.agg #[.slice none 0 0], .int .i64 (c : Int)]) (by simp [results, Tryz.results99, go_sem, e0]) rfl HF.out
set_option maxHeartbeats 8000000 in
theorem uBehP_any (fn kind p : Nat) (l : List Nat) (S : Nat → Value) (f : PV → Pr (List (List (List Nat)))) (w0 w : World) (hT : Hid (RS w p l S)) (hl : l.length ≤ 100000) (hk : kind < 256) (h0 : Hid (Ext w0 w)) (hp0 : w0.heap.size ≤ p) (hTab : Tabs w0) (hE : Hid (EntersV fn)) (hG : Hid (PtBy fn p (.agg #[.slice none 0 0, .slice none 0 0]) w f PubR)) :
    Calls Tryz.prog 103 #[.pointer (some ⟨p, 0, none⟩), .int .u64 (kind : Int), .func (.func fn) #[] #[]] w (BhPost p (.agg #[.slice none 0 0, .slice none 0 0]) w (headP kind f l) PubR) := by
 have HTAB := Lib.hid hTab
 clear hTab
 have hpw := hT.out.lt
 have kA : Ext w ((w.alloc (.cells #[.slice none 0 0, .slice none 0 0] 33)).alloc (.cells #[.slice none 0 0, .slice none 0 0] 33)) := ((Ext.refl w).alloc _).alloc _
 have HT := Lib.hid (hT.out.ext kA)
 have HO := Lib.hid ((On.of kA : On p w _))
 have hr6 : RW ((w.alloc (.cells #[.slice none 0 0, .slice none 0 0] 33)).alloc (.cells #[.slice none 0 0, .slice none 0 0] 33)) w.heap.size 33 2 (fun _ => .slice none 0 0) := RW.ext (heap_alloc_new w (.cells #[.slice none 0 0, .slice none 0 0] 33)) ((Ext.refl _).alloc _)
 have hr8 : RW ((w.alloc (.cells #[.slice none 0 0, .slice none 0 0] 33)).alloc (.cells #[.slice none 0 0, .slice none 0 0] 33)) (w.heap.size + 1) 33 2 (fun _ => .slice none 0 0) := by
  have h : RW ((w.alloc (.cells #[.slice none 0 0, .slice none 0 0] 33)).alloc (.cells #[.slice none 0 0, .slice none 0 0] 33)) (w.alloc (.cells #[.slice none 0 0, .slice none 0 0] 33)).heap.size 33 2 (fun _ => .slice none 0 0) := heap_alloc_new (w.alloc (.cells #[.slice none 0 0, .slice none 0 0] 33)) (.cells #[.slice none 0 0, .slice none 0 0] 33)
  rw [show (w.alloc (.cells #[.slice none 0 0, .slice none 0 0] 33)).heap.size = w.heap.size + 1 by simp] at h
  exact h
 have hs0 : ((w.alloc (.cells #[.slice none 0 0, .slice none 0 0] 33)).alloc (.cells #[.slice none 0 0, .slice none 0 0] 33)).heap.size = w.heap.size + 2 := by simp
 have n6 : w.heap.size ≠ p := by omega
 have n8 : w.heap.size + 1 ≠ p := by omega
 go_enter Tryz.func103, Tryz.ntmps103
 go_wp2_with fail
 generalize ((w.alloc (.cells #[.slice none 0 0, .slice none 0 0] 33)).alloc (.cells #[.slice none 0 0, .slice none 0 0] 33)) = X0 at *
 refine (between_any 1 kind kind p l S X0 HT (by omega) (by omega) hl (by omega) (by omega)).mono ?_
 rintro e w1 (⟨x0, r1, v1, h1, rfl, ⟨rfl, hx⟩, h4, h5, h6⟩ | ⟨c, h1, h2, h3, rfl, h5, h7⟩)
 ·have HB1 := Lib.hid h1
  have H4 := Lib.hid h4
  have H6 := Lib.hid h6
  clear h1 h4 h6
  go_wp2_with fail
  refine (uPar_any p r1 S w0 w1 H4 h5 (Lib.hid (h0.out.on (HO.out.trans H6.out) hp0)) hp0 HTAB.out).mono ?_
  rintro e w2 (⟨pv, r2, S', AQ, cQ, h1, rfl, h4, h5b, hkn, hs2, hs4, hs5, hs6, hlen, ht1, hw1, h6⟩ | ⟨c, h1, h2, h3, rfl, h6, h7⟩)
  ·have HKP := Lib.hid (KP.mk hkn hs2 hs4 hlen ht1 hw1)
   have HB2 := Lib.hid h1
   have H7 := Lib.hid h4
   have HS5 := Lib.hid hs5
   have HON := Lib.hid (H6.out.trans h6)
   have HH := Lib.hid (show headP kind f l = bindP (f pv) (fun x r => .ok ((pv, x), r)) r2 by
    unfold headP
    rw [bindP_ok HB1.out, bindP_ok h1])
   clear h1 h4 h6 hkn hs2 hs4 hs5 hs6 hlen ht1 hw1
   go_wp2_with fail
   rw [hE.out, Oper.upon_enter]
   refine (hG.out pv r2 w2 S' AQ cQ (HO.out.trans HON.out) H7.out h5b HKP.out HS5.out).mono ?_
   rintro e w3 ⟨S3, hS3, ⟨x, r3, v, h1, rfl, hv, h4, h5c, h6⟩ | ⟨c, h1, h2, h3, rfl, h6, h7⟩⟩
   ·obtain ⟨A2, m2, c2, A3, m3, c3, rfl⟩ : ∃ A m c A3 m3 c3, v = .agg #[.slice A m c, .slice A3 m3 c3] := by
       obtain ⟨A0, A1, c0, c1, x0, x1, _, rfl, _⟩ := hv
       exact ⟨_, _, _, _, _, _, rfl⟩
    have g6 : RW w3 w.heap.size 33 2 (fun _ => .slice none 0 0) := RW.keep hr6 ((HON.out.trans h6).block _ (by omega) (fun e => n6 (by injection e)))
    have d0 := g6.cell (i := 0) (by omega)
    have y0 := g6.frozen 0
    have d1 := g6.cell (i := 1) (by omega)
    have y1 := g6.frozen 1
    obtain ⟨e0, e1⟩ := ret_two g6 (.slice A2 m2 c2) (.slice A3 m3 c3)
    have hKK : Keeps [22, 23] w3 ((w3.setCell ⟨w.heap.size, 0, none⟩ (.slice A2 m2 c2)).setCell ⟨w.heap.size, 1, none⟩ (.slice A3 m3 c3)) := ((Keeps.set g6 (by decide) _).trans (Keeps.set (g6.set (show 0 < 2 by omega) _) (by decide) _))
    have HF := Lib.hid (show BhPost p (.agg #[.slice none 0 0, .slice none 0 0]) w (headP kind f l) PubR (.returned (.tuple #[.agg #[.slice A2 m2 c2, .slice A3 m3 c3], .int .i64 0])) ((w3.setCell ⟨w.heap.size, 0, none⟩ (.slice A2 m2 c2)).setCell ⟨w.heap.size, 1, none⟩ (.slice A3 m3 c3)) from
     .inl ⟨pv, x, r3, _, S3, AQ, cQ, by rw [HH.out, bindP_ok h1], rfl, (pubR_stays (ts := [22, 23]) (by decide) (by decide)) _ _ _ x hKK hv, ((h4.setFar hpw _).setFar hpw _), ((HKP.out.on H7.out h6).of hS3).keeps hKK (by decide), h5c, ((((HO.out.trans HON.out).trans h6).setFar (Nat.le_refl _) _).setFar (Nat.le_refl _) _)⟩)
    clear h1 hv h4 h6 hKK
    go_wp2
    generalize (w3.setCell ⟨w.heap.size, 0, none⟩ (.slice A2 m2 c2)).setCell ⟨w.heap.size, 1, none⟩ (.slice A3 m3 c3) = w9 at *
    exact bodyPost_ret (v := .tuple #[.agg #[.slice A2 m2 c2, .slice A3 m3 c3], .int .i64 0]) (by simp [results, Tryz.results103, go_sem, e0, e1]) rfl HF.out
   ·have hon := HON.out.trans h6
    have h6 : RW w3 w.heap.size 33 2 (fun _ => .slice none 0 0) := RW.keep hr6 (hon.block _ (by omega) (fun e => n6 (by injection e)))
    have h8 : RW w3 (w.heap.size + 1) 33 2 (fun _ => .slice none 0 0) := RW.keep hr8 (hon.block _ (by omega) (fun e => n8 (by injection e)))
    have d0 := h6.cell (i := 0) (by omega)
    have y0 := h6.frozen 0
    have f0 := h8.cell (i := 0) (by omega)
    have d1 := h6.cell (i := 1) (by omega)
    have y1 := h6.frozen 1
    have f1 := h8.cell (i := 1) (by omega)
    obtain ⟨e0, e1⟩ := ret_two h6 (.slice none 0 0) (.slice none 0 0)
    have HF := Lib.hid (show BhPost p (.agg #[.slice none 0 0, .slice none 0 0]) w (headP kind f l) PubR (.returned (.tuple #[.agg #[.slice none 0 0, .slice none 0 0], .int .i64 (c : Int)])) ((w3.setCell ⟨w.heap.size, 0, none⟩ (.slice none 0 0)).setCell ⟨w.heap.size, 1, none⟩ (.slice none 0 0)) from
     .inr ⟨c, by rw [HH.out, bindP_err h1], h2, h3, rfl, (((HO.out.trans hon).setFar (Nat.le_refl _) _).setFar (Nat.le_refl _) _)⟩)
    have i1 : ¬ (c : Int) = 0 := by omega
    clear h1 h6 h7 hon
    go_wp2
    generalize (w3.setCell ⟨w.heap.size, 0, none⟩ (.slice none 0 0)).setCell ⟨w.heap.size, 1, none⟩ (.slice none 0 0) = w9 at *
    exact bodyPost_ret (v := .tuple #[.agg #[.slice none 0 0, .slice none 0 0], .int .i64 (c : Int)]) (by simp [results, Tryz.results103, go_sem, e0, e1]) rfl HF.out
  ·have hon := H6.out.trans h6
   have h6 : RW w2 w.heap.size 33 2 (fun _ => .slice none 0 0) := RW.keep hr6 (hon.block _ (by omega) (fun e => n6 (by injection e)))
   have h8 : RW w2 (w.heap.size + 1) 33 2 (fun _ => .slice none 0 0) := RW.keep hr8 (hon.block _ (by omega) (fun e => n8 (by injection e)))
   have d0 := h6.cell (i := 0) (by omega)
   have y0 := h6.frozen 0
   have f0 := h8.cell (i := 0) (by omega)
   have d1 := h6.cell (i := 1) (by omega)
   have y1 := h6.frozen 1
   have f1 := h8.cell (i := 1) (by omega)
   obtain ⟨e0, e1⟩ := ret_two h6 (.slice none 0 0) (.slice none 0 0)
   have HF := Lib.hid (show BhPost p (.agg #[.slice none 0 0, .slice none 0 0]) w (headP kind f l) PubR (.returned (.tuple #[.agg #[.slice none 0 0, .slice none 0 0], .int .i64 (c : Int)])) ((w2.setCell ⟨w.heap.size, 0, none⟩ (.slice none 0 0)).setCell ⟨w.heap.size, 1, none⟩ (.slice none 0 0)) from
    .inr ⟨c, by unfold headP; rw [bindP_ok HB1.out, bindP_err h1], h2, h3, rfl, (((HO.out.trans hon).setFar (Nat.le_refl _) _).setFar (Nat.le_refl _) _)⟩)
   have i1 : ¬ (c : Int) = 0 := by omega
   clear h1 h6 h7 hon
   go_wp2
   generalize (w2.setCell ⟨w.heap.size, 0, none⟩ (.slice none 0 0)).setCell ⟨w.heap.size, 1, none⟩ (.slice none 0 0) = w9 at *
   exact bodyPost_ret (v := .tuple #[.agg #[.slice none 0 0, .slice none 0 0], .int .i64 (c : Int)]) (by simp [results, Tryz.results103, go_sem, e0, e1]) rfl HF.out
 ·have hon := h5
  have h6 : RW w1 w.heap.size 33 2 (fun _ => .slice none 0 0) := RW.keep hr6 (hon.block _ (by omega) (fun e => n6 (by injection e)))
  have h8 : RW w1 (w.heap.size + 1) 33 2 (fun _ => .slice none 0 0) := RW.keep hr8 (hon.block _ (by omega) (fun e => n8 (by injection e)))
  have d0 := h6.cell (i := 0) (by omega)
  have y0 := h6.frozen 0
  have f0 := h8.cell (i := 0) (by omega)
  have d1 := h6.cell (i := 1) (by omega)
  have y1 := h6.frozen 1
  have f1 := h8.cell (i := 1) (by omega)
  obtain ⟨e0, e1⟩ := ret_two h6 (.slice none 0 0) (.slice none 0 0)
  have HF := Lib.hid (show BhPost p (.agg #[.slice none 0 0, .slice none 0 0]) w (headP kind f l) PubR (.returned (.tuple #[.agg #[.slice none 0 0, .slice none 0 0], .int .i64 (c : Int)])) ((w1.setCell ⟨w.heap.size, 0, none⟩ (.slice none 0 0)).setCell ⟨w.heap.size, 1, none⟩ (.slice none 0 0)) from
   .inr ⟨c, by unfold headP; rw [bindP_err h1], h2, h3, rfl, (((HO.out.trans hon).setFar (Nat.le_refl _) _).setFar (Nat.le_refl _) _)⟩)
  have i1 : ¬ (c : Int) = 0 := by omega
  clear h1 h5 h7 hon
  go_wp2
  generalize (w1.setCell ⟨w.heap.size, 0, none⟩ (.slice none 0 0)).setCell ⟨w.heap.size, 1, none⟩ (.slice none 0 0) = w9 at *
  exact bodyPost_ret (v := .tuple #[.agg #[.slice none 0 0, .slice none 0 0], .int .i64 (c : Int)]) (by simp [results, Tryz.results103, go_sem, e0, e1]) rfl HF.out
set_option maxHeartbeats 8000000 in
theorem uBehS_any (fn kind p : Nat) (l : List Nat) (S : Nat → Value) (f : PV → Pr (List Int)) (w0 w : World) (hT : Hid (RS w p l S)) (hl : l.length ≤ 100000) (hk : kind < 256) (h0 : Hid (Ext w0 w)) (hp0 : w0.heap.size ≤ p) (hTab : Tabs w0) (hE : Hid (EntersV fn)) (hG : Hid (PtBy fn p (.slice none 0 0) w f SgR)) :
    Calls Tryz.prog 104 #[.pointer (some ⟨p, 0, none⟩), .int .u64 (kind : Int), .func (.func fn) #[] #[]] w (BhPost p (.slice none 0 0) w (headP kind f l) SgR) := by
 have HTAB := Lib.hid hTab
 clear hTab
 have hpw := hT.out.lt
 have HT := hT
 have HO := Lib.hid (On.refl p w)
 go_enter Tryz.func104, Tryz.ntmps104
 go_wp2_with fail
 refine (between_any 1 kind kind p l S w HT (by omega) (by omega) hl (by omega) (by omega)).mono ?_
 rintro e w1 (⟨x0, r1, v1, h1, rfl, ⟨rfl, hx⟩, h4, h5, h6⟩ | ⟨c, h1, h2, h3, rfl, h5, h7⟩)
 ·have HB1 := Lib.hid h1
  have H4 := Lib.hid h4
  have H6 := Lib.hid h6
  clear h1 h4 h6
  go_wp2_with fail
  refine (uPar_any p r1 S w0 w1 H4 h5 (Lib.hid (h0.out.on (HO.out.trans H6.out) hp0)) hp0 HTAB.out).mono ?_
  rintro e w2 (⟨pv, r2, S', AQ, cQ, h1, rfl, h4, h5b, hkn, hs2, hs4, hs5, hs6, hlen, ht1, hw1, h6⟩ | ⟨c, h1, h2, h3, rfl, h6, h7⟩)
  ·have HKP := Lib.hid (KP.mk hkn hs2 hs4 hlen ht1 hw1)
   have HB2 := Lib.hid h1
   have H7 := Lib.hid h4
   have HS5 := Lib.hid hs5
   have HON := Lib.hid (H6.out.trans h6)
   have HH := Lib.hid (show headP kind f l = bindP (f pv) (fun x r => .ok ((pv, x), r)) r2 by
    unfold headP
    rw [bindP_ok HB1.out, bindP_ok h1])
   clear h1 h4 h6 hkn hs2 hs4 hs5 hs6 hlen ht1 hw1
   go_wp2_with fail
   rw [hE.out, Oper.upon_enter]
   refine (hG.out pv r2 w2 S' AQ cQ (HO.out.trans HON.out) H7.out h5b HKP.out HS5.out).mono ?_
   rintro e w3 ⟨S3, hS3, ⟨x, r3, v, h1, rfl, hv, h4, h5c, h6⟩ | ⟨c, h1, h2, h3, rfl, h6, h7⟩⟩
   ·obtain ⟨A2, m2, c2, rfl⟩ : ∃ A m c, v = .slice A m c := by
       obtain ⟨A, c, rfl, _⟩ := hv
       exact ⟨A, x.length, c, rfl⟩
    have hKK : Keeps [2, 22] w3 w3 := (Keeps.refl _ _)
    have HF := Lib.hid (show BhPost p (.slice none 0 0) w (headP kind f l) SgR (.returned (.tuple #[.slice A2 m2 c2, .int .i64 0])) w3 from
     .inl ⟨pv, x, r3, _, S3, AQ, cQ, by rw [HH.out, bindP_ok h1], rfl, (sgR_stays (ts := [2, 22]) (by decide)) _ _ _ x hKK hv, h4, ((HKP.out.on H7.out h6).of hS3).keeps hKK (by decide), h5c, ((HO.out.trans HON.out).trans h6)⟩)
    clear h1 hv h4 h6 hKK
    go_wp2
    go_ret2
    exact HF.out
   ·have hon := HON.out.trans h6
    have HF := Lib.hid (show BhPost p (.slice none 0 0) w (headP kind f l) SgR (.returned (.tuple #[.slice none 0 0, .int .i64 (c : Int)])) w3 from
     .inr ⟨c, by rw [HH.out, bindP_err h1], h2, h3, rfl, (HO.out.trans hon)⟩)
    have i1 : ¬ (c : Int) = 0 := by omega
    clear h1 h6 h7 hon
    go_wp2
    go_ret2
    exact HF.out
  ·have hon := H6.out.trans h6
   have HF := Lib.hid (show BhPost p (.slice none 0 0) w (headP kind f l) SgR (.returned (.tuple #[.slice none 0 0, .int .i64 (c : Int)])) w2 from
    .inr ⟨c, by unfold headP; rw [bindP_ok HB1.out, bindP_err h1], h2, h3, rfl, (HO.out.trans hon)⟩)
   have i1 : ¬ (c : Int) = 0 := by omega
   clear h1 h6 h7 hon
   go_wp2
   go_ret2
   exact HF.out
 ·have hon := h5
  have HF := Lib.hid (show BhPost p (.slice none 0 0) w (headP kind f l) SgR (.returned (.tuple #[.slice none 0 0, .int .i64 (c : Int)])) w1 from
   .inr ⟨c, by unfold headP; rw [bindP_err h1], h2, h3, rfl, (HO.out.trans hon)⟩)
  have i1 : ¬ (c : Int) = 0 := by omega
  clear h1 h5 h7 hon
  go_wp2
  go_ret2
  exact HF.out
end Go.Proofs.YtkbcobjhlpjieaaGreatDoor
