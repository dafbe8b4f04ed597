import Derived.Test.YtopbibfpjgjalaaGreatDoorZ33
import Derived.Test.YtopbibfpjgjalaaGreatDoorZ36
import Derived.Test.YtopbibfpjgjalaaGreatDoorZ26
import Derived.Test.YtopbibfpjgjalaaGreatDoorZ37
import Derived.Deep.RegionHeld3
import Derived.Deep.DeepCutAuto
import Derived.Test.YtopbibfpjgjalaaGreatDoorZ31
import Derived.Test.YtopbibfpjgjalaaGreatDoorZ35
namespace Go.Proofs.YtopbibfpjgjalaaGreatDoor
open Go.RowKit
set_option linter.unusedVariables false
set_option maxRecDepth 100000
theorem zbt (w : World) (a0 a1 a2 a3 a4 : Value) (t : TypeId) : (w.alloc (.cells #[a0, a1, a2, a3, a4] t)).cell? ⟨w.heap.size, 0, none⟩ = some a0 ∧ (w.alloc (.cells #[a0, a1, a2, a3, a4] t)).cell? ⟨w.heap.size, 1, none⟩ = some a1 ∧ (w.alloc (.cells #[a0, a1, a2, a3, a4] t)).cell? ⟨w.heap.size, 2, none⟩ = some a2 ∧ (w.alloc (.cells #[a0, a1, a2, a3, a4] t)).cell? ⟨w.heap.size, 3, none⟩ = some a3 ∧ (w.alloc (.cells #[a0, a1, a2, a3, a4] t)).cell? ⟨w.heap.size, 4, none⟩ = some a4 := ⟨by simp, by simp, by simp, by simp, by simp⟩
theorem QP.tail {w : World} {ad : Addr} {n c : Nat} {Aj : Nat → Option Addr} {Lj cj : Nat → Nat} {Bs : Nat → Nat → Option Addr} {ns cs : Nat → Nat → Nat} {f : Nat → Nat → Nat → Nat} (h : QP w (some ad) (n + 1) c Aj Lj cj Bs ns cs f) : QP w (some (ad.add 1)) n (c - 1) (fun k => Aj (k + 1)) (fun k => Lj (k + 1)) (fun k => cj (k + 1)) (fun k => Bs (k + 1)) (fun k => ns (k + 1)) (fun k => cs (k + 1)) (fun k => f (k + 1)) := by
 refine ⟨⟨by have := h.qx.room; omega, fun h0 => ?_⟩, fun j hj => h.els (j + 1) (by omega)⟩
 obtain ⟨ad', e, hc⟩ := h.qx.cells (by omega)
 injection e with e
 subst e
 refine ⟨_, rfl, fun j hj => ?_⟩
 have h1 := hc (j + 1) (by omega)
 have e2 : (ad.add 1).add j = ad.add (j + 1) := by
  rw [Addr.add_add, Nat.add_comm 1 j]
 rw [e2]
 exact h1
theorem QP.tail1 {w : World} {ad : Addr} {n c : Nat} {Aj : Nat → Option Addr} {Lj cj : Nat → Nat} {Bs : Nat → Nat → Option Addr} {ns cs : Nat → Nat → Nat} {f : Nat → Nat → Nat → Nat} (h : QP w (some ad) n c Aj Lj cj Bs ns cs f) (hn : 1 ≤ n) : QP w (some (ad.add 1)) (n - 1) (c - 1) (fun k => Aj (k + 1)) (fun k => Lj (k + 1)) (fun k => cj (k + 1)) (fun k => Bs (k + 1)) (fun k => ns (k + 1)) (fun k => cs (k + 1)) (fun k => f (k + 1)) := by
 obtain ⟨n', rfl⟩ : ∃ n', n = n' + 1 := ⟨n - 1, by omega⟩
 exact h.tail
def AreP (n M : Nat) (q : Nat → Nat) (m : Nat) (Lj : Nat → Nat) (ns : Nat → Nat → Nat) (f : Nat → Nat → Nat → Nat) (lv : Int) : Prop := ∀ k, k < m → El n M q (Lj k) (ns k) (f k) ∧ (Lj k : Int) - 1 = lv
set_option maxHeartbeats 4000000 in
theorem zj5 (r n M m d : Nat) (lv : Int) (N Wd : Int) (T Lq cq : Nat) (Aq : Option Addr) (B : Option Addr) (q pp : Nat → Nat) (a e : Nat → Nat → Nat) (Aj : Nat → Option Addr) (Lj cj : Nat → Nat) (Bs : Nat → Nat → Option Addr) (ns cs : Nat → Nat → Nat) (f : Nat → Nat → Nat → Nat) (w : World) (hR : Rg w r n M q pp a e) (hQ : QP w B m d Aj Lj cj Bs ns cs f) (hm : m ≤ 100) (l0 : -9223372036854775808 ≤ lv) (l1 : lv < 9223372036854775808) :
    Calls Tryz.prog 52 #[.agg #[.int .i64 N, .int .u64 (T : Int), .slice Aq Lq cq, .int .i64 Wd, .pointer (some ⟨r, 0, none⟩)], .int .i64 lv, .slice B m d] w (TellsXU w (AreP n M q m Lj ns f lv)) := by
 have HR := Lib.hid hR
 have HQ := Lib.hid hQ
 clear hR hQ
 have k0 : Ext w (w.alloc (.cells #[.int .i64 N, .int .u64 (T : Int), .slice Aq Lq cq, .int .i64 Wd, .pointer (some ⟨r, 0, none⟩)] 114)) := (Ext.refl w).alloc _
 obtain ⟨_, _, _, _, x4⟩ := zbt w (.int .i64 N) (.int .u64 (T : Int)) (.slice Aq Lq cq) (.int .i64 Wd) (.pointer (some ⟨r, 0, none⟩)) 114
 go_enter Tryz.func52, Tryz.ntmps52
 go_wp2
 generalize (w.alloc (.cells #[.int .i64 N, .int .u64 (T : Int), .slice Aq Lq cq, .int .i64 Wd, .pointer (some ⟨r, 0, none⟩)] 114)) = V at *
 obtain ⟨D, hD⟩ : ∃ D, D = w.heap.size := ⟨_, rfl⟩
 rw [← hD] at x4
 simp only [← hD]
 clear hD
 go_loopw [13] (fun iv wr => ∃ k : Nat, k ≤ m ∧ iv = .int .i64 (k : Int) ∧ Hid (AreP n M q k Lj ns f lv) ∧ Ext V wr) (fun iv _ => m - (intOf iv).toNat)
 case atStart => exact ⟨0, by omega, rfl, Lib.hid fun j hj => absurd hj (by omega), Ext.refl V⟩
 case round =>
  obtain ⟨k, hk, rfl, HT, kr⟩ := hrel
  by_cases hlt : k < m
  ·obtain ⟨ad, rfl, hc⟩ := (HQ.out.qx.ext (k0.trans kr)).cells (by omega)
   have cx := hc k hlt
   clear hc
   have i0 : (0 : Int) ≤ (k : Int) := by omega
   have i1 : (k : Int) < (m : Int) := by omega
   have ka : Ext wr (wr.alloc (.cells #[.slice (Aj k) (Lj k) (cj k)] 56)) := (Ext.refl wr).alloc _
   have y4 := cE (kr.trans ka) x4
   have ca : (wr.alloc (.cells #[.slice (Aj k) (Lj k) (cj k)] 56)).cell? ⟨wr.heap.size, 0, none⟩ = some (.slice (Aj k) (Lj k) (cj k)) := zam _ _ _
   have HE := Lib.hid ((HQ.out.els k hlt).ext ((k0.trans kr).trans ka))
   have HRr := Lib.hid (HR.out.ext ((k0.trans kr).trans ka))
   have KR := Lib.hid (kr.trans ka)
   have HST := Lib.hid (show El n M q (Lj k) (ns k) (f k) → (Lj k : Int) - 1 = lv → AreP n M q (k + 1) Lj ns f lv from fun h1 h2 j hj => by
    rcases Nat.lt_or_ge j k with g | g
    ·exact HT.out j g
    ·obtain rfl : j = k := by omega
     exact ⟨h1, h2⟩)
   have HN1 := Lib.hid (show ¬ El n M q (Lj k) (ns k) (f k) → ¬ AreP n M q m Lj ns f lv from fun h1 h2 => h1 (h2 k hlt).1)
   have HN2 := Lib.hid (show (Lj k : Int) - 1 ≠ lv → ¬ AreP n M q m Lj ns f lv from fun h1 h2 => h1 (h2 k hlt).2)
   clear kr ka
   go_wp2_with fail
   generalize wr.alloc (.cells #[.slice (Aj k) (Lj k) (cj k)] 56) = V1 at *
   refine (zjz r n M q pp a e (Aj k) (Lj k) (cj k) (Bs k) (ns k) (cs k) (f k) V1 HRr.out (Lib.hid HE.out)).mono ?_
   rintro ee V2 ⟨(⟨h, rfl⟩ | ⟨h, rfl⟩), k2⟩
   ·have HL := Lib.hid h
    have hLb := HE.out.2.1
    have hL0 := h.1
    clear h
    by_cases hv : (Lj k : Int) - 1 = lv
    ·have HV := Lib.hid hv
     have K2 := Lib.hid (KR.out.trans k2)
     clear k2
     have e1 : ((Lj k : Int) - 1 != lv) = false := by rw [hv]; simp
     have e2 : ((Lj k : Int) - 1 == lv) = true := by rw [hv]; simp
     clear hv
     generalize (Lj k : Int) - 1 = z at *
     go_wp2
     exact ⟨⟨k + 1, by omega, by go_num, Lib.hid (HST.out HL.out HV.out), K2.out⟩, by simp [intOf]; omega⟩
    ·have HV := Lib.hid hv
     have K2 := Lib.hid (k0.trans (KR.out.trans k2))
     clear k2
     have e1 : ((Lj k : Int) - 1 != lv) = true := by simpa using hv
     have e2 : ((Lj k : Int) - 1 == lv) = false := by simpa using hv
     clear hv
     generalize (Lj k : Int) - 1 = z at *
     go_wp2
     go_ret
     exact ⟨.inr ⟨HN2.out HV.out, rfl⟩, K2.out⟩
   ·have HL := Lib.hid h
    have K2 := Lib.hid (k0.trans (KR.out.trans k2))
    clear h k2
    go_wp2
    go_ret
    exact ⟨.inr ⟨HN1.out HL.out, rfl⟩, K2.out⟩
  ·obtain rfl : k = m := by omega
   have K2 := Lib.hid (k0.trans kr)
   clear kr
   go_wp2
   go_ret
   exact ⟨.inl ⟨HT.out, rfl⟩, K2.out⟩
theorem zqs (r n M : Nat) (q p : Nat → Nat) (a e : Nat → Nat → Nat) (A : Option Addr) (L c : Nat) (As : Nat → Option Addr) (ns cs : Nat → Nat) (f : Nat → Nat → Nat) (w : World) (hR : Rg w r n M q p a e) (hP : Hid (PB w A L c As ns cs f)) (hE : El n M q L ns f) :
    Calls Tryz.prog 102 #[.pointer (some ⟨r, 0, none⟩), .agg #[.slice A L c]] w fun ee w' => ee = .returned (.tuple #[.int .i64 ((L : Int) - 1), .int .i64 0]) ∧ Ext w w' :=
 (zjz r n M q p a e A L c As ns cs f w hR hP).mono fun ee w' h => by
  obtain ⟨(⟨_, h1⟩ | ⟨h1, _⟩), k⟩ := h
  ·exact ⟨h1, k⟩
  ·exact absurd hE h1
theorem TellsXU.yes {w w' : World} {P : Prop} {ee : Ending} (h : TellsXU w P ee w') (hp : P) : ee = .returned (.bool true) ∧ Ext w w' := by
 obtain ⟨(⟨_, h1⟩ | ⟨h1, _⟩), k⟩ := h
 ·exact ⟨h1, k⟩
 ·exact absurd hp h1
theorem TellsXI.yes {w w' : World} {P : Prop} {ee : Ending} (h : TellsXI w P ee w') (hp : P) : ee = .returned (.bool true) ∧ Ext w w' := by
 obtain ⟨(⟨_, h1⟩ | ⟨h1, _⟩), k⟩ := h
 ·exact ⟨h1, k⟩
 ·exact absurd hp h1
theorem zrt (m d : Nat) (N Wd : Int) (T Lq cq : Nat) (Aq : Option Addr) (r : Nat) (B : Option Addr) (w : World) (hm : m < 2) :
    Calls Tryz.prog 93 #[.agg #[.int .i64 N, .int .u64 (T : Int), .slice Aq Lq cq, .int .i64 Wd, .pointer (some ⟨r, 0, none⟩)], .agg #[.slice B m d]] w fun ee w' => ee = .returned (.tuple #[.int .i64 0, .int .i64 3]) ∧ Ext w w' := by
 have h0 : (m : Int) < 2 := by omega
 go_enter Tryz.func93, Tryz.ntmps93
 go_wp2
 go_ret2
 exact ⟨rfl, ((Ext.refl w).alloc _).alloc _⟩
set_option maxHeartbeats 4000000 in
theorem zpw (m d L n M r : Nat) (N Wd : Int) (T Lq cq : Nat) (Aq : Option Addr) (B : Option Addr) (q pp : Nat → Nat) (a e : Nat → Nat → Nat) (Aj : Nat → Option Addr) (Lj cj : Nat → Nat) (Bs : Nat → Nat → Option Addr) (ns cs : Nat → Nat → Nat) (f : Nat → Nat → Nat → Nat) (w : World) (hR : Rg w r n M q pp a e) (hQ : QP w B m d Aj Lj cj Bs ns cs f) (hm2 : 2 ≤ m) (hm : m ≤ 3) (hA : Hid (AreP n M q m Lj ns f ((L : Int) - 1))) :
    Calls Tryz.prog 93 #[.agg #[.int .i64 N, .int .u64 (T : Int), .slice Aq Lq cq, .int .i64 Wd, .pointer (some ⟨r, 0, none⟩)], .agg #[.slice B m d]] w fun ee w' => ee = .returned (.tuple #[.int .i64 ((L : Int) - 1), .int .i64 0]) ∧ Ext w w' := by
 obtain ⟨ad, rfl, hc⟩ := hQ.qx.cells (by omega)
 have hd := hQ.qx.room
 have c0 := hc 0 (by omega)
 have c0' : w.cell? ad = some (.slice (Aj 0) (Lj 0) (cj 0)) := by simpa [Addr.add] using c0
 have HQ := Lib.hid hQ
 have HTL := Lib.hid (hQ.tail1 (by omega))
 have HR := Lib.hid hR
 have hlen := (hQ.els 0 (by omega)).2.1
 have h00 := hA.out 0 (by omega)
 have hLL : Lj 0 = L := by have := h00.2; omega
 have hL0 := h00.1.1
 rw [hLL] at hL0 hlen
 have HA1 := Lib.hid (show AreP n M q (m - 1) (fun k => Lj (k + 1)) (fun k => ns (k + 1)) (fun k => f (k + 1)) ((L : Int) - 1) from fun k hk => hA.out (k + 1) (by omega))
 have HE0 := Lib.hid h00.1
 rw [hLL] at HE0
 have HLL := Lib.hid hLL
 clear hc hR hQ h00 hLL c0
 have k0 : Ext w ((w.alloc (.cells #[.int .i64 N, .int .u64 (T : Int), .slice Aq Lq cq, .int .i64 Wd, .pointer (some ⟨r, 0, none⟩)] 114)).alloc (.cells #[.slice (some ad) m d] 62)) := ((Ext.refl w).alloc _).alloc _
 have ka : Ext (w.alloc (.cells #[.int .i64 N, .int .u64 (T : Int), .slice Aq Lq cq, .int .i64 Wd, .pointer (some ⟨r, 0, none⟩)] 114)) ((w.alloc (.cells #[.int .i64 N, .int .u64 (T : Int), .slice Aq Lq cq, .int .i64 Wd, .pointer (some ⟨r, 0, none⟩)] 114)).alloc (.cells #[.slice (some ad) m d] 62)) := (Ext.refl _).alloc _
 obtain ⟨x0, x1, x2, x3, x4⟩ := zbt w (.int .i64 N) (.int .u64 (T : Int)) (.slice Aq Lq cq) (.int .i64 Wd) (.pointer (some ⟨r, 0, none⟩)) 114
 replace x0 := cE ka x0
 replace x1 := cE ka x1
 replace x2 := cE ka x2
 replace x3 := cE ka x3
 replace x4 := cE ka x4
 have xb : ((w.alloc (.cells #[.int .i64 N, .int .u64 (T : Int), .slice Aq Lq cq, .int .i64 Wd, .pointer (some ⟨r, 0, none⟩)] 114)).alloc (.cells #[.slice (some ad) m d] 62)).cell? ⟨w.heap.size + 1, 0, none⟩ = some (.slice (some ad) m d) := by
  have := zam (w.alloc (.cells #[.int .i64 N, .int .u64 (T : Int), .slice Aq Lq cq, .int .i64 Wd, .pointer (some ⟨r, 0, none⟩)] 114)) (.slice (some ad) m d) 62
  rwa [show (w.alloc (.cells #[.int .i64 N, .int .u64 (T : Int), .slice Aq Lq cq, .int .i64 Wd, .pointer (some ⟨r, 0, none⟩)] 114)).heap.size = w.heap.size + 1 by simp] at this
 replace c0' := cE k0 c0'
 clear ka
 have h2 : ¬ ((m : Int) < 2) := by omega
 have h3 : ¬ ((m : Int) > 3) := by omega
 have i0 : (0 : Int) < (m : Int) := by omega
 have i1 : (1 : Int) ≤ (m : Int) := by omega
 have i0n : 0 < m := by omega
 have i1n : 1 ≤ m := by omega
 go_enter Tryz.func93, Tryz.ntmps93
 go_upto_region 3 with fail
 generalize ((w.alloc (.cells #[.int .i64 N, .int .u64 (T : Int), .slice Aq Lq cq, .int .i64 Wd, .pointer (some ⟨r, 0, none⟩)] 114)).alloc (.cells #[.slice (some ad) m d] 62)) = V at *
 obtain ⟨D, hD⟩ : ∃ D, D = w.heap.size := ⟨_, rfl⟩
 obtain ⟨E, hE⟩ : ∃ E, E = w.heap.size + 1 := ⟨_, rfl⟩
 rw [← hD] at x0 x1 x2 x3 x4
 rw [← hE] at xb
 simp only [← hE]
 simp only [← hD]
 clear hD hE
 go_cut [6, 7] (fun s6 s7 wx => s6 = .int .i64 ((L : Int) - 1) ∧ s7 = .int .i64 0 ∧ Ext V wx)
 case first =>
  have kk : Ext V V := Ext.refl V
  have HLV := Lib.hid (fun w' (h : Ext V w') => zqs r n M q pp a e (Aj 0) (Lj 0) (cj 0) (Bs 0) (ns 0) (cs 0) (f 0) w' (HR.out.ext (k0.trans h)) (Lib.hid ((HQ.out.els 0 (by omega)).ext (k0.trans h))) (by rw [HLL.out]; exact HE0.out))
  go_region_held3 (fun w' => w'.cell? ⟨D, 4, none⟩ = some (.pointer (some ⟨r, 0, none⟩)) ∧ w'.cell? ⟨E, 0, none⟩ = some (.slice (some ad) m d) ∧ w'.cell? ad = some (.slice (Aj 0) (Lj 0) (cj 0))) (go_keep)
   (first
    | (go_at_call 102; refine (HLV.out _ (by with_reducible repeat first | exact kk | apply Ext.alloc | apply Ext.drew)).mono ?_; rintro e5 w5 ⟨rfl, k5⟩; have hold := kk.size; replace kk : Ext V w5 := (by first | with_reducible exact Ext.trans kk k5 | with_reducible exact Ext.trans (Ext.drew kk) k5 | with_reducible exact Ext.trans (Ext.alloc kk _) k5 | with_reducible exact Ext.trans (Ext.drew (Ext.alloc kk _)) k5 | with_reducible exact Ext.trans (Ext.alloc (Ext.drew kk) _) k5); have d4 := cE kk x4; have dE := cE kk xb; have d0 := cE kk c0')
    | fail)
  all_goals
   (go_wp2_with fail; go_meet; exact ⟨by rw [HLL.out], rfl, kk⟩)
 case rest =>
  obtain ⟨rfl, rfl, kk0⟩ := hcut
  rename World => V2
  have y0 := cE kk0 x0
  have y1 := cE kk0 x1
  have y2 := cE kk0 x2
  have y3 := cE kk0 x3
  have y4 := cE kk0 x4
  have yb := cE kk0 xb
  have kk : Ext V2 V2 := Ext.refl V2
  have HAR := Lib.hid (fun w' (h : Ext V2 w') => zj5 r n M (m - 1) (d - 1) ((L : Int) - 1) N Wd T Lq cq Aq (some (ad.add 1)) q pp a e _ _ _ _ _ _ _ w' (HR.out.ext (k0.trans (kk0.trans h))) (HTL.out.ext (k0.trans (kk0.trans h))) (by omega) (by omega) (by omega))
  have K0 := Lib.hid (k0.trans kk0)
  clear x0 x1 x2 x3 x4 xb c0' kk0 k0
  have hd1 : d ≠ 1 := by omega
  go_wp2_with fail
  go_region_held3 (fun w' => w'.cell? ⟨D, 0, none⟩ = some (.int .i64 N) ∧ w'.cell? ⟨D, 1, none⟩ = some (.int .u64 (T : Int)) ∧ w'.cell? ⟨D, 2, none⟩ = some (.slice Aq Lq cq) ∧ w'.cell? ⟨D, 3, none⟩ = some (.int .i64 Wd) ∧ w'.cell? ⟨D, 4, none⟩ = some (.pointer (some ⟨r, 0, none⟩)) ∧ w'.cell? ⟨E, 0, none⟩ = some (.slice (some ad) m d)) (go_keep)
   (first
    | (go_at_call 52; refine (HAR.out _ (by with_reducible repeat first | exact kk | apply Ext.alloc | apply Ext.drew)).mono ?_; rintro e5 w5 h5; obtain ⟨rfl, k5⟩ := h5.yes HA1.out; have hold := kk.size; replace kk : Ext V2 w5 := (by first | with_reducible exact Ext.trans kk k5 | with_reducible exact Ext.trans (Ext.drew kk) k5 | with_reducible exact Ext.trans (Ext.alloc kk _) k5 | with_reducible exact Ext.trans (Ext.drew (Ext.alloc kk _)) k5 | with_reducible exact Ext.trans (Ext.alloc (Ext.drew kk) _) k5); have d0 := cE kk y0; have d1 := cE kk y1; have d2 := cE kk y2; have d3 := cE kk y3; have d4 := cE kk y4; have dE := cE kk yb)
    | fail)
  all_goals
   (go_wp2; go_ret2; exact ⟨rfl, K0.out.trans kk⟩)
theorem zks {n : Int} {L m : Nat} {q : Nat → Nat} (h : RowP n L q) (h0 : 0 < m) (hm : m ≤ L) : RowC m q := ⟨h0, by have := h.2.1; omega, fun j hj => by
 obtain ⟨⟨h2, h61, hst, hmod, hi⟩, hd⟩ := h.2.2 j (by omega)
 refine ⟨⟨?_, h61, hi⟩, hd⟩
 have hb : 2 ≤ q j := by
  rcases Nat.lt_or_ge (q j) 2 with g | g
  ·rcases (show q j = 0 ∨ q j = 1 by omega) with e | e <;> rw [e] at hi <;> exact absurd hi (by decide)
  ·exact g
 rcases Nat.lt_or_ge (q j) 3 with g | g
 ·have e : q j = 2 := by omega
  rw [e, Nat.mod_eq_of_lt (by omega)] at hmod
  omega
 ·exact g⟩
theorem FX.firstK {w : World} {A : Option Addr} {n m c : Nat} {f : Nat → Nat} (h : FX w A n c f) (hm : m ≤ n) : FX w A m c f :=
 ⟨by have := h.room; omega, fun h0 => by
  obtain ⟨ad, e, hc⟩ := h.cells (by omega)
  exact ⟨ad, e, fun j hj => hc j (by omega)⟩⟩
def MadeC (w : World) (n L : Nat) (R : (Nat → Nat → Nat) → Prop) (ee : Ending) (w' : World) : Prop := ∃ (G : Nat) (As : Nat → Option Addr) (cs : Nat → Nat) (F : Nat → Nat → Nat), ee = .returned (.agg #[.slice (some ⟨G, 0, none⟩) L L]) ∧ PM w' G L n As cs F ∧ Hid (R F) ∧ Ext w w'
set_option maxHeartbeats 2000000 in
theorem zdx (r n M k c : Nat) (N Wd : Int) (T Lq cq : Nat) (Aq : Option Addr) (B : Option Addr) (q pp : Nat → Nat) (a e : Nat → Nat → Nat) (v : Nat → Int) (w : World) (hR : Rg w r n M q pp a e) (hk : k < M) (hX : VX w B n c v) (hv : Hid (∀ i, i < n → -9223372036854775808 ≤ v i ∧ v i < 9223372036854775808)) :
    Calls Tryz.prog 104 #[.agg #[.int .i64 N, .int .u64 (T : Int), .slice Aq Lq cq, .int .i64 Wd, .pointer (some ⟨r, 0, none⟩)], .slice B n c, .int .i64 (k : Int)] w (MadeC w n (k + 1) (fun F => ∀ j, j < k + 1 → F j = fun i => lif (v i) (q j))) := by
 have k0 : Ext w ((w.alloc (.cells #[.int .i64 N, .int .u64 (T : Int), .slice Aq Lq cq, .int .i64 Wd, .pointer (some ⟨r, 0, none⟩)] 114)).alloc (.cells #[.slice none 0 0] 56)) := ((Ext.refl w).alloc _).alloc _
 have ka : Ext (w.alloc (.cells #[.int .i64 N, .int .u64 (T : Int), .slice Aq Lq cq, .int .i64 Wd, .pointer (some ⟨r, 0, none⟩)] 114)) ((w.alloc (.cells #[.int .i64 N, .int .u64 (T : Int), .slice Aq Lq cq, .int .i64 Wd, .pointer (some ⟨r, 0, none⟩)] 114)).alloc (.cells #[.slice none 0 0] 56)) := (Ext.refl _).alloc _
 obtain ⟨_, _, _, _, x4⟩ := zbt w (.int .i64 N) (.int .u64 (T : Int)) (.slice Aq Lq cq) (.int .i64 Wd) (.pointer (some ⟨r, 0, none⟩)) 114
 replace x4 := cE ka x4
 have hr : RW ((w.alloc (.cells #[.int .i64 N, .int .u64 (T : Int), .slice Aq Lq cq, .int .i64 Wd, .pointer (some ⟨r, 0, none⟩)] 114)).alloc (.cells #[.slice none 0 0] 56)) (w.heap.size + 1) 56 1 (fun _ => .slice none 0 0) := by
  have : RW ((w.alloc (.cells #[.int .i64 N, .int .u64 (T : Int), .slice Aq Lq cq, .int .i64 Wd, .pointer (some ⟨r, 0, none⟩)] 114)).alloc (.cells #[.slice none 0 0] 56)) (w.alloc (.cells #[.int .i64 N, .int .u64 (T : Int), .slice Aq Lq cq, .int .i64 Wd, .pointer (some ⟨r, 0, none⟩)] 114)).heap.size 56 1 (fun _ => .slice none 0 0) := heap_alloc_new _ _
  rwa [show (w.alloc (.cells #[.int .i64 N, .int .u64 (T : Int), .slice Aq Lq cq, .int .i64 Wd, .pointer (some ⟨r, 0, none⟩)] 114)).heap.size = w.heap.size + 1 by simp] at this
 have HR := Lib.hid (hR.ext k0)
 have HX := Lib.hid (hX.ext k0)
 clear ka hR hX
 go_enter Tryz.func104, Tryz.ntmps104
 go_wp2_with fail
 generalize ((w.alloc (.cells #[.int .i64 N, .int .u64 (T : Int), .slice Aq Lq cq, .int .i64 Wd, .pointer (some ⟨r, 0, none⟩)] 114)).alloc (.cells #[.slice none 0 0] 56)) = V at *
 refine (zf1 r n M q pp a e B c k v V HR.out hk HX.out hv).mono ?_
 rintro ee V1 ⟨G, As, cs, F, rfl, hpm, hF, k1⟩
 replace hr := hr.ext k1
 replace k0 := k0.trans k1
 have ka : Ext V1 (V1.alloc (.cells #[.slice (some ⟨G, 0, none⟩) (k + 1) (k + 1)] 56)) := (Ext.refl V1).alloc _
 have xa := zam V1 (.slice (some ⟨G, 0, none⟩) (k + 1) (k + 1)) 56
 replace hr := hr.ext ka
 replace k0 := k0.trans ka
 have HPM := Lib.hid (hpm.ext ka)
 obtain ⟨R6, hR6⟩ : ∃ R6, R6 = w.heap.size + 1 := ⟨_, rfl⟩
 rw [← hR6] at hr
 simp only [← hR6]
 have hR6w : w.heap.size ≤ R6 := by omega
 have HRR := Lib.hid hr
 have c6 := hr.cell (i := 0) (by omega)
 have z6 := hr.frozen 0
 have s6 := hr.lt
 have HK := Lib.hid (k0.set (p := ⟨R6, 0, none⟩) hR6w (.slice (some ⟨G, 0, none⟩) (k + 1) (k + 1)))
 clear hr hpm k1 ka hR6 k0
 go_wp2_with fail
 generalize V1.alloc (.cells #[.slice (some ⟨G, 0, none⟩) (k + 1) (k + 1)] 56) = V2 at *
 have d0 := zas HRR.out (.slice (some ⟨G, 0, none⟩) (k + 1) (k + 1))
 have h1 := HPM.out.aside HRR.out rfl (.slice (some ⟨G, 0, none⟩) (k + 1) (k + 1))
 have h2 := HK.out
 generalize V2.setCell ⟨R6, 0, none⟩ (.slice (some ⟨G, 0, none⟩) (k + 1) (k + 1)) = V3 at *
 exact bodyPost_ret (v := .agg #[.slice (some ⟨G, 0, none⟩) (k + 1) (k + 1)]) (by simp [results, Tryz.results104, go_sem, d0]) rfl ⟨G, As, cs, F, rfl, h1, hF, h2⟩
theorem zi9 (r k : Nat) (N Wd : Int) (T Lq cq : Nat) (ad : Addr) (w : World) (hk : k < Lq) (hL : Lq ≤ 1000) (hc : Lq ≤ cq) :
    Calls Tryz.prog 113 #[.agg #[.int .i64 N, .int .u64 (T : Int), .slice (some ad) Lq cq, .int .i64 Wd, .pointer (some ⟨r, 0, none⟩)], .int .i64 (k : Int)] w fun ee w' => ee = .returned (.slice (some ad) (k + 1) cq) ∧ Ext w w' := by
 have i0 : (0 : Int) ≤ (k : Int) + 1 := by omega
 have i1 : (k : Int) + 1 ≤ (cq : Int) := by omega
 have e1 : ((k : Int) + 1).toNat = k + 1 := by omega
 go_enter Tryz.func113, Tryz.ntmps113
 go_wp2
 go_ret
 exact ⟨rfl, (Ext.refl w).alloc _⟩
def zz3 (w : World) (n L : Nat) (q : Nat → Nat) (F : Nat → Nat → Nat) (ee : Ending) (w' : World) : Prop :=
 ∃ (p : Nat → Nat) (g : Nat), Hid (Parts L q p) ∧ ee = .returned (.slice (some ⟨g, 0, none⟩) n n) ∧ w.heap.size ≤ g ∧ WK w' g n n 1000 (fun i => cenB (jnF q p (fun j => F j i) 0 L) (prodF q L)) (fun i => cenN (jnF q p (fun j => F j i) 0 L) (prodF q L)) ∧ Ext w w'
theorem PM.lsts {w : World} {G L n : Nat} {As : Nat → Option Addr} {cs : Nat → Nat} {F : Nat → Nat → Nat} {q : Nat → Nat} (h : PM w G L n As cs F) (hF : ∀ j, j < L → ∀ i, i < n → F j i < q j) : Lsts n L (fun _ => n) F q := fun j hj => ⟨rfl, hF j hj⟩
set_option maxHeartbeats 4000000 in
theorem zkc (r n k G : Nat) (N Wd : Int) (T Lq cq : Nat) (ad : Addr) (q : Nat → Nat) (As : Nat → Option Addr) (cs : Nat → Nat) (F : Nat → Nat → Nat) (w : World) (hk : k < Lq) (hL : Lq ≤ 24) (hX : FX w (some ad) Lq cq q) (hq : Hid (∀ j, j < Lq → q j < 18446744073709551616)) (hRC : RowC (k + 1) q) (hT : Tabs w) (hG : PM w G (k + 1) n As cs F) (hF : Hid (∀ j, j < k + 1 → ∀ i, i < n → F j i < q j)) (hn0 : 0 < n) (hn : n ≤ 1000) :
    Calls Tryz.prog 61 #[.agg #[.int .i64 N, .int .u64 (T : Int), .slice (some ad) Lq cq, .int .i64 Wd, .pointer (some ⟨r, 0, none⟩)], .agg #[.slice (some ⟨G, 0, none⟩) (k + 1) (k + 1)], .int .i64 (k : Int)] w (zz3 w n (k + 1) q F) := by
 have hc := hX.room
 have k0 : Ext w ((w.alloc (.cells #[.int .i64 N, .int .u64 (T : Int), .slice (some ad) Lq cq, .int .i64 Wd, .pointer (some ⟨r, 0, none⟩)] 114)).alloc (.cells #[.slice (some ⟨G, 0, none⟩) (k + 1) (k + 1)] 56)) := ((Ext.refl w).alloc _).alloc _
 have ka : Ext (w.alloc (.cells #[.int .i64 N, .int .u64 (T : Int), .slice (some ad) Lq cq, .int .i64 Wd, .pointer (some ⟨r, 0, none⟩)] 114)) ((w.alloc (.cells #[.int .i64 N, .int .u64 (T : Int), .slice (some ad) Lq cq, .int .i64 Wd, .pointer (some ⟨r, 0, none⟩)] 114)).alloc (.cells #[.slice (some ⟨G, 0, none⟩) (k + 1) (k + 1)] 56)) := (Ext.refl _).alloc _
 obtain ⟨x0, x1, x2, x3, x4⟩ := zbt w (.int .i64 N) (.int .u64 (T : Int)) (.slice (some ad) Lq cq) (.int .i64 Wd) (.pointer (some ⟨r, 0, none⟩)) 114
 replace x0 := cE ka x0
 replace x1 := cE ka x1
 replace x2 := cE ka x2
 replace x3 := cE ka x3
 replace x4 := cE ka x4
 have xp : ((w.alloc (.cells #[.int .i64 N, .int .u64 (T : Int), .slice (some ad) Lq cq, .int .i64 Wd, .pointer (some ⟨r, 0, none⟩)] 114)).alloc (.cells #[.slice (some ⟨G, 0, none⟩) (k + 1) (k + 1)] 56)).cell? ⟨w.heap.size + 1, 0, none⟩ = some (.slice (some ⟨G, 0, none⟩) (k + 1) (k + 1)) := by
  have := zam (w.alloc (.cells #[.int .i64 N, .int .u64 (T : Int), .slice (some ad) Lq cq, .int .i64 Wd, .pointer (some ⟨r, 0, none⟩)] 114)) (.slice (some ⟨G, 0, none⟩) (k + 1) (k + 1)) 56
  rwa [show (w.alloc (.cells #[.int .i64 N, .int .u64 (T : Int), .slice (some ad) Lq cq, .int .i64 Wd, .pointer (some ⟨r, 0, none⟩)] 114)).heap.size = w.heap.size + 1 by simp] at this
 have HX := Lib.hid (hX.ext k0)
 have HT := Lib.hid (hT.ext k0)
 have HG := Lib.hid (hG.ext k0)
 have HRC := Lib.hid hRC
 clear ka hX hT hG hRC
 go_enter Tryz.func61, Tryz.ntmps61
 go_upto_region 1 with fail
 generalize ((w.alloc (.cells #[.int .i64 N, .int .u64 (T : Int), .slice (some ad) Lq cq, .int .i64 Wd, .pointer (some ⟨r, 0, none⟩)] 114)).alloc (.cells #[.slice (some ⟨G, 0, none⟩) (k + 1) (k + 1)] 56)) = V at *
 obtain ⟨D, hD⟩ : ∃ D, D = w.heap.size := ⟨_, rfl⟩
 obtain ⟨E, hE⟩ : ∃ E, E = w.heap.size + 1 := ⟨_, rfl⟩
 rw [← hD] at x0 x1 x2 x3 x4
 rw [← hE] at xp
 simp only [← hE]
 simp only [← hD]
 clear hD hE
 have kk : Ext V V := Ext.refl V
 have HRO := Lib.hid (fun w' => zi9 r k N Wd T Lq cq ad w' hk (by omega) hc)
 have HWH := Lib.hid (fun w' (h : Ext V w') => zo7 (some ⟨G, 0, none⟩) (some ad) (k + 1) (k + 1) cq n As (fun _ => n) cs F q w' (HG.out.px.ext h) ((HX.out.firstK hk).ext h) (Lib.hid fun j hj => hq.out j (by omega)) (HT.out.ext h) HRC.out (Lib.hid (HG.out.lsts hF.out)) hn0 hn)
 go_region_held3 (fun w' => w'.cell? ⟨D, 0, none⟩ = some (.int .i64 N) ∧ w'.cell? ⟨D, 1, none⟩ = some (.int .u64 (T : Int)) ∧ w'.cell? ⟨D, 2, none⟩ = some (.slice (some ad) Lq cq) ∧ w'.cell? ⟨D, 3, none⟩ = some (.int .i64 Wd) ∧ w'.cell? ⟨D, 4, none⟩ = some (.pointer (some ⟨r, 0, none⟩)) ∧ w'.cell? ⟨E, 0, none⟩ = some (.slice (some ⟨G, 0, none⟩) (k + 1) (k + 1))) (go_keep)
  (first
   | (go_at_call 113; refine (HRO.out _).mono ?_; rintro e5 w5 ⟨rfl, k5⟩; have hold := kk.size; replace kk : Ext V w5 := (by first | with_reducible exact Ext.trans kk k5 | with_reducible exact Ext.trans (Ext.drew kk) k5 | with_reducible exact Ext.trans (Ext.alloc kk _) k5 | with_reducible exact Ext.trans (Ext.drew (Ext.alloc kk _)) k5 | with_reducible exact Ext.trans (Ext.alloc (Ext.drew kk) _) k5); have d0 := cE kk x0; have d1 := cE kk x1; have d2 := cE kk x2; have d3 := cE kk x3; have d4 := cE kk x4; have dE := cE kk xp)
   | (go_at_call 112; refine (HWH.out _ (by with_reducible repeat first | exact kk | apply Ext.alloc | apply Ext.drew)).mono ?_; rintro e6 w6 ⟨p, g, hpts, rfl, hg, hwk, k6⟩; have hold := kk.size; replace kk : Ext V w6 := (by first | with_reducible exact Ext.trans kk k6 | with_reducible exact Ext.trans (Ext.drew kk) k6 | with_reducible exact Ext.trans (Ext.alloc kk _) k6 | with_reducible exact Ext.trans (Ext.drew (Ext.alloc kk _)) k6 | with_reducible exact Ext.trans (Ext.alloc (Ext.drew kk) _) k6); have d0 := cE kk x0; have d1 := cE kk x1; have d2 := cE kk x2; have d3 := cE kk x3; have d4 := cE kk x4; have dE := cE kk xp)
   | fail)
 all_goals
  have HWK := Lib.hid hwk
  have HK := Lib.hid (k0.trans kk)
  have hgw : w.heap.size ≤ g := by have h1 := k0.size; omega
  clear hwk x0 x1 x2 x3 x4 xp d0 d1 d2 d3 d4 dE
  go_wp2
  go_ret
  exact ⟨p, g, hpts, rfl, hgw, HWK.out, HK.out⟩
def zm1 (A : Option Addr) (m c : Nat) (i : Nat) : Value := if i = 1 then .slice A m c else zeroV i
theorem zrk (w : World) : NX w none 0 0 (nw 0) := by
 have e : nw 0 = [] := zcs _
 rw [e]
 exact ⟨rfl, Nat.le_refl _, fun x hx => (by cases hx), fun h => absurd h (by omega)⟩
theorem zuu {w : World} {g n m c D : Nat} {A : Option Addr} (hr : RW w g 144 (n * 2) (zm1 A m c)) (hm : m ≤ 1000) (hX : NX w A m c (nw D)) : WK w g n n 1000 (fun _ => false) (fun i => if i = 0 then D else 0) := by
 refine ⟨fun i => if i = 0 then A else none, fun i => if i = 0 then m else 0, fun i => if i = 0 then c else 0, hr.congr fun i hi => ?_, fun i hi => ?_⟩
 ·unfold wfUp wfF zm1
  rw [if_pos hi]
  by_cases h1 : i = 1
  ·subst h1
   rfl
  ·rw [if_neg h1]
   unfold zeroV
   by_cases h2 : i % 2 = 0
   ·rw [if_pos h2, if_pos h2]
   ·rw [if_neg h2, if_neg h2]
    simp only [if_neg (show ¬ i / 2 = 0 by omega)]
 ·by_cases h : i = 0
  ·subst h
   exact ⟨hm, hX⟩
  ·simp only [if_neg h]
   exact ⟨by omega, zrk w⟩
set_option maxHeartbeats 4000000 in
theorem ztj (r n k : Nat) (Wd : Int) (T Lq cq : Nat) (ad : Addr) (q : Nat → Nat) (w : World) (hk : k < Lq) (hP : Hid (PA w (n : Int) T (some ad) Lq cq Wd q)) (hok : Hid (ParP (n : Int) T Lq q Wd)) (hn : n ≤ 32) (hT : Tabs w) :
    Calls Tryz.prog 106 #[.agg #[.int .i64 (n : Int), .int .u64 (T : Int), .slice (some ad) Lq cq, .int .i64 Wd, .pointer (some ⟨r, 0, none⟩)], .int .i64 (k : Int)] w (MadeC w n (k + 1) (fun F => ∀ j, j < k + 1 → ∀ i, i < n → F j i = (if i = 0 then prodF q (k + 1) / T else 0) % q j)) := by
 obtain ⟨hrow, hn8, hL1, hL8⟩ := zbx hok.out (by omega)
 have hc := hP.out.fx.room
 have HRC := Lib.hid (zks hrow (Nat.succ_pos k) (by omega))
 have ht1 := hP.out.t1
 have HT := Lib.hid hT
 clear hT hrow
 have k0 : Ext w ((w.alloc (.cells #[.int .i64 (n : Int), .int .u64 (T : Int), .slice (some ad) Lq cq, .int .i64 Wd, .pointer (some ⟨r, 0, none⟩)] 114)).alloc (.cells #[.slice none 0 0] 56)) := ((Ext.refl w).alloc _).alloc _
 have ka : Ext (w.alloc (.cells #[.int .i64 (n : Int), .int .u64 (T : Int), .slice (some ad) Lq cq, .int .i64 Wd, .pointer (some ⟨r, 0, none⟩)] 114)) ((w.alloc (.cells #[.int .i64 (n : Int), .int .u64 (T : Int), .slice (some ad) Lq cq, .int .i64 Wd, .pointer (some ⟨r, 0, none⟩)] 114)).alloc (.cells #[.slice none 0 0] 56)) := (Ext.refl _).alloc _
 obtain ⟨x0, x1, x2, x3, x4⟩ := zbt w (.int .i64 (n : Int)) (.int .u64 (T : Int)) (.slice (some ad) Lq cq) (.int .i64 Wd) (.pointer (some ⟨r, 0, none⟩)) 114
 replace x0 := cE ka x0
 replace x1 := cE ka x1
 replace x2 := cE ka x2
 replace x3 := cE ka x3
 replace x4 := cE ka x4
 have hr : RW ((w.alloc (.cells #[.int .i64 (n : Int), .int .u64 (T : Int), .slice (some ad) Lq cq, .int .i64 Wd, .pointer (some ⟨r, 0, none⟩)] 114)).alloc (.cells #[.slice none 0 0] 56)) (w.heap.size + 1) 56 1 (fun _ => .slice none 0 0) := by
  have : RW ((w.alloc (.cells #[.int .i64 (n : Int), .int .u64 (T : Int), .slice (some ad) Lq cq, .int .i64 Wd, .pointer (some ⟨r, 0, none⟩)] 114)).alloc (.cells #[.slice none 0 0] 56)) (w.alloc (.cells #[.int .i64 (n : Int), .int .u64 (T : Int), .slice (some ad) Lq cq, .int .i64 Wd, .pointer (some ⟨r, 0, none⟩)] 114)).heap.size 56 1 (fun _ => .slice none 0 0) := heap_alloc_new _ _
  rwa [show (w.alloc (.cells #[.int .i64 (n : Int), .int .u64 (T : Int), .slice (some ad) Lq cq, .int .i64 Wd, .pointer (some ⟨r, 0, none⟩)] 114)).heap.size = w.heap.size + 1 by simp] at this
 clear ka
 have hmk := zgx n (by omega)
 go_enter Tryz.func106, Tryz.ntmps106
 go_wp2_with fail
 clear hmk
 have hVs : ((w.alloc (.cells #[.int .i64 (n : Int), .int .u64 (T : Int), .slice (some ad) Lq cq, .int .i64 Wd, .pointer (some ⟨r, 0, none⟩)] 114)).alloc (.cells #[.slice none 0 0] 56)).heap.size = w.heap.size + 2 := by simp
 generalize ((w.alloc (.cells #[.int .i64 (n : Int), .int .u64 (T : Int), .slice (some ad) Lq cq, .int .i64 Wd, .pointer (some ⟨r, 0, none⟩)] 114)).alloc (.cells #[.slice none 0 0] 56)) = V at *
 obtain ⟨D, hD⟩ : ∃ D, D = w.heap.size := ⟨_, rfl⟩
 obtain ⟨E, hE⟩ : ∃ E, E = w.heap.size + 1 := ⟨_, rfl⟩
 obtain ⟨g, hg⟩ : ∃ g, g = w.heap.size + 2 := ⟨_, rfl⟩
 have hEw : w.heap.size ≤ E := by omega
 rw [← hD] at x0 x1 x2 x3 x4
 rw [← hE] at hr
 simp only [← hg]
 simp only [← hE]
 simp only [← hD]
 have hDV : D < V.heap.size := by have := hr.lt; omega
 have hgw : w.heap.size ≤ g := by omega
 clear hD hE
 have ka : Ext V (V.alloc (.cells (zbk n) 144)) := (Ext.refl V).alloc _
 have hw := zf0 V n
 have hDg : D ≠ V.heap.size := by omega
 have hEg : E ≠ V.heap.size := by have := hr.lt; omega
 replace x0 := cE ka x0
 replace x1 := cE ka x1
 replace x2 := cE ka x2
 replace x3 := cE ka x3
 replace x4 := cE ka x4
 replace hr := hr.ext ka
 replace k0 := k0.trans ka
 generalize V.alloc (.cells (zbk n) 144) = V1 at *
 rw [hVs] at hw hDg hEg
 rw [← hg] at hw hDg hEg
 clear hg ka hVs
 refine (zt9 (n : Int) T Wd (some ad) Lq cq q (k : Int) V1 (by omega) (by omega) (by omega) (by omega) (by omega) (by omega) (hP.out.fx.ext k0) (Lib.hid fun j hj => hP.out.words j hj) (HT.out.ext k0)).mono ?_
 rintro ee V2 (⟨h, _⟩ | ⟨_, h, _⟩ | ⟨_, _, A2, m2, c2, rr, _, hrt, rfl, hm2, hx2, k1⟩)
 ·exact absurd hok.out h
 ·exact absurd ⟨by omega, by omega⟩ h
 rw [Int.toNat_natCast] at hx2
 have HX2 := Lib.hid hx2
 replace x0 := cE k1 x0
 replace x1 := cE k1 x1
 replace x2 := cE k1 x2
 replace x3 := cE k1 x3
 replace x4 := cE k1 x4
 replace hr := hr.ext k1
 replace hw := hw.ext k1
 replace k0 := k0.trans k1
 have w0 := hw.cell (i := 1) (by omega)
 have z1 := hw.frozen 1
 have sg := hw.lt
 have i0 : (0 : Int) < (n : Int) := by omega
 have kS := k0.set (p := ⟨g, 1, none⟩) hgw (.slice A2 m2 c2)
 have hw2 := (hw.set (show 1 < n * 2 by omega) (.slice A2 m2 c2)).congr (G := zm1 A2 m2 c2) fun i hi => by
  unfold zm1
  rfl
 have hx3 := HX2.out.off (p := ⟨g, 1, none⟩) w0 (fun x => by unfold zeroV; rw [if_neg (by omega)]; intro h; cases h) (.slice A2 m2 c2)
 have hr3 : RW (V2.setCell ⟨g, 1, none⟩ (.slice A2 m2 c2)) E 56 1 (fun _ => .slice none 0 0) := ((OnB.refl g V2).set 1 (.slice A2 m2 c2)).rw_ hr hEg
 have y0 := zac ((OnB.refl g V2).set 1 (.slice A2 m2 c2)) x0 hDg
 have y1 := zac ((OnB.refl g V2).set 1 (.slice A2 m2 c2)) x1 hDg
 have y2 := zac ((OnB.refl g V2).set 1 (.slice A2 m2 c2)) x2 hDg
 have y3 := zac ((OnB.refl g V2).set 1 (.slice A2 m2 c2)) x3 hDg
 have y4 := zac ((OnB.refl g V2).set 1 (.slice A2 m2 c2)) x4 hDg
 have HW := Lib.hid (zuu hw2 (by omega) hx3)
 have HR3 := Lib.hid hr3
 have KS := Lib.hid kS
 clear hx2 hx3 hw2 hr3 kS hr hw k0 k1
 go_wp2_with fail
 clear w0 z1 sg x0 x1 x2 x3 x4
 generalize V2.setCell ⟨g, 1, none⟩ (.slice A2 m2 c2) = V3 at *
 refine (zi9 r k (n : Int) Wd T Lq cq ad V3 hk (by omega) hc).mono ?_
 rintro ee V4 ⟨rfl, k4⟩
 have HW := Lib.hid (HW.out.ext k4)
 have HR3 := Lib.hid (HR3.out.ext k4)
 have KS := Lib.hid (KS.out.trans k4)
 clear k4 y0 y1 y2 y3 y4
 go_wp2_with fail
 refine (zfd g n 1000 (k + 1) cq (fun _ => false) (fun i => if i = 0 then prodF q (k + 1) / T else 0) (some ad) q V4 HW.out (by omega) (by omega) (by omega) ((hP.out.fx.firstK hk).ext KS.out) (Lib.hid fun j hj => hP.out.words j (by omega)) (HT.out.ext KS.out) HRC.out).mono ?_
 rintro ee V5 ⟨G, As, F, rfl, hpm, hF, k5⟩
 have ka : Ext V5 (V5.alloc (.cells #[.slice (some ⟨G, 0, none⟩) (k + 1) (k + 1)] 56)) := (Ext.refl V5).alloc _
 have xa := zam V5 (.slice (some ⟨G, 0, none⟩) (k + 1) (k + 1)) 56
 have hr := HR3.out.ext (k5.trans ka)
 have k0 := KS.out.trans (k5.trans ka)
 have HPM := Lib.hid (hpm.ext ka)
 have HRR := Lib.hid hr
 have c6 := hr.cell (i := 0) (by omega)
 have z6 := hr.frozen 0
 have s6 := hr.lt
 have HK := Lib.hid (k0.set (p := ⟨E, 0, none⟩) hEw (.slice (some ⟨G, 0, none⟩) (k + 1) (k + 1)))
 have HF := Lib.hid (show ∀ j, j < k + 1 → ∀ i, i < n → F j i = (if i = 0 then prodF q (k + 1) / T else 0) % q j from fun j hj i hi => by
  have := hF.out j hj i hi
  rw [this, nv_nw]
  rfl)
 clear hr hpm k5 ka k0 hF
 go_wp2_with fail
 generalize V5.alloc (.cells #[.slice (some ⟨G, 0, none⟩) (k + 1) (k + 1)] 56) = V6 at *
 have d0 := zas HRR.out (.slice (some ⟨G, 0, none⟩) (k + 1) (k + 1))
 have h1 := HPM.out.aside HRR.out rfl (.slice (some ⟨G, 0, none⟩) (k + 1) (k + 1))
 have h2 := HK.out
 generalize V6.setCell ⟨E, 0, none⟩ (.slice (some ⟨G, 0, none⟩) (k + 1) (k + 1)) = V7 at *
 exact bodyPost_ret (v := .agg #[.slice (some ⟨G, 0, none⟩) (k + 1) (k + 1)]) (by simp [results, Tryz.results106, go_sem, d0]) rfl ⟨G, As, fun _ => n, F, rfl, h1, HF, h2⟩
theorem zrb {c J Q B : Nat} (h1 : Q < B) (h2 : J < Q) (h3 : c ≤ Q ∨ c ≤ J) : c < B := by omega
def toldZ (T L : Nat) (q p : Nat → Nat) (F : Nat → Nat → Nat) (i : Nat) : Int := zw5 T (prodF q L) L q p F i
def zuc (w : World) (n T L : Nat) (q : Nat → Nat) (F : Nat → Nat → Nat) (ee : Ending) (w' : World) : Prop := ∃ (p : Nat → Nat) (B : Option Addr) (c : Nat) (f : Nat → Nat), Hid (Parts L q p) ∧ ee = .returned (.slice B n c) ∧ FX w' B n c f ∧ Hid (∀ i, i < n → f i = resF (decide (toldZ T L q p F i < 0)) (toldZ T L q p F i).natAbs T) ∧ Ext w w'
set_option maxHeartbeats 8000000 in
theorem zud (r n k G : Nat) (Wd : Int) (T Lq cq : Nat) (ad : Addr) (q : Nat → Nat) (As : Nat → Option Addr) (cs : Nat → Nat) (F : Nat → Nat → Nat) (w : World) (hk : k < Lq) (hP : Hid (PA w (n : Int) T (some ad) Lq cq Wd q)) (hok : Hid (ParP (n : Int) T Lq q Wd)) (hn : n ≤ 32) (hT : Tabs w) (hG : PM w G (k + 1) n As cs F) (hF : Hid (∀ j, j < k + 1 → ∀ i, i < n → F j i < q j)) (hRT : Hid (RowC 1 (fun _ => T))) (hY0 : 0 < prodF q (k + 1)) :
    Calls Tryz.prog 62 #[.agg #[.int .i64 (n : Int), .int .u64 (T : Int), .slice (some ad) Lq cq, .int .i64 Wd, .pointer (some ⟨r, 0, none⟩)], .agg #[.slice (some ⟨G, 0, none⟩) (k + 1) (k + 1)], .int .i64 (k : Int)] w (zuc w n T (k + 1) q F) := by
 obtain ⟨hrow, hn8, hL1, hL8⟩ := zbx hok.out (by omega)
 have hRC0 := zks hrow (Nat.succ_pos k) (show k + 1 ≤ Lq by omega)
 have HRC := Lib.hid hRC0
 have ht1 := hP.out.t1
 have HT := Lib.hid hT
 have HY0 := Lib.hid hY0
 clear hT hrow hRC0 hY0
 have k0 : Ext w ((w.alloc (.cells #[.int .i64 (n : Int), .int .u64 (T : Int), .slice (some ad) Lq cq, .int .i64 Wd, .pointer (some ⟨r, 0, none⟩)] 114)).alloc (.cells #[.slice (some ⟨G, 0, none⟩) (k + 1) (k + 1)] 56)) := ((Ext.refl w).alloc _).alloc _
 have ka : Ext (w.alloc (.cells #[.int .i64 (n : Int), .int .u64 (T : Int), .slice (some ad) Lq cq, .int .i64 Wd, .pointer (some ⟨r, 0, none⟩)] 114)) ((w.alloc (.cells #[.int .i64 (n : Int), .int .u64 (T : Int), .slice (some ad) Lq cq, .int .i64 Wd, .pointer (some ⟨r, 0, none⟩)] 114)).alloc (.cells #[.slice (some ⟨G, 0, none⟩) (k + 1) (k + 1)] 56)) := (Ext.refl _).alloc _
 obtain ⟨x0, x1, x2, x3, x4⟩ := zbt w (.int .i64 (n : Int)) (.int .u64 (T : Int)) (.slice (some ad) Lq cq) (.int .i64 Wd) (.pointer (some ⟨r, 0, none⟩)) 114
 replace x0 := cE ka x0
 replace x1 := cE ka x1
 replace x2 := cE ka x2
 replace x3 := cE ka x3
 replace x4 := cE ka x4
 have xp : ((w.alloc (.cells #[.int .i64 (n : Int), .int .u64 (T : Int), .slice (some ad) Lq cq, .int .i64 Wd, .pointer (some ⟨r, 0, none⟩)] 114)).alloc (.cells #[.slice (some ⟨G, 0, none⟩) (k + 1) (k + 1)] 56)).cell? ⟨w.heap.size + 1, 0, none⟩ = some (.slice (some ⟨G, 0, none⟩) (k + 1) (k + 1)) := by
  have := zam (w.alloc (.cells #[.int .i64 (n : Int), .int .u64 (T : Int), .slice (some ad) Lq cq, .int .i64 Wd, .pointer (some ⟨r, 0, none⟩)] 114)) (.slice (some ⟨G, 0, none⟩) (k + 1) (k + 1)) 56
  rwa [show (w.alloc (.cells #[.int .i64 (n : Int), .int .u64 (T : Int), .slice (some ad) Lq cq, .int .i64 Wd, .pointer (some ⟨r, 0, none⟩)] 114)).heap.size = w.heap.size + 1 by simp] at this
 have HG := Lib.hid (hG.ext k0)
 clear ka hG
 go_enter Tryz.func62, Tryz.ntmps62
 go_wp2_with fail
 generalize ((w.alloc (.cells #[.int .i64 (n : Int), .int .u64 (T : Int), .slice (some ad) Lq cq, .int .i64 Wd, .pointer (some ⟨r, 0, none⟩)] 114)).alloc (.cells #[.slice (some ⟨G, 0, none⟩) (k + 1) (k + 1)] 56)) = V at *
 obtain ⟨D, hD⟩ : ∃ D, D = w.heap.size := ⟨_, rfl⟩
 obtain ⟨E, hE⟩ : ∃ E, E = w.heap.size + 1 := ⟨_, rfl⟩
 rw [← hD] at x0 x1 x2 x3 x4
 rw [← hE] at xp
 simp only [← hE]
 simp only [← hD]
 clear hD hE
 refine (zgh (n : Int) T Wd (some ad) Lq cq q (k : Int) V (by omega) (by omega) (by omega) (by omega) (by omega) (by omega) (hP.out.fx.ext k0) (Lib.hid fun j hj => hP.out.words j hj) (HT.out.ext k0)).mono ?_
 rintro ee V1 (⟨h, _⟩ | ⟨_, h, _⟩ | ⟨_, _, A1, m1, c1, rfl, hm1, hx1, k1⟩)
 ·exact absurd hok.out h
 ·exact absurd ⟨by omega, by omega⟩ h
 rw [Int.toNat_natCast] at hx1
 have HY := Lib.hid hx1
 replace x0 := cE k1 x0
 replace x1 := cE k1 x1
 replace x2 := cE k1 x2
 replace x3 := cE k1 x3
 replace x4 := cE k1 x4
 replace xp := cE k1 xp
 replace k0 := k0.trans k1
 have HG := Lib.hid (HG.out.ext k1)
 clear k1 hx1
 go_wp2_with fail
 refine (zkc r n k G (n : Int) Wd T Lq cq ad q As cs F V1 hk (by omega) (hP.out.fx.ext k0) (Lib.hid fun j hj => hP.out.words j hj) HRC.out (HT.out.ext k0) HG.out hF (by omega) (by omega)).mono ?_
 rintro ee V2 ⟨p, g, HPP, rfl, hgV, hwk, k2⟩
 have hgw : w.heap.size ≤ g := Nat.le_trans k0.size hgV
 have hDg : D ≠ g := by
  have := World.block_lt_of_cell? _ _ x0
  simp at this
  omega
 have hgD : g ≠ D := fun e => hDg e.symm
 replace x0 := cE k2 x0
 replace x1 := cE k2 x1
 replace x2 := cE k2 x2
 replace x3 := cE k2 x3
 replace x4 := cE k2 x4
 replace k0 := k0.trans k2
 obtain ⟨b, hbd⟩ : ∃ b : Nat → Bool, b = fun i => cenB (jnF q p (fun j => F j i) 0 (k + 1)) (prodF q (k + 1)) := ⟨_, rfl⟩
 obtain ⟨X, hXd⟩ : ∃ X : Nat → Nat, X = fun i => cenN (jnF q p (fun j => F j i) 0 (k + 1)) (prodF q (k + 1)) := ⟨_, rfl⟩
 rw [← hbd, ← hXd] at hwk
 obtain ⟨z, hzd⟩ : ∃ z : Nat → Int, z = fun i => nearQ T (prodF q (k + 1)) (b i) (X i) := ⟨_, rfl⟩
 have HXB := Lib.hid (show ∀ i, X i < W64 ^ 25 from fun i => by
  have h1 := zp0 HRC.out
  have h2 := jn_lt (p := p) (r := fun j => F j i) (k + 1) (fun j hj => ⟨(zm6 HRC.out j hj).1, (HPP.out j hj).1⟩)
  have h3 := z0c (jnF q p (fun j => F j i) 0 (k + 1)) (prodF q (k + 1))
  rw [hXd]
  show cenN (jnF q p (fun j => F j i) 0 (k + 1)) (prodF q (k + 1)) < _
  exact zrb h1 h2 h3)
 have HZ := Lib.hid (show ∀ i, z i = toldZ T (k + 1) q p F i from fun i => by rw [hzd, hbd, hXd]; rfl)
 have HZD := Lib.hid hzd
 obtain ⟨Y, hYd⟩ : ∃ Y, Y = prodF q (k + 1) := ⟨_, rfl⟩
 rw [← hYd] at HY HZD
 have HY0 := Lib.hid (show 0 < Y by rw [hYd]; exact HY0.out)
 clear hbd hXd hzd hYd xp
 go_wp2
 go_loopw [27] (fun iv wr => ∃ m : Nat, m ≤ n ∧ iv = .int .i64 (m : Int) ∧ WK wr g n n 1000 (fun i => if i < m then decide (z i < 0) else b i) (fun i => if i < m then (z i).natAbs else X i) ∧ OnB g V2 wr ∧ Ext w wr ∧ Ext V1 wr) (fun iv _ => n - (intOf iv).toNat)
 case atStart => exact ⟨0, by omega, rfl, hwk.same (fun i _ => by rw [if_neg (by omega)]) (fun i _ => by rw [if_neg (by omega)]), OnB.refl _ _, k0, k2⟩
 case round =>
  obtain ⟨m, hm, rfl, hwr, hob, kr, kv⟩ := hrel
  have y0 := zac hob x0 hDg
  have y1 := zac hob x1 hDg
  have y2 := zac hob x2 hDg
  have y3 := zac hob x3 hDg
  have y4 := zac hob x4 hDg
  clear hwk
  by_cases hlt : m < n
  ·obtain ⟨A4, m4, c4, b0, b1, hm4, hx4⟩ := hwr.at hlt (Nat.le_refl _)
   rw [if_neg (by omega)] at b0 hx4
   have HYr := Lib.hid (show NX wr A1 m1 c1 (nw Y) from NX.ext HY.out kv)
   have i0 : (0 : Int) ≤ (m : Int) := by omega
   have i1 : (m : Int) < (n : Int) := by omega
   have ka : Ext wr (wr.alloc (.cells #[.bool (b m), .slice A4 m4 c4] 144)) := (Ext.refl wr).alloc _
   have v0 : (wr.alloc (.cells #[.bool (b m), .slice A4 m4 c4] 144)).cell? ⟨wr.heap.size, 0, none⟩ = some (.bool (b m)) := by simp
   have v1 : (wr.alloc (.cells #[.bool (b m), .slice A4 m4 c4] 144)).cell? ⟨wr.heap.size, 1, none⟩ = some (.slice A4 m4 c4) := by simp
   have hm25 := zwm hx4 (HXB.out m)
   have hgX : g ≠ wr.heap.size := by have := (hwr.cells hlt).2.2; omega
   have HX4 := Lib.hid (NX.ext hx4 ka)
   have HY5 := Lib.hid (NX.ext HYr.out ka)
   have HWR := Lib.hid (hwr.ext ka)
   have HOB := Lib.hid hob
   have KR := Lib.hid (kr.trans ka)
   have KV := Lib.hid (kv.trans ka)
   replace y1 := cE ka y1
   obtain ⟨z1, hz1⟩ : ∃ z1, z1 = iv (b m) (X m) * (T : Int) := ⟨_, rfl⟩
   obtain ⟨z2, hz2⟩ : ∃ z2, z2 = nearZ (decide (z1 < 0)) z1.natAbs Y := ⟨_, rfl⟩
   have HZ1 := Lib.hid hz1
   have HZ2 := Lib.hid hz2
   have HZK := Lib.hid (show z m = z2 by rw [HZD.out]; show nearQ T Y (b m) (X m) = z2; unfold nearQ; rw [hz2, hz1])
   clear hz1 hz2 hx4 hwr hob kr kv
   go_upto_region 6 with fail
   obtain ⟨x11, hx11⟩ : ∃ x, x = wr.heap.size := ⟨_, rfl⟩
   rw [← hx11] at v0 v1 hgX
   simp only [← hx11]
   have HOA := Lib.hid (show OnB g V2 wr from HOB.out)
   generalize hWA : wr.alloc (.cells #[.bool (b m), .slice A4 m4 c4] 144) = WA at *
   have HKA := Lib.hid ka
   have kk : Ext WA WA := Ext.refl WA
   clear hWA ka hx11
   go_region_held3 (fun w' => w'.cell? ⟨D, 1, none⟩ = some (.int .u64 (T : Int)) ∧ w'.cell? ⟨x11, 0, none⟩ = some (.bool (b m)) ∧ w'.cell? ⟨x11, 1, none⟩ = some (.slice A4 m4 c4)) (go_keep)
    (first
     | (go_at_call 117; refine (of10 (x := T) (by omega)).mono ?_; rintro e5 w5 ⟨A5, n5, c5, rfl, hn5, h5, k5⟩; replace kk : Ext WA w5 := (by first | with_reducible exact Ext.trans kk k5 | with_reducible exact Ext.trans (Ext.drew kk) k5 | with_reducible exact Ext.trans (Ext.alloc kk _) k5 | with_reducible exact Ext.trans (Ext.drew (Ext.alloc kk _)) k5 | with_reducible exact Ext.trans (Ext.alloc (Ext.drew kk) _) k5); have d1 := cE kk y1; have dv0 := cE kk v0; have dv1 := cE kk v1)
     | (go_at_call 116; refine (zzi HZ1 (NX.ext HX4.out (by with_reducible repeat first | exact kk | apply Ext.alloc | apply Ext.drew)) (NX.ext h5 (by with_reducible repeat first | exact Ext.refl _ | apply Ext.alloc | apply Ext.drew)) (by omega) (by omega)).mono ?_; rintro e6 w6 ⟨A6, n6, c6, rfl, hn6, h6, k6⟩; replace kk : Ext WA w6 := (by first | with_reducible exact Ext.trans kk k6 | with_reducible exact Ext.trans (Ext.drew kk) k6 | with_reducible exact Ext.trans (Ext.alloc kk _) k6 | with_reducible exact Ext.trans (Ext.drew (Ext.alloc kk _)) k6 | with_reducible exact Ext.trans (Ext.alloc (Ext.drew kk) _) k6); have d1 := cE kk y1; have dv0 := cE kk v0; have dv1 := cE kk v1)
     | (go_at_call 115; refine (z1w HZ2 HY0.out (NX.ext h6 (by with_reducible repeat first | exact Ext.refl _ | apply Ext.alloc | apply Ext.drew)) (NX.ext HY5.out (by with_reducible repeat first | exact kk | apply Ext.alloc | apply Ext.drew)) (by omega) (by omega)).mono ?_; rintro e7 w7 ⟨A7, n7, c7, rfl, hn7, h7, k7⟩; replace kk : Ext WA w7 := (by first | with_reducible exact Ext.trans kk k7 | with_reducible exact Ext.trans (Ext.drew kk) k7 | with_reducible exact Ext.trans (Ext.alloc kk _) k7 | with_reducible exact Ext.trans (Ext.drew (Ext.alloc kk _)) k7 | with_reducible exact Ext.trans (Ext.alloc (Ext.drew kk) _) k7); have d1 := cE kk y1; have dv0 := cE kk v0; have dv1 := cE kk v1; have hw7 := HWR.out.ext kk; obtain ⟨A9, m9, c9, s0, s1, _, _⟩ := hw7.at hlt (Nat.le_refl _); obtain ⟨f0, f1, sg⟩ := hw7.cells hlt)
     | fail)
   all_goals
    have hn7' : n7 ≤ 1000 := by omega
    have hwo := WK.over (s := decide (z2 < 0)) (x := z2.natAbs) hw7 hlt hn7' h7
    have HWN := Lib.hid (hwo.same (b' := fun i => if i < m + 1 then decide (z i < 0) else b i) (X' := fun i => if i < m + 1 then (z i).natAbs else X i) (fun i hi => by
     by_cases e1 : i = m
     ·subst e1
      rw [if_pos rfl, if_pos (by omega), HZK.out]
     ·rw [if_neg e1]
      by_cases e2 : i < m
      ·rw [if_pos e2, if_pos (by omega)]
      ·rw [if_neg e2, if_neg (by omega)]) (fun i hi => by
     by_cases e1 : i = m
     ·subst e1
      rw [if_pos rfl, if_pos (by omega), HZK.out]
     ·rw [if_neg e1]
      by_cases e2 : i < m
      ·rw [if_pos e2, if_pos (by omega)]
      ·rw [if_neg e2, if_neg (by omega)]))
    have HON := Lib.hid (((HOB.out.trans (OnB.of (p := g) (HKA.out.trans kk))).set (m * 2) (.bool (decide (z2 < 0)))).set (m * 2 + 1) (.slice A7 n7 c7))
    have HKN := Lib.hid (((KR.out.trans kk).set (p := ⟨g, m * 2, none⟩) hgw (.bool (decide (z2 < 0)))).set (p := ⟨g, m * 2 + 1, none⟩) hgw (.slice A7 n7 c7))
    have HVN := Lib.hid (((KV.out.trans kk).set (p := ⟨g, m * 2, none⟩) hgV (.bool (decide (z2 < 0)))).set (p := ⟨g, m * 2 + 1, none⟩) hgV (.slice A7 n7 c7))
    clear hwo hw7
    (go_wp2; exact ⟨⟨m + 1, by omega, by go_num, HWN.out, HON.out, HKN.out, HVN.out⟩, by simp [intOf]; omega⟩)
  ·obtain rfl : m = n := by omega
   have HWE := Lib.hid (hwr.same (b' := fun i => decide (z i < 0)) (X' := fun i => (z i).natAbs) (fun i hi => by rw [if_pos hi]) (fun i hi => by rw [if_pos hi]))
   have KR := Lib.hid kr
   have ka : Ext wr (wr.alloc (.cells #[.int .u64 (T : Int)] 26)) := (Ext.refl wr).alloc _
   have HTX := Lib.hid (show FX (wr.alloc (.cells #[.int .u64 (T : Int)] 26)) (some ⟨wr.heap.size, 0, none⟩) 1 1 (fun _ => T) from ⟨Nat.le_refl _, fun _ => ⟨_, rfl, fun j hj => by obtain rfl : j = 0 := (by omega); rw [Addr.add_lit, Nat.zero_add]; exact zam _ _ _⟩⟩)
   have HWE := Lib.hid (HWE.out.ext ka)
   have KA := Lib.hid (KR.out.trans ka)
   clear hwr hob kr kv ka
   go_wp2_with fail
   generalize wr.alloc (.cells #[.int .u64 (T : Int)] 26) = WA at *
   generalize wr.heap.size = xt at *
   refine (zfd g m 1000 1 1 (fun i => decide (z i < 0)) (fun i => (z i).natAbs) (some ⟨xt, 0, none⟩) (fun _ => T) WA HWE.out (by omega) (by omega) (by omega) HTX.out (Lib.hid fun j hj => (show T < 18446744073709551616 by omega)) (HT.out.ext KA.out) hRT.out).mono ?_
   rintro ee V5 ⟨G5, A5, F5, rfl, hpm, hF5, k5⟩
   have hl0 := hpm.row.cell (i := 0) (by omega)
   have HFX := Lib.hid (hpm.lists 0 (by omega))
   have HF5 := Lib.hid (show ∀ i, i < m → F5 0 i = resF (decide (toldZ T (k + 1) q p F i < 0)) (toldZ T (k + 1) q p F i).natAbs T from fun i hi => by rw [hF5.out 0 (by omega) i hi, nv_nw, HZ.out])
   have KE := Lib.hid (KA.out.trans k5)
   have kb : Ext V5 (V5.alloc (.cells #[.slice (some ⟨G5, 0, none⟩) 1 1] 56)) := (Ext.refl V5).alloc _
   have p0 : (V5.alloc (.cells #[.slice (some ⟨G5, 0, none⟩) 1 1] 56)).cell? ⟨V5.heap.size, 0, none⟩ = some (.slice (some ⟨G5, 0, none⟩) 1 1) := zam _ _ _
   replace hl0 := cE kb hl0
   have HFX := Lib.hid (HFX.out.ext kb)
   have KE := Lib.hid (KE.out.trans kb)
   clear hpm k5 kb hF5
   go_wp2
   go_ret
   exact ⟨p, _, _, F5 0, HPP, rfl, HFX.out, HF5, KE.out⟩
end Go.Proofs.YtopbibfpjgjalaaGreatDoor
