import Derived.Test.YtjikdbcjabopnaaGreatDoorJ33
import Derived.Test.YtjikdbcjabopnaaGreatDoorJ37
import Derived.Test.YtjikdbcjabopnaaGreatDoorJ25
import Derived.Test.YtjikdbcjabopnaaGreatDoorJ34
import Derived.Deep.RegionHeld3
import Derived.Deep.DeepCutAuto
import Derived.Test.YtjikdbcjabopnaaGreatDoorJ31
namespace Go.Proofs.YtjikdbcjabopnaaGreatDoor
open Go.RowKit
set_option linter.unusedVariables false
set_option maxRecDepth 100000
theorem sch_at (w : World) (a0 a1 a2 a3 a4 : Value) (t : TypeId) : (w.alloc (.cells #[a0, a1, a2, a3, a4] t)).cell? ⟨w.heap.size, 0, none⟩ = some a0 ∧ (w.alloc (.cells #[a0, a1, a2, a3, a4] t)).cell? ⟨w.heap.size, 1, none⟩ = some a1 ∧ (w.alloc (.cells #[a0, a1, a2, a3, a4] t)).cell? ⟨w.heap.size, 2, none⟩ = some a2 ∧ (w.alloc (.cells #[a0, a1, a2, a3, a4] t)).cell? ⟨w.heap.size, 3, none⟩ = some a3 ∧ (w.alloc (.cells #[a0, a1, a2, a3, a4] t)).cell? ⟨w.heap.size, 4, none⟩ = some a4 := ⟨by simp, by simp, by simp, by simp, by simp⟩
theorem QP.tail {w : World} {ad : Addr} {n c : Nat} {Aj : Nat → Option Addr} {Lj cj : Nat → Nat} {Bs : Nat → Nat → Option Addr} {ns cs : Nat → Nat → Nat} {f : Nat → Nat → Nat → Nat} (h : QP w (some ad) (n + 1) c Aj Lj cj Bs ns cs f) : QP w (some (ad.add 1)) n (c - 1) (fun k => Aj (k + 1)) (fun k => Lj (k + 1)) (fun k => cj (k + 1)) (fun k => Bs (k + 1)) (fun k => ns (k + 1)) (fun k => cs (k + 1)) (fun k => f (k + 1)) := by
 refine ⟨⟨by have := h.qx.room; omega, fun h0 => ?_⟩, fun j hj => h.els (j + 1) (by omega)⟩
 obtain ⟨ad', e, hc⟩ := h.qx.cells (by omega)
 injection e with e
 subst e
 refine ⟨_, rfl, fun j hj => ?_⟩
 have h1 := hc (j + 1) (by omega)
 have e2 : (ad.add 1).add j = ad.add (j + 1) := by
  rw [Addr.add_add, Nat.add_comm 1 j]
 rw [e2]
 exact h1
theorem QP.tail1 {w : World} {ad : Addr} {n c : Nat} {Aj : Nat → Option Addr} {Lj cj : Nat → Nat} {Bs : Nat → Nat → Option Addr} {ns cs : Nat → Nat → Nat} {f : Nat → Nat → Nat → Nat} (h : QP w (some ad) n c Aj Lj cj Bs ns cs f) (hn : 1 ≤ n) : QP w (some (ad.add 1)) (n - 1) (c - 1) (fun k => Aj (k + 1)) (fun k => Lj (k + 1)) (fun k => cj (k + 1)) (fun k => Bs (k + 1)) (fun k => ns (k + 1)) (fun k => cs (k + 1)) (fun k => f (k + 1)) := by
 obtain ⟨n', rfl⟩ : ∃ n', n = n' + 1 := ⟨n - 1, by omega⟩
 exact h.tail
def AreP (n M : Nat) (q : Nat → Nat) (m : Nat) (Lj : Nat → Nat) (ns : Nat → Nat → Nat) (f : Nat → Nat → Nat → Nat) (lv : Int) : Prop := ∀ k, k < m → El n M q (Lj k) (ns k) (f k) ∧ (Lj k : Int) - 1 = lv
set_option maxHeartbeats 4000000 in
theorem areOf_any (r n M m d : Nat) (lv : Int) (N Wd : Int) (T Lq cq : Nat) (Aq : Option Addr) (B : Option Addr) (q pp : Nat → Nat) (a e : Nat → Nat → Nat) (Aj : Nat → Option Addr) (Lj cj : Nat → Nat) (Bs : Nat → Nat → Option Addr) (ns cs : Nat → Nat → Nat) (f : Nat → Nat → Nat → Nat) (w : World) (hR : Rg w r n M q pp a e) (hQ : QP w B m d Aj Lj cj Bs ns cs f) (hm : m ≤ 100) (l0 : -9223372036854775808 ≤ lv) (l1 : lv < 9223372036854775808) :
    Calls Tryz.prog 248 #[.agg #[.int .i64 N, .int .u64 (T : Int), .slice Aq Lq cq, .int .i64 Wd, .pointer (some ⟨r, 0, none⟩)], .int .i64 lv, .slice B m d] w (TellsXU w (AreP n M q m Lj ns f lv)) := by
 have HR := Lib.hid hR
 have HQ := Lib.hid hQ
 clear hR hQ
 have k0 : Ext w (w.alloc (.cells #[.int .i64 N, .int .u64 (T : Int), .slice Aq Lq cq, .int .i64 Wd, .pointer (some ⟨r, 0, none⟩)] 239)) := (Ext.refl w).alloc _
 obtain ⟨_, _, _, _, x4⟩ := sch_at w (.int .i64 N) (.int .u64 (T : Int)) (.slice Aq Lq cq) (.int .i64 Wd) (.pointer (some ⟨r, 0, none⟩)) 239
 go_enter Tryz.func248, Tryz.ntmps248
 go_wp2
 generalize (w.alloc (.cells #[.int .i64 N, .int .u64 (T : Int), .slice Aq Lq cq, .int .i64 Wd, .pointer (some ⟨r, 0, none⟩)] 239)) = V at *
 obtain ⟨D, hD⟩ : ∃ D, D = w.heap.size := ⟨_, rfl⟩
 rw [← hD] at x4
 simp only [← hD]
 clear hD
 go_loopw [13] (fun iv wr => ∃ k : Nat, k ≤ m ∧ iv = .int .i64 (k : Int) ∧ Hid (AreP n M q k Lj ns f lv) ∧ Ext V wr) (fun iv _ => m - (intOf iv).toNat)
 case atStart => exact ⟨0, by omega, rfl, Lib.hid fun j hj => absurd hj (by omega), Ext.refl V⟩
 case round =>
  obtain ⟨k, hk, rfl, HT, kr⟩ := hrel
  by_cases hlt : k < m
  ·obtain ⟨ad, rfl, hc⟩ := (HQ.out.qx.ext (k0.trans kr)).cells (by omega)
   have cx := hc k hlt
   clear hc
   have i0 : (0 : Int) ≤ (k : Int) := by omega
   have i1 : (k : Int) < (m : Int) := by omega
   have ka : Ext wr (wr.alloc (.cells #[.slice (Aj k) (Lj k) (cj k)] 73)) := (Ext.refl wr).alloc _
   have y4 := cell_ext (kr.trans ka) x4
   have ca : (wr.alloc (.cells #[.slice (Aj k) (Lj k) (cj k)] 73)).cell? ⟨wr.heap.size, 0, none⟩ = some (.slice (Aj k) (Lj k) (cj k)) := one_at _ _ _
   have HE := Lib.hid ((HQ.out.els k hlt).ext ((k0.trans kr).trans ka))
   have HRr := Lib.hid (HR.out.ext ((k0.trans kr).trans ka))
   have KR := Lib.hid (kr.trans ka)
   have HST := Lib.hid (show El n M q (Lj k) (ns k) (f k) → (Lj k : Int) - 1 = lv → AreP n M q (k + 1) Lj ns f lv from fun h1 h2 j hj => by
    rcases Nat.lt_or_ge j k with g | g
    ·exact HT.out j g
    ·obtain rfl : j = k := by omega
     exact ⟨h1, h2⟩)
   have HN1 := Lib.hid (show ¬ El n M q (Lj k) (ns k) (f k) → ¬ AreP n M q m Lj ns f lv from fun h1 h2 => h1 (h2 k hlt).1)
   have HN2 := Lib.hid (show (Lj k : Int) - 1 ≠ lv → ¬ AreP n M q m Lj ns f lv from fun h1 h2 => h1 (h2 k hlt).2)
   clear kr ka
   go_wp2_with fail
   generalize wr.alloc (.cells #[.slice (Aj k) (Lj k) (cj k)] 73) = V1 at *
   refine (Level_any r n M q pp a e (Aj k) (Lj k) (cj k) (Bs k) (ns k) (cs k) (f k) V1 HRr.out (Lib.hid HE.out)).mono ?_
   rintro ee V2 ⟨(⟨h, rfl⟩ | ⟨h, rfl⟩), k2⟩
   ·have HL := Lib.hid h
    have hLb := HE.out.2.1
    have hL0 := h.1
    clear h
    by_cases hv : (Lj k : Int) - 1 = lv
    ·have HV := Lib.hid hv
     have K2 := Lib.hid (KR.out.trans k2)
     clear k2
     have e1 : ((Lj k : Int) - 1 != lv) = false := by rw [hv]; simp
     have e2 : ((Lj k : Int) - 1 == lv) = true := by rw [hv]; simp
     clear hv
     generalize (Lj k : Int) - 1 = z at *
     go_wp2
     exact ⟨⟨k + 1, by omega, by go_num, Lib.hid (HST.out HL.out HV.out), K2.out⟩, by simp [intOf]; omega⟩
    ·have HV := Lib.hid hv
     have K2 := Lib.hid (k0.trans (KR.out.trans k2))
     clear k2
     have e1 : ((Lj k : Int) - 1 != lv) = true := by simpa using hv
     have e2 : ((Lj k : Int) - 1 == lv) = false := by simpa using hv
     clear hv
     generalize (Lj k : Int) - 1 = z at *
     go_wp2
     go_ret
     exact ⟨.inr ⟨HN2.out HV.out, rfl⟩, K2.out⟩
   ·have HL := Lib.hid h
    have K2 := Lib.hid (k0.trans (KR.out.trans k2))
    clear h k2
    go_wp2
    go_ret
    exact ⟨.inr ⟨HN1.out HL.out, rfl⟩, K2.out⟩
  ·obtain rfl : k = m := by omega
   have K2 := Lib.hid (k0.trans kr)
   clear kr
   go_wp2
   go_ret
   exact ⟨.inl ⟨HT.out, rfl⟩, K2.out⟩
theorem Level_yes (r n M : Nat) (q p : Nat → Nat) (a e : Nat → Nat → Nat) (A : Option Addr) (L c : Nat) (As : Nat → Option Addr) (ns cs : Nat → Nat) (f : Nat → Nat → Nat) (w : World) (hR : Rg w r n M q p a e) (hP : Hid (PB w A L c As ns cs f)) (hE : El n M q L ns f) :
    Calls Tryz.prog 142 #[.pointer (some ⟨r, 0, none⟩), .agg #[.slice A L c]] w fun ee w' => ee = .returned (.tuple #[.int .i64 ((L : Int) - 1), .int .i64 0]) ∧ Ext w w' :=
 (Level_any r n M q p a e A L c As ns cs f w hR hP).mono fun ee w' h => by
  obtain ⟨(⟨_, h1⟩ | ⟨h1, _⟩), k⟩ := h
  ·exact ⟨h1, k⟩
  ·exact absurd hE h1
theorem TellsXU.yes {w w' : World} {P : Prop} {ee : Ending} (h : TellsXU w P ee w') (hp : P) : ee = .returned (.bool true) ∧ Ext w w' := by
 obtain ⟨(⟨_, h1⟩ | ⟨h1, _⟩), k⟩ := h
 ·exact ⟨h1, k⟩
 ·exact absurd hp h1
theorem TellsXI.yes {w w' : World} {P : Prop} {ee : Ending} (h : TellsXI w P ee w') (hp : P) : ee = .returned (.bool true) ∧ Ext w w' := by
 obtain ⟨(⟨_, h1⟩ | ⟨h1, _⟩), k⟩ := h
 ·exact ⟨h1, k⟩
 ·exact absurd hp h1
set_option maxHeartbeats 4000000 in
theorem level_yes (m d L n M r : Nat) (N Wd : Int) (T Lq cq : Nat) (Aq : Option Addr) (B : Option Addr) (q pp : Nat → Nat) (a e : Nat → Nat → Nat) (Aj : Nat → Option Addr) (Lj cj : Nat → Nat) (Bs : Nat → Nat → Option Addr) (ns cs : Nat → Nat → Nat) (f : Nat → Nat → Nat → Nat) (w : World) (hR : Rg w r n M q pp a e) (hQ : QP w B m d Aj Lj cj Bs ns cs f) (hm2 : 2 ≤ m) (hm : m ≤ 3) (hA : Hid (AreP n M q m Lj ns f ((L : Int) - 1))) :
    Calls Tryz.prog 187 #[.agg #[.int .i64 N, .int .u64 (T : Int), .slice Aq Lq cq, .int .i64 Wd, .pointer (some ⟨r, 0, none⟩)], .agg #[.slice B m d]] w fun ee w' => ee = .returned (.tuple #[.int .i64 ((L : Int) - 1), .int .i64 0]) ∧ Ext w w' := by
 obtain ⟨ad, rfl, hc⟩ := hQ.qx.cells (by omega)
 have hd := hQ.qx.room
 have c0 := hc 0 (by omega)
 have c0' : w.cell? ad = some (.slice (Aj 0) (Lj 0) (cj 0)) := by simpa [Addr.add] using c0
 have HQ := Lib.hid hQ
 have HTL := Lib.hid (hQ.tail1 (by omega))
 have HR := Lib.hid hR
 have hlen := (hQ.els 0 (by omega)).2.1
 have h00 := hA.out 0 (by omega)
 have hLL : Lj 0 = L := by have := h00.2; omega
 have hL0 := h00.1.1
 rw [hLL] at hL0 hlen
 have HA1 := Lib.hid (show AreP n M q (m - 1) (fun k => Lj (k + 1)) (fun k => ns (k + 1)) (fun k => f (k + 1)) ((L : Int) - 1) from fun k hk => hA.out (k + 1) (by omega))
 have HE0 := Lib.hid h00.1
 rw [hLL] at HE0
 have HLL := Lib.hid hLL
 clear hc hR hQ h00 hLL c0
 have k0 : Ext w ((w.alloc (.cells #[.int .i64 N, .int .u64 (T : Int), .slice Aq Lq cq, .int .i64 Wd, .pointer (some ⟨r, 0, none⟩)] 239)).alloc (.cells #[.slice (some ad) m d] 28)) := ((Ext.refl w).alloc _).alloc _
 have ka : Ext (w.alloc (.cells #[.int .i64 N, .int .u64 (T : Int), .slice Aq Lq cq, .int .i64 Wd, .pointer (some ⟨r, 0, none⟩)] 239)) ((w.alloc (.cells #[.int .i64 N, .int .u64 (T : Int), .slice Aq Lq cq, .int .i64 Wd, .pointer (some ⟨r, 0, none⟩)] 239)).alloc (.cells #[.slice (some ad) m d] 28)) := (Ext.refl _).alloc _
 obtain ⟨x0, x1, x2, x3, x4⟩ := sch_at w (.int .i64 N) (.int .u64 (T : Int)) (.slice Aq Lq cq) (.int .i64 Wd) (.pointer (some ⟨r, 0, none⟩)) 239
 replace x0 := cell_ext ka x0
 replace x1 := cell_ext ka x1
 replace x2 := cell_ext ka x2
 replace x3 := cell_ext ka x3
 replace x4 := cell_ext ka x4
 have xb : ((w.alloc (.cells #[.int .i64 N, .int .u64 (T : Int), .slice Aq Lq cq, .int .i64 Wd, .pointer (some ⟨r, 0, none⟩)] 239)).alloc (.cells #[.slice (some ad) m d] 28)).cell? ⟨w.heap.size + 1, 0, none⟩ = some (.slice (some ad) m d) := by
  have := one_at (w.alloc (.cells #[.int .i64 N, .int .u64 (T : Int), .slice Aq Lq cq, .int .i64 Wd, .pointer (some ⟨r, 0, none⟩)] 239)) (.slice (some ad) m d) 28
  rwa [show (w.alloc (.cells #[.int .i64 N, .int .u64 (T : Int), .slice Aq Lq cq, .int .i64 Wd, .pointer (some ⟨r, 0, none⟩)] 239)).heap.size = w.heap.size + 1 by simp] at this
 replace c0' := cell_ext k0 c0'
 clear ka
 have h2 : ¬ ((m : Int) < 2) := by omega
 have h3 : ¬ ((m : Int) > 3) := by omega
 have i0 : (0 : Int) < (m : Int) := by omega
 have i1 : (1 : Int) ≤ (m : Int) := by omega
 have i0n : 0 < m := by omega
 have i1n : 1 ≤ m := by omega
 go_enter Tryz.func187, Tryz.ntmps187
 go_upto_region 3 with fail
 generalize ((w.alloc (.cells #[.int .i64 N, .int .u64 (T : Int), .slice Aq Lq cq, .int .i64 Wd, .pointer (some ⟨r, 0, none⟩)] 239)).alloc (.cells #[.slice (some ad) m d] 28)) = V at *
 obtain ⟨D, hD⟩ : ∃ D, D = w.heap.size := ⟨_, rfl⟩
 obtain ⟨E, hE⟩ : ∃ E, E = w.heap.size + 1 := ⟨_, rfl⟩
 rw [← hD] at x0 x1 x2 x3 x4
 rw [← hE] at xb
 simp only [← hE]
 simp only [← hD]
 clear hD hE
 go_cut [6, 7] (fun s6 s7 wx => s6 = .int .i64 ((L : Int) - 1) ∧ s7 = .int .i64 0 ∧ Ext V wx)
 case first =>
  have kk : Ext V V := Ext.refl V
  have HLV := Lib.hid (fun w' (h : Ext V w') => Level_yes r n M q pp a e (Aj 0) (Lj 0) (cj 0) (Bs 0) (ns 0) (cs 0) (f 0) w' (HR.out.ext (k0.trans h)) (Lib.hid ((HQ.out.els 0 (by omega)).ext (k0.trans h))) (by rw [HLL.out]; exact HE0.out))
  go_region_held3 (fun w' => w'.cell? ⟨D, 4, none⟩ = some (.pointer (some ⟨r, 0, none⟩)) ∧ w'.cell? ⟨E, 0, none⟩ = some (.slice (some ad) m d) ∧ w'.cell? ad = some (.slice (Aj 0) (Lj 0) (cj 0))) (go_keep)
   (first
    | (go_at_call 142; refine (HLV.out _ (by with_reducible repeat first | exact kk | apply Ext.alloc | apply Ext.drew)).mono ?_; rintro e5 w5 ⟨rfl, k5⟩; have hold := kk.size; replace kk : Ext V w5 := (by first | with_reducible exact Ext.trans kk k5 | with_reducible exact Ext.trans (Ext.drew kk) k5 | with_reducible exact Ext.trans (Ext.alloc kk _) k5 | with_reducible exact Ext.trans (Ext.drew (Ext.alloc kk _)) k5 | with_reducible exact Ext.trans (Ext.alloc (Ext.drew kk) _) k5); have d4 := cell_ext kk x4; have dE := cell_ext kk xb; have d0 := cell_ext kk c0')
    | fail)
  all_goals
   (go_wp2_with fail; go_meet; exact ⟨by rw [HLL.out], rfl, kk⟩)
 case rest =>
  obtain ⟨rfl, rfl, kk0⟩ := hcut
  rename World => V2
  have y0 := cell_ext kk0 x0
  have y1 := cell_ext kk0 x1
  have y2 := cell_ext kk0 x2
  have y3 := cell_ext kk0 x3
  have y4 := cell_ext kk0 x4
  have yb := cell_ext kk0 xb
  have kk : Ext V2 V2 := Ext.refl V2
  have HAR := Lib.hid (fun w' (h : Ext V2 w') => areOf_any r n M (m - 1) (d - 1) ((L : Int) - 1) N Wd T Lq cq Aq (some (ad.add 1)) q pp a e _ _ _ _ _ _ _ w' (HR.out.ext (k0.trans (kk0.trans h))) (HTL.out.ext (k0.trans (kk0.trans h))) (by omega) (by omega) (by omega))
  have K0 := Lib.hid (k0.trans kk0)
  clear x0 x1 x2 x3 x4 xb c0' kk0 k0
  have hd1 : d ≠ 1 := by omega
  go_wp2_with fail
  go_region_held3 (fun w' => w'.cell? ⟨D, 0, none⟩ = some (.int .i64 N) ∧ w'.cell? ⟨D, 1, none⟩ = some (.int .u64 (T : Int)) ∧ w'.cell? ⟨D, 2, none⟩ = some (.slice Aq Lq cq) ∧ w'.cell? ⟨D, 3, none⟩ = some (.int .i64 Wd) ∧ w'.cell? ⟨D, 4, none⟩ = some (.pointer (some ⟨r, 0, none⟩)) ∧ w'.cell? ⟨E, 0, none⟩ = some (.slice (some ad) m d)) (go_keep)
   (first
    | (go_at_call 248; refine (HAR.out _ (by with_reducible repeat first | exact kk | apply Ext.alloc | apply Ext.drew)).mono ?_; rintro e5 w5 h5; obtain ⟨rfl, k5⟩ := h5.yes HA1.out; have hold := kk.size; replace kk : Ext V2 w5 := (by first | with_reducible exact Ext.trans kk k5 | with_reducible exact Ext.trans (Ext.drew kk) k5 | with_reducible exact Ext.trans (Ext.alloc kk _) k5 | with_reducible exact Ext.trans (Ext.drew (Ext.alloc kk _)) k5 | with_reducible exact Ext.trans (Ext.alloc (Ext.drew kk) _) k5); have d0 := cell_ext kk y0; have d1 := cell_ext kk y1; have d2 := cell_ext kk y2; have d3 := cell_ext kk y3; have d4 := cell_ext kk y4; have dE := cell_ext kk yb)
    | fail)
  all_goals
   (go_wp2; go_ret2; exact ⟨rfl, K0.out.trans kk⟩)
set_option linter.unusedSimpArgs false
theorem levelN_any (B : Option Addr) (m d : Nat) (w : World) : Calls Tryz.prog 57 #[.pointer none, .agg #[.slice B m d]] w fun e w' => e = .returned (.tuple #[.int .i64 0, .int .i64 1]) ∧ Ext w w' := by
 go_enter Tryz.func57, Tryz.ntmps57
 go_wp2
 go_ret2
 exact ⟨rfl, (Ext.refl w).alloc _⟩
theorem levelsN_any (B1 B2 : Option Addr) (m1 d1 m2 d2 : Nat) (w : World) : Calls Tryz.prog 55 #[.pointer none, .agg #[.slice B1 m1 d1], .agg #[.slice B2 m2 d2]] w fun e w' => e = .returned (.tuple #[.int .i64 0, .int .i64 0, .int .i64 1]) ∧ Ext w w' := by
 have k0 : Ext w ((w.alloc (.cells #[.slice B1 m1 d1] 28)).alloc (.cells #[.slice B2 m2 d2] 28)) := ((Ext.refl w).alloc _).alloc _
 have x0 := cell_ext ((Ext.refl _).alloc (.cells #[.slice B2 m2 d2] 28)) (one_at w (.slice B1 m1 d1) 28)
 have x1 := one_at (w.alloc (.cells #[.slice B1 m1 d1] 28)) (.slice B2 m2 d2) 28
 go_enter Tryz.func55, Tryz.ntmps55
 go_wp2_with fail
 refine (levelN_any _ _ _ _).mono ?_
 rintro e w1 ⟨rfl, k1⟩
 have K := Lib.hid (k0.trans k1)
 clear k0 k1 x0 x1
 go_wp2
 refine bodyPost_ret (v := .tuple #[.int .i64 0, .int .i64 0, .int .i64 1]) (by simp [results, Tryz.results55, go_sem]) rfl ?_
 exact ⟨by first | rfl | simp, K.out⟩
set_option maxHeartbeats 1000000 in
theorem addN_any (B0 : Option Addr) (m0 d0 : Nat) (B1 : Option Addr) (m1 d1 : Nat) (w : World) : Calls Tryz.prog 13 #[.pointer none, .agg #[.slice B0 m0 d0], .agg #[.slice B1 m1 d1]] w fun e w' => e = .returned (.tuple #[.agg #[.slice none 0 0], .int .i64 1]) ∧ Ext w w' := by
 have k0 : Ext w (((w.alloc (.cells #[.slice B0 m0 d0] 28)).alloc (.cells #[.slice B1 m1 d1] 28)).alloc (.cells #[.slice none 0 0] 28)) := ((((Ext.refl w).alloc _).alloc _).alloc _)
 have x0 := cell_ext (show Ext (w.alloc (.cells #[.slice B0 m0 d0] 28)) (((w.alloc (.cells #[.slice B0 m0 d0] 28)).alloc (.cells #[.slice B1 m1 d1] 28)).alloc (.cells #[.slice none 0 0] 28)) from (((Ext.refl _).alloc _).alloc _)) (one_at w (.slice B0 m0 d0) 28)
 have x1 := cell_ext (show Ext ((w.alloc (.cells #[.slice B0 m0 d0] 28)).alloc (.cells #[.slice B1 m1 d1] 28)) (((w.alloc (.cells #[.slice B0 m0 d0] 28)).alloc (.cells #[.slice B1 m1 d1] 28)).alloc (.cells #[.slice none 0 0] 28)) from ((Ext.refl _).alloc _)) (one_at (w.alloc (.cells #[.slice B0 m0 d0] 28)) (.slice B1 m1 d1) 28)
 rw [show (w.alloc (.cells #[.slice B0 m0 d0] 28)).heap.size = w.heap.size + 1 by simp] at x1
 have hr := heap_alloc_new ((w.alloc (.cells #[.slice B0 m0 d0] 28)).alloc (.cells #[.slice B1 m1 d1] 28)) (.cells #[.slice none 0 0] 28)
 rw [show ((w.alloc (.cells #[.slice B0 m0 d0] 28)).alloc (.cells #[.slice B1 m1 d1] 28)).heap.size = w.heap.size + 2 by simp] at hr
 go_enter Tryz.func13, Tryz.ntmps13
 go_wp2_with fail
 generalize (((w.alloc (.cells #[.slice B0 m0 d0] 28)).alloc (.cells #[.slice B1 m1 d1] 28)).alloc (.cells #[.slice none 0 0] 28)) = V at *
 refine (levelsN_any _ _ _ _ _ _ _).mono ?_
 rintro e w1 ⟨rfl, k1⟩
 have hrow := (k1.block (w.heap.size + 2) (Array.getElem?_eq_some_iff.1 hr).1).trans hr
 have z0 : w1.frozen? ⟨w.heap.size + 2, 0, none⟩ = false := by simp [World.frozen?, hrow]
 have c0 : w1.cell? ⟨w.heap.size + 2, 0, none⟩ = some (.slice none 0 0) := by rw [cell_of_row w1 _ 0 _ _ (0, 0) hrow]; rfl
 have K := Lib.hid (Ext.set (p := ⟨w.heap.size + 2, 0, none⟩) (k0.trans k1) (by show w.heap.size ≤ w.heap.size + 2; omega) (.slice none 0 0))
 clear k0 k1 hr hrow
 go_wp2
 refine bodyPost_ret (v := .tuple #[.agg #[.slice none 0 0], .int .i64 1]) (by simp [results, Tryz.results13, go_sem, c0]) rfl ?_
 exact ⟨rfl, K.out⟩
set_option maxHeartbeats 1000000 in
theorem addTextN_any (B0 : Option Addr) (m0 d0 : Nat) (B1 : Option Addr) (m1 d1 : Nat) (w : World) : Calls Tryz.prog 14 #[.pointer none, .agg #[.slice B0 m0 d0], .slice B1 m1 d1] w fun e w' => e = .returned (.tuple #[.agg #[.slice none 0 0], .int .i64 1]) ∧ Ext w w' := by
 have k0 : Ext w ((w.alloc (.cells #[.slice B0 m0 d0] 28)).alloc (.cells #[.slice none 0 0] 28)) := (((Ext.refl w).alloc _).alloc _)
 have x0 := cell_ext (show Ext (w.alloc (.cells #[.slice B0 m0 d0] 28)) ((w.alloc (.cells #[.slice B0 m0 d0] 28)).alloc (.cells #[.slice none 0 0] 28)) from ((Ext.refl _).alloc _)) (one_at w (.slice B0 m0 d0) 28)
 have hr := heap_alloc_new (w.alloc (.cells #[.slice B0 m0 d0] 28)) (.cells #[.slice none 0 0] 28)
 rw [show (w.alloc (.cells #[.slice B0 m0 d0] 28)).heap.size = w.heap.size + 1 by simp] at hr
 go_enter Tryz.func14, Tryz.ntmps14
 go_wp2_with fail
 generalize ((w.alloc (.cells #[.slice B0 m0 d0] 28)).alloc (.cells #[.slice none 0 0] 28)) = V at *
 refine (levelN_any _ _ _ _).mono ?_
 rintro e w1 ⟨rfl, k1⟩
 have hrow := (k1.block (w.heap.size + 1) (Array.getElem?_eq_some_iff.1 hr).1).trans hr
 have z0 : w1.frozen? ⟨w.heap.size + 1, 0, none⟩ = false := by simp [World.frozen?, hrow]
 have c0 : w1.cell? ⟨w.heap.size + 1, 0, none⟩ = some (.slice none 0 0) := by rw [cell_of_row w1 _ 0 _ _ (0, 0) hrow]; rfl
 have K := Lib.hid (Ext.set (p := ⟨w.heap.size + 1, 0, none⟩) (k0.trans k1) (by show w.heap.size ≤ w.heap.size + 1; omega) (.slice none 0 0))
 clear k0 k1 hr hrow
 go_wp2
 refine bodyPost_ret (v := .tuple #[.agg #[.slice none 0 0], .int .i64 1]) (by simp [results, Tryz.results14, go_sem, c0]) rfl ?_
 exact ⟨rfl, K.out⟩
set_option maxHeartbeats 1000000 in
theorem mulTextN_any (B0 : Option Addr) (m0 d0 : Nat) (B1 : Option Addr) (m1 d1 : Nat) (w : World) : Calls Tryz.prog 18 #[.pointer none, .agg #[.slice B0 m0 d0], .slice B1 m1 d1] w fun e w' => e = .returned (.tuple #[.agg #[.slice none 0 0], .int .i64 1]) ∧ Ext w w' := by
 have k0 : Ext w (((w.alloc (.cells #[.pointer none] 31)).alloc (.cells #[.slice B0 m0 d0] 28)).alloc (.cells #[.slice none 0 0] 28)) := ((((Ext.refl w).alloc _).alloc _).alloc _)
 have x0 := cell_ext (show Ext (w.alloc (.cells #[.pointer none] 31)) (((w.alloc (.cells #[.pointer none] 31)).alloc (.cells #[.slice B0 m0 d0] 28)).alloc (.cells #[.slice none 0 0] 28)) from (((Ext.refl _).alloc _).alloc _)) (one_at w (.pointer none) 31)
 have x1 := cell_ext (show Ext ((w.alloc (.cells #[.pointer none] 31)).alloc (.cells #[.slice B0 m0 d0] 28)) (((w.alloc (.cells #[.pointer none] 31)).alloc (.cells #[.slice B0 m0 d0] 28)).alloc (.cells #[.slice none 0 0] 28)) from ((Ext.refl _).alloc _)) (one_at (w.alloc (.cells #[.pointer none] 31)) (.slice B0 m0 d0) 28)
 rw [show (w.alloc (.cells #[.pointer none] 31)).heap.size = w.heap.size + 1 by simp] at x1
 have hr := heap_alloc_new ((w.alloc (.cells #[.pointer none] 31)).alloc (.cells #[.slice B0 m0 d0] 28)) (.cells #[.slice none 0 0] 28)
 rw [show ((w.alloc (.cells #[.pointer none] 31)).alloc (.cells #[.slice B0 m0 d0] 28)).heap.size = w.heap.size + 2 by simp] at hr
 go_enter Tryz.func18, Tryz.ntmps18
 go_wp2_with fail
 generalize (((w.alloc (.cells #[.pointer none] 31)).alloc (.cells #[.slice B0 m0 d0] 28)).alloc (.cells #[.slice none 0 0] 28)) = V at *
 refine (levelN_any _ _ _ _).mono ?_
 rintro e w1 ⟨rfl, k1⟩
 have hrow := (k1.block (w.heap.size + 2) (Array.getElem?_eq_some_iff.1 hr).1).trans hr
 have z0 : w1.frozen? ⟨w.heap.size + 2, 0, none⟩ = false := by simp [World.frozen?, hrow]
 have c0 : w1.cell? ⟨w.heap.size + 2, 0, none⟩ = some (.slice none 0 0) := by rw [cell_of_row w1 _ 0 _ _ (0, 0) hrow]; rfl
 have K := Lib.hid (Ext.set (p := ⟨w.heap.size + 2, 0, none⟩) (k0.trans k1) (by show w.heap.size ≤ w.heap.size + 2; omega) (.slice none 0 0))
 clear k0 k1 hr hrow
 go_wp2
 refine bodyPost_ret (v := .tuple #[.agg #[.slice none 0 0], .int .i64 1]) (by simp [results, Tryz.results18, go_sem, c0]) rfl ?_
 exact ⟨rfl, K.out⟩
set_option maxHeartbeats 1000000 in
theorem mulN_any (B0 : Option Addr) (m0 d0 : Nat) (B1 : Option Addr) (m1 d1 : Nat) (w : World) : Calls Tryz.prog 19 #[.pointer none, .agg #[.slice B0 m0 d0], .agg #[.slice B1 m1 d1]] w fun e w' => e = .returned (.tuple #[.agg #[.slice none 0 0], .int .i64 1]) ∧ Ext w w' := by
 have k0 : Ext w (((w.alloc (.cells #[.slice B0 m0 d0] 28)).alloc (.cells #[.slice B1 m1 d1] 28)).alloc (.cells #[.slice none 0 0] 28)) := ((((Ext.refl w).alloc _).alloc _).alloc _)
 have x0 := cell_ext (show Ext (w.alloc (.cells #[.slice B0 m0 d0] 28)) (((w.alloc (.cells #[.slice B0 m0 d0] 28)).alloc (.cells #[.slice B1 m1 d1] 28)).alloc (.cells #[.slice none 0 0] 28)) from (((Ext.refl _).alloc _).alloc _)) (one_at w (.slice B0 m0 d0) 28)
 have x1 := cell_ext (show Ext ((w.alloc (.cells #[.slice B0 m0 d0] 28)).alloc (.cells #[.slice B1 m1 d1] 28)) (((w.alloc (.cells #[.slice B0 m0 d0] 28)).alloc (.cells #[.slice B1 m1 d1] 28)).alloc (.cells #[.slice none 0 0] 28)) from ((Ext.refl _).alloc _)) (one_at (w.alloc (.cells #[.slice B0 m0 d0] 28)) (.slice B1 m1 d1) 28)
 rw [show (w.alloc (.cells #[.slice B0 m0 d0] 28)).heap.size = w.heap.size + 1 by simp] at x1
 have hr := heap_alloc_new ((w.alloc (.cells #[.slice B0 m0 d0] 28)).alloc (.cells #[.slice B1 m1 d1] 28)) (.cells #[.slice none 0 0] 28)
 rw [show ((w.alloc (.cells #[.slice B0 m0 d0] 28)).alloc (.cells #[.slice B1 m1 d1] 28)).heap.size = w.heap.size + 2 by simp] at hr
 go_enter Tryz.func19, Tryz.ntmps19
 go_wp2_with fail
 generalize (((w.alloc (.cells #[.slice B0 m0 d0] 28)).alloc (.cells #[.slice B1 m1 d1] 28)).alloc (.cells #[.slice none 0 0] 28)) = V at *
 refine (levelsN_any _ _ _ _ _ _ _).mono ?_
 rintro e w1 ⟨rfl, k1⟩
 have hrow := (k1.block (w.heap.size + 2) (Array.getElem?_eq_some_iff.1 hr).1).trans hr
 have z0 : w1.frozen? ⟨w.heap.size + 2, 0, none⟩ = false := by simp [World.frozen?, hrow]
 have c0 : w1.cell? ⟨w.heap.size + 2, 0, none⟩ = some (.slice none 0 0) := by rw [cell_of_row w1 _ 0 _ _ (0, 0) hrow]; rfl
 have K := Lib.hid (Ext.set (p := ⟨w.heap.size + 2, 0, none⟩) (k0.trans k1) (by show w.heap.size ≤ w.heap.size + 2; omega) (.slice none 0 0))
 clear k0 k1 hr hrow
 go_wp2
 refine bodyPost_ret (v := .tuple #[.agg #[.slice none 0 0], .int .i64 1]) (by simp [results, Tryz.results19, go_sem, c0]) rfl ?_
 exact ⟨rfl, K.out⟩
set_option maxHeartbeats 1000000 in
theorem relinN_any (B0 : Option Addr) (m0 d0 : Nat) (P1 P2 : Option Addr) (p1 e1 p2 e2 : Nat) (w : World) : Calls Tryz.prog 20 #[.pointer none, .agg #[.slice B0 m0 d0], .agg #[.slice P1 p1 e1, .slice P2 p2 e2]] w fun e w' => e = .returned (.tuple #[.agg #[.slice none 0 0], .int .i64 1]) ∧ Ext w w' := by
 have k0 : Ext w (((w.alloc (.cells #[.slice B0 m0 d0] 28)).alloc (.cells #[.slice P1 p1 e1, .slice P2 p2 e2] 45)).alloc (.cells #[.slice none 0 0] 28)) := ((((Ext.refl w).alloc _).alloc _).alloc _)
 have x0 := cell_ext (show Ext (w.alloc (.cells #[.slice B0 m0 d0] 28)) (((w.alloc (.cells #[.slice B0 m0 d0] 28)).alloc (.cells #[.slice P1 p1 e1, .slice P2 p2 e2] 45)).alloc (.cells #[.slice none 0 0] 28)) from (((Ext.refl _).alloc _).alloc _)) (one_at w (.slice B0 m0 d0) 28)
 have hr := heap_alloc_new ((w.alloc (.cells #[.slice B0 m0 d0] 28)).alloc (.cells #[.slice P1 p1 e1, .slice P2 p2 e2] 45)) (.cells #[.slice none 0 0] 28)
 rw [show ((w.alloc (.cells #[.slice B0 m0 d0] 28)).alloc (.cells #[.slice P1 p1 e1, .slice P2 p2 e2] 45)).heap.size = w.heap.size + 2 by simp] at hr
 go_enter Tryz.func20, Tryz.ntmps20
 go_wp2_with fail
 generalize (((w.alloc (.cells #[.slice B0 m0 d0] 28)).alloc (.cells #[.slice P1 p1 e1, .slice P2 p2 e2] 45)).alloc (.cells #[.slice none 0 0] 28)) = V at *
 refine (levelN_any _ _ _ _).mono ?_
 rintro e w1 ⟨rfl, k1⟩
 have hrow := (k1.block (w.heap.size + 2) (Array.getElem?_eq_some_iff.1 hr).1).trans hr
 have z0 : w1.frozen? ⟨w.heap.size + 2, 0, none⟩ = false := by simp [World.frozen?, hrow]
 have c0 : w1.cell? ⟨w.heap.size + 2, 0, none⟩ = some (.slice none 0 0) := by rw [cell_of_row w1 _ 0 _ _ (0, 0) hrow]; rfl
 have K := Lib.hid (Ext.set (p := ⟨w.heap.size + 2, 0, none⟩) (k0.trans k1) (by show w.heap.size ≤ w.heap.size + 2; omega) (.slice none 0 0))
 clear k0 k1 hr hrow
 go_wp2
 refine bodyPost_ret (v := .tuple #[.agg #[.slice none 0 0], .int .i64 1]) (by simp [results, Tryz.results20, go_sem, c0]) rfl ?_
 exact ⟨rfl, K.out⟩
set_option maxHeartbeats 1000000 in
theorem turnN_any (B0 : Option Addr) (m0 d0 : Nat) (s : Int) (P1 P2 : Option Addr) (p1 e1 p2 e2 : Nat) (w : World) : Calls Tryz.prog 21 #[.pointer none, .agg #[.slice B0 m0 d0], .int .i64 s, .agg #[.slice P1 p1 e1, .slice P2 p2 e2]] w fun e w' => e = .returned (.tuple #[.agg #[.slice none 0 0], .int .i64 1]) ∧ Ext w w' := by
 have k0 : Ext w ((((w.alloc (.cells #[.pointer none] 31)).alloc (.cells #[.slice B0 m0 d0] 28)).alloc (.cells #[.slice P1 p1 e1, .slice P2 p2 e2] 45)).alloc (.cells #[.slice none 0 0] 28)) := (((((Ext.refl w).alloc _).alloc _).alloc _).alloc _)
 have x0 := cell_ext (show Ext (w.alloc (.cells #[.pointer none] 31)) ((((w.alloc (.cells #[.pointer none] 31)).alloc (.cells #[.slice B0 m0 d0] 28)).alloc (.cells #[.slice P1 p1 e1, .slice P2 p2 e2] 45)).alloc (.cells #[.slice none 0 0] 28)) from ((((Ext.refl _).alloc _).alloc _).alloc _)) (one_at w (.pointer none) 31)
 have x1 := cell_ext (show Ext ((w.alloc (.cells #[.pointer none] 31)).alloc (.cells #[.slice B0 m0 d0] 28)) ((((w.alloc (.cells #[.pointer none] 31)).alloc (.cells #[.slice B0 m0 d0] 28)).alloc (.cells #[.slice P1 p1 e1, .slice P2 p2 e2] 45)).alloc (.cells #[.slice none 0 0] 28)) from (((Ext.refl _).alloc _).alloc _)) (one_at (w.alloc (.cells #[.pointer none] 31)) (.slice B0 m0 d0) 28)
 rw [show (w.alloc (.cells #[.pointer none] 31)).heap.size = w.heap.size + 1 by simp] at x1
 have hr := heap_alloc_new (((w.alloc (.cells #[.pointer none] 31)).alloc (.cells #[.slice B0 m0 d0] 28)).alloc (.cells #[.slice P1 p1 e1, .slice P2 p2 e2] 45)) (.cells #[.slice none 0 0] 28)
 rw [show (((w.alloc (.cells #[.pointer none] 31)).alloc (.cells #[.slice B0 m0 d0] 28)).alloc (.cells #[.slice P1 p1 e1, .slice P2 p2 e2] 45)).heap.size = w.heap.size + 3 by simp] at hr
 go_enter Tryz.func21, Tryz.ntmps21
 go_wp2_with fail
 generalize ((((w.alloc (.cells #[.pointer none] 31)).alloc (.cells #[.slice B0 m0 d0] 28)).alloc (.cells #[.slice P1 p1 e1, .slice P2 p2 e2] 45)).alloc (.cells #[.slice none 0 0] 28)) = V at *
 refine (levelN_any _ _ _ _).mono ?_
 rintro e w1 ⟨rfl, k1⟩
 have hrow := (k1.block (w.heap.size + 3) (Array.getElem?_eq_some_iff.1 hr).1).trans hr
 have z0 : w1.frozen? ⟨w.heap.size + 3, 0, none⟩ = false := by simp [World.frozen?, hrow]
 have c0 : w1.cell? ⟨w.heap.size + 3, 0, none⟩ = some (.slice none 0 0) := by rw [cell_of_row w1 _ 0 _ _ (0, 0) hrow]; rfl
 have K := Lib.hid (Ext.set (p := ⟨w.heap.size + 3, 0, none⟩) (k0.trans k1) (by show w.heap.size ≤ w.heap.size + 3; omega) (.slice none 0 0))
 clear k0 k1 hr hrow
 go_wp2
 refine bodyPost_ret (v := .tuple #[.agg #[.slice none 0 0], .int .i64 1]) (by simp [results, Tryz.results21, go_sem, c0]) rfl ?_
 exact ⟨rfl, K.out⟩
set_option maxHeartbeats 1000000 in
theorem lowerN_any (B0 : Option Addr) (m0 d0 : Nat) (w : World) : Calls Tryz.prog 22 #[.pointer none, .agg #[.slice B0 m0 d0]] w fun e w' => e = .returned (.tuple #[.agg #[.slice none 0 0], .int .i64 1]) ∧ Ext w w' := by
 have k0 : Ext w ((w.alloc (.cells #[.slice B0 m0 d0] 28)).alloc (.cells #[.slice none 0 0] 28)) := (((Ext.refl w).alloc _).alloc _)
 have x0 := cell_ext (show Ext (w.alloc (.cells #[.slice B0 m0 d0] 28)) ((w.alloc (.cells #[.slice B0 m0 d0] 28)).alloc (.cells #[.slice none 0 0] 28)) from ((Ext.refl _).alloc _)) (one_at w (.slice B0 m0 d0) 28)
 have hr := heap_alloc_new (w.alloc (.cells #[.slice B0 m0 d0] 28)) (.cells #[.slice none 0 0] 28)
 rw [show (w.alloc (.cells #[.slice B0 m0 d0] 28)).heap.size = w.heap.size + 1 by simp] at hr
 go_enter Tryz.func22, Tryz.ntmps22
 go_wp2_with fail
 generalize ((w.alloc (.cells #[.slice B0 m0 d0] 28)).alloc (.cells #[.slice none 0 0] 28)) = V at *
 refine (levelN_any _ _ _ _).mono ?_
 rintro e w1 ⟨rfl, k1⟩
 have hrow := (k1.block (w.heap.size + 1) (Array.getElem?_eq_some_iff.1 hr).1).trans hr
 have z0 : w1.frozen? ⟨w.heap.size + 1, 0, none⟩ = false := by simp [World.frozen?, hrow]
 have c0 : w1.cell? ⟨w.heap.size + 1, 0, none⟩ = some (.slice none 0 0) := by rw [cell_of_row w1 _ 0 _ _ (0, 0) hrow]; rfl
 have K := Lib.hid (Ext.set (p := ⟨w.heap.size + 1, 0, none⟩) (k0.trans k1) (by show w.heap.size ≤ w.heap.size + 1; omega) (.slice none 0 0))
 clear k0 k1 hr hrow
 go_wp2
 refine bodyPost_ret (v := .tuple #[.agg #[.slice none 0 0], .int .i64 1]) (by simp [results, Tryz.results22, go_sem, c0]) rfl ?_
 exact ⟨rfl, K.out⟩
def parB (a0 a1 a2 a3 : Value) : Nat → Value
 | 0 => a0
 | 1 => a1
 | 2 => a2
 | _ => a3
theorem parB_row {V : World} {D : Nat} {a0 a1 a2 a3 : Value} (h : V.heap[D]? = some (.cells #[a0, a1, a2, a3] 25)) : RW V D 25 4 (parB a0 a1 a2 a3) := h
section
variable {V : World} {D L c : Nat} {A : Option Addr} {N Wd : Int} {T : Nat} {x : Value}
theorem st_cell (h2 : RW V D 25 4 (parB (.int .i64 N) (.int .u64 (T : Int)) (.slice A L c) (.int .i64 Wd))) {p : Addr} {v : Value} (h : V.cell? p = some v) (hv : ∀ B m d, v ≠ .slice B m d) : (V.setCell ⟨D, 2, none⟩ x).cell? p = some v := by
 rw [set_far (fun e => ?_)]
 ·exact h
 ·rw [← e, h2.cell (i := 2) (by omega)] at h
  injection h with h
  exact hv _ _ _ h.symm
theorem st_far (h2 : RW V D 25 4 (parB (.int .i64 N) (.int .u64 (T : Int)) (.slice A L c) (.int .i64 Wd))) {b o : Nat} {v : Value} (h : V.cell? ⟨b, o, none⟩ = some v) (ho : o < 4) (hv : v ≠ parB (.int .i64 N) (.int .u64 (T : Int)) (.slice A L c) (.int .i64 Wd) o) : b ≠ D := fun e => by
 subst e
 rw [h2.cell ho] at h
 injection h with h
 exact hv h.symm
theorem st_off {b o : Nat} {v : Value} (hb : b ≠ D) (h : V.cell? ⟨b, o, none⟩ = some v) : (V.setCell ⟨D, 2, none⟩ x).cell? ⟨b, o, none⟩ = some v := by
 rw [set_far (fun e => hb (by injection e with e; exact e.symm))]
 exact h
theorem st_row (h2 : RW V D 25 4 (parB (.int .i64 N) (.int .u64 (T : Int)) (.slice A L c) (.int .i64 Wd))) {g m : Nat} {t : TypeId} {F : Nat → Value} (h : RW V g t m F) (ht : t ≠ 25) : RW (V.setCell ⟨D, 2, none⟩ x) g t m F :=
 ((OnB.refl D V).set 2 x).rw_ h (RW.ne h h2 ht)
theorem FX.onP (h2 : RW V D 25 4 (parB (.int .i64 N) (.int .u64 (T : Int)) (.slice A L c) (.int .i64 Wd))) {B : Option Addr} {n d : Nat} {f : Nat → Nat} (h : FX V B n d f) : FX (V.setCell ⟨D, 2, none⟩ x) B n d f :=
 ⟨h.room, fun h0 => by
  obtain ⟨ad, e, hc⟩ := h.cells h0
  exact ⟨ad, e, fun j hj => st_cell h2 (hc j hj) (fun _ _ _ e => by cases e)⟩⟩
theorem Tb.onP (h2 : RW V D 25 4 (parB (.int .i64 N) (.int .u64 (T : Int)) (.slice A L c) (.int .i64 Wd))) {p n q : Nat} {a e : Nat → Nat} {gp ge : Nat} (h : Tb V V.heap.size p n q a e gp ge) : Tb (V.setCell ⟨D, 2, none⟩ x) (V.setCell ⟨D, 2, none⟩ x).heap.size p n q a e gp ge := by
 have np : p ≠ D := st_far h2 h.ends (by omega) (by simp [parB])
 have hs : V.heap.size = (V.setCell ⟨D, 2, none⟩ x).heap.size := by simp [World.setCell]
 rw [← hs]
 exact ⟨h.hp, h.hgp, h.hge, st_off np h.size, st_off np h.prime, st_off np h.powers, st_off np h.ends, st_row h2 h.pw (by decide), st_row h2 h.en (by decide)⟩
theorem Table.onP (h2 : RW V D 25 4 (parB (.int .i64 N) (.int .u64 (T : Int)) (.slice A L c) (.int .i64 Wd))) {p n q k r v : Nat} (h : Table V p n q k r v) : Table (V.setCell ⟨D, 2, none⟩ x) p n q k r v := by
 obtain ⟨a, e, gp, ge, h1, h3, h4⟩ := h.ex
 exact ⟨a, e, gp, ge, h1.onP h2, h3, h4⟩
theorem Tab.onP (h2 : RW V D 25 4 (parB (.int .i64 N) (.int .u64 (T : Int)) (.slice A L c) (.int .i64 Wd))) {p n q : Nat} {a e : Nat → Nat} (h : Tab V p n q a e) : Tab (V.setCell ⟨D, 2, none⟩ x) p n q a e := by
 refine ⟨h.n0, h.n1, h.q0, h.q1, h.nk, h.al, h.el, ?_, fun hq => ?_⟩
 ·obtain ⟨gp, ge, ht⟩ := h.tb
  exact ⟨gp, ge, ht.onP h2⟩
 ·obtain ⟨k, r, v', ht⟩ := h.root hq
  exact ⟨k, r, v', ht.onP h2⟩
theorem Rg.onP (h2 : RW V D 25 4 (parB (.int .i64 N) (.int .u64 (T : Int)) (.slice A L c) (.int .i64 Wd))) {r n M : Nat} {q p : Nat → Nat} {a e : Nat → Nat → Nat} (h : Rg V r n M q p a e) : Rg (V.setCell ⟨D, 2, none⟩ x) r n M q p a e := by
 obtain ⟨gf, h3, h4⟩ := h.ex
 have np : r ≠ D := st_far h2 h3 (by omega) (by simp [parB])
 exact ⟨h.l0, h.l1, h.n0, h.n1, h.ql, st_off np h.size, ⟨gf, st_off np h3, st_row h2 h4 (by decide)⟩, fun j hj => (h.tab j hj).onP h2⟩
theorem Bt.onP (h2 : RW V D 25 4 (parB (.int .i64 N) (.int .u64 (T : Int)) (.slice A L c) (.int .i64 Wd))) {p n T' k r v : Nat} (h : Bt V p n T' k r v) : Bt (V.setCell ⟨D, 2, none⟩ x) p n T' k r v := by
 obtain ⟨g', t, h0, h1, h3, h4, h5, h6⟩ := h.ex
 have np : p ≠ D := st_far h2 h0 (by omega) (by simp [parB])
 exact ⟨g', t, st_off np h0, st_off np h1, st_off np h3, st_off np h4, st_row h2 h5 (by decide), h6.onP h2⟩
theorem NX.onP (h2 : RW V D 25 4 (parB (.int .i64 N) (.int .u64 (T : Int)) (.slice A L c) (.int .i64 Wd))) {B : Option Addr} {n d : Nat} {xs : List Nat} (h : NX V B n d xs) : NX (V.setCell ⟨D, 2, none⟩ x) B n d xs := NX.off h (h2.cell (i := 2) (by omega)) (fun y e => by cases e) x
theorem LvsK.onP (h2 : RW V D 25 4 (parB (.int .i64 N) (.int .u64 (T : Int)) (.slice A L c) (.int .i64 Wd))) {g M k n T' : Nat} {q : Nat → Nat} {Ar Aw : Option Addr} {cr cw : Nat} (h : LvsK V g M k n T' q Ar Aw cr cw) : LvsK (V.setCell ⟨D, 2, none⟩ x) g M k n T' q Ar Aw cr cw := by
 obtain ⟨v, h1, h3⟩ := h
 exact ⟨v, st_row h2 h1 (by decide), fun j hj => (h3 j hj).map fun hx => NX.onP h2 hx⟩
theorem Sc.onP (h2 : RW V D 25 4 (parB (.int .i64 N) (.int .u64 (T : Int)) (.slice A L c) (.int .i64 Wd))) {s n T' M : Nat} {q : Nat → Nat} (h : Sc V s n T' M q) : Sc (V.setCell ⟨D, 2, none⟩ x) s n T' M q := by
 obtain ⟨r, y, g, p, p', a, e, a', e', Ar, Aw, cr, cw, h1, h3, h4, h5, h6, h7, h8, h9⟩ := h.ex
 have np : s ≠ D := st_far h2 h1 (by omega) (by simp [parB])
 exact ⟨h.step, h.row, h.l8, h.bits, r, y, g, p, p', a, e, a', e', Ar, Aw, cr, cw, st_off np h1, st_off np h3, st_off np h4, h5.onP h2, h6.onP h2, h7.onP h2, h8.onP h2, h9.onP h2⟩
end
structure Ev (w : World) (v n T L : Nat) (Wd : Int) (q : Nat → Nat) (s r b : Nat) (A : Option Addr) (c : Nat) : Prop where
 c0 : w.cell? ⟨v, 0, none⟩ = some (.int .i64 (n : Int))
 c1 : w.cell? ⟨v, 1, none⟩ = some (.int .u64 (T : Int))
 c2 : w.cell? ⟨v, 2, none⟩ = some (.slice A L c)
 c3 : w.cell? ⟨v, 3, none⟩ = some (.int .i64 Wd)
 c4 : w.cell? ⟨v, 4, none⟩ = some (.pointer (some ⟨s, 0, none⟩))
 c5 : w.cell? ⟨v, 5, none⟩ = some (.pointer (some ⟨r, 0, none⟩))
 c6 : w.cell? ⟨v, 6, none⟩ = some (.pointer (some ⟨b, 0, none⟩))
 pa : PA w (n : Int) T A L c Wd q
 sc : Sc w s n T L q
 rg : ∃ p a e, Rg w r n L q p a e
 bt : ∃ k r' v' x', First T x' ∧ r' = rootS T (2 * n) x' ∧ Bt w b n T k r' v'
theorem Ev.ext {w w' : World} {v n T L : Nat} {Wd : Int} {q : Nat → Nat} {s r b : Nat} {A : Option Addr} {c : Nat} (h : Ev w v n T L Wd q s r b A c) (k : Ext w w') : Ev w' v n T L Wd q s r b A c := by
 refine ⟨cell_ext k h.c0, cell_ext k h.c1, cell_ext k h.c2, cell_ext k h.c3, cell_ext k h.c4, cell_ext k h.c5, cell_ext k h.c6, h.pa.ext k, h.sc.ext k, ?_, ?_⟩
 ·obtain ⟨p, a, e, h1⟩ := h.rg
  exact ⟨p, a, e, h1.ext k⟩
 ·obtain ⟨k', r', v', x', h1, h2, h3⟩ := h.bt
  exact ⟨k', r', v', x', h1, h2, h3.ext k⟩
theorem seven_at (w : World) (x0 x1 x2 x3 x4 x5 x6 : Value) (t : TypeId) : (w.alloc (.cells #[x0, x1, x2, x3, x4, x5, x6] t)).cell? ⟨w.heap.size, 0, none⟩ = some x0 ∧ (w.alloc (.cells #[x0, x1, x2, x3, x4, x5, x6] t)).cell? ⟨w.heap.size, 1, none⟩ = some x1 ∧ (w.alloc (.cells #[x0, x1, x2, x3, x4, x5, x6] t)).cell? ⟨w.heap.size, 2, none⟩ = some x2 ∧ (w.alloc (.cells #[x0, x1, x2, x3, x4, x5, x6] t)).cell? ⟨w.heap.size, 3, none⟩ = some x3 ∧ (w.alloc (.cells #[x0, x1, x2, x3, x4, x5, x6] t)).cell? ⟨w.heap.size, 4, none⟩ = some x4 ∧ (w.alloc (.cells #[x0, x1, x2, x3, x4, x5, x6] t)).cell? ⟨w.heap.size, 5, none⟩ = some x5 ∧ (w.alloc (.cells #[x0, x1, x2, x3, x4, x5, x6] t)).cell? ⟨w.heap.size, 6, none⟩ = some x6 := ⟨by simp, by simp, by simp, by simp, by simp, by simp, by simp⟩
end Go.Proofs.YtjikdbcjabopnaaGreatDoor
