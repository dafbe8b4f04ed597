import Derived.Test.YtkbcobjhlpjieaaGreatDoorZUFix
import Derived.Test.YtkbcobjhlpjieaaGreatDoorZ23
import Derived.Test.YtkbcobjhlpjieaaGreatDoorZKSame
import Derived.Test.YtkbcobjhlpjieaaGreatDoorZVList
namespace Go.Proofs.YtkbcobjhlpjieaaGreatDoor
open Go.RowKit
set_option linter.unusedVariables false
set_option maxRecDepth 100000
theorem elR_px {w : World} {A : Option Addr} {m c : Nat} {x : List (List Nat)} (h : ElR w (.slice A m c) x) :
    m = x.length ∧ ∃ (As : Nat → Option Addr) (cs : Nat → Nat), PX w A x.length c As (fun j => (x.getD j []).length) cs (fun j i => (x.getD j []).getD i 0) := by
 obtain ⟨A', c', e, h⟩ := h
 injection e with e1 e2 e3
 subst e1 e3
 refine ⟨e2, ?_⟩
 have hx : ∀ j, ∃ (A' : Option Addr) (c' : Nat), j < x.length → (∀ ad, A = some ad → w.cell? (ad.add j) = some (.slice A' (x.getD j []).length c')) ∧ LY 22 WordR w A' c' (x.getD j []) := fun j => by
  by_cases hj : j < x.length
  ·obtain ⟨ad, ea, hc⟩ := h.cells (by omega)
   obtain ⟨u, h1, A2, c2, e2, h2⟩ := hc j x[j] (List.getElem?_eq_getElem hj)
   have hg : x.getD j [] = x[j] := by simp [List.getD, hj]
   refine ⟨A2, c2, fun _ => ⟨fun ad' ea' => ?_, by rw [hg]; exact h2⟩⟩
   rw [ea] at ea'
   injection ea' with ea'
   rw [← ea', h1, e2, hg]
  ·exact ⟨none, 0, fun h => absurd h hj⟩
 refine ⟨fun j => Classical.choose (hx j), fun j => Classical.choose (Classical.choose_spec (hx j)), h.room, fun hn => ?_, fun j hj => ?_⟩
 ·obtain ⟨ad, ea, _⟩ := h.cells hn
  exact ⟨ad, ea, fun j hj => (Classical.choose_spec (Classical.choose_spec (hx j)) hj).1 ad ea⟩
 ·exact (Classical.choose_spec (Classical.choose_spec (hx j)) hj).2.fx
def Short (xs : List (List (List Nat))) : Prop := xs.length ≤ 1000 ∧ ∀ x ∈ xs, x.length ≤ 1000 ∧ ∀ y ∈ x, y.length ≤ 100000
theorem same5U {w : World} {A A' : Option Addr} {m m' c c' : Nat} {x : List (List Nat)} (h : ElR w (.slice A m c) x) (h' : ElR w (.slice A' m' c') x) (hl : x.length ≤ 1000 ∧ ∀ y ∈ x, y.length ≤ 100000) :
    Calls Tryz.prog 74 #[.agg #[.slice A m c], .agg #[.slice A' m' c']] w fun ee w' => ee = .returned (.bool true) ∧ Ext w w' := by
 obtain ⟨rfl, As, cs, h1⟩ := elR_px h
 obtain ⟨rfl, As', cs', h2⟩ := elR_px h'
 exact same5_yes A A' x.length c c' As As' _ cs cs' _ _ w h1 h2 (by omega) (Lib.hid fun j hj => by
  have : x.getD j [] ∈ x := by simp [List.getD, hj]
  exact hl.2 _ this) (Lib.hid fun _ _ _ _ => rfl)
set_option maxHeartbeats 8000000 in
theorem same12U (A A' : Option Addr) (m m' c c' : Nat) (xs : List (List (List Nat))) (w : World) (h : Hid (ElsR w (.slice A m c) xs)) (h' : Hid (ElsR w (.slice A' m' c') xs)) (hl : Hid (Short xs)) :
    Calls Tryz.prog 31 #[.agg #[.slice A m c], .agg #[.slice A' m' c']] w fun ee w' => ee = .returned (.bool true) ∧ Ext w w' := by
 obtain ⟨B, d, e, hX⟩ := h.out
 injection e with e1 e2 e3
 subst e1 e3
 obtain ⟨B', d', e, hY⟩ := h'.out
 injection e with e1 e4 e3
 subst e1 e3
 have hmm : m = m' := e2.trans e4.symm
 subst hmm
 have HX := Lib.hid hX
 have HY := Lib.hid hY
 have HM := Lib.hid e2
 have hm : m ≤ 1000 := by rw [e2]; exact hl.out.1
 clear hX hY e2 e4
 have k0 : Ext w ((w.alloc (.cells #[.slice A m c] 28)).alloc (.cells #[.slice A' m c'] 28)) := ((Ext.refl w).alloc _).alloc _
 have xa := cell_ext ((Ext.refl _).alloc (.cells #[.slice A' m c'] 28)) (one_at w (.slice A m c) 28)
 have ya := one_at (w.alloc (.cells #[.slice A m c] 28)) (.slice A' m c') 28
 rw [show (w.alloc (.cells #[.slice A m c] 28)).heap.size = w.heap.size + 1 by simp] at ya
 go_enter Tryz.func31, Tryz.ntmps31
 go_wp2
 generalize ((w.alloc (.cells #[.slice A m c] 28)).alloc (.cells #[.slice A' m c'] 28)) = V at *
 obtain ⟨D, hD⟩ : ∃ D, D = w.heap.size := ⟨_, rfl⟩
 obtain ⟨E, hE⟩ : ∃ D, D = w.heap.size + 1 := ⟨_, rfl⟩
 rw [← hD] at xa
 rw [← hE] at ya
 simp only [← hE]
 simp only [← hD]
 clear hD hE
 go_loopw [16] (fun iv wr => ∃ k : Nat, k ≤ m ∧ iv = .int .i64 (k : Int) ∧ Ext V wr) (fun iv _ => m - (intOf iv).toNat)
 case atStart => exact ⟨0, by omega, rfl, Ext.refl V⟩
 case round =>
  obtain ⟨k, hk, rfl, kr⟩ := hrel
  have xr := cell_ext kr xa
  have yr := cell_ext kr ya
  by_cases hlt : k < m
  ·obtain ⟨z, hz⟩ : ∃ z, xs[k]? = some z := ⟨_, List.getElem?_eq_getElem (show k < xs.length by have := HM.out; omega)⟩
   have hKs := Keeps.ext (ts := [22, 23, 31]) (k0.trans kr)
   obtain ⟨ad, rfl, hc⟩ := (HX.out.keeps (elR_stays (by decide) (by decide)) (by decide) hKs).cells (by have := HM.out; omega)
   obtain ⟨ad', rfl, hc'⟩ := (HY.out.keeps (elR_stays (by decide) (by decide)) (by decide) hKs).cells (by have := HM.out; omega)
   obtain ⟨u, cx, hu⟩ := hc k z hz
   obtain ⟨u', cy, hu'⟩ := hc' k z hz
   obtain ⟨G, g, rfl⟩ := elR_slice hu
   obtain ⟨G', g', rfl⟩ := elR_slice hu'
   have HU := Lib.hid hu
   have HU' := Lib.hid hu'
   have HSZ := Lib.hid (hl.out.2 z (List.mem_of_getElem? hz))
   obtain ⟨Z, hZ⟩ : ∃ Z, Z = z.length := ⟨_, rfl⟩
   rw [← hZ] at cx cy HU HU'
   have i0 : (0 : Int) ≤ (k : Int) := by omega
   have i1 : (k : Int) < (m : Int) := by omega
   have kk : Ext wr wr := Ext.refl wr
   have KR := Lib.hid kr
   have HSA := Lib.hid (fun w' (h : Ext wr w') => same5U (elR_stays (ts := [22, 23]) (by decide) (by decide) _ _ _ _ (Keeps.ext h) HU.out) (elR_stays (ts := [22, 23]) (by decide) (by decide) _ _ _ _ (Keeps.ext h) HU'.out) HSZ.out)
   clear kr hc hc' hz hu hu' hZ hKs
   go_upto_region 6 with fail
   go_region_held3 (fun w' => w'.cell? ⟨D, 0, none⟩ = some (.slice (some ad) m c) ∧ w'.cell? ⟨E, 0, none⟩ = some (.slice (some ad') m c') ∧ w'.cell? (ad.add k) = some (.slice G Z g) ∧ w'.cell? (ad'.add k) = some (.slice G' Z g')) (go_keep)
    (first
     | (go_at_call 74; refine (HSA.out _ (by with_reducible repeat first | exact kk | apply Ext.alloc | apply Ext.drew)).mono ?_; rintro e5 w5 ⟨rfl, k5⟩; replace kk : Ext wr w5 := (by first | with_reducible exact Ext.trans kk k5 | with_reducible exact Ext.trans (Ext.alloc (kk) _) k5 | with_reducible exact Ext.trans (Ext.drew (kk)) k5 | with_reducible exact Ext.trans (Ext.drew (Ext.alloc (kk) _)) k5); have t0 := cell_ext kk xr; have t1 := cell_ext kk yr; have t2 := cell_ext kk cx; have t3 := cell_ext kk cy)
     | fail)
   all_goals
    have KN := Lib.hid (KR.out.trans kk)
    (go_wp2; exact ⟨⟨k + 1, by omega, by go_num, KN.out⟩, by simp [intOf]; omega⟩)
  ·obtain rfl : k = m := by omega
   have K := Lib.hid (k0.trans kr)
   clear kr
   go_wp2
   go_ret
   exact ⟨rfl, K.out⟩
def u8s (zs : List Nat) : List Value := zs.map fun (z : Nat) => Value.int .u8 (z : Int)
theorem own_emptyB (w0 : World) : (w0.alloc (.cells #[] 5)).ownsRow w0.heap.size 5 1 (.slice (some ⟨w0.heap.size, 0, none⟩) 0 0) 0 [] :=
 ⟨rfl, .inr ⟨w0.heap.size, 0, #[], rfl, Nat.le_refl _, (show (w0.heap.push (.cells #[] 5))[w0.heap.size]? = _ by simp), Nat.le_refl _, Nat.zero_le _, rfl, rfl⟩⟩
theorem rdB_of_own {w : World} {B : Nat} {v : Value} {n : Nat} {zs : List Nat} (h : w.ownsRow B 5 1 v n (u8s zs)) (hlt : ∀ x ∈ zs, x < 256) : ∃ A c, v = .slice A n c ∧ BX w A n c zs := by
 have hlen : zs.length = n := by have := h.1; simpa [u8s] using this
 rcases h.2 with ⟨rfl, rfl⟩ | ⟨g, cap, cur, rfl, hg, hh, hle, _⟩
 ·exact ⟨none, 0, rfl, hlen, Nat.le_refl _, hlt, fun h => absurd h (by omega)⟩
 ·refine ⟨_, cap, rfl, hlen, hle, hlt, fun _ => ⟨⟨g, 0, none⟩, rfl, (Array.getElem?_eq_some_iff.1 hh).1, fun j x hx => ?_⟩⟩
  exact h.cells (g := g) rfl j _ (by simp [u8s, hx])
theorem wpList_copyB {w0 : World} {ops : Array Oper} {rest : List Oper} {o : Oper} {a : Act} {Q : Exit → Act → World → Prop} (hgd : o.guard = none) (s x : Operand)
    (ho : o.op = .call { callee := .builtin .append, args := #[s, x], argTypes := #[37, 37] })
    (g : Nat) (hg : g = w0.heap.size) (A : Option Addr) (n c : Nat) (xs : List Nat) (hs : a.eval s = .slice (some ⟨g, 0, none⟩) 0 0) (hx : a.eval x = .slice A n c) (hX : BX w0 A n c xs) (hn : n ≤ 100000)
    (h : ∀ A2 c2 w', BX w' A2 n c2 xs → Ext w0 w' → wpList Tryz.prog ops Q rest (a.put o.dst (.slice A2 n c2)) w') : wpList Tryz.prog ops Q (o :: rest) a (w0.alloc (.cells #[] 5)) := by
 obtain ⟨i0, hi, hz0, hz1, hz2⟩ := info_parts info_u8U
 subst hg
 have hX' : BX (w0.alloc (.cells #[] 5)) A n c xs := hX.ext ((Ext.refl w0).alloc _)
 rcases A with _ | ad
 ·have hn0 : n = 0 := by
     rcases Nat.eq_zero_or_pos n with h0 | h0
     ·exact h0
     ·obtain ⟨ad, e, _⟩ := hX.cells h0
      cases e
  subst hn0
  refine wpList_plain hgd fun K hK => ?_
  have hrun := run_append_nothing (P := Tryz.prog) (w0.alloc (.cells #[] 5)) 37 37 o.type 5 i0 Tryz.underlying37 hi (some ⟨w0.heap.size, 0, none⟩) 0 0 (Nat.le_refl _) (.slice none 0 c) (Src.ofNil _ Tryz.underlying37 c)
  unfold Oper.wp
  simp [execOp, ho, resolve, invoke, builtin, hs, hx, hrun, Result.andThen]
  refine hK _ _ (h _ _ _ ?_ ((Ext.refl w0).alloc _))
  rw [hX.eq_nil rfl]
  exact Rd.none_ _ _ _ _ _ _
 ·refine wpList_append_own _ hgd s x 37 ho w0.heap.size 5 i0 (.int .u8 0) 1 1 Tryz.underlying37 hi hz0 hz1 hz2 rfl (by decide) _ _ _ hs (own_emptyB w0) ad n c (u8s xs) hx (by unfold u8s; rw [List.length_map, hX.len]; omega) (fun j u hu => ?_) (fun u hu => by obtain ⟨_, _, rfl⟩ := List.mem_map.1 hu; rfl) (by unfold maxLen; omega) (by omega) (by simp) ?_
  ·unfold u8s at hu
   rw [List.getElem?_map] at hu
   obtain ⟨z, hz, rfl⟩ := Option.map_eq_some_iff.1 hu
   have hl := (List.getElem?_eq_some_iff.1 hz).1
   obtain ⟨ad', e, _, hc⟩ := hX'.cells (by have := hX.len; omega)
   injection e with e
   subst e
   exact hc j z hz
  ·intro v2 w2 hown2 hgrow2 _
   obtain ⟨A2, c2, rfl, hr2⟩ := rdB_of_own (zs := xs) (n := n) (by simpa using hown2) hX.lt
   refine h A2 c2 w2 hr2 ?_
   refine Below.grown ((Ext.refl w0).alloc _) hgrow2 (by simp) (fun k e => ?_)
   simp [Value.ownBlock] at e
   omega
def pvD {α : Type} : Except Nat (PV × α) → PV
 | .ok (pv, _) => pv
 | .error _ => ⟨0, 0, 0, []⟩
def xD {α : Type} : Except Nat (PV × List α) → List α
 | .ok (_, x) => x
 | .error _ => []
def erD {α : Type} : Except Nat (PV × α) → Nat
 | .ok _ => 0
 | .error c => c
structure PvA (w : World) (pv : PV) (AQ : Option Addr) (cQ : Nat) : Prop where
 ly : LY 22 WordR w AQ cQ pv.q
 nl : pv.n ≤ 65535
 tl : pv.t < 4294967296
 wl : pv.w < 256
 ql : pv.q.length ≤ 255
theorem PvA.ext {w w' : World} {pv : PV} {AQ : Option Addr} {cQ : Nat} (h : PvA w pv AQ cQ) (k : Ext w w') : PvA w' pv AQ cQ := ⟨h.ly.keeps (wordR_stays [22]) (by decide) (Keeps.ext k), h.nl, h.tl, h.wl, h.ql⟩
theorem pvA_none (w : World) : PvA w ⟨0, 0, 0, []⟩ none 0 := ⟨⟨by simp, fun ad e => (by cases e), fun h => absurd h (by simp)⟩, by decide, by decide, by decide, by decide⟩
theorem lv_none {α : Type} (t : TypeId) (R : World → Value → α → Prop) (w : World) : LV t R w (.slice none 0 0) [] := ⟨none, 0, rfl, by simp, fun ad e => (by cases e), fun h => absurd h (by simp)⟩
theorem RPost.uC {w w' : World} {res : Except Nat (PV × List (List (List Nat)))} {e : Ending} (h : RPost (.agg #[.slice none 0 0]) w res (AgR ElsR) e w') :
    ∃ AQ cQ A m c, e = .returned (.tuple #[.agg #[.int .i64 ((pvD res).n : Int), .int .u64 ((pvD res).t : Int), .slice AQ (pvD res).q.length cQ, .int .i64 ((pvD res).w : Int)], .agg #[.slice A m c], .int .i64 (erD res : Int)]) ∧ PvA w' (pvD res) AQ cQ ∧ ElsR w' (.slice A m c) (xD res) ∧ Ext w w' := by
 rcases h with ⟨pv, x, v, AQ, cQ, rfl, h2, ⟨u, rfl, A, c, rfl, h3⟩, h4, h5⟩ | ⟨cc, rfl, h2, h3, h4, h5⟩
 ·exact ⟨AQ, cQ, A, x.length, c, h2, ⟨h4.ly, h4.nl, h4.tl, h4.wl, h4.ql⟩, ⟨A, c, rfl, h3⟩, h5⟩
 ·exact ⟨none, 0, none, 0, 0, h4, pvA_none _, lv_none _ _ _, h5⟩
theorem RPost.uS {w w' : World} {res : Except Nat (PV × List Int)} {e : Ending} (h : RPost (.slice none 0 0) w res SgR e w') :
    ∃ AQ cQ A m c, e = .returned (.tuple #[.agg #[.int .i64 ((pvD res).n : Int), .int .u64 ((pvD res).t : Int), .slice AQ (pvD res).q.length cQ, .int .i64 ((pvD res).w : Int)], .slice A m c, .int .i64 (erD res : Int)]) ∧ PvA w' (pvD res) AQ cQ ∧ SgR w' (.slice A m c) (xD res) ∧ Ext w w' := by
 rcases h with ⟨pv, x, v, AQ, cQ, rfl, h2, ⟨A, c, rfl, h3⟩, h4, h5⟩ | ⟨cc, rfl, h2, h3, h4, h5⟩
 ·exact ⟨AQ, cQ, A, x.length, c, h2, ⟨h4.ly, h4.nl, h4.tl, h4.wl, h4.ql⟩, ⟨A, c, rfl, h3⟩, h5⟩
 ·exact ⟨none, 0, none, 0, 0, h4, pvA_none _, lv_none _ _ _, h5⟩
theorem RPost.uP {w w' : World} {res : Except Nat (PV × List (List (List Nat)))} {e : Ending} (h : RPost (.agg #[.slice none 0 0, .slice none 0 0]) w res PubR e w') :
    ∃ AQ cQ A m c A' m' c', e = .returned (.tuple #[.agg #[.int .i64 ((pvD res).n : Int), .int .u64 ((pvD res).t : Int), .slice AQ (pvD res).q.length cQ, .int .i64 ((pvD res).w : Int)], .agg #[.slice A m c, .slice A' m' c'], .int .i64 (erD res : Int)]) ∧ PvA w' (pvD res) AQ cQ ∧ ElR w' (.slice A m c) ((xD res).getD 0 []) ∧ ElR w' (.slice A' m' c') ((xD res).getD 1 []) ∧ Ext w w' := by
 rcases h with ⟨pv, x, v, AQ, cQ, rfl, h2, ⟨A0, A1, c0, c1, x0, x1, rfl, rfl, h3, h6⟩, h4, h5⟩ | ⟨cc, rfl, h2, h3, h4, h5⟩
 ·exact ⟨AQ, cQ, A0, _, c0, A1, _, c1, h2, ⟨h4.ly, h4.nl, h4.tl, h4.wl, h4.ql⟩, h3, h6, h5⟩
 ·exact ⟨none, 0, none, 0, 0, none, 0, 0, h4, pvA_none _, lv_none _ _ _, lv_none _ _ _, h5⟩
theorem R0Post.u0 {w w' : World} {res : Except Nat (PV × Unit)} {e : Ending} (h : R0Post w res e w') :
    ∃ AQ cQ, e = .returned (.tuple #[.agg #[.int .i64 ((pvD res).n : Int), .int .u64 ((pvD res).t : Int), .slice AQ (pvD res).q.length cQ, .int .i64 ((pvD res).w : Int)], .int .i64 (erD res : Int)]) ∧ PvA w' (pvD res) AQ cQ ∧ Ext w w' := by
 rcases h with ⟨pv, AQ, cQ, rfl, h2, h4, h5⟩ | ⟨cc, rfl, h2, h3, h4, h5⟩
 ·exact ⟨AQ, cQ, h2, ⟨h4.ly, h4.nl, h4.tl, h4.wl, h4.ql⟩, h5⟩
 ·exact ⟨none, 0, h4, pvA_none _, h5⟩
theorem sameParU {w : World} {pv : PV} {AQ AQ' : Option Addr} {cQ cQ' : Nat} (h : PvA w pv AQ cQ) (h' : PvA w pv AQ' cQ') :
    Calls Tryz.prog 21 #[.agg #[.int .i64 (pv.n : Int), .int .u64 (pv.t : Int), .slice AQ pv.q.length cQ, .int .i64 (pv.w : Int)], .agg #[.int .i64 (pv.n : Int), .int .u64 (pv.t : Int), .slice AQ' pv.q.length cQ', .int .i64 (pv.w : Int)]] w fun ee w' => ee = .returned (.bool true) ∧ Ext w w' := by
 have b1 := h.nl
 have b2 := h.tl
 have b3 := h.wl
 have b4 := h.ql
 refine (rparSame_any w (N := (pv.n : Int)) (T := pv.t) (Wd := (pv.w : Int)) (f := fun j => pv.q.getD j 0) (N' := (pv.n : Int)) (T' := pv.t) (Wd' := (pv.w : Int)) (f' := fun j => pv.q.getD j 0) ⟨by omega, by omega, by omega, by omega, by omega, h.ly.fx, by omega, h.ly.words⟩ ⟨by omega, by omega, by omega, by omega, by omega, h'.ly.fx, by omega, h'.ly.words⟩).mono ?_
 rintro e w2 (⟨_, he, hk⟩ | ⟨hn, _⟩)
 ·exact ⟨he, hk⟩
 ·exact absurd ⟨⟨rfl, fun _ _ => rfl⟩, rfl, rfl, rfl⟩ hn
theorem sameSgU {w : World} {A A' : Option Addr} {m m' c c' : Nat} {zs : List Int} (h : SgR w (.slice A m c) zs) (h' : SgR w (.slice A' m' c') zs) (hl : zs.length ≤ 100000) :
    Calls Tryz.prog 32 #[.slice A m c, .slice A' m' c'] w fun ee w' => ee = .returned (.bool true) ∧ Ext w w' := by
 obtain ⟨B, d, e, h⟩ := h
 injection e with e1 e2 e3
 subst e1 e2 e3
 obtain ⟨B', d', e, h'⟩ := h'
 injection e with e1 e2 e3
 subst e1 e2 e3
 have lx : ∀ {A : Option Addr} {c : Nat}, LY 2 SignR w A c zs → LX w A zs.length c zs := fun h => ⟨rfl, h.room, fun hn => by
  obtain ⟨ad, e, hc⟩ := h.cells hn
  exact ⟨ad, e, fun j z hz => by obtain ⟨u, h1, h2, _⟩ := hc j z hz; rw [h1, h2]⟩⟩
 exact sameInts_any A A' zs.length c c' zs w (Lib.hid (lx h)) (Lib.hid (lx h')) hl
theorem manyP_mem {α : Type} {f : Pr α} : ∀ {k : Nat} {l r : List Nat} {xs : List α}, manyP f k l = .ok (xs, r) → ∀ x ∈ xs, ∃ l' r', f l' = .ok (x, r')
 | 0, l, r, xs, h, x, hx => by
  injection h with h; injection h with h1 h2; subst h1; cases hx
 | k + 1, l, r, xs, h, x, hx => by
  rw [manyP] at h
  rcases hf : f l with e | ⟨y, r1⟩
  ·rw [hf] at h; cases h
  ·rw [hf] at h
   rcases hm : manyP f k r1 with e | ⟨ys, r2⟩
   ·simp only [hm, aft] at h; cases h
   ·simp only [hm, aft] at h
    injection h with h; injection h with h1 h2
    subst h1
    rcases List.mem_append.1 hx with h3 | h3
    ·simp at h3; subst h3; exact ⟨l, r1, hf⟩
    ·exact manyP_mem hm x h3
theorem eachP_mem {β α : Type} {f : β → Pr α} : ∀ {bs : List β} {l r : List Nat} {xs : List α}, eachP f bs l = .ok (xs, r) → ∀ x ∈ xs, ∃ b l' r', f b l' = .ok (x, r')
 | [], l, r, xs, h, x, hx => by
  injection h with h; injection h with h1 h2; subst h1; cases hx
 | b :: bs, l, r, xs, h, x, hx => by
  rw [eachP] at h
  rcases hf : f b l with e | ⟨y, r1⟩
  ·rw [hf] at h; cases h
  ·rw [hf] at h
   rcases hm : eachP f bs r1 with e | ⟨ys, r2⟩
   ·simp only [hm, aft] at h; cases h
   ·simp only [hm, aft] at h
    injection h with h; injection h with h1 h2
    subst h1
    rcases List.mem_append.1 hx with h3 | h3
    ·simp at h3; subst h3; exact ⟨b, l, r1, hf⟩
    ·exact eachP_mem hm x h3
theorem elem_short {n : Nat} {qs : List Nat} {l r : List Nat} {x : List (List Nat)} (h : elemP n qs l = .ok (x, r)) (hn : n ≤ 65535) (hq : qs.length ≤ 255) : x.length ≤ 1000 ∧ ∀ y ∈ x, y.length ≤ 100000 :=
 ⟨by have := eachP_len h; omega, fun y hy => by
  obtain ⟨b, l', r', hb⟩ := eachP_mem h y hy
  have := manyP_len hb
  omega⟩
theorem whole_ok {α : Type} {kind : Nat} {f : PV → Pr α} {l : List Nat} {pv : PV} {x : α} (h : endP (headP kind f l) = .ok (pv, x)) : pv.n ≤ 4096 ∧ pv.q.length ≤ 8 ∧ ∃ l' r', f pv l' = .ok (x, r') := by
 rw [head_eq] at h
 rcases hh : bindP (betP 1 kind kind) (fun _ => paramP) l with e | ⟨pv', r1⟩
 ·rw [bindP_err hh] at h; cases h
 ·rw [bindP_ok hh] at h
  rcases h1 : f pv' r1 with e | ⟨x', r2⟩
  ·rw [bindP_err h1] at h; cases h
  ·rw [bindP_ok h1] at h
   simp only [endP] at h
   split at h
   ·cases h
   ·injection h with h
    injection h with h2 h3
    subst h2 h3
    have := start_ok hh
    exact ⟨this.2.2.2.1, this.2.2.1, r1, r2, h1⟩
theorem short_cip (l : List Nat) : Short (xD (endP (headP 2 cipherP l))) := by
 rcases h : endP (headP 2 cipherP l) with e | ⟨pv, xs⟩
 ·exact ⟨by simp [xD], fun x hx => by simp [xD] at hx⟩
 ·obtain ⟨h1, h2, l', r', h3⟩ := whole_ok h
  unfold cipherP at h3
  rcases h4 : betP 1 2 3 l' with e | ⟨k, r1⟩
  ·rw [bindP_err h4] at h3; cases h3
  rw [bindP_ok h4] at h3
  rcases h5 : betP 1 0 (pv.q.length - 1) r1 with e | ⟨v, r2⟩
  ·rw [bindP_err h5] at h3; cases h3
  rw [bindP_ok h5] at h3
  have := betP_range h4
  refine ⟨by have := manyP_len h3; simp only [xD]; omega, fun x hx => ?_⟩
  obtain ⟨l2, r3, h6⟩ := manyP_mem h3 x hx
  exact elem_short h6 (by omega) (by rw [List.length_take]; omega)
theorem short_pub (l : List Nat) (j : Nat) : ((xD (endP (headP 3 publicP l))).getD j []).length ≤ 1000 ∧ ∀ y ∈ (xD (endP (headP 3 publicP l))).getD j [], y.length ≤ 100000 := by
 rcases h : endP (headP 3 publicP l) with e | ⟨pv, xs⟩
 ·exact ⟨by simp [xD], fun x hx => by simp [xD] at hx⟩
 ·obtain ⟨h1, h2, l', r', h3⟩ := whole_ok h
  simp only [xD]
  by_cases hj : j < xs.length
  ·have hm : xs.getD j [] ∈ xs := by simp [List.getD, hj]
   obtain ⟨l2, r3, h6⟩ := manyP_mem h3 _ hm
   exact elem_short h6 (by omega) (by omega)
  ·have : xs.getD j [] = [] := by simp [List.getD, List.getElem?_eq_none (show xs.length ≤ j by omega)]
   rw [this]
   exact ⟨by simp, fun y hy => by simp at hy⟩
theorem short_sec (l : List Nat) : (xD (endP (headP 4 secretP l))).length ≤ 100000 := by
 rcases h : endP (headP 4 secretP l) with e | ⟨pv, xs⟩
 ·simp [xD]
 ·obtain ⟨h1, h2, l', r', h3⟩ := whole_ok h
  have := manyP_len h3
  simp only [xD]
  omega
end Go.Proofs.YtkbcobjhlpjieaaGreatDoor
