import Derived.Test.YtkbcobjhlpjieaaGreatDoorZ31
import Derived.Deep.RegionHeld3
import Derived.Deep.DeepCutAuto
namespace Go.Proofs.YtkbcobjhlpjieaaGreatDoor
open Go.RowKit
set_option linter.unusedVariables false
set_option maxRecDepth 100000
theorem cell_on {p g : Nat} {w w' : World} {v : Value} {o : Nat} (k : On p w w') (h : w.cell? ⟨g, o, none⟩ = some v) (hne : g ≠ p) : w'.cell? ⟨g, o, none⟩ = some v :=
 (World.cell?_of_block (k.block _ (World.block_lt_of_cell? w ⟨g, o, none⟩ h) (fun e => hne (by injection e)))).trans h
theorem tuple2 {a b c d : Value} (h : Value.tuple #[a, b] = Value.tuple #[c, d]) : a = c ∧ b = d := by
 injection h with h
 have h1 := congrArg (fun x : Array Value => x[0]?) h
 have h2 := congrArg (fun x : Array Value => x[1]?) h
 exact ⟨by simpa using h1, by simpa using h2⟩
structure Kn (w : World) (S : Nat → Value) (n : Nat) (qs : List Nat) (AQ : Option Addr) (cQ : Nat) : Prop where
 n1 : S 1 = .int .i64 (n : Int)
 t1 : ∃ t : Nat, S 2 = .int .u64 (t : Int)
 w1 : ∃ wd : Nat, S 4 = .int .i64 (wd : Int)
 q1 : S 3 = .slice AQ qs.length cQ
 ly : LY 22 WordR w AQ cQ qs
 nl : n ≤ 65535
 ql : qs.length ≤ 255
 pos : ∀ q ∈ qs, 0 < q
theorem Kn.keeps {w w' : World} {S : Nat → Value} {n : Nat} {qs : List Nat} {AQ : Option Addr} {cQ : Nat} {ts : List TypeId} (h : Kn w S n qs AQ cQ) (k : Keeps ts w w') (ht : 22 ∈ ts) : Kn w' S n qs AQ cQ :=
 ⟨h.n1, h.t1, h.w1, h.q1, h.ly.keeps (wordR_stays _) ht k, h.nl, h.ql, h.pos⟩
set_option maxHeartbeats 2000000 in
theorem res1_any (p q g : Nat) (l : List Nat) (S : Nat → Value) (w : World) (hT : Hid (RS w p l S)) (hl : l.length ≤ 100000) (hc : w.cell? ⟨g, 0, none⟩ = some (.int .u64 (q : Int))) (hq0 : 0 < q) (hq : q < 18446744073709551616) :
    Calls Tryz.prog 142 #[.pointer (some ⟨p, 0, none⟩), .pointer (some ⟨g, 0, none⟩)] w (RdPost p S (.int .u64 0) w (betP 8 0 (q - 1) l) WordR) := by
 have hw1 : IntKind.u64.wrap ((q : Int) - 1) = ((q - 1 : Nat) : Int) := by rw [IntKind.wrap_u64]; omega
 go_enter Tryz.func142, Tryz.ntmps142
 go_wp2_with fail
 refine (between_any 8 0 (q - 1) p l S w hT (by omega) (by omega) hl (by omega) (by omega)).mono ?_
 intro e w1 h
 rcases h with ⟨x, r, v, h1, rfl, h3, h4, h5, h6⟩ | ⟨c, h1, h2, h3, rfl, h5, h7⟩
 ·have H := Lib.hid (show RdPost p S (.int .u64 0) w (betP 8 0 (q - 1) l) WordR (.returned (.tuple #[v, .int .i64 0])) w1 from .inl ⟨x, r, v, h1, rfl, h3, h4, h5, h6⟩)
  clear h1 h3 h4 h6
  go_wp2
  go_ret2
  exact H.out
 ·have H := Lib.hid (show RdPost p S (.int .u64 0) w (betP 8 0 (q - 1) l) WordR (.returned (.tuple #[.int .u64 0, .int .i64 (c : Int)])) w1 from .inr ⟨c, h1, h2, h3, rfl, h5, h7⟩)
  clear h1 h5
  go_wp2
  go_ret2
  exact H.out
set_option maxHeartbeats 2000000 in
theorem residues_any (p q n : Nat) (l : List Nat) (S : Nat → Value) (w : World) (hT : Hid (RS w p l S)) (hl : l.length ≤ 100000) (hn1 : S 1 = .int .i64 (n : Int)) (hn : n ≤ 65535) (hq0 : 0 < q) (hq : q < 18446744073709551616) :
    Calls Tryz.prog 122 #[.pointer (some ⟨p, 0, none⟩), .int .u64 (q : Int)] w (RdPost p S (.slice none 0 0) w (manyP (betP 8 0 (q - 1)) n l) WsR) := by
 have c1 := (hT.out.ext ((Ext.refl w).alloc (.cells #[.int .u64 (q : Int)] 22))).cell (i := 1) (by omega) (by omega)
 rw [hn1] at c1
 have hpw := hT.out.lt
 have hb : (w.alloc (.cells #[.int .u64 (q : Int)] 22)).cell? ⟨w.heap.size, 0, none⟩ = some (.int .u64 (q : Int)) := by simp
 have HB := Lib.hid hb
 have HT := Lib.hid (hT.out.ext ((Ext.refl w).alloc (.cells #[.int .u64 (q : Int)] 22)))
 have HO := Lib.hid ((On.refl p w).alloc (.cells #[.int .u64 (q : Int)] 22))
 clear hb
 go_enter Tryz.func122, Tryz.ntmps122
 go_wp2_with fail
 refine (manyW_any 142 #[.pointer (some ⟨w.heap.size, 0, none⟩)] (betP 8 0 (q - 1)) n p l S (.int .u64 0) _ HT hl (by omega) (Lib.hid fun args w => by rfl) (Lib.hid fun l1 w1 k1 hT1 hl1 => ?_)).mono ?_
 ·exact res1_any p q w.heap.size l1 S w1 (Lib.hid hT1) hl1 (cell_on k1 HB.out (by omega)) hq0 hq
 ·intro e w1 h
  replace h := h.mono HO.out
  rcases h with ⟨x, r, v, h1, rfl, h3, h4, h5, h6⟩ | ⟨c, h1, h2, h3, rfl, h5, h7⟩
  ·have H := Lib.hid (show RdPost p S (.slice none 0 0) w (manyP (betP 8 0 (q - 1)) n l) WsR (.returned (.tuple #[v, .int .i64 0])) w1 from .inl ⟨x, r, v, h1, rfl, h3, h4, h5, h6⟩)
   clear h1 h3 h4 h6
   go_wp2
   go_ret2
   exact H.out
  ·have H := Lib.hid (show RdPost p S (.slice none 0 0) w (manyP (betP 8 0 (q - 1)) n l) WsR (.returned (.tuple #[.slice none 0 0, .int .i64 (c : Int)])) w1 from .inr ⟨c, h1, h2, h3, rfl, h5, h7⟩)
   clear h1 h5
   go_wp2
   go_ret2
   exact H.out
set_option maxHeartbeats 4000000 in
theorem uEl_any (p n lev : Nat) (qs : List Nat) (AQ : Option Addr) (cQ : Nat) (l : List Nat) (S : Nat → Value) (w : World) (hT : Hid (RS w p l S)) (hl : l.length ≤ 100000) (hK : Hid (Kn w S n qs AQ cQ)) (h5 : S 5 = .int .i64 (lev : Int)) (hlev : lev < qs.length) :
    Calls Tryz.prog 102 #[.pointer (some ⟨p, 0, none⟩)] w (RdPost p S (.agg #[.slice none 0 0]) w (elemP n (qs.take (lev + 1)) l) (AgR ElR)) := by
 have kA : Ext w (w.alloc (.cells #[.slice none 0 0] 31)) := (Ext.refl w).alloc _
 have hT1 := hT.out.ext kA
 have c3 := hT1.cell (i := 3) (by omega) (by omega)
 have c5 := hT1.cell (i := 5) (by omega) (by omega)
 rw [hK.out.q1] at c3
 rw [h5] at c5
 have hpw := hT.out.lt
 have HT := Lib.hid hT1
 have HO := Lib.hid ((On.refl p w).alloc (.cells #[.slice none 0 0] 31))
 have hL := hK.out.ql
 have hroom := hK.out.ly.room
 have HQ := Lib.hid (show LY 22 WordR (w.alloc (.cells #[.slice none 0 0] 31)) AQ cQ (qs.take (lev + 1)) from by
  have h := hK.out.ly.keeps (wordR_stays [22]) (by decide) (Keeps.ext kA)
  refine ⟨by rw [List.length_take]; have := h.room; omega, h.ty, fun hn => ?_⟩
  obtain ⟨ad, e, hc⟩ := h.cells (by omega)
  refine ⟨ad, e, fun j x hx => hc j x ?_⟩
  rw [List.getElem?_take] at hx
  split at hx
  ·exact hx
  ·cases hx)
 have HP := Lib.hid hK.out.pos
 have HW := Lib.hid (show ∀ q ∈ qs, q < 18446744073709551616 from fun q hq => by
  obtain ⟨j, hj, e⟩ := List.getElem_of_mem hq
  have := hK.out.ly.words j hj
  simpa [List.getD, hj, e] using this)
 have HN := Lib.hid hK.out.n1
 have hn := hK.out.nl
 obtain ⟨M, hM⟩ : ∃ M, M = qs.length := ⟨_, rfl⟩
 rw [← hM] at c3 hL hroom hlev
 have HQ1 := Lib.hid (show S 3 = .slice AQ M cQ by rw [hM]; exact hK.out.q1)
 have HLT := Lib.hid (show (qs.take (lev + 1)).length = lev + 1 by rw [List.length_take]; omega)
 clear hT1 hM
 have hs0 : (w.alloc (.cells #[.slice none 0 0] 31)).heap.size = w.heap.size + 1 := by simp
 have hr0 : RW (w.alloc (.cells #[.slice none 0 0] 31)) w.heap.size 31 1 (fun _ => .slice none 0 0) := heap_alloc_new w _
 have hw1 : IntKind.i64.wrap ((lev : Int) + 1) = (lev : Int) + 1 := by rw [IntKind.wrap_i64]; omega
 have i1 : (0 : Int) ≤ (lev : Int) + 1 := by omega
 have i2 : (lev : Int) + 1 ≤ (cQ : Int) := by omega
 have hpne : w.heap.size ≠ p := by omega
 have HE := Lib.hid (show elemP n (qs.take (lev + 1)) l = eachP (fun q => manyP (betP 8 0 (q - 1)) n) (qs.take (lev + 1)) l from rfl)
 go_enter Tryz.func102, Tryz.ntmps102
 go_wp2_with fail
 generalize w.alloc (.cells #[.slice none 0 0] 31) = V at *
 have v0 := hr0.cell (i := 0) (by omega)
 go_region_held3 (fun w' => w'.cell? ⟨p, 3, none⟩ = some (.slice AQ M cQ) ∧ w'.cell? ⟨p, 5, none⟩ = some (.int .i64 (lev : Int))) (go_keep)
  (first
   | (go_at_call 121
      refine (eachS_any 122 p cQ (lev + 1) AQ (qs.take (lev + 1)) (fun q => manyP (betP 8 0 (q - 1)) n) l S _ (Lib.hid (HT.out.ext (by first | exact Ext.refl _ | exact (Ext.refl _).drew))) hl HLT (by omega) (Lib.hid (HQ.out.keeps (wordR_stays [22]) (by decide) (Keeps.ext (by first | exact Ext.refl _ | exact (Ext.refl _).drew)))) (Lib.hid fun args w => by rfl) (Lib.hid fun j q l1 w1 hj k1 hT1 hl1 => residues_any p q n l1 S w1 (Lib.hid hT1) hl1 HN.out hn (HP.out q (List.mem_of_mem_take (List.mem_of_getElem? hj))) (HW.out q (List.mem_of_mem_take (List.mem_of_getElem? hj))))).mono ?_
      intro ee w2 hh
      have kd : On p w V.drew := HO.out.trans (On.of (Ext.refl V).drew)
      replace hh := hh.mono (show On p V V.drew from On.of (Ext.refl V).drew)
      obtain ⟨A2, m2, c2, z2, rfl, hon, hre⟩ : ∃ (A : Option Addr) (m c z : Nat), ee = .returned (.tuple #[.slice A m c, .int .i64 (z : Int)]) ∧ On p V w2 ∧ RE w2 p S := by
       rcases hh with ⟨x, r, v, h1, he, ⟨A, c, h3, h4⟩, h5, h6, h7⟩ | ⟨c, h1, h2, h3, he, h5, h6⟩
       ·exact ⟨A, x.length, c, 0, by rw [he, h3]; rfl, h7, r, h5⟩
       ·exact ⟨none, 0, 0, c, by rw [he], h5, h6⟩
      have d3 : w2.cell? ⟨p, 3, none⟩ = some (.slice AQ M cQ) := by obtain ⟨r, hre⟩ := hre; rw [hre.cell (by omega) (by omega)]; exact congrArg some HQ1.out
      have d5 : w2.cell? ⟨p, 5, none⟩ = some (.int .i64 (lev : Int)) := by obtain ⟨r, hre⟩ := hre; rw [hre.cell (by omega) (by omega)]; exact congrArg some h5
      have HH := Lib.hid hh
      have hr2 : RW w2 w.heap.size 31 1 (fun _ => .slice none 0 0) := RW.keep hr0 (hon.block _ (by omega) (fun e => hpne (by injection e)))
      have g0 := hr2.cell (i := 0) (by omega)
      have g1 := hr2.frozen 0
      have g2 := ret_cell hr2 (.slice A2 m2 c2)
      clear hh)
   | fail)
 all_goals
  have HF := Lib.hid (show RdPost p S (.agg #[.slice none 0 0]) w (elemP n (qs.take (lev + 1)) l) (AgR ElR) (.returned (.tuple #[.agg #[.slice A2 m2 c2], .int .i64 (z2 : Int)])) (w2.setCell ⟨w.heap.size, 0, none⟩ (.slice A2 m2 c2)) by
   rw [HE.out]
   rcases HH.out with ⟨x, r, v, h1, he, h3, h5, h6, h7⟩ | ⟨c, h1, h2, h3, he, h5, h6⟩
   ·injection he with he
    have e0 := tuple2 he
    refine .inl ⟨x, r, _, h1, by rw [e0.2], ⟨.slice A2 m2 c2, rfl, ?_⟩, h5.setFar hpw _, h6, (HO.out.trans h7).setFar (Nat.le_refl _) _⟩
    rw [e0.1]
    exact elR_stays (ts := [22, 23]) (by decide) (by decide) _ _ _ _ (Keeps.set hr2 (by decide) _) h3
   ·injection he with he
    have e0 := tuple2 he
    exact .inr ⟨c, h1, h2, h3, by rw [e0.1, e0.2], (HO.out.trans h5).setFar (Nat.le_refl _) _, h6.setFar hpw _⟩)
  clear d3 d5
  go_wp2
  generalize w2.setCell ⟨w.heap.size, 0, none⟩ (.slice A2 m2 c2) = w5 at *
  exact bodyPost_ret (v := .tuple #[.agg #[.slice A2 m2 c2], .int .i64 (z2 : Int)]) (by simp [results, Tryz.results102, go_sem, g2]) rfl HF.out
set_option maxHeartbeats 2000000 in
theorem sign_any (p : Nat) (l : List Nat) (S : Nat → Value) (w : World) (hT : Hid (RS w p l S)) (hl : l.length ≤ 100000) :
    Calls Tryz.prog 106 #[.pointer (some ⟨p, 0, none⟩)] w (RdPost p S (.int .i64 0) w (signP l) SignR) := by
 go_enter Tryz.func106, Tryz.ntmps106
 go_wp2_with fail
 refine (between_any 1 0 2 p l S w hT (by omega) (by omega) hl (by omega) (by omega)).mono ?_
 rintro e w1 (⟨x, r, v, h1, rfl, ⟨rfl, hx⟩, h4, h5, h6⟩ | ⟨c, h1, h2, h3, rfl, h5, h7⟩)
 ·have HR := Lib.hid (show signP l = .ok (signZ x, r) from bindP_ok h1)
  have hx2 : x ≤ 2 := by
   unfold betP bindP at h1
   split at h1
   ·cases h1
   ·dsimp only at h1
    split at h1
    ·cases h1
    ·injection h1 with h1; injection h1 with h1 _; omega
  have H4 := Lib.hid h4
  have H6 := Lib.hid h6
  clear h1 h4 h6
  by_cases g : x = 2
  ·subst g
   go_wp2
   go_ret2
   exact .inl ⟨_, r, _, HR.out, rfl, ⟨rfl, by decide, by decide⟩, H4.out, h5, H6.out⟩
  ·have e : signZ x = (x : Int) := if_neg g
   have g2 : ((x : Int) == 2) = false := by simp; omega
   have hw1 : IntKind.i64.wrap (x : Int) = (x : Int) := by rw [IntKind.wrap_i64]; omega
   rw [e] at HR
   go_wp2
   go_ret2
   exact .inl ⟨_, r, _, HR.out, rfl, ⟨rfl, by omega, by omega⟩, H4.out, h5, H6.out⟩
 ·have HR := Lib.hid (show signP l = .error c from bindP_err h1)
  have H5 := Lib.hid h5
  clear h1 h5
  go_wp2
  go_ret2
  exact .inr ⟨c, HR.out, h2, h3, rfl, H5.out, h7⟩
set_option maxHeartbeats 2000000 in
theorem secret_any (p n : Nat) (pv : PV) (l : List Nat) (S : Nat → Value) (w : World) (hT : Hid (RS w p l S)) (hl : l.length ≤ 100000) (hn1 : S 1 = .int .i64 (n : Int)) (hn : n ≤ 65535) (hp : Hid (n = pv.n)) :
    Calls Tryz.prog 68 #[.pointer (some ⟨p, 0, none⟩)] w (RdPost p S (.slice none 0 0) w (secretP pv l) SgR) := by
 have c1 := hT.out.cell (i := 1) (by omega) (by omega)
 rw [hn1] at c1
 have HE := Lib.hid (show secretP pv l = manyP signP n l by unfold secretP; rw [hp.out])
 go_enter Tryz.func68, Tryz.ntmps68
 go_wp2_with fail
 refine (manyI_any 106 #[] signP n p l S (.int .i64 0) _ hT hl (by omega) (Lib.hid fun args w => by rfl) (Lib.hid fun l1 w1 k1 hT1 hl1 => sign_any p l1 S w1 (Lib.hid hT1) hl1)).mono ?_
 intro e w1 h
 rw [← HE.out] at h
 rcases h with ⟨x, r, v, h1, rfl, h3, h4, h5, h6⟩ | ⟨c, h1, h2, h3, rfl, h5, h7⟩
 ·have H := Lib.hid (show RdPost p S (.slice none 0 0) w (secretP pv l) SgR (.returned (.tuple #[v, .int .i64 0])) w1 from .inl ⟨x, r, v, h1, rfl, h3, h4, h5, h6⟩)
  clear h1 h3 h4 h6
  go_wp2
  go_ret2
  exact H.out
 ·have H := Lib.hid (show RdPost p S (.slice none 0 0) w (secretP pv l) SgR (.returned (.tuple #[.slice none 0 0, .int .i64 (c : Int)])) w1 from .inr ⟨c, h1, h2, h3, rfl, h5, h7⟩)
  clear h1 h5
  go_wp2
  go_ret2
  exact H.out
theorem RdPost.later {α : Type} {p : Nat} {S : Nat → Value} {z : Value} {w : World} {res : Except Nat (α × List Nat)} {V : World → Value → α → Prop} {e : Ending} {w' w'' : World} {ts : List TypeId} (hV : Stays ts V) (h : RdPost p S z w res V e w') (k : Ext w' w'') : RdPost p S z w res V e w'' := by
 rcases h with ⟨x, r, v, h1, h2, h3, h4, h5, h6⟩ | ⟨c, h1, h2, h3, h4, h5, h6⟩
 ·exact .inl ⟨x, r, v, h1, h2, hV _ _ _ _ (Keeps.ext k) h3, h4.ext k, h5, h6.trans (On.of k)⟩
 ·exact .inr ⟨c, h1, h2, h3, h4, h5.trans (On.of k), h6.ext k⟩
theorem two_els {w : World} {A : Option Addr} {m c : Nat} {xs : List (List (List Nat))} (h : LY 31 ElR w A c xs) (hl : xs.length = 2) :
    ∃ (ad : Addr) (A0 A1 : Option Addr) (c0 c1 : Nat) (x0 x1 : List (List Nat)), A = some ad ∧ xs = [x0, x1] ∧ w.cell? (ad.add 0) = some (.slice A0 x0.length c0) ∧ w.cell? (ad.add 1) = some (.slice A1 x1.length c1) ∧ ElR w (.slice A0 x0.length c0) x0 ∧ ElR w (.slice A1 x1.length c1) x1 := by
 match xs, hl with
 | [x0, x1], _ =>
  obtain ⟨ad, e, hc⟩ := h.cells (by simp)
  obtain ⟨u0, h0, h1⟩ := hc 0 x0 rfl
  obtain ⟨u1, h2, h3⟩ := hc 1 x1 rfl
  obtain ⟨A0, c0, rfl⟩ := elR_slice h1
  obtain ⟨A1, c1, rfl⟩ := elR_slice h3
  exact ⟨ad, A0, A1, c0, c1, x0, x1, e, rfl, h0, h2, h1, h3⟩
def PubR (w : World) (v : Value) (x : List (List (List Nat))) : Prop := ∃ (A0 A1 : Option Addr) (c0 c1 : Nat) (x0 x1 : List (List Nat)), x = [x0, x1] ∧ v = .agg #[.slice A0 x0.length c0, .slice A1 x1.length c1] ∧ ElR w (.slice A0 x0.length c0) x0 ∧ ElR w (.slice A1 x1.length c1) x1
theorem pubR_stays {ts : List TypeId} (h : 22 ∈ ts) (h2 : 23 ∈ ts) : Stays ts PubR := fun w w' v x k hx => by
 obtain ⟨A0, A1, c0, c1, x0, x1, e, e2, h3, h4⟩ := hx
 exact ⟨A0, A1, c0, c1, x0, x1, e, e2, elR_stays h h2 _ _ _ _ k h3, elR_stays h h2 _ _ _ _ k h4⟩
theorem ret_two {w : World} {x : Nat} {t : TypeId} {F : Nat → Value} (h : RW w x t 2 F) (a b : Value) : ((w.setCell ⟨x, 0, none⟩ a).setCell ⟨x, 1, none⟩ b).cell? ⟨x, 0, none⟩ = some a ∧ ((w.setCell ⟨x, 0, none⟩ a).setCell ⟨x, 1, none⟩ b).cell? ⟨x, 1, none⟩ = some b := by
 have h1 := (h.set (show 0 < 2 by omega) a).set (show 1 < 2 by omega) b
 exact ⟨by have := h1.cell (i := 0) (by omega); simpa using this, by have := h1.cell (i := 1) (by omega); simpa using this⟩
set_option maxHeartbeats 4000000 in
theorem uPub_any (p n : Nat) (qs : List Nat) (pv : PV) (AQ : Option Addr) (cQ : Nat) (l : List Nat) (S : Nat → Value) (w : World) (hT : Hid (RS w p l S)) (hl : l.length ≤ 100000) (hK : Hid (Kn w S n qs AQ cQ)) (h5 : S 5 = .int .i64 ((qs.length - 1 : Nat) : Int)) (hq : 0 < qs.length) (hp : Hid (n = pv.n ∧ qs = pv.q)) :
    Calls Tryz.prog 66 #[.pointer (some ⟨p, 0, none⟩)] w (RdPost p S (.agg #[.slice none 0 0, .slice none 0 0]) w (publicP pv l) PubR) := by
 have HE := Lib.hid (show publicP pv l = manyP (elemP n (qs.take (qs.length - 1 + 1))) 2 l by
  unfold publicP; rw [hp.out.1, hp.out.2, show pv.q.length - 1 + 1 = pv.q.length by rw [← hp.out.2]; omega, List.take_length])
 have kA : Ext w (w.alloc (.cells #[.slice none 0 0, .slice none 0 0] 33)) := (Ext.refl w).alloc _
 have HT := Lib.hid (hT.out.ext kA)
 have HO := Lib.hid ((On.refl p w).alloc (.cells #[.slice none 0 0, .slice none 0 0] 33))
 have HK := Lib.hid (hK.out.keeps (ts := [22]) (Keeps.ext kA) (by decide))
 have hpw := hT.out.lt
 have hr0 : RW (w.alloc (.cells #[.slice none 0 0, .slice none 0 0] 33)) w.heap.size 33 2 (fun _ => .slice none 0 0) := heap_alloc_new w _
 have hpne : w.heap.size ≠ p := by omega
 have hs0 : (w.alloc (.cells #[.slice none 0 0, .slice none 0 0] 33)).heap.size = w.heap.size + 1 := by simp
 go_enter Tryz.func66, Tryz.ntmps66
 go_wp2_with fail
 generalize w.alloc (.cells #[.slice none 0 0, .slice none 0 0] 33) = V at *
 refine (manyP_any 102 #[] (elemP n (qs.take (qs.length - 1 + 1))) 2 p l S (.int .i64 0) _ HT hl (by omega) (Lib.hid fun args w => by rfl) (Lib.hid fun l1 w1 k1 hT1 hl1 => ?_)).mono ?_
 ·exact uEl_any p n (qs.length - 1) qs AQ cQ l1 S w1 (Lib.hid hT1) hl1 (Lib.hid (HK.out.keeps (ts := [22]) (HT.out.keeps k1 (by decide)) (by decide))) h5 (by omega)
 ·intro ee w2 hh
  rw [← HE.out] at hh
  have hlen := HE.out
  rcases hh with ⟨xs, r, v, h1, rfl, ⟨A2, c2, rfl, h3⟩, h4, h5', h6⟩ | ⟨c, h1, h2, h3, rfl, h6, h7⟩
  ·have hl2 : xs.length = 2 := manyP_len (hlen ▸ h1)
   clear hlen
   obtain ⟨ad, A0, A1, c0, c1, x0, x1, rfl, rfl, g0, g1, g2, g3⟩ := two_els (m := 2) h3 hl2
   have hr2 : RW w2 w.heap.size 33 2 (fun _ => .slice none 0 0) := RW.keep hr0 (h6.block _ (by omega) (fun e => hpne (by injection e)))
   have d0 := hr2.cell (i := 0) (by omega)
   have d1 := hr2.cell (i := 1) (by omega)
   have z0 := hr2.frozen 0
   have z1 := hr2.frozen 1
   obtain ⟨e0, e1⟩ := ret_two hr2 (.slice A0 x0.length c0) (.slice A1 x1.length c1)
   have HF := Lib.hid (show RdPost p S (.agg #[.slice none 0 0, .slice none 0 0]) w (publicP pv l) PubR (.returned (.tuple #[.agg #[.slice A0 x0.length c0, .slice A1 x1.length c1], .int .i64 0])) ((w2.setCell ⟨w.heap.size, 0, none⟩ (.slice A0 x0.length c0)).setCell ⟨w.heap.size, 1, none⟩ (.slice A1 x1.length c1)) from by
    have kk : Keeps [22, 23] w2 ((w2.setCell ⟨w.heap.size, 0, none⟩ (.slice A0 x0.length c0)).setCell ⟨w.heap.size, 1, none⟩ (.slice A1 x1.length c1)) := (Keeps.set hr2 (by decide) _).trans (Keeps.set (hr2.set (show 0 < 2 by omega) _) (by decide) _)
    exact .inl ⟨[x0, x1], r, _, h1, rfl, pubR_stays (by decide) (by decide) _ _ _ _ kk ⟨A0, A1, c0, c1, x0, x1, rfl, rfl, g2, g3⟩, (h4.setFar hpw _).setFar hpw _, h5', ((HO.out.trans h6).setFar (Nat.le_refl _) _).setFar (Nat.le_refl _) _⟩)
   rw [show ad.add 0 = ad from rfl] at g0
   rw [show ad.add 1 = ⟨ad.block, ad.off + 1, none⟩ from rfl] at g1
   clear h1 h3 h4 h6 g2 g3
   generalize x0.length = n0 at *
   generalize x1.length = n1 at *
   go_wp2_with fail
   go_region
   all_goals
    go_wp2
    generalize (w2.setCell ⟨w.heap.size, 0, none⟩ (.slice A0 n0 c0)).setCell ⟨w.heap.size, 1, none⟩ (.slice A1 n1 c1) = w5 at *
    exact bodyPost_ret (v := .tuple #[.agg #[.slice A0 n0 c0, .slice A1 n1 c1], .int .i64 0]) (by simp [results, Tryz.results66, go_sem, e0, e1]) rfl (HF.out.later (ts := [22, 23]) (pubR_stays (by decide) (by decide)) (Ext.refl _).drew)
  ·have hr2 : RW w2 w.heap.size 33 2 (fun _ => .slice none 0 0) := RW.keep hr0 (h6.block _ (by omega) (fun e => hpne (by injection e)))
   have d0 := hr2.cell (i := 0) (by omega)
   have d1 := hr2.cell (i := 1) (by omega)
   have z0 := hr2.frozen 0
   have z1 := hr2.frozen 1
   obtain ⟨e0, e1⟩ := ret_two hr2 (.slice none 0 0) (.slice none 0 0)
   have HF := Lib.hid (show RdPost p S (.agg #[.slice none 0 0, .slice none 0 0]) w (publicP pv l) PubR (.returned (.tuple #[.agg #[.slice none 0 0, .slice none 0 0], .int .i64 (c : Int)])) ((w2.setCell ⟨w.heap.size, 0, none⟩ (.slice none 0 0)).setCell ⟨w.heap.size, 1, none⟩ (.slice none 0 0)) from
    .inr ⟨c, h1, h2, h3, rfl, ((HO.out.trans h6).setFar (Nat.le_refl _) _).setFar (Nat.le_refl _) _, (h7.setFar hpw _).setFar hpw _⟩)
   have i1 : ¬ (c : Int) = 0 := by omega
   clear h1 h6 h7
   go_wp2
   generalize (w2.setCell ⟨w.heap.size, 0, none⟩ (.slice none 0 0)).setCell ⟨w.heap.size, 1, none⟩ (.slice none 0 0) = w5 at *
   exact bodyPost_ret (v := .tuple #[.agg #[.slice none 0 0, .slice none 0 0], .int .i64 (c : Int)]) (by simp [results, Tryz.results66, go_sem, e0, e1]) rfl HF.out
def PtPost {α : Type} (p : Nat) (S : Nat → Value) (z : Value) (w : World) (res : Except Nat (α × List Nat)) (V : World → Value → α → Prop) (e : Ending) (w' : World) : Prop :=
 ∃ S' : Nat → Value, (∀ i, 1 ≤ i → i ≤ 4 → S' i = S i) ∧ RdPost p S' z w res V e w'
theorem RdPost.pt {α : Type} {p : Nat} {S : Nat → Value} {z : Value} {w : World} {res : Except Nat (α × List Nat)} {V : World → Value → α → Prop} {e : Ending} {w' : World} (h : RdPost p S z w res V e w') : PtPost p S z w res V e w' := ⟨S, fun _ _ _ => rfl, h⟩
theorem betP_range {n a b v : Nat} {l r : List Nat} (h : betP n a b l = .ok (v, r)) : a ≤ v ∧ v ≤ b := by
 unfold betP bindP at h
 split at h
 ·cases h
 ·dsimp only at h
  split at h
  ·cases h
  ·injection h with h; injection h with h _; omega
theorem RS.setIn {w : World} {p : Nat} {l : List Nat} {S : Nat → Value} (h : RS w p l S) {i : Nat} (h0 : i ≠ 0) (hi : i < 7) (v : Value) : RS (w.setCell ⟨p, i, none⟩ v) p l (fun j => if j = i then v else S j) := by
 obtain ⟨A, c, h1, h2, h3⟩ := h
 refine ⟨A, c, (h1.set hi v).congr fun j hj => ?_, h2.on ((On.refl p w).set i v) h3, h3⟩
 unfold rcF
 by_cases e : j = i
 ·subst e; simp [h0]
 ·simp [e]
set_option maxHeartbeats 8000000 in
theorem uCip_any (p n t wd M : Nat) (qs : List Nat) (pv : PV) (AQ : Option Addr) (cQ : Nat) (l : List Nat) (S : Nat → Value) (w : World) (hT : Hid (RS w p l S)) (hl : l.length ≤ 100000) (hK : Hid (Kn w S n qs AQ cQ)) (hS2 : S 2 = .int .u64 (t : Int)) (hS4 : S 4 = .int .i64 (wd : Int)) (z5 : ∃ v5, S 5 = v5) (hq : 0 < M) (hM : Hid (M = qs.length)) (hp : Hid (n = pv.n ∧ qs = pv.q)) :
    Calls Tryz.prog 64 #[.pointer (some ⟨p, 0, none⟩)] w (PtPost p S (.agg #[.slice none 0 0]) w (cipherP pv l) (AgR ElsR)) := by
 have hMl : M ≤ 255 := by rw [hM.out]; exact hK.out.ql
 have kA : Ext w (w.alloc (.cells #[.slice none 0 0] 28)) := (Ext.refl w).alloc _
 have HT := Lib.hid (hT.out.ext kA)
 have HO := Lib.hid ((On.refl p w).alloc (.cells #[.slice none 0 0] 28))
 have HK := Lib.hid (hK.out.keeps (ts := [22]) (Keeps.ext kA) (by decide))
 have hpw := hT.out.lt
 have hr0 : RW (w.alloc (.cells #[.slice none 0 0] 28)) w.heap.size 28 1 (fun _ => .slice none 0 0) := heap_alloc_new w _
 have hpne : w.heap.size ≠ p := by omega
 have hs0 : (w.alloc (.cells #[.slice none 0 0] 28)).heap.size = w.heap.size + 1 := by simp
 have hQ1 : S 3 = .slice AQ M cQ := by rw [hM.out]; exact hK.out.q1
 have hN1 := hK.out.n1
 have H0 := Lib.hid hr0
 have hw1 : IntKind.u64.wrap ((M : Int) - 1) = ((M - 1 : Nat) : Int) := by rw [IntKind.wrap_u64]; omega
 -- what an error leaves
 have HERR := Lib.hid (show ∀ (V w2 : World) (c : Nat) (S' : Nat → Value), (∀ i, 1 ≤ i → i ≤ 4 → S' i = S i) → On p V w2 → On p w V → RW V w.heap.size 28 1 (fun _ => .slice none 0 0) → V.heap.size = w.heap.size + 1 → RE w2 p S' → cipherP pv l = .error c → 0 < c → c ≤ 14 → RW w2 w.heap.size 28 1 (fun _ => .slice none 0 0) ∧ PtPost p S (.agg #[.slice none 0 0]) w (cipherP pv l) (AgR ElsR) (.returned (.tuple #[.agg #[.slice none 0 0], .int .i64 (c : Int)])) (w2.setCell ⟨w.heap.size, 0, none⟩ (.slice none 0 0)) from
  fun V w2 c S' hS' hon ho hr hs hre he h1 h2 => ⟨RW.keep hr (hon.block _ (by omega) (fun e => hpne (by injection e))), S', hS', .inr ⟨c, he, h1, h2, rfl, (ho.trans hon).setFar (Nat.le_refl _) _, hre.setFar hpw _⟩⟩)
 go_enter Tryz.func64, Tryz.ntmps64
 clear hr0
 go_wp2_with fail
 generalize w.alloc (.cells #[.slice none 0 0] 28) = V at *
 refine (between_any 1 2 3 p l S V HT (by omega) (by omega) hl (by omega) (by omega)).mono ?_
 rintro e w1 (⟨k, r1, v1, h1, rfl, ⟨rfl, hx⟩, h4, h5, h6⟩ | ⟨c, h1, h2, h3, rfl, h5, h7⟩)
 ·obtain ⟨k2, k3⟩ := betP_range h1
  have HB1 := Lib.hid h1
  have H4 := Lib.hid h4
  have H6 := Lib.hid h6
  have c1 := h4.cell (i := 1) (by omega) (by omega)
  have c2 := h4.cell (i := 2) (by omega) (by omega)
  have c3 := h4.cell (i := 3) (by omega) (by omega)
  have c4 := h4.cell (i := 4) (by omega) (by omega)
  rw [hN1] at c1
  rw [hS2] at c2
  rw [hQ1] at c3
  rw [hS4] at c4
  clear h1 h4 h6
  go_wp2_with fail
  refine (top_any (n : Int) (t : Int) (wd : Int) AQ M cQ w1 (by omega)).mono ?_
  rintro e2 w2 ⟨rfl, k5⟩
  go_wp2_with fail
  refine (between_any 1 0 (M - 1) p r1 S w2 (Lib.hid (H4.out.ext k5)) (by omega) (by omega) h5 (by omega) (by omega)).mono ?_
  rintro e3 w3 (⟨lev, r2, v3, h1, rfl, ⟨rfl, hx3⟩, h4, h5b, h6⟩ | ⟨c, h1, h2, h3, rfl, h6, h7⟩)
  ·obtain ⟨_, j3⟩ := betP_range h1
   have HB2 := Lib.hid h1
   have H7 := Lib.hid h4
   have HON := Lib.hid ((H6.out.trans (On.of k5)).trans h6)
   have s5 := h4.cell (i := 5) (by omega) (by omega)
   have z6 := h4.frozen 5
   have hw3 : IntKind.i64.wrap (lev : Int) = (lev : Int) := by rw [IntKind.wrap_i64]; omega
   have hwk : IntKind.i64.wrap (k : Int) = (k : Int) := by rw [IntKind.wrap_i64]; omega
   obtain ⟨S', hS'⟩ : ∃ x : Nat → Value, x = (fun j => if j = 5 then Value.int .i64 (lev : Int) else S j) := ⟨_, rfl⟩
   have H8 := Lib.hid (show RS (w3.setCell ⟨p, 5, none⟩ (.int .i64 (lev : Int))) p r2 S' by rw [hS']; exact h4.setIn (i := 5) (by omega) (by omega) (.int .i64 (lev : Int)))
   have HON2 := Lib.hid (HON.out.set 5 (.int .i64 (lev : Int)))
   have HR := Lib.hid (show cipherP pv l = manyP (elemP n (qs.take (lev + 1))) k r2 by
    unfold cipherP
    rw [bindP_ok HB1.out, bindP_ok (by rw [← hp.out.2, ← hM.out]; exact HB2.out), hp.out.1, hp.out.2])
   have HS5 := Lib.hid (show S' 5 = .int .i64 (lev : Int) by rw [hS']; simp)
   have HSI := Lib.hid (show ∀ i, 1 ≤ i → i ≤ 4 → S' i = S i from fun i h1 h2 => by rw [hS']; simp only [if_neg (show ¬ i = 5 by omega)])
   clear h1 h4 h6 hS'
   go_wp2_with fail
   generalize w3.setCell ⟨p, 5, none⟩ (.int .i64 (lev : Int)) = w4 at *
   refine (manyP_any 102 #[] (elemP n (qs.take (lev + 1))) k p r2 S' (.int .i64 0) w4 H8 h5b (by omega) (Lib.hid fun args w => by rfl) (Lib.hid fun l1 w5 k1 hT1 hl1 => ?_)).mono ?_
   ·have hk : Kn w5 S' n qs AQ cQ := by
       have h := (HK.out.keeps (ts := [22]) (HT.out.keeps (HON2.out.trans k1) (by decide)) (by decide))
       exact ⟨by rw [HSI.out 1 (by omega) (by omega)]; exact h.n1, by rw [HSI.out 2 (by omega) (by omega)]; exact h.t1, by rw [HSI.out 4 (by omega) (by omega)]; exact h.w1, by rw [HSI.out 3 (by omega) (by omega)]; exact h.q1, h.ly, h.nl, h.ql, h.pos⟩
    exact uEl_any p n lev qs AQ cQ l1 S' w5 (Lib.hid hT1) hl1 (Lib.hid hk) HS5.out (by rw [← hM.out]; omega)
   ·intro ee w6 hh
    rw [← HR.out] at hh
    rcases hh with ⟨xs, r, v, h1, rfl, ⟨A2, c5, rfl, h3⟩, h4, h5', h6⟩ | ⟨c, h1, h2, h3, rfl, h6, h7⟩
    ·have hr2 : RW w6 w.heap.size 28 1 (fun _ => .slice none 0 0) := RW.keep H0.out ((HON2.out.trans h6).block _ (by omega) (fun e => hpne (by injection e)))
     have d0 := hr2.cell (i := 0) (by omega)
     have z0 := hr2.frozen 0
     have e0 := ret_cell hr2 (.slice A2 xs.length c5)
     have HF := Lib.hid (show PtPost p S (.agg #[.slice none 0 0]) w (cipherP pv l) (AgR ElsR) (.returned (.tuple #[.agg #[.slice A2 xs.length c5], .int .i64 0])) (w6.setCell ⟨w.heap.size, 0, none⟩ (.slice A2 xs.length c5)) from
      ⟨S', HSI.out, .inl ⟨xs, r, _, h1, rfl, ⟨_, rfl, elsR_stays (ts := [22, 23, 31]) (by decide) (by decide) (by decide) _ _ _ _ (Keeps.set hr2 (by decide) _) ⟨A2, c5, rfl, h3⟩⟩, h4.setFar hpw _, h5', ((HO.out.trans HON2.out).trans h6).setFar (Nat.le_refl _) _⟩⟩)
     clear h1 h3 h4 h6
     generalize xs.length = m at *
     go_wp2
     generalize w6.setCell ⟨w.heap.size, 0, none⟩ (.slice A2 m c5) = w7 at *
     exact bodyPost_ret (v := .tuple #[.agg #[.slice A2 m c5], .int .i64 0]) (by simp [results, Tryz.results64, go_sem, e0]) rfl HF.out
    ·have HF := Lib.hid (HERR.out V w6 c S' HSI.out (HON2.out.trans h6) HO.out H0.out hs0 h7 h1 h2 h3)
     have i1 : ¬ (c : Int) = 0 := by omega
     clear h1 h6 h7
     have d0 := HF.out.1.cell (i := 0) (by omega)
     have z0 := HF.out.1.frozen 0
     have e0 := ret_cell HF.out.1 (.slice none 0 0)
     have HP := Lib.hid HF.out.2
     go_wp2
     generalize w6.setCell ⟨w.heap.size, 0, none⟩ (.slice none 0 0) = w5 at *
     exact bodyPost_ret (v := .tuple #[.agg #[.slice none 0 0], .int .i64 (c : Int)]) (by simp [results, Tryz.results64, go_sem, e0]) rfl HP.out
  ·have HF := Lib.hid (HERR.out V w3 c S (fun _ _ _ => rfl) ((H6.out.trans (On.of k5)).trans h6) HO.out H0.out hs0 h7 (by
      unfold cipherP
      rw [bindP_ok HB1.out]
      exact bindP_err (by rw [← hp.out.2, ← hM.out]; exact h1)) h2 h3)
   have i1 : ¬ (c : Int) = 0 := by omega
   clear h1 h6 h7
   have d0 := HF.out.1.cell (i := 0) (by omega)
   have z0 := HF.out.1.frozen 0
   have e0 := ret_cell HF.out.1 (.slice none 0 0)
   have HP := Lib.hid HF.out.2
   go_wp2
   generalize w3.setCell ⟨w.heap.size, 0, none⟩ (.slice none 0 0) = w5 at *
   exact bodyPost_ret (v := .tuple #[.agg #[.slice none 0 0], .int .i64 (c : Int)]) (by simp [results, Tryz.results64, go_sem, e0]) rfl HP.out
 ·have HF := Lib.hid (HERR.out V w1 c S (fun _ _ _ => rfl) h5 HO.out H0.out hs0 h7 (bindP_err h1) h2 h3)
  have i1 : ¬ (c : Int) = 0 := by omega
  clear h1 h5 h7
  have d0 := HF.out.1.cell (i := 0) (by omega)
  have z0 := HF.out.1.frozen 0
  have e0 := ret_cell HF.out.1 (.slice none 0 0)
  have HP := Lib.hid HF.out.2
  go_wp2
  generalize w1.setCell ⟨w.heap.size, 0, none⟩ (.slice none 0 0) = w5 at *
  exact bodyPost_ret (v := .tuple #[.agg #[.slice none 0 0], .int .i64 (c : Int)]) (by simp [results, Tryz.results64, go_sem, e0]) rfl HP.out
theorem RS.congr {w : World} {p : Nat} {l : List Nat} {S S' : Nat → Value} (h : RS w p l S) (e : ∀ i, 1 ≤ i → i < 7 → S i = S' i) : RS w p l S' := by
 obtain ⟨A, c, h1, h2, h3⟩ := h
 refine ⟨A, c, h1.congr fun i hi => ?_, h2, h3⟩
 unfold rcF
 by_cases h0 : i = 0
 ·simp [h0]
 ·simp only [if_neg h0]; exact e i (by omega) hi
theorem head_ok {l r : List Nat} {xs : List Nat} (h : eachP numP [2, 4, 1, 1] l = .ok (xs, r)) :
    ∃ a b c d r1 r2 r3, xs = [a, b, c, d] ∧ numP 2 l = .ok (a, r1) ∧ numP 4 r1 = .ok (b, r2) ∧ numP 1 r2 = .ok (c, r3) ∧ numP 1 r3 = .ok (d, r) := by
 rcases h1 : numP 2 l with e | ⟨a, r1⟩
 ·rw [eachP_err h1] at h; cases h
 rw [eachP_ok h1] at h
 rcases h2 : numP 4 r1 with e | ⟨b, r2⟩
 ·rw [eachP_err h2] at h; cases h
 rw [eachP_ok h2] at h
 rcases h3 : numP 1 r2 with e | ⟨c, r3⟩
 ·rw [eachP_err h3] at h; cases h
 rw [eachP_ok h3] at h
 rcases h4 : numP 1 r3 with e | ⟨d, r4⟩
 ·rw [eachP_err h4] at h; cases h
 rw [eachP_ok h4] at h
 simp only [eachP, aft, List.append_nil, List.cons_append, List.nil_append] at h
 injection h with h
 injection h with e1 e2
 subst e1 e2
 exact ⟨a, b, c, d, r1, r2, r3, rfl, rfl, h2, h3, h4⟩
theorem head_err {α : Type} {l : List Nat} {e : Nat} (f : Nat → Nat → Nat → Nat → Pr α) (h : eachP numP [2, 4, 1, 1] l = .error e) :
    bindP (numP 2) (fun n => bindP (numP 4) fun t => bindP (numP 1) fun w => bindP (numP 1) fun k => f n t w k) l = .error e := by
 rcases h1 : numP 2 l with e1 | ⟨a, r1⟩
 ·rw [eachP_err h1] at h; rw [bindP_err h1]; injection h with h; subst h; rfl
 rw [eachP_ok h1] at h; rw [bindP_ok h1]
 rcases h2 : numP 4 r1 with e1 | ⟨b, r2⟩
 ·rw [eachP_err h2] at h; rw [bindP_err h2]; injection h with h; subst h; rfl
 rw [eachP_ok h2] at h; rw [bindP_ok h2]
 rcases h3 : numP 1 r2 with e1 | ⟨c, r3⟩
 ·rw [eachP_err h3] at h; rw [bindP_err h3]; injection h with h; subst h; rfl
 rw [eachP_ok h3] at h; rw [bindP_ok h3]
 rcases h4 : numP 1 r3 with e1 | ⟨d, r4⟩
 ·rw [eachP_err h4] at h; rw [bindP_err h4]; injection h with h; subst h; rfl
 rw [eachP_ok h4] at h
 simp [eachP, aft] at h
theorem numP_lt {n v : Nat} {l r : List Nat} (h : numP n l = .ok (v, r)) (hl : ∀ x ∈ l, x < 256) : v < 256 ^ n ∧ ∀ x ∈ r, x < 256 := by
 obtain ⟨h1, rfl, rfl⟩ := numP_ok h
 exact ⟨be_small (fun x hx => hl x (List.mem_of_mem_take hx)) (by rw [List.length_take]; omega), fun x hx => hl x (List.mem_of_mem_drop hx)⟩
theorem sizes_ly (w : World) : LY 3 (fun _ v (x : Nat) => v = .int .i64 (x : Int)) (w.alloc (.cells #[.int .i64 2, .int .i64 4, .int .i64 1, .int .i64 1] 3)) (some ⟨w.heap.size, 0, none⟩) 4 [2, 4, 1, 1] := by
 refine ⟨by simp, fun ad e => by injection e with e; subst e; exact ⟨_, _, heap_alloc_new w _⟩, fun _ => ⟨_, rfl, fun j x hx => ?_⟩⟩
 match j, hx with
 | 0, hx => simp at hx; subst hx; exact ⟨_, by simp [Addr.add], rfl⟩
 | 1, hx => simp at hx; subst hx; exact ⟨_, by simp [Addr.add], rfl⟩
 | 2, hx => simp at hx; subst hx; exact ⟨_, by simp [Addr.add], rfl⟩
 | 3, hx => simp at hx; subst hx; exact ⟨_, by simp [Addr.add], rfl⟩
 | k + 4, hx => simp at hx
theorem four_words {w : World} {A : Option Addr} {c : Nat} {a b d e : Nat} (h : LY 22 WordR w A c [a, b, d, e]) :
    ∃ ad, A = some ad ∧ w.cell? ad = some (.int .u64 (a : Int)) ∧ w.cell? ⟨ad.block, ad.off + 1, none⟩ = some (.int .u64 (b : Int)) ∧ w.cell? ⟨ad.block, ad.off + 2, none⟩ = some (.int .u64 (d : Int)) ∧ w.cell? ⟨ad.block, ad.off + 3, none⟩ = some (.int .u64 (e : Int)) := by
 obtain ⟨ad, e1, hc⟩ := h.cells (by simp)
 obtain ⟨u0, h0, rfl, _⟩ := hc 0 a rfl
 obtain ⟨u1, h1, rfl, _⟩ := hc 1 b rfl
 obtain ⟨u2, h2, rfl, _⟩ := hc 2 d rfl
 obtain ⟨u3, h3, rfl, _⟩ := hc 3 e rfl
 exact ⟨ad, e1, h0, h1, h2, h3⟩
theorem paramP_yes {l r1 r2 r3 r r5 : List Nat} {n t w k : Nat} {q : List Nat} (n1 : numP 2 l = .ok (n, r1)) (n2 : numP 4 r1 = .ok (t, r2)) (n3 : numP 1 r2 = .ok (w, r3)) (n4 : numP 1 r3 = .ok (k, r)) (hm : manyP (numP 8) k r = .ok (q, r5)) (h : ParP (n : Int) t q.length (fun j => q.getD j 0) (w : Int)) :
    paramP l = .ok (⟨n, t, w, q⟩, r5) := by
 unfold paramP
 rw [bindP_ok n1, bindP_ok n2, bindP_ok n3, bindP_ok n4, bindP_ok hm]
 exact if_pos h
theorem paramP_no {l r1 r2 r3 r r5 : List Nat} {n t w k : Nat} {q : List Nat} (n1 : numP 2 l = .ok (n, r1)) (n2 : numP 4 r1 = .ok (t, r2)) (n3 : numP 1 r2 = .ok (w, r3)) (n4 : numP 1 r3 = .ok (k, r)) (hm : manyP (numP 8) k r = .ok (q, r5)) (h : ¬ ParP (n : Int) t q.length (fun j => q.getD j 0) (w : Int)) :
    paramP l = .error 8 := by
 unfold paramP
 rw [bindP_ok n1, bindP_ok n2, bindP_ok n3, bindP_ok n4, bindP_ok hm]
 exact if_neg h
def HdPost (p : Nat) (S : Nat → Value) (w : World) (l : List Nat) (e : Ending) (w' : World) : Prop :=
 (∃ pv r S' AQ cQ, paramP l = .ok (pv, r) ∧ e = .returned (.int .i64 0) ∧ RS w' p r S' ∧ r.length ≤ 100000 ∧ Kn w' S' pv.n pv.q AQ cQ ∧ S' 2 = .int .u64 (pv.t : Int) ∧ S' 4 = .int .i64 (pv.w : Int) ∧ S' 5 = .int .i64 ((pv.q.length - 1 : Nat) : Int) ∧ S' 6 = S 6 ∧ 0 < pv.q.length ∧ pv.t < 4294967296 ∧ pv.w < 256 ∧ On p w w') ∨
 (∃ c : Nat, paramP l = .error c ∧ 0 < c ∧ c ≤ 14 ∧ e = .returned (.int .i64 (c : Int)) ∧ On p w w' ∧ ∃ S', RE w' p S')
set_option maxHeartbeats 8000000 in
theorem uPar_any (p : Nat) (l : List Nat) (S : Nat → Value) (w0 w : World) (hT : Hid (RS w p l S)) (hl : l.length ≤ 100000) (h0 : Hid (Ext w0 w)) (hp0 : w0.heap.size ≤ p) (hTab : Tabs w0) :
    Calls Tryz.prog 119 #[.pointer (some ⟨p, 0, none⟩)] w (HdPost p S w l) := by
 have HTAB := Lib.hid hTab
 clear hTab
 have hpw := hT.out.lt
 have kA : Ext w (w.alloc (.cells #[.int .i64 2, .int .i64 4, .int .i64 1, .int .i64 1] 3)) := (Ext.refl w).alloc _
 have HT := Lib.hid (hT.out.ext kA)
 have HO := Lib.hid ((On.refl p w).alloc (.cells #[.int .i64 2, .int .i64 4, .int .i64 1, .int .i64 1] 3))
 have HSZ := Lib.hid (sizes_ly w)
 have HB := Lib.hid hT.out.bytes
 go_enter Tryz.func119, Tryz.ntmps119
 go_wp2_with fail
 generalize w.alloc (.cells #[.int .i64 2, .int .i64 4, .int .i64 1, .int .i64 1] 3) = V at *
 refine (eachW_any 95 p 4 4 (some ⟨w.heap.size, 0, none⟩) [2, 4, 1, 1] numP l S V HT hl (Lib.hid rfl) (by omega) HSZ (Lib.hid fun args w => by rfl) (Lib.hid fun j q l1 w1 hj k1 hT1 hl1 => ?_)).mono ?_
 ·have hq : q ∈ [2, 4, 1, 1] := List.mem_of_getElem? hj
  simp at hq
  exact number_any q p l1 S w1 (Lib.hid hT1) (by omega) (by omega) hl1
 rintro e w1 (⟨xs, r, v, h1, rfl, ⟨A2, c2, rfl, h3⟩, h4, h5, h6⟩ | ⟨c, h1, h2, h3, rfl, h5, h7⟩)
 ·obtain ⟨n, t, wd, k, r1, r2, r3, rfl, n1, n2, n3, n4⟩ := head_ok h1
  obtain ⟨b1, B1⟩ := numP_lt n1 HB.out
  obtain ⟨b2, B2⟩ := numP_lt n2 B1
  obtain ⟨b3, B3⟩ := numP_lt n3 B2
  obtain ⟨b4, B4⟩ := numP_lt n4 B3
  obtain ⟨ad, rfl, d0, d1, d2, d3⟩ := four_words h3
  have HL3 := Lib.hid h3
  have H4 := Lib.hid h4
  have H6 := Lib.hid h6
  have HN := Lib.hid (And.intro n1 (And.intro n2 (And.intro n3 n4)))
  have hwk : IntKind.i64.wrap (k : Int) = (k : Int) := by rw [IntKind.wrap_i64]; omega
  have hwn : IntKind.i64.wrap (n : Int) = (n : Int) := by rw [IntKind.wrap_i64]; omega
  have hww : IntKind.i64.wrap (wd : Int) = (wd : Int) := by rw [IntKind.wrap_i64]; omega
  clear h1 h3 h4 h6 n1 n2 n3 n4 B1 B2 B3 B4
  go_wp2_with fail
  refine (manyW_any 141 #[] (numP 8) k p r S (.int .u64 0) w1 H4 h5 (by omega) (Lib.hid fun args w => by rfl) (Lib.hid fun l1 w5 k1 hT1 hl1 => prime_any p l1 S w5 (Lib.hid hT1) hl1)).mono ?_
  rintro e w2 (⟨qs, r5, v, h1, rfl, ⟨AQ, cQ, rfl, h3⟩, h4, h5b, h6⟩ | ⟨c, h1, h2, h3, rfl, h6, h7⟩)
  ·have HQL := Lib.hid (manyP_len h1)
   have HQ := Lib.hid h3
   have HM := Lib.hid h1
   have HL4 := Lib.hid (HL3.out.keeps (wordR_stays [22]) (by decide) (H4.out.keeps h6 (by decide)))
   obtain ⟨ad2, e2, d0, d1, d2, d3⟩ := four_words HL4.out
   injection e2 with e2
   subst e2
   have H7 := Lib.hid h4
   have H8 := Lib.hid h6
   obtain ⟨M, hM⟩ : ∃ M, M = qs.length := ⟨_, rfl⟩
   have HMM := Lib.hid hM
   rw [← hM]
   have s1 := h4.cell (i := 1) (by omega) (by omega)
   have s2 := h4.cell (i := 2) (by omega) (by omega)
   have s3 := h4.cell (i := 3) (by omega) (by omega)
   have s4 := h4.cell (i := 4) (by omega) (by omega)
   have z1 := h4.frozen 1
   have z2 := h4.frozen 2
   have z3 := h4.frozen 3
   have z4 := h4.frozen 4
   obtain ⟨S1, hS1⟩ : ∃ x : Nat → Value, x = (fun j => if j = 4 then .int .i64 (wd : Int) else if j = 3 then .slice AQ M cQ else if j = 2 then .int .u64 (t : Int) else if j = 1 then .int .i64 (n : Int) else S j) := ⟨_, rfl⟩
   have HR4 := Lib.hid (show RS ((((w2.setCell ⟨p, 1, none⟩ (.int .i64 (n : Int))).setCell ⟨p, 2, none⟩ (.int .u64 (t : Int))).setCell ⟨p, 3, none⟩ (.slice AQ M cQ)).setCell ⟨p, 4, none⟩ (.int .i64 (wd : Int))) p r5 S1 by
    rw [hS1]
    exact (((h4.setIn (i := 1) (by omega) (by omega) _).setIn (i := 2) (by omega) (by omega) _).setIn (i := 3) (by omega) (by omega) _).setIn (i := 4) (by omega) (by omega) _)
   have HON4 := Lib.hid (show On p w ((((w2.setCell ⟨p, 1, none⟩ (.int .i64 (n : Int))).setCell ⟨p, 2, none⟩ (.int .u64 (t : Int))).setCell ⟨p, 3, none⟩ (.slice AQ M cQ)).setCell ⟨p, 4, none⟩ (.int .i64 (wd : Int))) from
    ((((HO.out.trans (H6.out.trans h6)).set 1 _).set 2 _).set 3 _).set 4 _)
   have HQ4 := Lib.hid (show LY 22 WordR ((((w2.setCell ⟨p, 1, none⟩ (.int .i64 (n : Int))).setCell ⟨p, 2, none⟩ (.int .u64 (t : Int))).setCell ⟨p, 3, none⟩ (.slice AQ M cQ)).setCell ⟨p, 4, none⟩ (.int .i64 (wd : Int))) AQ cQ qs from
    HQ.out.keeps (wordR_stays [22]) (by decide) (h4.keeps (((((On.refl p w2).set 1 _).set 2 _).set 3 _).set 4 _) (by decide)))
   have t1 : S1 1 = .int .i64 (n : Int) := by rw [hS1]; simp
   have t2 : S1 2 = .int .u64 (t : Int) := by rw [hS1]; simp
   have t3 : S1 3 = .slice AQ M cQ := by rw [hS1]; simp
   have t4 : S1 4 = .int .i64 (wd : Int) := by rw [hS1]; simp
   have t6 : S1 6 = S 6 := by rw [hS1]; simp
   clear h1 h3 h4 h6 hM hS1
   go_wp2_with fail
   go_region
   all_goals
    generalize ((((w2.setCell ⟨p, 1, none⟩ (.int .i64 (n : Int))).setCell ⟨p, 2, none⟩ (.int .u64 (t : Int))).setCell ⟨p, 3, none⟩ (.slice AQ M cQ)).setCell ⟨p, 4, none⟩ (.int .i64 (wd : Int))) = X at *
    have HRX := Lib.hid (HR4.out.ext (Ext.refl X).drew)
    have HONX := Lib.hid (HON4.out.trans (On.of (Ext.refl X).drew))
    have HQX := Lib.hid (HQ4.out.keeps (wordR_stays [22]) (by decide) (Keeps.ext (Ext.refl X).drew))
    generalize X.drew = Y at *
    have c1 := HRX.out.cell (i := 1) (by omega) (by omega)
    have c2 := HRX.out.cell (i := 2) (by omega) (by omega)
    have c3 := HRX.out.cell (i := 3) (by omega) (by omega)
    have c4 := HRX.out.cell (i := 4) (by omega) (by omega)
    rw [t1] at c1
    rw [t2] at c2
    rw [t3] at c3
    rw [t4] at c4
    have hM8 : M ≤ 255 := by rw [HMM.out, HQL.out]; omega
    go_wp2_with fail
    refine (top_any (n : Int) (t : Int) (wd : Int) AQ M cQ Y (by omega)).mono ?_
    rintro e3 w3 ⟨rfl, k5⟩
    have HR3 := Lib.hid (HRX.out.ext k5)
    have s5 := HR3.out.cell (i := 5) (by omega) (by omega)
    have z5 := HR3.out.frozen 5
    have HON3 := Lib.hid ((HONX.out.trans (On.of k5)).set 5 (.int .i64 ((M : Int) - 1)))
    have HQ3 := Lib.hid (HQX.out.keeps (wordR_stays [22]) (by decide) ((Keeps.ext k5).trans (HR3.out.keeps ((On.refl p w3).set 5 (.int .i64 ((M : Int) - 1))) (by decide))))
    obtain ⟨S2, hS2⟩ : ∃ x : Nat → Value, x = (fun j => if j = 5 then .int .i64 ((M : Int) - 1) else S1 j) := ⟨_, rfl⟩
    have HR5 := Lib.hid (show RS (w3.setCell ⟨p, 5, none⟩ (.int .i64 ((M : Int) - 1))) p r5 S2 by rw [hS2]; exact HR3.out.setIn (i := 5) (by omega) (by omega) _)
    have u1 : S2 1 = .int .i64 (n : Int) := by rw [hS2]; simp [t1]
    have u2 : S2 2 = .int .u64 (t : Int) := by rw [hS2]; simp [t2]
    have u3 : S2 3 = .slice AQ M cQ := by rw [hS2]; simp [t3]
    have u4 : S2 4 = .int .i64 (wd : Int) := by rw [hS2]; simp [t4]
    have u5 : S2 5 = .int .i64 ((M : Int) - 1) := by rw [hS2]; simp
    have u6 : S2 6 = S 6 := by rw [hS2]; simp [t6]
    have v1 := HR5.out.cell (i := 1) (by omega) (by omega)
    have v2 := HR5.out.cell (i := 2) (by omega) (by omega)
    have v3 := HR5.out.cell (i := 3) (by omega) (by omega)
    have v4 := HR5.out.cell (i := 4) (by omega) (by omega)
    rw [u1] at v1
    rw [u2] at v2
    rw [u3] at v3
    rw [u4] at v4
    clear hS2
    go_wp2_with fail
    generalize w3.setCell ⟨p, 5, none⟩ (.int .i64 ((M : Int) - 1)) = Z at *
    have hwds := HQ3.out.words
    have hfx := HQ3.out.fx
    rw [← HMM.out] at hwds hfx
    refine (check_any (n : Int) t (wd : Int) AQ M cQ (fun j => qs.getD j 0) Z (by omega) (by omega) (by omega) (by omega) hfx (Lib.hid hwds) (HTAB.out.ext (h0.out.on HON3.out hp0))).mono ?_
    rintro e4 w4 (⟨hy, rfl, k6⟩ | ⟨hy, rfl, k6⟩)
    ·have HF := Lib.hid (show HdPost p S w l (.returned (.int .i64 0)) w4 from by
        have q0 : qs.length ≤ 255 := by rw [← HMM.out]; exact hM8
        have q1 := hy 3 (by omega)
        have q2 := hy 4 (by omega)
        have q3 := hy 0 (by omega)
        refine .inl ⟨⟨n, t, wd, qs⟩, r5, S2, AQ, cQ, paramP_yes HN.out.1 HN.out.2.1 HN.out.2.2.1 HN.out.2.2.2 HM.out (by rw [← HMM.out]; exact hy), rfl, HR5.out.ext k6, h5b, ⟨u1, ⟨t, u2⟩, ⟨wd, u4⟩, by rw [u3, HMM.out], HQ3.out.keeps (wordR_stays [22]) (by decide) (Keeps.ext k6), by simp only; omega, by simp only; omega, fun q hq => ?_⟩, u2, u4, ?_, u6, ?_, by simp only; omega, by simp only; omega, HON3.out.trans (On.of k6)⟩
        ·obtain ⟨j, hj, e⟩ := List.getElem_of_mem hq
         have : qs.getD j 0 % (2 * (n : Int).toNat) = 1 := (q2 j (by rw [HMM.out]; exact hj)).2.2.2.1
         rw [show qs.getD j 0 = q by simp [List.getD, hj, e]] at this
         rcases Nat.eq_zero_or_pos q with g | g
         ·subst g; simp at this
         ·exact g
        ·rw [u5]
         have : 1 ≤ M := q1.1
         simp only [← HMM.out]
         rw [show ((M - 1 : Nat) : Int) = (M : Int) - 1 by omega]
        ·have : 1 ≤ M := q1.1
         simp only [← HMM.out]
         omega)
     clear hy
     go_wp2
     go_ret
     exact HF.out
    ·have HF := Lib.hid (show HdPost p S w l (.returned (.int .i64 8)) w4 from
        .inr ⟨8, paramP_no HN.out.1 HN.out.2.1 HN.out.2.2.1 HN.out.2.2.2 HM.out (by rw [← HMM.out]; exact hy), by omega, by omega, rfl, HON3.out.trans (On.of k6), S2, _, HR5.out.ext k6⟩)
     clear hy
     go_wp2
     go_ret
     exact HF.out
  ·have HF := Lib.hid (show HdPost p S w l (.returned (.int .i64 (c : Int))) w2 from by
      refine .inr ⟨c, ?_, h2, h3, rfl, (HO.out.trans H6.out).trans h6, S, h7⟩
      unfold paramP
      rw [bindP_ok HN.out.1, bindP_ok HN.out.2.1, bindP_ok HN.out.2.2.1, bindP_ok HN.out.2.2.2, bindP_err h1])
   have i1 : ¬ (c : Int) = 0 := by omega
   clear h1 h6 h7
   go_wp2
   go_ret
   exact HF.out
 ·have HF := Lib.hid (show HdPost p S w l (.returned (.int .i64 (c : Int))) w1 from by
     refine .inr ⟨c, ?_, h2, h3, rfl, HO.out.trans h5, S, h7⟩
     unfold paramP
     exact head_err _ h1)
  have i1 : ¬ (c : Int) = 0 := by omega
  clear h1 h5 h7
  go_wp2
  go_ret
  exact HF.out
end Go.Proofs.YtkbcobjhlpjieaaGreatDoor
