import Derived.Test.YtkbcobjhlpjieaaGreatDoorZ35
import Derived.Test.YtkbcobjhlpjieaaGreatDoorZ24
import Derived.Deep.RegionHeld3
import Derived.Deep.DeepCutAuto
import Derived.Deep.RegionLaw
namespace Go.Proofs.YtkbcobjhlpjieaaGreatDoor
open Go.RowKit
set_option linter.unusedVariables false
set_option maxRecDepth 100000
theorem kind_pure (l : List Nat) (kind v0 : Nat) (h0 : ∀ x r, stp (.ok l) (numP 1) = .ok (x, r) → v0 = x) :
    restS (betP 1 kind kind l) = failS (restS (stp (.ok l) (numP 1))) (!decide (v0 = kind)) 3 := by
 have e0 : stp (.ok l) (numP 1) = numP 1 l := rfl
 rw [e0] at h0 ⊢
 unfold betP bindP
 rcases h : numP 1 l with e | ⟨x, r⟩
 ·rfl
 ·have := h0 x r h
  subst this
  by_cases g : v0 = kind
  ·subst g
   simp [restS, failS]
  ·have : v0 < kind ∨ kind < v0 := by omega
   simp [restS, failS, g, this]
theorem par_pure (s2 : Except Nat (List Nat)) (n t w k : Nat)
    (h2 : ∀ x r, stp s2 (numP 2) = .ok (x, r) → n = x) (h3 : ∀ x r, stp (restS (stp s2 (numP 2))) (numP 4) = .ok (x, r) → t = x)
    (h4 : ∀ x r, stp (restS (stp (restS (stp s2 (numP 2))) (numP 4))) (numP 1) = .ok (x, r) → w = x)
    (h5 : ∀ x r, stp (restS (stp (restS (stp (restS (stp s2 (numP 2))) (numP 4))) (numP 1))) (numP 1) = .ok (x, r) → k = x) :
    (∃ c, restS (stp (restS (stp (restS (stp (restS (stp s2 (numP 2))) (numP 4))) (numP 1))) (numP 1)) = .error c ∧ stp s2 paramP = .error c) ∨
    (∃ l6, restS (stp (restS (stp (restS (stp (restS (stp s2 (numP 2))) (numP 4))) (numP 1))) (numP 1)) = .ok l6 ∧
     (∀ c, manyP (numP 8) k l6 = .error c → stp s2 paramP = .error c) ∧
     (∀ q r, manyP (numP 8) k l6 = .ok (q, r) → (ParP (n : Int) t q.length (fun j => q.getD j 0) (w : Int) → stp s2 paramP = .ok (⟨n, t, w, q⟩, r)) ∧ (¬ ParP (n : Int) t q.length (fun j => q.getD j 0) (w : Int) → stp s2 paramP = .error 8))) := by
 rcases s2 with e | l
 ·exact .inl ⟨e, rfl, rfl⟩
 simp only [stp] at h2 h3 h4 h5 ⊢
 rcases e2 : numP 2 l with e | ⟨x2, r2⟩
 ·exact .inl ⟨e, by simp [restS], by unfold paramP; rw [bindP_err e2]⟩
 obtain rfl := h2 _ _ e2
 simp only [e2, restS] at h3 h4 h5 ⊢
 rcases e3 : numP 4 r2 with e | ⟨x3, r3⟩
 ·exact .inl ⟨e, by simp, by unfold paramP; rw [bindP_ok e2, bindP_err e3]⟩
 obtain rfl := h3 _ _ e3
 simp only [e3] at h4 h5 ⊢
 rcases e4 : numP 1 r3 with e | ⟨x4, r4⟩
 ·exact .inl ⟨e, by simp, by unfold paramP; rw [bindP_ok e2, bindP_ok e3, bindP_err e4]⟩
 obtain rfl := h4 _ _ e4
 simp only [e4] at h5 ⊢
 rcases e5 : numP 1 r4 with e | ⟨x5, r5⟩
 ·exact .inl ⟨e, by simp, by unfold paramP; rw [bindP_ok e2, bindP_ok e3, bindP_ok e4, bindP_err e5]⟩
 obtain rfl := h5 _ _ e5
 refine .inr ⟨r5, by simp, fun c hc => ?_, fun q r hq => ⟨fun h => paramP_yes e2 e3 e4 e5 hq h, fun h => paramP_no e2 e3 e4 e5 hq h⟩⟩
 unfold paramP
 rw [bindP_ok e2, bindP_ok e3, bindP_ok e4, bindP_ok e5, bindP_err hc]
theorem par_pure' (s2 s3 s4 s5 s6 : Except Nat (List Nat)) (n t w k : Nat) (e3 : s3 = restS (stp s2 (numP 2))) (e4 : s4 = restS (stp s3 (numP 4))) (e5 : s5 = restS (stp s4 (numP 1))) (e6 : s6 = restS (stp s5 (numP 1)))
    (h2 : ∀ x r, stp s2 (numP 2) = .ok (x, r) → n = x) (h3 : ∀ x r, stp s3 (numP 4) = .ok (x, r) → t = x) (h4 : ∀ x r, stp s4 (numP 1) = .ok (x, r) → w = x) (h5 : ∀ x r, stp s5 (numP 1) = .ok (x, r) → k = x) :
    (∃ c, s6 = .error c ∧ stp s2 paramP = .error c) ∨
    (∃ l6, s6 = .ok l6 ∧ (∀ c, manyP (numP 8) k l6 = .error c → stp s2 paramP = .error c) ∧
     (∀ q r, manyP (numP 8) k l6 = .ok (q, r) → (ParP (n : Int) t q.length (fun j => q.getD j 0) (w : Int) → stp s2 paramP = .ok (⟨n, t, w, q⟩, r)) ∧ (¬ ParP (n : Int) t q.length (fun j => q.getD j 0) (w : Int) → stp s2 paramP = .error 8))) := by
 subst e3 e4 e5 e6
 exact par_pure s2 n t w k h2 h3 h4 h5
theorem num_zero {s : Except Nat (List Nat)} {k : Nat} {f : Pr Nat} (h : ∀ c, stp s f = .error c → k = 0) : ∀ c, restS (stp s f) = .error c → k = 0 := fun c hc => by
 rcases hh : stp s f with e | ⟨x, r⟩
 ·exact h e hh
 ·rw [hh] at hc; cases hc
def StPost (p : Nat) (w : World) (res : Except Nat (PV × List Nat)) (e : Ending) (w' : World) : Prop :=
 ∃ (n t wd : Nat) (qs : List Nat) (AQ : Option Addr) (cQ : Nat), e = .returned (.agg #[.int .i64 (n : Int), .int .u64 (t : Int), .slice AQ qs.length cQ, .int .i64 (wd : Int)]) ∧ LY 22 WordR w' AQ cQ qs ∧ n ≤ 65535 ∧ t < 4294967296 ∧ wd < 256 ∧ qs.length ≤ 255 ∧
  (∀ pv r, res = .ok (pv, r) → pv = ⟨n, t, wd, qs⟩) ∧ RR w' p (restS res) ∧ On p w w'
theorem RW.p0 {w : World} {g : Nat} {t : TypeId} {a b c d : Value} (h : RW w g t 4 (parF a b c d)) (v : Value) : RW (w.setCell ⟨g, 0, none⟩ v) g t 4 (parF v b c d) :=
 (h.set (show 0 < 4 by omega) v).congr fun j hj => by unfold parF; rcases (show j = 0 ∨ j = 1 ∨ j = 2 ∨ j = 3 by omega) with rfl | rfl | rfl | rfl <;> simp
theorem RW.p1 {w : World} {g : Nat} {t : TypeId} {a b c d : Value} (h : RW w g t 4 (parF a b c d)) (v : Value) : RW (w.setCell ⟨g, 1, none⟩ v) g t 4 (parF a v c d) :=
 (h.set (show 1 < 4 by omega) v).congr fun j hj => by unfold parF; rcases (show j = 0 ∨ j = 1 ∨ j = 2 ∨ j = 3 by omega) with rfl | rfl | rfl | rfl <;> simp
theorem RW.p2 {w : World} {g : Nat} {t : TypeId} {a b c d : Value} (h : RW w g t 4 (parF a b c d)) (v : Value) : RW (w.setCell ⟨g, 2, none⟩ v) g t 4 (parF a b v d) :=
 (h.set (show 2 < 4 by omega) v).congr fun j hj => by unfold parF; rcases (show j = 0 ∨ j = 1 ∨ j = 2 ∨ j = 3 by omega) with rfl | rfl | rfl | rfl <;> simp
theorem RW.p3 {w : World} {g : Nat} {t : TypeId} {a b c d : Value} (h : RW w g t 4 (parF a b c d)) (v : Value) : RW (w.setCell ⟨g, 3, none⟩ v) g t 4 (parF a b c v) :=
 (h.set (show 3 < 4 by omega) v).congr fun j hj => by unfold parF; rcases (show j = 0 ∨ j = 1 ∨ j = 2 ∨ j = 3 by omega) with rfl | rfl | rfl | rfl <;> simp
theorem RW.pc {w : World} {g : Nat} {t : TypeId} {a b c d : Value} (h : RW w g t 4 (parF a b c d)) : w.cell? ⟨g, 0, none⟩ = some a ∧ w.cell? ⟨g, 1, none⟩ = some b ∧ w.cell? ⟨g, 2, none⟩ = some c ∧ w.cell? ⟨g, 3, none⟩ = some d :=
 ⟨h.cell (i := 0) (by omega), h.cell (i := 1) (by omega), h.cell (i := 2) (by omega), h.cell (i := 3) (by omega)⟩
theorem RW.on {w w' : World} {g p n : Nat} {t : TypeId} {F : Nat → Value} (h : RW w g t n F) (k : On p w w') (hne : g ≠ p) : RW w' g t n F := h.keep (k.block _ h.lt (fun e => hne (by injection e)))
structure StQ (p : Nat) (w : World) (x : Nat) (a b c d : Value) (s : Except Nat (List Nat)) (V : World) : Prop where
 par : RW V x 25 4 (parF a b c d)
 out : RW V w.heap.size 25 4 (parF (.int .i64 0) (.int .u64 0) (.slice none 0 0) (.int .i64 0))
 rr : RR V p s
 on : On p w V
 px : p < w.heap.size
 wx : w.heap.size < x
theorem StQ.call {p x : Nat} {w V V' : World} {a b c d : Value} {s s' : Except Nat (List Nat)} (h : StQ p w x a b c d s V) (hr : RR V' p s') (k : On p V V') : StQ p w x a b c d s' V' :=
 ⟨h.par.on k (by have := h.px; have := h.wx; omega), h.out.on k (by have := h.px; omega), hr, h.on.trans k, h.px, h.wx⟩
theorem StQ.s0 {p x : Nat} {w V : World} {a b c d : Value} {s : Except Nat (List Nat)} (h : StQ p w x a b c d s V) (v : Value) : StQ p w x v b c d s (V.setCell ⟨x, 0, none⟩ v) :=
 ⟨h.par.p0 v, h.out.far (by have := h.wx; omega) v, h.rr.setFar (by have := h.px; have := h.wx; omega) v, h.on.setFar (by have := h.wx; omega) v, h.px, h.wx⟩
theorem StQ.s1 {p x : Nat} {w V : World} {a b c d : Value} {s : Except Nat (List Nat)} (h : StQ p w x a b c d s V) (v : Value) : StQ p w x a v c d s (V.setCell ⟨x, 1, none⟩ v) :=
 ⟨h.par.p1 v, h.out.far (by have := h.wx; omega) v, h.rr.setFar (by have := h.px; have := h.wx; omega) v, h.on.setFar (by have := h.wx; omega) v, h.px, h.wx⟩
theorem StQ.s2 {p x : Nat} {w V : World} {a b c d : Value} {s : Except Nat (List Nat)} (h : StQ p w x a b c d s V) (v : Value) : StQ p w x a b v d s (V.setCell ⟨x, 2, none⟩ v) :=
 ⟨h.par.p2 v, h.out.far (by have := h.wx; omega) v, h.rr.setFar (by have := h.px; have := h.wx; omega) v, h.on.setFar (by have := h.wx; omega) v, h.px, h.wx⟩
theorem StQ.s3 {p x : Nat} {w V : World} {a b c d : Value} {s : Except Nat (List Nat)} (h : StQ p w x a b c d s V) (v : Value) : StQ p w x a b c v s (V.setCell ⟨x, 3, none⟩ v) :=
 ⟨h.par.p3 v, h.out.far (by have := h.wx; omega) v, h.rr.setFar (by have := h.px; have := h.wx; omega) v, h.on.setFar (by have := h.wx; omega) v, h.px, h.wx⟩
theorem StQ.grown {p x : Nat} {w V V' : World} {a b c d : Value} {s : Except Nat (List Nat)} {row : Option Nat} (h : StQ p w x a b c d s V) (hg : V.grownBy V' row) (hr : ∀ k, row = some k → x < k) : StQ p w x a b c d s V' :=
 ⟨h.par.keep (hg.block _ h.par.lt (fun e => by have := hr _ e.symm; omega)), h.out.keep (hg.block _ h.out.lt (fun e => by have := hr _ e.symm; have := h.wx; omega)), h.rr.grown hg (fun k e => by have := hr k e; have := h.px; have := h.wx; omega), h.on.grown hg (fun k e => by have := hr k e; have := h.wx; omega), h.px, h.wx⟩
theorem bind_stp {α : Type} (f : Pr Nat) (g : Pr α) (l : List Nat) : bindP f (fun _ => g) l = stp (restS (f l)) g := by
 unfold bindP
 rcases h : f l with e | ⟨x, r⟩ <;> rfl
theorem st_fin {s2 s6 s : Except Nat (List Nat)} {n t wd k j : Nat} {qs : List Nat}
    (hp : (∃ c, s6 = .error c ∧ stp s2 paramP = .error c) ∨
    (∃ l6, s6 = .ok l6 ∧ (∀ c, manyP (numP 8) k l6 = .error c → stp s2 paramP = .error c) ∧
     (∀ q r, manyP (numP 8) k l6 = .ok (q, r) → (ParP (n : Int) t q.length (fun j => q.getD j 0) (wd : Int) → stp s2 paramP = .ok (⟨n, t, wd, q⟩, r)) ∧ (¬ ParP (n : Int) t q.length (fun j => q.getD j 0) (wd : Int) → stp s2 paramP = .error 8))))
    (hs : (∃ c, s6 = .error c ∧ s = .error c) ∨ ∃ l6, s6 = .ok l6 ∧ ((∃ l', s = .ok l' ∧ manyP (numP 8) k l6 = aft qs (manyP (numP 8) (k - j) l')) ∨ ∃ c, s = .error c ∧ manyP (numP 8) k l6 = .error c))
    (hex : j = k ∨ ∃ e, s = .error e) :
    (ParP (n : Int) t qs.length (fun j => qs.getD j 0) (wd : Int) → restS (stp s2 paramP) = failS s false 8) ∧ (¬ ParP (n : Int) t qs.length (fun j => qs.getD j 0) (wd : Int) → restS (stp s2 paramP) = failS s true 8) ∧ ∀ pv r, stp s2 paramP = .ok (pv, r) → pv = ⟨n, t, wd, qs⟩ := by
 rcases hp with ⟨c, h1, h2⟩ | ⟨l6, h1, h2, h3⟩
 ·rcases hs with ⟨c', h4, h5⟩ | ⟨l6, h4, _⟩
  ·rw [h1] at h4; injection h4 with h4; subst h4
   rw [h2, h5]
   exact ⟨fun _ => rfl, fun _ => rfl, fun pv r h => by cases h⟩
  ·rw [h1] at h4; cases h4
 ·rcases hs with ⟨c', h4, h5⟩ | ⟨l7, h4, h5⟩
  ·rw [h1] at h4; cases h4
  ·rw [h1] at h4; injection h4 with h4; subst h4
   rcases h5 with ⟨l', h5, h6⟩ | ⟨c, h5, h6⟩
   ·rcases hex with rfl | ⟨e, he⟩
    ·rw [Nat.sub_self] at h6
     have h7 : manyP (numP 8) j l6 = .ok (qs, l') := by rw [h6]; simp [manyP, aft]
     obtain ⟨h8, h9⟩ := h3 _ _ h7
     rw [h5]
     by_cases hP : ParP (n : Int) t qs.length (fun j => qs.getD j 0) (wd : Int)
     ·rw [h8 hP]
      exact ⟨fun _ => rfl, fun h => absurd hP h, fun pv r h => by injection h with h; injection h with h _; exact h.symm⟩
     ·rw [h9 hP]
      exact ⟨fun h => absurd h hP, fun _ => rfl, fun pv r h => by cases h⟩
    ·rw [h5] at he; cases he
   ·rw [h2 c h6, h5]
    exact ⟨fun _ => rfl, fun _ => rfl, fun pv r h => by cases h⟩
theorem StQ.ext {p x : Nat} {w V V' : World} {a b c d : Value} {s : Except Nat (List Nat)} (h : StQ p w x a b c d s V) (k : Ext V V') : StQ p w x a b c d s V' := h.call (h.rr.ext k) (On.of k)
theorem st_step {s6 : Except Nat (List Nat)} {k j y : Nat} {qs l1 : List Nat}
    (hs : (∃ c, s6 = .error c ∧ (.ok l1 : Except Nat (List Nat)) = .error c) ∨ ∃ l6, s6 = .ok l6 ∧ ((∃ l', (.ok l1 : Except Nat (List Nat)) = .ok l' ∧ manyP (numP 8) k l6 = aft qs (manyP (numP 8) (k - j) l')) ∨ ∃ c, (.ok l1 : Except Nat (List Nat)) = .error c ∧ manyP (numP 8) k l6 = .error c))
    (hy : ∀ x r, stp (.ok l1) (numP 8) = .ok (x, r) → y = x) (hlt : j < k) :
    (∃ c, s6 = .error c ∧ restS (stp (.ok l1) (numP 8)) = .error c) ∨ ∃ l6, s6 = .ok l6 ∧ ((∃ l', restS (stp (.ok l1) (numP 8)) = .ok l' ∧ manyP (numP 8) k l6 = aft (qs ++ [y]) (manyP (numP 8) (k - (j + 1)) l')) ∨ ∃ c, restS (stp (.ok l1) (numP 8)) = .error c ∧ manyP (numP 8) k l6 = .error c) := by
 rcases hs with ⟨c, _, h⟩ | ⟨l6, h6, ⟨l', h, hm⟩ | ⟨c, h, _⟩⟩
 ·cases h
 ·injection h with h
  subst h
  refine .inr ⟨l6, h6, ?_⟩
  rcases hh : stp (.ok l1) (numP 8) with e | ⟨x, r⟩
  ·refine .inr ⟨e, rfl, ?_⟩
   rw [hm, show k - j = (k - (j + 1)) + 1 by omega, manyP_err (show numP 8 l1 = .error e from hh)]
   rfl
  ·obtain rfl := hy x r hh
   refine .inl ⟨r, rfl, ?_⟩
   rw [hm, show k - j = (k - (j + 1)) + 1 by omega, manyP_ok (show numP 8 l1 = .ok (y, r) from hh), aft_aft]
 ·cases h
theorem own_keeps {w w' : World} {B : Nat} {t : TypeId} {s : Nat} {v : Value} {n : Nat} {xs : List Value} {ts : List TypeId} (k : Keeps ts w w') (h : w.ownsRow B t s v n xs) (ht : t ∈ ts) : w'.ownsRow B t s v n xs := by
 refine ⟨h.1, ?_⟩
 rcases h.2 with h0 | ⟨g, cap, cur, e, hg, hh, h1⟩
 ·exact .inl h0
 ·exact .inr ⟨g, cap, cur, e, hg, (k.block g _ _ _ hh ht).trans hh, h1⟩
set_option maxHeartbeats 16000000 in
theorem rStart_any (kind p : Nat) (l : List Nat) (w : World) (hT : Hid (RR w p (.ok l))) (hk : kind < 256) :
    Calls Tryz.prog 69 #[.pointer (some ⟨p, 0, none⟩), .int .i64 (kind : Int)] w (StPost p w (bindP (betP 1 kind kind) (fun _ => paramP) l)) := by
 obtain ⟨i0, hi, hz0, hz1, hz2⟩ := info_parts info_u64
 have hpw := hT.out.lt
 have kA : Ext w (w.alloc (.cells #[.int .i64 0, .int .u64 0, .slice none 0 0, .int .i64 0] 25)) := (Ext.refl w).alloc _
 have HT := Lib.hid (hT.out.ext kA)
 have HO := Lib.hid (On.of kA : On p w _)
 have HR4 := Lib.hid (show RW (w.alloc (.cells #[.int .i64 0, .int .u64 0, .slice none 0 0, .int .i64 0] 25)) w.heap.size 25 4 (parF (.int .i64 0) (.int .u64 0) (.slice none 0 0) (.int .i64 0)) from heap_alloc_new w _)
 have hs0 : (w.alloc (.cells #[.int .i64 0, .int .u64 0, .slice none 0 0, .int .i64 0] 25)).heap.size = w.heap.size + 1 := by simp
 go_enter Tryz.func69, Tryz.ntmps69
 go_wp2_with fail
 generalize w.alloc (.cells #[.int .i64 0, .int .u64 0, .slice none 0 0, .int .i64 0] 25) = V at *
 refine (rNum_any 1 p (.ok l) V HT (by omega) (by omega)).mono ?_
 rintro e w1 ⟨v0, hv0, _, rfl, hl0, hr0, ho0⟩
 have hw0 : IntKind.i64.wrap (v0 : Int) = (v0 : Int) := by rw [IntKind.wrap_i64]; omega
 obtain ⟨b, hb⟩ : ∃ b : Bool, b = !decide (v0 = kind) := ⟨_, rfl⟩
 have HK := Lib.hid (show restS (betP 1 kind kind l) = failS (restS (stp (.ok l) (numP 1))) b 3 by rw [hb]; exact kind_pure l kind v0 hv0)
 have hdec : ((v0 : Int) != (kind : Int)) = b := by
  rw [hb]
  by_cases g : v0 = kind
  ·subst g; simp
  ·have : ¬ (v0 : Int) = (kind : Int) := by omega
   simp [g, this]
 have H1 := Lib.hid hr0
 have HO1 := Lib.hid (HO.out.trans ho0)
 have HR41 := Lib.hid (HR4.out.on ho0 (by omega))
 have hs1 := ho0.size
 clear hv0 hr0 ho0 hb
 go_wp2_with fail
 refine (rFail_any p 3 b _ w1 H1 (by omega) (by omega)).mono ?_
 rintro e w2 ⟨rfl, hr2, ho2⟩
 rw [← HK.out] at hr2
 obtain ⟨s2, hs2⟩ : ∃ s, s = restS (betP 1 kind kind l) := ⟨_, rfl⟩
 rw [← hs2] at hr2
 have HS2 := Lib.hid hs2
 have hsz2 := ho2.size
 have kB : Ext w2 (w2.alloc (.cells #[.int .i64 0, .int .u64 0, .slice none 0 0, .int .i64 0] 25)) := (Ext.refl w2).alloc _
 have HQ := Lib.hid (show StQ p w w2.heap.size (.int .i64 0) (.int .u64 0) (.slice none 0 0) (.int .i64 0) s2 (w2.alloc (.cells #[.int .i64 0, .int .u64 0, .slice none 0 0, .int .i64 0] 25)) from
  ⟨heap_alloc_new w2 _, (HR41.out.on ho2 (by omega)).ext kB, hr2.ext kB, (HO1.out.trans ho2).trans (On.of kB), hpw, by omega⟩)
 clear hs2 hr2 ho2
 go_wp2_with fail
 generalize w2.alloc (.cells #[.int .i64 0, .int .u64 0, .slice none 0 0, .int .i64 0] 25) = W3 at *
 obtain ⟨x, hx⟩ : ∃ x, x = w2.heap.size := ⟨_, rfl⟩
 rw [← hx] at HQ ⊢
 clear hx
 -- N
 refine (rNum_any 2 p _ _ (Lib.hid HQ.out.rr) (by omega) (by omega)).mono ?_
 rintro e w4 ⟨n, hn, _, rfl, hln, hr, ho⟩
 obtain ⟨s3, hs3⟩ : ∃ s, s = restS (stp s2 (numP 2)) := ⟨_, rfl⟩
 rw [← hs3] at hr
 have HS3 := Lib.hid hs3
 clear hs3
 have HQ1 := Lib.hid (HQ.out.call hr ho)
 have HQ2 := Lib.hid (HQ1.out.s0 (.int .i64 (n : Int)))
 have hwn : IntKind.i64.wrap (n : Int) = (n : Int) := by rw [IntKind.wrap_i64]; omega
 obtain ⟨c0, c1, c2, c3⟩ := HQ1.out.par.pc
 have z0 := HQ1.out.par.frozen 0
 have HN2 := Lib.hid hn
 clear hn hr ho
 go_wp2_with fail
 generalize w4.setCell ⟨x, 0, none⟩ (.int .i64 (n : Int)) = W4 at *
 clear c0 c1 c2 c3 z0
 -- T
 refine (rNum_any 4 p _ _ (Lib.hid HQ2.out.rr) (by omega) (by omega)).mono ?_
 rintro e w5 ⟨t, ht, _, rfl, hlt, hr, ho⟩
 obtain ⟨s4, hs4⟩ : ∃ s, s = restS (stp s3 (numP 4)) := ⟨_, rfl⟩
 rw [← hs4] at hr
 have HS4 := Lib.hid hs4
 clear hs4
 have HQ3 := Lib.hid (HQ2.out.call hr ho)
 have HQ4 := Lib.hid (HQ3.out.s1 (.int .u64 (t : Int)))
 obtain ⟨c0, c1, c2, c3⟩ := HQ3.out.par.pc
 have z1 := HQ3.out.par.frozen 1
 have HN4 := Lib.hid ht
 clear ht hr ho
 go_wp2_with fail
 generalize w5.setCell ⟨x, 1, none⟩ (.int .u64 (t : Int)) = W5 at *
 clear c0 c1 c2 c3 z1
 -- Width
 refine (rNum_any 1 p _ _ (Lib.hid HQ4.out.rr) (by omega) (by omega)).mono ?_
 rintro e w6 ⟨wd, hwd, _, rfl, hlw, hr, ho⟩
 obtain ⟨s5, hs5⟩ : ∃ s, s = restS (stp s4 (numP 1)) := ⟨_, rfl⟩
 rw [← hs5] at hr
 have HS5 := Lib.hid hs5
 clear hs5
 have HQ5 := Lib.hid (HQ4.out.call hr ho)
 have HQ6 := Lib.hid (HQ5.out.s3 (.int .i64 (wd : Int)))
 have hww : IntKind.i64.wrap (wd : Int) = (wd : Int) := by rw [IntKind.wrap_i64]; omega
 obtain ⟨c0, c1, c2, c3⟩ := HQ5.out.par.pc
 have z3 := HQ5.out.par.frozen 3
 have HN5 := Lib.hid hwd
 clear hwd hr ho
 go_wp2_with fail
 generalize w6.setCell ⟨x, 3, none⟩ (.int .i64 (wd : Int)) = W6 at *
 clear c0 c1 c2 c3 z3
 -- how many
 refine (rNum_any 1 p _ _ (Lib.hid HQ6.out.rr) (by omega) (by omega)).mono ?_
 rintro e w7 ⟨k, hk7, hk8, rfl, hlk, hr, ho⟩
 obtain ⟨s6, hs6⟩ : ∃ s, s = restS (stp s5 (numP 1)) := ⟨_, rfl⟩
 rw [← hs6] at hr
 have HQ7 := Lib.hid (HQ6.out.call hr ho)
 have HPP := Lib.hid (par_pure' s2 s3 s4 s5 s6 n t wd k HS3.out HS4.out HS5.out hs6 HN2.out HN4.out HN5.out hk7)
 have HK9 := Lib.hid (show ∀ c, s6 = .error c → k = 0 from fun c hc => num_zero hk8 c (by rw [← hs6]; exact hc))
 clear hk7 hk8 hr ho hs6
 go_wp2_with fail
 -- the primes
 go_loopw [6] (fun iv wr => ∃ (j : Nat) (qs : List Nat) (v : Value) (s : Except Nat (List Nat)), j ≤ k ∧ iv = .int .u64 ((k - j : Nat) : Int) ∧ Hid (qs.length = j) ∧ Hid (StQ p w x (.int .i64 (n : Int)) (.int .u64 (t : Int)) v (.int .i64 (wd : Int)) s wr) ∧ Hid (GR (x + 1) 22 WordR wr v qs) ∧
     Hid ((∃ c, s6 = .error c ∧ s = .error c) ∨ ∃ l6, s6 = .ok l6 ∧ ((∃ l', s = .ok l' ∧ manyP (numP 8) k l6 = aft qs (manyP (numP 8) (k - j) l')) ∨ ∃ c, s = .error c ∧ manyP (numP 8) k l6 = .error c))) (fun iv _ => (intOf iv).toNat)
 case atStart =>
  refine ⟨0, [], _, s6, by omega, rfl, Lib.hid rfl, HQ7, Lib.hid (GR.nil _ _ _ _), Lib.hid ?_⟩
  rcases hh : s6 with c | l6
  ·exact .inl ⟨c, rfl, rfl⟩
  ·exact .inr ⟨l6, rfl, .inl ⟨l6, rfl, by rw [aft_nil]; rfl⟩⟩
 case round =>
  obtain ⟨j, qs, v, s, hj, rfl, hql, hq, hgr, hs⟩ := hrel
  have x1 := hq.out.rr.err
  obtain ⟨c0, c1, c2, c3⟩ := hq.out.par.pc
  by_cases hlt : j < k
  ·have i1 : ¬ ((k - j : Nat) : Int) = 0 := by omega
   have i2 : (0 : Int) < ((k - j : Nat) : Int) := by omega
   rcases s with e | l1
   ·obtain ⟨E0, E1, E2, hE, hE0, hE1⟩ := hq.out.rr
    rw [show rErrS (.error e) = e from rfl] at x1
    have i3 : ((e : Int) == 0) = false := by simp; omega
    clear hE
    obtain ⟨AQ, cQ, rfl, hly⟩ := hgr.out.lv
    have HLY := Lib.hid hly
    have hL : qs.length ≤ 255 := by rw [hql.out]; omega
    obtain ⟨M, hM⟩ : ∃ M, M = qs.length := ⟨_, rfl⟩
    have HM := Lib.hid hM
    rw [← hM] at c2 hL
    clear hly hM
    go_wp2_with fail
    have hwds := HLY.out.words
    have hfx := HLY.out.fx
    rw [← HM.out] at hwds hfx
    refine (refCheck_any (n : Int) t (wd : Int) AQ M cQ (fun j => qs.getD j 0) wr (by omega) (by omega) (by omega) (by omega) hfx (Lib.hid hwds)).mono ?_
    clear hwds hfx
    rintro e8 w8 hchk
    obtain ⟨z, bb, rfl, hz, k8, hF⟩ : ∃ (z : Nat) (bb : Bool), e8 = .returned (.int .i64 (z : Int)) ∧ ((z : Int) != 0) = bb ∧ Ext wr w8 ∧ restS (stp s2 paramP) = failS (.error e) bb 8 := by
     rcases hchk with ⟨hy, h1, h2⟩ | ⟨hy, h1, h2⟩
     ·exact ⟨0, false, h1, rfl, h2, (st_fin HPP.out hs.out (.inr ⟨e, rfl⟩)).1 (by rw [← HM.out]; exact hy)⟩
     ·exact ⟨8, true, h1, rfl, h2, (st_fin HPP.out hs.out (.inr ⟨e, rfl⟩)).2.1 (by rw [← HM.out]; exact hy)⟩
    have HF := Lib.hid hF
    have HQ8 := Lib.hid (hq.out.ext k8)
    have HL8 := Lib.hid (HLY.out.keeps (wordR_stays [22]) (by decide) (Keeps.ext k8))
    clear hchk hF
    go_wp2_with fail
    refine (rFail_any p 8 bb (.error e) w8 (Lib.hid HQ8.out.rr) (by omega) (by omega)).mono ?_
    rintro e9 w9 ⟨rfl, hr9, ho9⟩
    have HQ9 := Lib.hid (HQ8.out.call hr9 ho9)
    have HL9 := Lib.hid (HL8.out.keeps (wordR_stays [22]) (by decide) (HQ8.out.rr.keeps ho9 (by decide)))
    clear hr9 ho9
    obtain ⟨f0, f1, f2, f3⟩ := HQ9.out.par.pc
    rw [← HM.out] at f2
    obtain ⟨g0, g1, g2, g3⟩ := HQ9.out.out.pc
    have y0 := HQ9.out.out.frozen 0
    have y1 := HQ9.out.out.frozen 1
    have y2 := HQ9.out.out.frozen 2
    have y3 := HQ9.out.out.frozen 3
    go_wp2_with fail
    have P6 := HQ9.out.out.set4 (.int .i64 (n : Int)) (.int .u64 (t : Int)) (.slice AQ M cQ) (.int .i64 (wd : Int))
    obtain ⟨e0, e1, e2, e3⟩ := P6.pc
    have hkz : Keeps [22] w9 ((((w9.setCell ⟨w.heap.size, 0, none⟩ (.int .i64 (n : Int))).setCell ⟨w.heap.size, 1, none⟩ (.int .u64 (t : Int))).setCell ⟨w.heap.size, 2, none⟩ (.slice AQ M cQ)).setCell ⟨w.heap.size, 3, none⟩ (.int .i64 (wd : Int))) :=
     (((Keeps.set HQ9.out.out (by decide) _).trans (Keeps.set (HQ9.out.out.p0 _) (by decide) _)).trans (Keeps.set ((HQ9.out.out.p0 _).p1 _) (by decide) _)).trans (Keeps.set (((HQ9.out.out.p0 _).p1 _).p2 _) (by decide) _)
    have HE := Lib.hid (show StPost p w (bindP (betP 1 kind kind) (fun _ => paramP) l) (.returned (.agg #[.int .i64 (n : Int), .int .u64 (t : Int), .slice AQ M cQ, .int .i64 (wd : Int)])) ((((w9.setCell ⟨w.heap.size, 0, none⟩ (.int .i64 (n : Int))).setCell ⟨w.heap.size, 1, none⟩ (.int .u64 (t : Int))).setCell ⟨w.heap.size, 2, none⟩ (.slice AQ M cQ)).setCell ⟨w.heap.size, 3, none⟩ (.int .i64 (wd : Int))) by
     rw [bind_stp, ← HS2.out]
     refine ⟨n, t, wd, qs, AQ, cQ, by rw [HM.out], HL9.out.keeps (wordR_stays _) (by decide) hkz, by omega, by omega, by omega, by rw [← HM.out]; exact hL, (st_fin HPP.out hs.out (.inr ⟨e, rfl⟩)).2.2, ?_, ?_⟩
     ·rw [HF.out]
      exact (((HQ9.out.rr.setFar hpw _).setFar hpw _).setFar hpw _).setFar hpw _
     ·exact (((HQ9.out.on.setFar (Nat.le_refl _) _).setFar (Nat.le_refl _) _).setFar (Nat.le_refl _) _).setFar (Nat.le_refl _) _)
    clear hkz P6
    generalize (((w9.setCell ⟨w.heap.size, 0, none⟩ (.int .i64 (n : Int))).setCell ⟨w.heap.size, 1, none⟩ (.int .u64 (t : Int))).setCell ⟨w.heap.size, 2, none⟩ (.slice AQ M cQ)).setCell ⟨w.heap.size, 3, none⟩ (.int .i64 (wd : Int)) = Z9 at *
    exact bodyPost_ret (v := .agg #[.int .i64 (n : Int), .int .u64 (t : Int), .slice AQ M cQ, .int .i64 (wd : Int)]) (by simp [results, Tryz.results69, go_sem, e0, e1, e2, e3]) rfl HE.out
   ·rw [show rErrS (.ok l1) = 0 from rfl] at x1
    obtain ⟨us, hov, hus⟩ := hgr.out
    rw [hql.out] at hov
    have HOV := Lib.hid hov
    have HUS := Lib.hid hus
    have z2 := hq.out.par.frozen 2
    have hkj : IntKind.u64.wrap (((k - j : Nat) : Int) - 1) = ((k - (j + 1) : Nat) : Int) := by rw [IntKind.wrap_u64]; omega
    have hsv := hq.out.par.lt
    clear hov hus
    go_wp2_with fail
    refine wp_region_held_drew (S := (fun w' => True)) (by kernel_rfl) ?_ (fun hHeld => ?_)
    ·(try dsimp only); (try trivial)
    refine wpAnyH_take (i := 0) (oi := _) (v := ?_) rfl (by kernel_rfl) (by kernel_rfl) (by kernel_rfl) (fun _ _ _ h => h) (Or.inl ⟨by rfl, ?_⟩) (by assumption) ?_
    rotate_left
    ·(intro wS hSw; (try dsimp only at hSw); (try go_simp); (try with_reducible rfl))
    try simp only [Act.put, s1, s2, s3]
    refine wpAnyH_take (i := 2) (oi := _) (v := ?_) rfl (by kernel_rfl) (by kernel_rfl) (by kernel_rfl) (fun _ _ _ h => h) (Or.inl ⟨by rfl, ?_⟩) (by assumption) ?_
    rotate_left
    ·(intro wS hSw; (try dsimp only at hSw); (try go_simp); (try with_reducible rfl))
    try simp only [Act.put, s1, s2, s3]
    refine wpAnyH_ready (rs := [1, 3]) (by kernel_rfl) (by simp) ?_
    refine AllReadyH.cons rfl (fun KQ hKQ => ?_) ?_
    ·go_simp
     refine hKQ.out _ _ ?_ (fun hHeld => ?_)
     ·(try dsimp only); (try trivial)
     clear hKQ KQ
     try simp only [Act.put, s1, s2, s3]
     refine wpAnyH_ready (rs := [3]) (by kernel_rfl) (by simp) ?_
     refine AllReadyH.cons rfl (fun KQ hKQ => ?_) AllReadyH.nil
     go_simp
     refine (rNum_any 8 p (.ok l1) _ (Lib.hid (hq.out.rr.ext (by first | exact Ext.refl _ | exact (Ext.refl _).drew))) (by omega) (by omega)).mono ?_; rintro e5 w5 ⟨y, hy1, hy2, rfl, hly, hr5, ho5⟩; have hoo : On p wr w5 := (show On p wr wr.drew from On.of (Ext.refl wr).drew).trans ho5; have HQ5 := Lib.hid (hq.out.call hr5 hoo); have HOW5 := Lib.hid (own_keeps (hq.out.rr.keeps (ts := [22]) hoo (by decide)) HOV.out (by decide)); have d5 := HQ5.out.par.pc.2.2.1; have z5 := HQ5.out.par.frozen 2; have s5 := HQ5.out.par.lt; have d5a := cell_ext ((Ext.refl w5).alloc (.cells #[.int .u64 (y : Int)] 22)) d5; have HY1 := Lib.hid hy1; clear hr5 hy1 hy2; (try dsimp only)
     refine hKQ.out _ _ ?_ (fun hHeld => ?_)
     ·(try dsimp only); (try trivial)
     clear hKQ KQ
     try simp only [Act.put, s1, s2, s3]
     refine wpAnyH_ready (rs := [4]) (by kernel_rfl) (by simp) ?_
     refine AllReadyH.cons rfl (fun KQ hKQ => ?_) AllReadyH.nil
     go_simp
     refine hKQ.out _ _ ?_ (fun hHeld => ?_)
     ·(try dsimp only); (try trivial)
     clear hKQ KQ
     try simp only [Act.put, s1, s2, s3]
     refine wpAnyH_ready (rs := [5]) (by kernel_rfl) (by simp) ?_
     refine AllReadyH.cons rfl (fun KQ hKQ => ?_) AllReadyH.nil
     refine step_append_own rfl _ _ 23 rfl (x + 1) 22 i0 (.int .u64 0) 1 8 Tryz.underlying23 hi hz0 hz1 hz2 rfl (by decide) _ _ _ rfl (HOW5.out.alloc _) ⟨_, 0, none⟩ 1 1 [.int .u64 (y : Int)] rfl rfl one_cell one_int (by unfold maxLen; omega) (by omega) (by simp; omega) ?_; intro v6 w6 hown6 hgrow6; replace hgrow6 : (w5.alloc (.cells #[.int .u64 (y : Int)] 22)).grownBy w6 v.ownBlock := hgrow6; obtain ⟨A6, c6, rfl⟩ := own_slice hown6; have HQ6 := Lib.hid ((HQ5.out.ext ((Ext.refl w5).alloc (.cells #[.int .u64 (y : Int)] 22))).grown hgrow6 (fun kk e => by have := (HOW5.out.lt kk e).1; omega)); have d6 := HQ6.out.par.pc.2.2.1; have z6 := HQ6.out.par.frozen 2; have HG6 := Lib.hid (GR.push (w := w5) (t := 22) (B := x + 1) (v := v) (ts := []) (wordR_stays _) (by decide) (show ∀ (j : Nat) (x : Nat), qs[j]? = some x → ∃ u, us[j]? = some u ∧ WordR w5 u x from HUS.out) (by rw [hql.out]; exact HOW5.out) (show WordR w5 (.int .u64 (y : Int)) y from ⟨rfl, hly⟩) (by rw [hql.out]; exact hown6) hgrow6); (try dsimp only)
     refine hKQ.out _ _ ?_ (fun hHeld => ?_)
     ·(try dsimp only); (try trivial)
     clear hKQ KQ
     try simp only [Act.put, s1, s2, s3]
     refine wpAnyH_take (i := 6) (oi := _) (v := ?_) rfl (by kernel_rfl) (by kernel_rfl) (by kernel_rfl) (fun _ _ _ h => h) (Or.inl ⟨by rfl, ?_⟩) (by assumption) ?_
     rotate_left
     ·(intro wS hSw; (try dsimp only at hSw); (try go_simp); (try with_reducible rfl))
     try simp only [Act.put, s1, s2, s3]
     refine wpAnyH_ready (rs := [7]) (by kernel_rfl) (by simp) ?_
     refine AllReadyH.cons rfl (fun KQ hKQ => ?_) AllReadyH.nil
     go_simp
     refine hKQ.out _ _ ?_ (fun hHeld => ?_)
     ·(try dsimp only); (try trivial)
     clear hKQ KQ
     try simp only [Act.put, s1, s2, s3]
     refine wpAnyH_done (by kernel_rfl) ?_ _
     have HQ9 := Lib.hid (HQ6.out.s2 (.slice A6 (j + 1) c6))
     have HG9 := Lib.hid (HG6.out.keeps (ts := []) (wordR_stays _) (Keeps.set (o := 2) HQ6.out.par (by decide) (.slice A6 (j + 1) c6)))
     have HS9 := Lib.hid (st_step hs.out HY1.out hlt)
     clear d6 z6 hown6 hgrow6
     generalize w6.setCell ⟨x, 2, none⟩ (.slice A6 (j + 1) c6) = w9 at *
     go_wp2
     exact ⟨⟨j + 1, qs ++ [y], .slice A6 (j + 1) c6, _, by omega, by first | rfl | exact congrArg _ hkj | (congr 1), Lib.hid (by rw [List.length_append, hql.out]; rfl), HQ9, HG9, HS9⟩, by simp [intOf]; omega⟩
    refine AllReadyH.cons rfl (fun KQ hKQ => ?_) AllReadyH.nil
    go_simp
    refine (rNum_any 8 p (.ok l1) _ (Lib.hid (hq.out.rr.ext (by first | exact Ext.refl _ | exact (Ext.refl _).drew))) (by omega) (by omega)).mono ?_; rintro e5 w5 ⟨y, hy1, hy2, rfl, hly, hr5, ho5⟩; have hoo : On p wr w5 := (show On p wr wr.drew from On.of (Ext.refl wr).drew).trans ho5; have HQ5 := Lib.hid (hq.out.call hr5 hoo); have HOW5 := Lib.hid (own_keeps (hq.out.rr.keeps (ts := [22]) hoo (by decide)) HOV.out (by decide)); have d5 := HQ5.out.par.pc.2.2.1; have z5 := HQ5.out.par.frozen 2; have s5 := HQ5.out.par.lt; have d5a := cell_ext ((Ext.refl w5).alloc (.cells #[.int .u64 (y : Int)] 22)) d5; have HY1 := Lib.hid hy1; clear hr5 hy1 hy2; (try dsimp only)
    refine hKQ.out _ _ ?_ (fun hHeld => ?_)
    ·(try dsimp only); (try trivial)
    clear hKQ KQ
    try simp only [Act.put, s1, s2, s3]
    refine wpAnyH_ready (rs := [1, 4]) (by kernel_rfl) (by simp) ?_
    refine AllReadyH.cons rfl (fun KQ hKQ => ?_) ?_
    ·go_simp
     refine hKQ.out _ _ ?_ (fun hHeld => ?_)
     ·(try dsimp only); (try trivial)
     clear hKQ KQ
     try simp only [Act.put, s1, s2, s3]
     refine wpAnyH_ready (rs := [4]) (by kernel_rfl) (by simp) ?_
     refine AllReadyH.cons rfl (fun KQ hKQ => ?_) AllReadyH.nil
     go_simp
     refine hKQ.out _ _ ?_ (fun hHeld => ?_)
     ·(try dsimp only); (try trivial)
     clear hKQ KQ
     try simp only [Act.put, s1, s2, s3]
     refine wpAnyH_ready (rs := [5]) (by kernel_rfl) (by simp) ?_
     refine AllReadyH.cons rfl (fun KQ hKQ => ?_) AllReadyH.nil
     refine step_append_own rfl _ _ 23 rfl (x + 1) 22 i0 (.int .u64 0) 1 8 Tryz.underlying23 hi hz0 hz1 hz2 rfl (by decide) _ _ _ rfl (HOW5.out.alloc _) ⟨_, 0, none⟩ 1 1 [.int .u64 (y : Int)] rfl rfl one_cell one_int (by unfold maxLen; omega) (by omega) (by simp; omega) ?_; intro v6 w6 hown6 hgrow6; replace hgrow6 : (w5.alloc (.cells #[.int .u64 (y : Int)] 22)).grownBy w6 v.ownBlock := hgrow6; obtain ⟨A6, c6, rfl⟩ := own_slice hown6; have HQ6 := Lib.hid ((HQ5.out.ext ((Ext.refl w5).alloc (.cells #[.int .u64 (y : Int)] 22))).grown hgrow6 (fun kk e => by have := (HOW5.out.lt kk e).1; omega)); have d6 := HQ6.out.par.pc.2.2.1; have z6 := HQ6.out.par.frozen 2; have HG6 := Lib.hid (GR.push (w := w5) (t := 22) (B := x + 1) (v := v) (ts := []) (wordR_stays _) (by decide) (show ∀ (j : Nat) (x : Nat), qs[j]? = some x → ∃ u, us[j]? = some u ∧ WordR w5 u x from HUS.out) (by rw [hql.out]; exact HOW5.out) (show WordR w5 (.int .u64 (y : Int)) y from ⟨rfl, hly⟩) (by rw [hql.out]; exact hown6) hgrow6); (try dsimp only)
     refine hKQ.out _ _ ?_ (fun hHeld => ?_)
     ·(try dsimp only); (try trivial)
     clear hKQ KQ
     try simp only [Act.put, s1, s2, s3]
     refine wpAnyH_take (i := 6) (oi := _) (v := ?_) rfl (by kernel_rfl) (by kernel_rfl) (by kernel_rfl) (fun _ _ _ h => h) (Or.inl ⟨by rfl, ?_⟩) (by assumption) ?_
     rotate_left
     ·(intro wS hSw; (try dsimp only at hSw); (try go_simp); (try with_reducible rfl))
     try simp only [Act.put, s1, s2, s3]
     refine wpAnyH_ready (rs := [7]) (by kernel_rfl) (by simp) ?_
     refine AllReadyH.cons rfl (fun KQ hKQ => ?_) AllReadyH.nil
     go_simp
     refine hKQ.out _ _ ?_ (fun hHeld => ?_)
     ·(try dsimp only); (try trivial)
     clear hKQ KQ
     try simp only [Act.put, s1, s2, s3]
     refine wpAnyH_done (by kernel_rfl) ?_ _
     have HQ9 := Lib.hid (HQ6.out.s2 (.slice A6 (j + 1) c6))
     have HG9 := Lib.hid (HG6.out.keeps (ts := []) (wordR_stays _) (Keeps.set (o := 2) HQ6.out.par (by decide) (.slice A6 (j + 1) c6)))
     have HS9 := Lib.hid (st_step hs.out HY1.out hlt)
     clear d6 z6 hown6 hgrow6
     generalize w6.setCell ⟨x, 2, none⟩ (.slice A6 (j + 1) c6) = w9 at *
     go_wp2
     exact ⟨⟨j + 1, qs ++ [y], .slice A6 (j + 1) c6, _, by omega, by first | rfl | exact congrArg _ hkj | (congr 1), Lib.hid (by rw [List.length_append, hql.out]; rfl), HQ9, HG9, HS9⟩, by simp [intOf]; omega⟩
    refine AllReadyH.cons rfl (fun KQ hKQ => ?_) AllReadyH.nil
    go_simp
    refine hKQ.out _ _ ?_ (fun hHeld => ?_)
    ·(try dsimp only); (try trivial)
    clear hKQ KQ
    try simp only [Act.put, s1, s2, s3]
    refine wpAnyH_ready (rs := [1]) (by kernel_rfl) (by simp) ?_
    refine AllReadyH.cons rfl (fun KQ hKQ => ?_) AllReadyH.nil
    go_simp
    refine hKQ.out _ _ ?_ (fun hHeld => ?_)
    ·(try dsimp only); (try trivial)
    clear hKQ KQ
    try simp only [Act.put, s1, s2, s3]
    refine wpAnyH_ready (rs := [5]) (by kernel_rfl) (by simp) ?_
    refine AllReadyH.cons rfl (fun KQ hKQ => ?_) AllReadyH.nil
    refine step_append_own rfl _ _ 23 rfl (x + 1) 22 i0 (.int .u64 0) 1 8 Tryz.underlying23 hi hz0 hz1 hz2 rfl (by decide) _ _ _ rfl (HOW5.out.alloc _) ⟨_, 0, none⟩ 1 1 [.int .u64 (y : Int)] rfl rfl one_cell one_int (by unfold maxLen; omega) (by omega) (by simp; omega) ?_; intro v6 w6 hown6 hgrow6; replace hgrow6 : (w5.alloc (.cells #[.int .u64 (y : Int)] 22)).grownBy w6 v.ownBlock := hgrow6; obtain ⟨A6, c6, rfl⟩ := own_slice hown6; have HQ6 := Lib.hid ((HQ5.out.ext ((Ext.refl w5).alloc (.cells #[.int .u64 (y : Int)] 22))).grown hgrow6 (fun kk e => by have := (HOW5.out.lt kk e).1; omega)); have d6 := HQ6.out.par.pc.2.2.1; have z6 := HQ6.out.par.frozen 2; have HG6 := Lib.hid (GR.push (w := w5) (t := 22) (B := x + 1) (v := v) (ts := []) (wordR_stays _) (by decide) (show ∀ (j : Nat) (x : Nat), qs[j]? = some x → ∃ u, us[j]? = some u ∧ WordR w5 u x from HUS.out) (by rw [hql.out]; exact HOW5.out) (show WordR w5 (.int .u64 (y : Int)) y from ⟨rfl, hly⟩) (by rw [hql.out]; exact hown6) hgrow6); (try dsimp only)
    refine hKQ.out _ _ ?_ (fun hHeld => ?_)
    ·(try dsimp only); (try trivial)
    clear hKQ KQ
    try simp only [Act.put, s1, s2, s3]
    refine wpAnyH_take (i := 6) (oi := _) (v := ?_) rfl (by kernel_rfl) (by kernel_rfl) (by kernel_rfl) (fun _ _ _ h => h) (Or.inl ⟨by rfl, ?_⟩) (by assumption) ?_
    rotate_left
    ·(intro wS hSw; (try dsimp only at hSw); (try go_simp); (try with_reducible rfl))
    try simp only [Act.put, s1, s2, s3]
    refine wpAnyH_ready (rs := [7]) (by kernel_rfl) (by simp) ?_
    refine AllReadyH.cons rfl (fun KQ hKQ => ?_) AllReadyH.nil
    go_simp
    refine hKQ.out _ _ ?_ (fun hHeld => ?_)
    ·(try dsimp only); (try trivial)
    clear hKQ KQ
    try simp only [Act.put, s1, s2, s3]
    refine wpAnyH_done (by kernel_rfl) ?_ _
    have HQ9 := Lib.hid (HQ6.out.s2 (.slice A6 (j + 1) c6))
    have HG9 := Lib.hid (HG6.out.keeps (ts := []) (wordR_stays _) (Keeps.set (o := 2) HQ6.out.par (by decide) (.slice A6 (j + 1) c6)))
    have HS9 := Lib.hid (st_step hs.out HY1.out hlt)
    clear d6 z6 hown6 hgrow6
    generalize w6.setCell ⟨x, 2, none⟩ (.slice A6 (j + 1) c6) = w9 at *
    go_wp2
    exact ⟨⟨j + 1, qs ++ [y], .slice A6 (j + 1) c6, _, by omega, by first | rfl | exact congrArg _ hkj | (congr 1), Lib.hid (by rw [List.length_append, hql.out]; rfl), HQ9, HG9, HS9⟩, by simp [intOf]; omega⟩
  ·have hjk : j = k := by omega
   have i1 : ((k - j : Nat) : Int) = 0 := by omega
   have i2 : ¬ (0 : Int) < ((k - j : Nat) : Int) := by omega
   obtain ⟨AQ, cQ, rfl, hly⟩ := hgr.out.lv
   have HLY := Lib.hid hly
   have hL : qs.length ≤ 255 := by rw [hql.out]; omega
   obtain ⟨M, hM⟩ : ∃ M, M = qs.length := ⟨_, rfl⟩
   have HM := Lib.hid hM
   rw [← hM] at c2 hL
   clear hly hM
   go_wp2_with fail
   have hwds := HLY.out.words
   have hfx := HLY.out.fx
   rw [← HM.out] at hwds hfx
   refine (refCheck_any (n : Int) t (wd : Int) AQ M cQ (fun j => qs.getD j 0) wr (by omega) (by omega) (by omega) (by omega) hfx (Lib.hid hwds)).mono ?_
   clear hwds hfx
   rintro e8 w8 hchk
   obtain ⟨z, bb, rfl, hz, k8, hF⟩ : ∃ (z : Nat) (bb : Bool), e8 = .returned (.int .i64 (z : Int)) ∧ ((z : Int) != 0) = bb ∧ Ext wr w8 ∧ restS (stp s2 paramP) = failS s bb 8 := by
    rcases hchk with ⟨hy, h1, h2⟩ | ⟨hy, h1, h2⟩
    ·exact ⟨0, false, h1, rfl, h2, (st_fin HPP.out hs.out (.inl (by omega))).1 (by rw [← HM.out]; exact hy)⟩
    ·exact ⟨8, true, h1, rfl, h2, (st_fin HPP.out hs.out (.inl (by omega))).2.1 (by rw [← HM.out]; exact hy)⟩
   have HF := Lib.hid hF
   have HQ8 := Lib.hid (hq.out.ext k8)
   have HL8 := Lib.hid (HLY.out.keeps (wordR_stays [22]) (by decide) (Keeps.ext k8))
   clear hchk hF
   go_wp2_with fail
   refine (rFail_any p 8 bb s w8 (Lib.hid HQ8.out.rr) (by omega) (by omega)).mono ?_
   rintro e9 w9 ⟨rfl, hr9, ho9⟩
   have HQ9 := Lib.hid (HQ8.out.call hr9 ho9)
   have HL9 := Lib.hid (HL8.out.keeps (wordR_stays [22]) (by decide) (HQ8.out.rr.keeps ho9 (by decide)))
   clear hr9 ho9
   obtain ⟨f0, f1, f2, f3⟩ := HQ9.out.par.pc
   rw [← HM.out] at f2
   obtain ⟨g0, g1, g2, g3⟩ := HQ9.out.out.pc
   have y0 := HQ9.out.out.frozen 0
   have y1 := HQ9.out.out.frozen 1
   have y2 := HQ9.out.out.frozen 2
   have y3 := HQ9.out.out.frozen 3
   go_wp2_with fail
   have P6 := HQ9.out.out.set4 (.int .i64 (n : Int)) (.int .u64 (t : Int)) (.slice AQ M cQ) (.int .i64 (wd : Int))
   obtain ⟨e0, e1, e2, e3⟩ := P6.pc
   have hkz : Keeps [22] w9 ((((w9.setCell ⟨w.heap.size, 0, none⟩ (.int .i64 (n : Int))).setCell ⟨w.heap.size, 1, none⟩ (.int .u64 (t : Int))).setCell ⟨w.heap.size, 2, none⟩ (.slice AQ M cQ)).setCell ⟨w.heap.size, 3, none⟩ (.int .i64 (wd : Int))) :=
    (((Keeps.set HQ9.out.out (by decide) _).trans (Keeps.set (HQ9.out.out.p0 _) (by decide) _)).trans (Keeps.set ((HQ9.out.out.p0 _).p1 _) (by decide) _)).trans (Keeps.set (((HQ9.out.out.p0 _).p1 _).p2 _) (by decide) _)
   have HE := Lib.hid (show StPost p w (bindP (betP 1 kind kind) (fun _ => paramP) l) (.returned (.agg #[.int .i64 (n : Int), .int .u64 (t : Int), .slice AQ M cQ, .int .i64 (wd : Int)])) ((((w9.setCell ⟨w.heap.size, 0, none⟩ (.int .i64 (n : Int))).setCell ⟨w.heap.size, 1, none⟩ (.int .u64 (t : Int))).setCell ⟨w.heap.size, 2, none⟩ (.slice AQ M cQ)).setCell ⟨w.heap.size, 3, none⟩ (.int .i64 (wd : Int))) by
    rw [bind_stp, ← HS2.out]
    refine ⟨n, t, wd, qs, AQ, cQ, by rw [HM.out], HL9.out.keeps (wordR_stays _) (by decide) hkz, by omega, by omega, by omega, by rw [← HM.out]; exact hL, (st_fin HPP.out hs.out (.inl (by omega))).2.2, ?_, ?_⟩
    ·rw [HF.out]
     exact (((HQ9.out.rr.setFar hpw _).setFar hpw _).setFar hpw _).setFar hpw _
    ·exact (((HQ9.out.on.setFar (Nat.le_refl _) _).setFar (Nat.le_refl _) _).setFar (Nat.le_refl _) _).setFar (Nat.le_refl _) _)
   clear hkz P6
   generalize (((w9.setCell ⟨w.heap.size, 0, none⟩ (.int .i64 (n : Int))).setCell ⟨w.heap.size, 1, none⟩ (.int .u64 (t : Int))).setCell ⟨w.heap.size, 2, none⟩ (.slice AQ M cQ)).setCell ⟨w.heap.size, 3, none⟩ (.int .i64 (wd : Int)) = Z9 at *
   exact bodyPost_ret (v := .agg #[.int .i64 (n : Int), .int .u64 (t : Int), .slice AQ M cQ, .int .i64 (wd : Int)]) (by simp [results, Tryz.results69, go_sem, e0, e1, e2, e3]) rfl HE.out
def endS : Except Nat (List Nat) → Nat
 | .error e => e
 | .ok l => if 0 < l.length then 14 else 0
set_option maxHeartbeats 2000000 in
theorem rEnd_any (p : Nat) (s : Except Nat (List Nat)) (w : World) (hT : Hid (RR w p s)) :
    Calls Tryz.prog 70 #[.pointer (some ⟨p, 0, none⟩)] w fun e w' => e = .returned (.int .i64 (endS s : Int)) ∧ On p w w' := by
 obtain ⟨A, n, c, hc0, hb⟩ : ∃ (A : Option Addr) (n c : Nat), w.cell? ⟨p, 0, none⟩ = some (.slice A n c) ∧ ∀ l, s = .ok l → n = l.length := by
  rcases s with e | l
  ·obtain ⟨A, n, c, h1, _⟩ := hT.out
   exact ⟨A, n, c, h1.cell (i := 0) (by omega), fun l h => by cases h⟩
  ·obtain ⟨A, c, h1, _⟩ := hT.out
   exact ⟨A, l.length, c, h1.cell (i := 0) (by omega), fun l' h => by injection h with h; rw [h]⟩
 obtain ⟨b, hbb⟩ : ∃ b : Bool, b = decide (0 < n) := ⟨_, rfl⟩
 have hdec : decide ((0 : Int) < (n : Int)) = b := by rw [hbb]; simp
 have hdec2 : decide (0 < n) = b := hbb.symm
 have HE := Lib.hid (show rErrS (failS s b 14) = endS s by
  rcases s with e | l
  ·rfl
  ·rw [hbb, hb l rfl]
   by_cases g : 0 < l.length
   ·simp [failS, endS, g, rErrS]
   ·simp [failS, endS, g, rErrS])
 clear hbb hb
 go_enter Tryz.func70, Tryz.ntmps70
 go_wp2_with fail
 refine (rFail_any p 14 b s w hT (by omega) (by omega)).mono ?_
 rintro e w1 ⟨rfl, hr, ho⟩
 have x1 := hr.err
 rw [HE.out] at x1
 clear hr
 go_wp2
 go_ret
 exact ⟨rfl, ho⟩
theorem bet_pure (l : List Nat) (q v : Nat) (hq : 0 < q) (b : Bool) (hb : b = decide (q ≤ v)) (h0 : ∀ x r, stp (.ok l) (numP 8) = .ok (x, r) → v = x) :
    restS (betP 8 0 (q - 1) l) = failS (restS (stp (.ok l) (numP 8))) b 3 ∧ ∀ x r, betP 8 0 (q - 1) l = .ok (x, r) → v = x := by
 have e0 : stp (.ok l) (numP 8) = numP 8 l := rfl
 rw [e0] at h0 ⊢
 unfold betP bindP
 rcases h : numP 8 l with e | ⟨x, r⟩
 ·exact ⟨rfl, fun x r h => by cases h⟩
 ·have := h0 x r h
  subst this
  rw [hb]
  by_cases g : q ≤ v
  ·have g2 : v < 0 ∨ q - 1 < v := by omega
   simp only [if_pos g2]
   exact ⟨by simp [restS, failS, g], fun x r h => by cases h⟩
  ·have g2 : ¬ (v < 0 ∨ q - 1 < v) := by omega
   simp only [if_neg g2]
   refine ⟨by simp [restS, failS, g], fun x r h => ?_⟩
   injection h with h
   injection h
theorem py_in {g : Pr Nat} {n k y : Nat} {ys l0 l1 : List Nat} {s : Except Nat (List Nat)} (hm : manyP g n l0 = aft ys (manyP g (n - k) l1)) (hk : k < n) (hs : s = restS (g l1)) (hy : ∀ x r, g l1 = .ok (x, r) → y = x) :
    (∃ l2, s = .ok l2 ∧ manyP g n l0 = aft (ys ++ [y]) (manyP g (n - (k + 1)) l2)) ∨ ∃ c, s = .error c ∧ manyP g n l0 = .error c := by
 rcases h : g l1 with e | ⟨x, r⟩
 ·refine .inr ⟨e, by rw [hs, h]; rfl, ?_⟩
  rw [hm, show n - k = (n - (k + 1)) + 1 by omega, manyP_err h]
  rfl
 ·obtain rfl := hy x r h
  refine .inl ⟨r, by rw [hs, h]; rfl, ?_⟩
  rw [hm, show n - k = (n - (k + 1)) + 1 by omega, manyP_ok h, aft_aft]
structure PyQ (p : Nat) (w : World) (n t : Nat) (AQ : Option Addr) (M cQ wd : Nat) (v : Value) (s : Except Nat (List Nat)) (qs : List Nat) (V : World) : Prop where
 box : RW V w.heap.size 25 4 (parF (.int .i64 (n : Int)) (.int .u64 (t : Int)) (.slice AQ M cQ) (.int .i64 (wd : Int)))
 res : RW V (w.heap.size + 1) 31 1 (fun _ => .slice none 0 0)
 out : RW V (w.heap.size + 2) 31 1 (fun _ => v)
 rr : RR V p s
 on : On p w V
 ly : LY 22 WordR V AQ cQ qs
 px : p < w.heap.size
theorem PyQ.call {p : Nat} {w : World} {n t : Nat} {AQ : Option Addr} {M cQ wd : Nat} {v : Value} {s s' : Except Nat (List Nat)} {qs : List Nat} {V V' : World} (h : PyQ p w n t AQ M cQ wd v s qs V) (hr : RR V' p s') (k : On p V V') : PyQ p w n t AQ M cQ wd v s' qs V' :=
 ⟨h.box.on k (by have := h.px; omega), h.res.on k (by have := h.px; omega), h.out.on k (by have := h.px; omega), hr, h.on.trans k, h.ly.keeps (wordR_stays [22]) (by decide) (h.rr.keeps k (by decide)), h.px⟩
theorem PyQ.ext {p : Nat} {w : World} {n t : Nat} {AQ : Option Addr} {M cQ wd : Nat} {v : Value} {s : Except Nat (List Nat)} {qs : List Nat} {V V' : World} (h : PyQ p w n t AQ M cQ wd v s qs V) (k : Ext V V') : PyQ p w n t AQ M cQ wd v s qs V' := h.call (h.rr.ext k) (On.of k)
theorem PyQ.grown {p : Nat} {w : World} {n t : Nat} {AQ : Option Addr} {M cQ wd : Nat} {v vv : Value} {s : Except Nat (List Nat)} {qs : List Nat} {V V' : World} {k : Nat} {us : List Value} (h : PyQ p w n t AQ M cQ wd v s qs V) (ho : V.ownsRow (w.heap.size + 3) 23 1 vv k us) (hg : V.grownBy V' vv.ownBlock) : PyQ p w n t AQ M cQ wd v s qs V' :=
 ⟨h.box.keep (hg.block _ h.box.lt (fun e => by have := (ho.lt _ e.symm).1; omega)), h.res.keep (hg.block _ h.res.lt (fun e => by have := (ho.lt _ e.symm).1; omega)), h.out.keep (hg.block _ h.out.lt (fun e => by have := (ho.lt _ e.symm).1; omega)), h.rr.grown hg (fun k e => by have := (ho.lt _ e).1; have := h.px; omega), h.on.grown hg (fun k e => by have := (ho.lt _ e).1; omega), h.ly.keeps (wordR_stays [22]) (by decide) (Keeps.grown hg ho (by decide)), h.px⟩
theorem PyQ.set {p : Nat} {w : World} {n t : Nat} {AQ : Option Addr} {M cQ wd : Nat} {v : Value} {s : Except Nat (List Nat)} {qs : List Nat} {V : World} (h : PyQ p w n t AQ M cQ wd v s qs V) (u : Value) : PyQ p w n t AQ M cQ wd u s qs (V.setCell ⟨w.heap.size + 2, 0, none⟩ u) :=
 ⟨h.box.far (by omega) u, h.res.far (by omega) u, (h.out.set (show 0 < 1 by omega) u).congr fun j hj => by rw [if_pos (by omega)], h.rr.setFar (by have := h.px; omega) u, h.on.setFar (by omega) u, h.ly.keeps (wordR_stays [22]) (by decide) (Keeps.set h.out (by decide) u), h.px⟩
def PyPost (p : Nat) (w : World) (res : Except Nat (List (List Nat) × List Nat)) (e : Ending) (w' : World) : Prop :=
 ∃ (A : Option Addr) (m c : Nat), e = .returned (.agg #[.slice A m c]) ∧ (∃ xx, ElR w' (.slice A m c) xx ∧ ∀ x r, res = .ok (x, r) → x = xx) ∧ RR w' p (restS res) ∧ On p w w'
theorem py_out {g : Nat → Pr (List Nat)} {qs : List Nat} {m i q : Nat} {xs : List (List Nat)} {ys l1 : List Nat} {s : Except Nat (List Nat)} {tot : Except Nat (List (List Nat) × List Nat)}
    (hm : tot = aft xs (eachP g ((qs.take m).drop i) l1)) (hd : (qs.take m).drop i = q :: (qs.take m).drop (i + 1))
    (hin : (∃ l2, s = .ok l2 ∧ g q l1 = .ok (ys, l2)) ∨ ∃ c, s = .error c ∧ g q l1 = .error c) :
    (∃ l', s = .ok l' ∧ tot = aft (xs ++ [ys]) (eachP g ((qs.take m).drop (i + 1)) l')) ∨ ∃ c, s = .error c ∧ tot = .error c := by
 rcases hin with ⟨l2, h1, h2⟩ | ⟨c, h1, h2⟩
 ·exact .inl ⟨l2, h1, by rw [hm, hd, eachP_ok h2, aft_aft]⟩
 ·exact .inr ⟨c, h1, by rw [hm, hd, eachP_err h2]; rfl⟩
theorem py_in_end {g : Pr Nat} {n k : Nat} {ys l1 : List Nat} {s : Except Nat (List Nat)}
    (h : (∃ l2, s = .ok l2 ∧ manyP g n l1 = aft ys (manyP g (n - k) l2)) ∨ ∃ c, s = .error c ∧ manyP g n l1 = .error c) (hex : k = n ∨ ∃ e, s = .error e) :
    (∃ l2, s = .ok l2 ∧ manyP g n l1 = .ok (ys, l2)) ∨ ∃ c, s = .error c ∧ manyP g n l1 = .error c := by
 rcases h with ⟨l2, h1, h2⟩ | h
 ·rcases hex with rfl | ⟨e, he⟩
  ·exact .inl ⟨l2, h1, by rw [h2, Nat.sub_self]; simp [manyP, aft]⟩
  ·rw [h1] at he; cases he
 ·exact .inr h
theorem py_fin {g : Nat → Pr (List Nat)} {qs : List Nat} {m i : Nat} {xs : List (List Nat)} {s0 s : Except Nat (List Nat)} {F : Pr (List (List Nat))} (hF : ∀ l, F l = eachP g (qs.take m) l) (hl : ∀ l, s0 = .ok l → (qs.take m).length = m)
    (h : (∃ c, s0 = .error c ∧ s = .error c) ∨ ∃ l0, s0 = .ok l0 ∧ ((∃ l', s = .ok l' ∧ F l0 = aft xs (eachP g ((qs.take m).drop i) l')) ∨ ∃ c, s = .error c ∧ F l0 = .error c)) (hex : i = m ∨ ∃ e, s = .error e) :
    restS (stp s0 F) = s ∧ ∀ x r, stp s0 F = .ok (x, r) → x = xs := by
 rcases h with ⟨c, h1, h2⟩ | ⟨l0, h1, ⟨l', h2, h3⟩ | ⟨c, h2, h3⟩⟩
 ·rw [h1, h2]; exact ⟨rfl, fun x r h => by cases h⟩
 ·rcases hex with rfl | ⟨e, he⟩
  ·have h4 : F l0 = .ok (xs, l') := by
      rw [h3, List.drop_eq_nil_of_le (by rw [hl l0 h1]; omega)]; simp [eachP, aft]
   rw [h1, h2]
   simp only [stp, h4, restS]
   exact ⟨trivial, fun x r h => by injection h with h; injection h with h _; exact h.symm⟩
  ·rw [h2] at he; cases he
 ·rw [h1, h2]
  simp only [stp, h3, restS]
  exact ⟨trivial, fun x r h => by cases h⟩
set_option maxHeartbeats 16000000 in
theorem rPoly_any (p n t wd M cQ m : Nat) (AQ : Option Addr) (qs : List Nat) (s0 : Except Nat (List Nat)) (w : World) (hT : Hid (RR w p s0)) (hn : n ≤ 65535) (hM : Hid (qs.length = M)) (hM2 : M ≤ 255) (hm : m ≤ 1000) (hQ : Hid (LY 22 WordR w AQ cQ qs)) (hs : Hid (∀ l, s0 = .ok l → m ≤ M ∧ ∀ q ∈ qs, 0 < q)) :
    Calls Tryz.prog 73 #[.pointer (some ⟨p, 0, none⟩), .agg #[.int .i64 (n : Int), .int .u64 (t : Int), .slice AQ M cQ, .int .i64 (wd : Int)], .int .i64 (m : Int)] w (PyPost p w (stp s0 (elemP n (qs.take m)))) := by
 obtain ⟨i0, hi, hz0, hz1, hz2⟩ := info_parts info_u64
 obtain ⟨j0, hj, hy0, hy1, hy2⟩ := info_parts info_uss
 have hpw := hT.out.lt
 have HQ := Lib.hid (show PyQ p w n t AQ M cQ wd (.slice none 0 0) s0 qs (((w.alloc (.cells #[.int .i64 (n : Int), .int .u64 (t : Int), .slice AQ M cQ, .int .i64 (wd : Int)] 25)).alloc (.cells #[.slice none 0 0] 31)).alloc (.cells #[.slice none 0 0] 31)) from by
  have k3 : Ext w (((w.alloc (.cells #[.int .i64 (n : Int), .int .u64 (t : Int), .slice AQ M cQ, .int .i64 (wd : Int)] 25)).alloc (.cells #[.slice none 0 0] 31)).alloc (.cells #[.slice none 0 0] 31)) := (((Ext.refl w).alloc _).alloc _).alloc _
  refine ⟨?_, ?_, ?_, hT.out.ext k3, On.of k3, hQ.out.keeps (wordR_stays [22]) (by decide) (Keeps.ext k3), hpw⟩
  ·exact RW.ext (show RW (w.alloc (.cells #[.int .i64 (n : Int), .int .u64 (t : Int), .slice AQ M cQ, .int .i64 (wd : Int)] 25)) w.heap.size 25 4 (parF (.int .i64 (n : Int)) (.int .u64 (t : Int)) (.slice AQ M cQ) (.int .i64 (wd : Int))) from heap_alloc_new w _) (((Ext.refl _).alloc _).alloc _)
  ·have h := heap_alloc_new (w.alloc (.cells #[.int .i64 (n : Int), .int .u64 (t : Int), .slice AQ M cQ, .int .i64 (wd : Int)] 25)) (.cells #[.slice none 0 0] 31)
   rw [World.size_alloc] at h
   exact RW.ext (show RW _ (w.heap.size + 1) 31 1 (fun _ => .slice none 0 0) from h) ((Ext.refl _).alloc _)
  ·have h := heap_alloc_new ((w.alloc (.cells #[.int .i64 (n : Int), .int .u64 (t : Int), .slice AQ M cQ, .int .i64 (wd : Int)] 25)).alloc (.cells #[.slice none 0 0] 31)) (.cells #[.slice none 0 0] 31)
   rw [World.size_alloc, World.size_alloc] at h
   exact h)
 have hs3 : (((w.alloc (.cells #[.int .i64 (n : Int), .int .u64 (t : Int), .slice AQ M cQ, .int .i64 (wd : Int)] 25)).alloc (.cells #[.slice none 0 0] 31)).alloc (.cells #[.slice none 0 0] 31)).heap.size = w.heap.size + 3 := by simp
 have HLT := Lib.hid (show ∀ l, s0 = .ok l → (qs.take m).length = m from fun l h => by rw [List.length_take, hM.out]; have := (hs.out l h).1; omega)
 have HE := Lib.hid (show ∀ l, elemP n (qs.take m) l = eachP (fun q => manyP (betP 8 0 (q - 1)) n) (qs.take m) l from fun l => rfl)
 go_enter Tryz.func73, Tryz.ntmps73
 go_wp2_with fail
 generalize ((w.alloc (.cells #[.int .i64 (n : Int), .int .u64 (t : Int), .slice AQ M cQ, .int .i64 (wd : Int)] 25)).alloc (.cells #[.slice none 0 0] 31)).alloc (.cells #[.slice none 0 0] 31) = V at *
 go_loopw [8] (fun iv wr => ∃ (i : Nat) (xs : List (List Nat)) (v : Value) (s : Except Nat (List Nat)), i ≤ m ∧ iv = .int .i64 (i : Int) ∧ Hid (xs.length = i) ∧ Hid (PyQ p w n t AQ M cQ wd v s qs wr) ∧ Hid (GR (w.heap.size + 3) 23 WsR wr v xs) ∧ w.heap.size + 3 ≤ wr.heap.size ∧
     Hid ((∃ c, s0 = .error c ∧ s = .error c) ∨ ∃ l0, s0 = .ok l0 ∧ ((∃ l', s = .ok l' ∧ elemP n (qs.take m) l0 = aft xs (eachP (fun q => manyP (betP 8 0 (q - 1)) n) ((qs.take m).drop i) l')) ∨ ∃ c, s = .error c ∧ elemP n (qs.take m) l0 = .error c))) (fun iv _ => m - (intOf iv).toNat)
 case atStart =>
  refine ⟨0, [], _, s0, by omega, rfl, Lib.hid rfl, HQ, Lib.hid (GR.nil _ _ _ _), by omega, Lib.hid ?_⟩
  rcases s0 with c | l0
  ·exact .inl ⟨c, rfl, rfl⟩
  ·exact .inr ⟨l0, rfl, .inl ⟨l0, rfl, by rw [aft_nil, List.drop_zero]; rfl⟩⟩
 case round =>
  obtain ⟨i, xs, v, s, him, rfl, hxl, hq, hgr, hws, hrel2⟩ := hrel
  have x1 := hq.out.rr.err
  by_cases hlt : i < m
  ·have i1 : decide ((i : Int) < (m : Int)) = true := by simp; omega
   rcases s with e | l1
   ·obtain ⟨E0, E1, E2, hE, hE0, hE1⟩ := hq.out.rr
    rw [show rErrS (.error e) = e from rfl] at x1
    have i3 : ((e : Int) == 0) = false := by simp; omega
    clear hE
    obtain ⟨A9, c9, rfl, hlv9⟩ := hgr.out.lv
    have HV9 := Lib.hid (show ElR wr (.slice A9 xs.length c9) xs from ⟨A9, c9, rfl, hlv9⟩)
    obtain ⟨g1, g2⟩ := py_fin HE.out HLT.out hrel2.out (.inr ⟨e, rfl⟩)
    have G1 := Lib.hid g1
    have G2 := Lib.hid g2
    obtain ⟨K, hK⟩ : ∃ K, K = xs.length := ⟨_, rfl⟩
    rw [← hK] at HV9
    have o0 := hq.out.out.cell (i := 0) (by omega)
    rw [← hK] at o0
    have r0 := hq.out.res.cell (i := 0) (by omega)
    have r1 := hq.out.res.frozen 0
    have e0 := ret_cell hq.out.res (.slice A9 K c9)
    clear hlv9 g1 g2 hK
    go_wp2_with fail
    have HF := Lib.hid (show PyPost p w (stp s0 (elemP n (qs.take m))) (.returned (.agg #[.slice A9 K c9])) (wr.setCell ⟨w.heap.size + 1, 0, none⟩ (.slice A9 K c9)) from
     ⟨A9, K, c9, rfl, ⟨xs, elR_stays (ts := [22, 23]) (by decide) (by decide) _ _ _ _ (Keeps.set hq.out.res (by decide) _) HV9.out, G2.out⟩, by rw [G1.out]; exact hq.out.rr.setFar (by omega) _, hq.out.on.setFar (by omega) _⟩)
    generalize wr.setCell ⟨w.heap.size + 1, 0, none⟩ (.slice A9 K c9) = w9 at *
    exact bodyPost_ret (v := .agg #[.slice A9 K c9]) (by simp [results, Tryz.results73, go_sem, e0]) rfl HF.out
   ·rw [show rErrS (.ok l1) = 0 from rfl] at x1
    obtain ⟨l0, hs0, htot⟩ : ∃ l0, s0 = .ok l0 ∧ elemP n (qs.take m) l0 = aft xs (eachP (fun q => manyP (betP 8 0 (q - 1)) n) ((qs.take m).drop i) l1) := by
     rcases hrel2.out with ⟨c, _, h⟩ | ⟨l0, h1, ⟨l', h2, h3⟩ | ⟨c, h, _⟩⟩
     ·cases h
     ·injection h2 with h2; subst h2; exact ⟨l0, h1, h3⟩
     ·cases h
    have HS0 := Lib.hid hs0
    have HTOT := Lib.hid htot
    obtain ⟨hmM, hpos⟩ := hs.out l0 hs0
    obtain ⟨q, hqi⟩ : ∃ q, qs[i]? = some q := ⟨_, List.getElem?_eq_getElem (show i < qs.length by have := hM.out; omega)⟩
    have hq0 : 0 < q := hpos q (List.mem_of_getElem? hqi)
    have HQI := Lib.hid hqi
    have HDR := Lib.hid (show (qs.take m).drop i = q :: (qs.take m).drop (i + 1) from by
     have h1 : (qs.take m)[i]? = some q := by rw [List.getElem?_take, if_pos hlt]; exact hqi
     obtain ⟨h2, h3⟩ := List.getElem?_eq_some_iff.1 h1
     rw [List.drop_eq_getElem_cons h2, h3])
    clear hs0 htot hpos hqi
    have hi1 : (0 : Int) ≤ (i : Int) := by omega
    have hi2 : (i : Int) < (M : Int) := by omega
    obtain ⟨wo, rfl⟩ : ∃ x, x = wr := ⟨_, rfl⟩
    go_wp2_with fail
    go_loopw [9, 10] (fun lv kv wr => ∃ (k : Nat) (ys : List Nat) (s' : Except Nat (List Nat)), k ≤ n ∧ kv = .int .i64 (k : Int) ∧ Hid (ys.length = k) ∧ Hid (GR wo.heap.size 22 WordR wr lv ys) ∧ Hid (RR wr p s') ∧ Hid (On p wo wr) ∧ wo.heap.size ≤ wr.heap.size ∧
        Hid ((∃ l2, s' = .ok l2 ∧ manyP (betP 8 0 (q - 1)) n l1 = aft ys (manyP (betP 8 0 (q - 1)) (n - k) l2)) ∨ ∃ c, s' = .error c ∧ manyP (betP 8 0 (q - 1)) n l1 = .error c)) (fun _ kv _ => n - (intOf kv).toNat)
    case atStart => exact ⟨0, [], .ok l1, by omega, rfl, Lib.hid rfl, Lib.hid (GR.nil _ _ _ _), Lib.hid hq.out.rr, Lib.hid (On.refl _ _), Nat.le_refl _, Lib.hid (.inl ⟨l1, rfl, by rw [aft_nil]; rfl⟩)⟩
    case round =>
     obtain ⟨k, ys, s', hkn, rfl, hyl, hgy, hrr, hon, hwz, hin⟩ := hrel
     clear x1
     have x1 := hrr.out.err
     have HQy := Lib.hid (hq.out.call hrr.out hon.out)
     obtain ⟨b0, b1, b2, b3⟩ := HQy.out.box.pc
     by_cases hk : k < n
     ·have i5 : decide ((k : Int) < (n : Int)) = true := by simp; omega
      rcases s' with e | l2
      ·obtain ⟨E0, E1, E2, hE, hE0, hE1⟩ := hrr.out
       rw [show rErrS (.error e) = e from rfl] at x1
       have i6 : ((e : Int) == 0) = false := by simp; omega
       clear hE
       obtain ⟨Al, cl, rfl, hlv9⟩ := hgy.out.lv
       have HV9 := Lib.hid (show WsR wr (.slice Al ys.length cl) ys from ⟨Al, cl, rfl, hlv9⟩)
       have HQz := Lib.hid (hq.out.call hrr.out hon.out)
       have HGz := Lib.hid (hgr.out.keeps (ts := [22]) (wsR_stays (by decide)) (hq.out.rr.keeps hon.out (by decide)))
       have HRo := Lib.hid (py_out (g := fun q => manyP (betP 8 0 (q - 1)) n) HTOT.out HDR.out (py_in_end hin.out (.inr ⟨e, rfl⟩)))
       obtain ⟨us, hou, huu⟩ := HGz.out
       rw [hxl.out] at hou
       have HOU := Lib.hid hou
       have HUU := Lib.hid huu
       obtain ⟨K, hK⟩ : ∃ K, K = ys.length := ⟨_, rfl⟩
       rw [← hK] at HV9
       have hKn : K ≤ n := by rw [hK, hyl.out]; omega
       have o0 := HQz.out.out.cell (i := 0) (by omega)
       have HKK := Lib.hid hK
       rw [← hK]
       clear hlv9 hou huu hK
       go_wp2_with (at_builtin; go_loud (refine wpList_append_own _ rfl _ _ 29 rfl (w.heap.size + 3) 23 j0 (.slice none 0 0) 1 24 Tryz.underlying29 hj hy0 hy1 hy2 rfl (by decide) _ _ _ rfl (HOU.out.alloc _) ⟨_, 0, none⟩ 1 1 [.slice Al K cl] rfl rfl one_cell one_slice (by unfold maxLen; omega) (by omega) (by simp; omega) ?_; intro v6 w6 hown6 hgrow6 _; obtain ⟨A6, c6, rfl⟩ := own_slice hown6; have HQ6 := Lib.hid ((HQz.out.ext ((Ext.refl wr).alloc (.cells #[.slice Al K cl] 23))).grown (HOU.out.alloc _) hgrow6); have d6 := HQ6.out.out.cell (i := 0) (by omega); have z6 := HQ6.out.out.frozen 0))
       have HG6 := Lib.hid (GR.push (w := wr) (t := 23) (B := w.heap.size + 3) (ts := [22]) (wsR_stays (by decide)) (by decide) HUU.out (by rw [hxl.out]; exact HOU.out) HV9.out (by rw [hxl.out]; exact hown6) hgrow6)
       have HQ9 := Lib.hid (HQ6.out.set (.slice A6 (i + 1) c6))
       have HG9 := Lib.hid (HG6.out.keeps (ts := [22]) (wsR_stays (by decide)) (Keeps.set (o := 0) HQ6.out.out (by decide) (.slice A6 (i + 1) c6)))
       have hs6 : w.heap.size + 3 ≤ (w6.setCell ⟨w.heap.size + 2, 0, none⟩ (.slice A6 (i + 1) c6)).heap.size := by
        have h1 := hgrow6.size
        rw [World.size_alloc] at h1
        have h2 : (w6.setCell ⟨w.heap.size + 2, 0, none⟩ (.slice A6 (i + 1) c6)).heap.size = w6.heap.size := by simp [World.setCell]
        omega
       clear hown6 hgrow6 d6 z6
       generalize w6.setCell ⟨w.heap.size + 2, 0, none⟩ (.slice A6 (i + 1) c6) = w9 at *
       go_wp2
       exact ⟨⟨i + 1, xs ++ [ys], _, .error e, by omega, by go_num, Lib.hid (by rw [List.length_append, hxl.out]; rfl), HQ9, HG9, hs6, Lib.hid (.inr ⟨l0, HS0.out, HRo.out⟩)⟩, by simp [intOf]; omega⟩
      ·rw [show rErrS (.ok l2) = 0 from rfl] at x1
       go_wp2_with fail
       refine (rNum_any 8 p (.ok l2) wr hrr (by omega) (by omega)).mono ?_
       rintro e5 w5 ⟨y, hy1, hy2, rfl, hly, hr5, ho5⟩
       have HQ5 := Lib.hid (HQy.out.call hr5 ho5)
       obtain ⟨d0, d1, d2, d3⟩ := HQ5.out.box.pc
       obtain ⟨adq, hadq, hcq⟩ := HQ5.out.ly.cells (by have := hM.out; omega)
       obtain ⟨uq, hcell, rfl, hq1⟩ := hcq i q HQI.out
       subst hadq
       obtain ⟨b, hb⟩ : ∃ b : Bool, b = decide (q ≤ y) := ⟨_, rfl⟩
       obtain ⟨hbp, hbv⟩ := bet_pure l2 q y hq0 b hb hy1
       have hdec : decide ((q : Int) ≤ (y : Int)) = b := by rw [hb]; simp
       have hdec2 : decide (q ≤ y) = b := hb.symm
       have HBP := Lib.hid hbp
       have HBV := Lib.hid hbv
       have H5 := Lib.hid hr5
       have HO5 := Lib.hid ho5
       clear hcq hb hbp hbv hy1 hy2 hr5 ho5
       go_wp2_with fail
       refine (rFail_any p 3 b _ w5 H5 (by omega) (by omega)).mono ?_
       rintro e6 w6 ⟨rfl, hr6, ho6⟩
       rw [← HBP.out] at hr6
       have H6 := Lib.hid hr6
       have HO6 := Lib.hid (HO5.out.trans ho6)
       have hsz6 := (HO5.out.trans ho6).size
       obtain ⟨us, hou, huu⟩ := hgy.out
       rw [hyl.out] at hou
       have HOU := Lib.hid (own_keeps (hrr.out.keeps (ts := [22]) HO6.out (by decide)) hou (by decide))
       have HUU := Lib.hid huu
       clear hr6 ho6 hou huu hdec hdec2
       go_wp2_with (at_builtin; go_loud (refine wpList_append_own _ rfl _ _ 23 rfl wo.heap.size 22 i0 (.int .u64 0) 1 8 Tryz.underlying23 hi hz0 hz1 hz2 rfl (by decide) _ _ _ rfl (HOU.out.alloc _) ⟨_, 0, none⟩ 1 1 [.int .u64 (y : Int)] rfl rfl one_cell one_int (by unfold maxLen; omega) (by omega) (by simp; omega) ?_; intro v7 w7 hown7 hgrow7 _))
       have hb7 := HOU.out.lt
       have HG7 := Lib.hid (GR.push (w := w6) (t := 22) (B := wo.heap.size) (ts := []) (wordR_stays _) (by decide) (show ∀ (j : Nat) (x : Nat), ys[j]? = some x → ∃ u, us[j]? = some u ∧ WordR w6 u x from HUU.out) (by rw [hyl.out]; exact HOU.out) (show WordR w6 (.int .u64 (y : Int)) y from ⟨rfl, by simpa using hly⟩) (by rw [hyl.out]; exact hown7) hgrow7)
       have HR7 := Lib.hid ((H6.out.ext ((Ext.refl w6).alloc _)).grown hgrow7 (fun kk e => by have := hb7 kk e; have := hq.out.rr.lt; omega))
       have HO7 := Lib.hid (((hon.out.trans HO6.out).alloc _).grown hgrow7 (fun kk e => (hb7 kk e).1))
       have hs7 : wo.heap.size ≤ w7.heap.size := by have h1 := hgrow7.size; rw [World.size_alloc] at h1; omega
       have HI7 := Lib.hid (show (∃ l3, restS (betP 8 0 (q - 1) l2) = .ok l3 ∧ _) ∨ _ from by
        rcases hin.out with ⟨l3, h1, h2⟩ | ⟨c, h1, _⟩
        ·injection h1 with h1
         subst h1
         exact py_in h2 hk rfl HBV.out
        ·cases h1)
       exact ⟨⟨k + 1, ys ++ [y], _, by omega, by go_num, Lib.hid (by rw [List.length_append, hyl.out]; rfl), HG7, HR7, HO7, hs7, HI7⟩, by simp [intOf]; omega⟩
     ·have hkn2 : k = n := by omega
      have i5 : decide ((k : Int) < (n : Int)) = false := by simp; omega
      obtain ⟨Al, cl, rfl, hlv9⟩ := hgy.out.lv
      have HV9 := Lib.hid (show WsR wr (.slice Al ys.length cl) ys from ⟨Al, cl, rfl, hlv9⟩)
      have HQz := Lib.hid (hq.out.call hrr.out hon.out)
      have HGz := Lib.hid (hgr.out.keeps (ts := [22]) (wsR_stays (by decide)) (hq.out.rr.keeps hon.out (by decide)))
      have HRo := Lib.hid (py_out (g := fun q => manyP (betP 8 0 (q - 1)) n) HTOT.out HDR.out (py_in_end hin.out (.inl (by omega))))
      obtain ⟨us, hou, huu⟩ := HGz.out
      rw [hxl.out] at hou
      have HOU := Lib.hid hou
      have HUU := Lib.hid huu
      obtain ⟨K, hK⟩ : ∃ K, K = ys.length := ⟨_, rfl⟩
      rw [← hK] at HV9
      have hKn : K ≤ n := by rw [hK, hyl.out]; omega
      have o0 := HQz.out.out.cell (i := 0) (by omega)
      have HKK := Lib.hid hK
      rw [← hK]
      clear hlv9 hou huu hK
      go_wp2_with (at_builtin; go_loud (refine wpList_append_own _ rfl _ _ 29 rfl (w.heap.size + 3) 23 j0 (.slice none 0 0) 1 24 Tryz.underlying29 hj hy0 hy1 hy2 rfl (by decide) _ _ _ rfl (HOU.out.alloc _) ⟨_, 0, none⟩ 1 1 [.slice Al K cl] rfl rfl one_cell one_slice (by unfold maxLen; omega) (by omega) (by simp; omega) ?_; intro v6 w6 hown6 hgrow6 _; obtain ⟨A6, c6, rfl⟩ := own_slice hown6; have HQ6 := Lib.hid ((HQz.out.ext ((Ext.refl wr).alloc (.cells #[.slice Al K cl] 23))).grown (HOU.out.alloc _) hgrow6); have d6 := HQ6.out.out.cell (i := 0) (by omega); have z6 := HQ6.out.out.frozen 0))
      have HG6 := Lib.hid (GR.push (w := wr) (t := 23) (B := w.heap.size + 3) (ts := [22]) (wsR_stays (by decide)) (by decide) HUU.out (by rw [hxl.out]; exact HOU.out) HV9.out (by rw [hxl.out]; exact hown6) hgrow6)
      have HQ9 := Lib.hid (HQ6.out.set (.slice A6 (i + 1) c6))
      have HG9 := Lib.hid (HG6.out.keeps (ts := [22]) (wsR_stays (by decide)) (Keeps.set (o := 0) HQ6.out.out (by decide) (.slice A6 (i + 1) c6)))
      have hs6 : w.heap.size + 3 ≤ (w6.setCell ⟨w.heap.size + 2, 0, none⟩ (.slice A6 (i + 1) c6)).heap.size := by
       have h1 := hgrow6.size
       rw [World.size_alloc] at h1
       have h2 : (w6.setCell ⟨w.heap.size + 2, 0, none⟩ (.slice A6 (i + 1) c6)).heap.size = w6.heap.size := by simp [World.setCell]
       omega
      clear hown6 hgrow6 d6 z6
      generalize w6.setCell ⟨w.heap.size + 2, 0, none⟩ (.slice A6 (i + 1) c6) = w9 at *
      go_wp2
      exact ⟨⟨i + 1, xs ++ [ys], _, s', by omega, by go_num, Lib.hid (by rw [List.length_append, hxl.out]; rfl), HQ9, HG9, hs6, Lib.hid (.inr ⟨l0, HS0.out, HRo.out⟩)⟩, by simp [intOf]; omega⟩
  ·have i1 : decide ((i : Int) < (m : Int)) = false := by simp; omega
   obtain ⟨A9, c9, rfl, hlv9⟩ := hgr.out.lv
   have HV9 := Lib.hid (show ElR wr (.slice A9 xs.length c9) xs from ⟨A9, c9, rfl, hlv9⟩)
   obtain ⟨g1, g2⟩ := py_fin HE.out HLT.out hrel2.out (.inl (by omega))
   have G1 := Lib.hid g1
   have G2 := Lib.hid g2
   obtain ⟨K, hK⟩ : ∃ K, K = xs.length := ⟨_, rfl⟩
   rw [← hK] at HV9
   have o0 := hq.out.out.cell (i := 0) (by omega)
   rw [← hK] at o0
   have r0 := hq.out.res.cell (i := 0) (by omega)
   have r1 := hq.out.res.frozen 0
   have e0 := ret_cell hq.out.res (.slice A9 K c9)
   clear hlv9 g1 g2 hK
   go_wp2_with fail
   have HF := Lib.hid (show PyPost p w (stp s0 (elemP n (qs.take m))) (.returned (.agg #[.slice A9 K c9])) (wr.setCell ⟨w.heap.size + 1, 0, none⟩ (.slice A9 K c9)) from
    ⟨A9, K, c9, rfl, ⟨xs, elR_stays (ts := [22, 23]) (by decide) (by decide) _ _ _ _ (Keeps.set hq.out.res (by decide) _) HV9.out, G2.out⟩, by rw [G1.out]; exact hq.out.rr.setFar (by omega) _, hq.out.on.setFar (by omega) _⟩)
   generalize wr.setCell ⟨w.heap.size + 1, 0, none⟩ (.slice A9 K c9) = w9 at *
   exact bodyPost_ret (v := .agg #[.slice A9 K c9]) (by simp [results, Tryz.results73, go_sem, e0]) rfl HF.out
end Go.Proofs.YtkbcobjhlpjieaaGreatDoor
