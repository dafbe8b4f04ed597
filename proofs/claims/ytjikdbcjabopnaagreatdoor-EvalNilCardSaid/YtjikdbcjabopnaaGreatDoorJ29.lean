import Derived.Test.YtjikdbcjabopnaaGreatDoorJGCopy
import Derived.Test.YtjikdbcjabopnaaGreatDoorJGOpen
namespace Go.Proofs.YtjikdbcjabopnaaGreatDoor
open Go.RowKit
set_option linter.unusedVariables false
set_option maxRecDepth 100000
def q2 (i : Nat) : Nat := if i = 0 then 5 else 13
theorem add_block (ad : Addr) (j : Nat) : (ad.add j).block = ad.block := by unfold Addr.add; split <;> rfl
theorem map_snoc {α : Type} (k : Nat) (F : Nat → α) : (List.range k).map F ++ [F k] = (List.range (k + 1)).map F := by
 rw [List.range_succ, List.map_append]; rfl
theorem own_slice {w : World} {B : Nat} {e : TypeId} {s : Nat} {v : Value} {n : Nat} {xs : List Value} (h : w.ownsRow B e s v n xs) : ∃ A c, v = .slice A n c := by
 rcases h.2 with ⟨rfl, rfl⟩ | ⟨g, cap, cur, rfl, _⟩
 ·exact ⟨none, 0, rfl⟩
 ·exact ⟨_, _, rfl⟩
def LR (B : Nat) (w0 w : World) (v : Value) (k : Nat) (F : Nat → Nat) : Prop := w.ownsRow B 22 1 v k (u64s ((List.range k).map F)) ∧ Below B w0 w
theorem LR.nil (w : World) (F : Nat → Nat) : LR w.heap.size w w (.slice none 0 0) 0 F := ⟨World.ownsRow_nil _ _ _ _, Below.refl _ _⟩
theorem LR.push {B : Nat} {w0 w w1 : World} {v v' : Value} {k z : Nat} {F : Nat → Nat} {o : Obj} (h : LR B w0 w v k F) (hB : B ≤ w.heap.size) (hz : z = F k)
    (h1 : w1.ownsRow B 22 1 v' (k + 1) (u64s ((List.range k).map F) ++ [Value.int .u64 (z : Int)])) (hg : (w.alloc o).grownBy w1 v.ownBlock) : LR B w0 w1 v' (k + 1) F := by
 rw [u64s_snoc, hz, map_snoc] at h1
 exact ⟨h1, (h.2.alloc hB o).grown hg (by simp; omega) (fun k e => (h.1.lt k e).1)⟩
theorem LR.ext {B : Nat} {w0 w w' : World} {v : Value} {k : Nat} {F : Nat → Nat} (h : LR B w0 w v k F) (hb : Ext w w') (hB : B ≤ w.heap.size) : LR B w0 w' v k F := by
 refine ⟨⟨h.1.1, ?_⟩, Below.trans h.2 (Below.mono hb hB)⟩
 rcases h.1.2 with h0 | ⟨g, cap, cur, e, hg, hh, h1⟩
 ·exact .inl h0
 ·exact .inr ⟨g, cap, cur, e, hg, (hb.block g (Array.getElem?_eq_some_iff.1 hh).1).trans hh, h1⟩
theorem LR.alloc {B : Nat} {w0 w : World} {v : Value} {k : Nat} {F : Nat → Nat} (h : LR B w0 w v k F) (o : Obj) : (w.alloc o).ownsRow B 22 1 v k (u64s ((List.range k).map F)) := h.1.alloc o
structure TX (w : World) (A : Option Addr) (n c : Nat) (f : Nat → Nat) : Prop where
 fx : FX w A n c f
 typed : ∀ ad, A = some ad → ∃ cur fz, w.heap[ad.block]? = some (.cells cur 22 fz)
theorem TX.ext {w w' : World} {A : Option Addr} {n c : Nat} {f : Nat → Nat} (h : TX w A n c f) (k : Ext w w') : TX w' A n c f :=
 ⟨h.fx.ext k, fun ad e => by
  obtain ⟨cur, fz, hc⟩ := h.typed ad e
  exact ⟨cur, fz, (k.block _ (Array.getElem?_eq_some_iff.1 hc).1).trans hc⟩⟩
theorem TX.congr {w : World} {A : Option Addr} {n c : Nat} {f f' : Nat → Nat} (h : TX w A n c f) (e : ∀ i, i < n → f i = f' i) : TX w A n c f' := ⟨h.fx.congr e, h.typed⟩
theorem LR.tx {B : Nat} {w0 w : World} {v : Value} {k : Nat} {F : Nat → Nat} (h : LR B w0 w v k F) (hF : ∀ i, i < k → F i < 18446744073709551616) : ∃ A c, v = .slice A k c ∧ TX w A k c F := by
 obtain ⟨A, c, e, hr⟩ := rd_of_own h.1 (fun x hx => by
  obtain ⟨j, hj, rfl⟩ := List.mem_map.1 hx
  rw [W64_eq]; exact hF j (List.mem_range.1 hj))
 refine ⟨A, c, e, (fx_of_rd hr).congr fun i hi => getD_range hi, fun ad e2 => ?_⟩
 rcases h.1.2 with ⟨e3, _⟩ | ⟨g, cap, cur, e3, _, hh, _⟩
 ·rw [e, e2] at e3; cases e3
 ·rw [e, e2] at e3
  injection e3 with e4
  injection e4 with e4
  subst e4
  exact ⟨cur, _, hh⟩
def SR (B : Nat) (w : World) (v : Value) (k : Nat) (S : Nat → Value) : Prop := w.ownsRow B 23 1 v k ((List.range k).map S)
theorem SR.nil (B : Nat) (w : World) (S : Nat → Value) : SR B w (.slice none 0 0) 0 S := World.ownsRow_nil _ _ _ _
theorem SR.ext {B : Nat} {w w' : World} {v : Value} {k : Nat} {S : Nat → Value} (h : SR B w v k S) (hb : Ext w w') : SR B w' v k S := by
 refine ⟨h.1, ?_⟩
 rcases h.2 with h0 | ⟨g, cap, cur, e, hg, hh, h1⟩
 ·exact .inl h0
 ·exact .inr ⟨g, cap, cur, e, hg, (hb.block g (Array.getElem?_eq_some_iff.1 hh).1).trans hh, h1⟩
theorem SR.congr {B : Nat} {w : World} {v : Value} {k : Nat} {S S' : Nat → Value} (h : SR B w v k S) (e : ∀ j, j < k → S j = S' j) : SR B w v k S' := by
 unfold SR at h ⊢
 rwa [List.map_congr_left (fun j hj => e j (List.mem_range.1 hj))] at h
theorem SR.set {B : Nat} {w : World} {v u : Value} {k x o m : Nat} {S : Nat → Value} {F' : Nat → Value} (h : SR B w v k S) (hx : RW w x 73 m F') : SR B (w.setCell ⟨x, o, none⟩ u) v k S := by
 refine ⟨h.1, ?_⟩
 rcases h.2 with h0 | ⟨g, cap, cur, e, hb, hh, h1, h2, h3, h4⟩
 ·exact .inl h0
 ·refine .inr ⟨g, cap, cur, e, hb, ?_, h1, h2, h3, h4⟩
  rw [Below.heap_setCell _ _ _ _ (fun e' => ?_)]
  ·exact hh
  ·have e2 : g = x := by simpa using e'
   subst e2
   unfold RW at hx
   rw [hh] at hx
   injection hx with hx
   injection hx with _ hx
   exact absurd hx (by decide)
theorem TX.grown {B : Nat} {w w' : World} {v : Value} {k : Nat} {S : Nat → Value} {A : Option Addr} {n c : Nat} {f : Nat → Nat} (h : TX w A n c f) (hs : SR B w v k S) (hg : w.grownBy w' v.ownBlock) : TX w' A n c f := by
 have hne : ∀ ad, A = some ad → some ad.block ≠ v.ownBlock := fun ad e e2 => by
  obtain ⟨cur, fz, hc⟩ := h.typed ad e
  rcases hs.2 with ⟨rfl, _⟩ | ⟨g, cap, cur', rfl, _, hh, _⟩
  ·simp [Value.ownBlock] at e2
  ·simp [Value.ownBlock] at e2
   rw [e2, hh] at hc
   injection hc with hc
   injection hc with _ hc
   exact absurd hc (by decide)
 have hkeep : ∀ ad, A = some ad → w'.heap[ad.block]? = w.heap[ad.block]? := fun ad e => by
  obtain ⟨cur, fz, hc⟩ := h.typed ad e
  exact hg.block _ (Array.getElem?_eq_some_iff.1 hc).1 (fun e2 => hne ad e e2)
 refine ⟨⟨h.fx.room, fun hn => ?_⟩, fun ad e => ?_⟩
 ·obtain ⟨ad, e, hc⟩ := h.fx.cells hn
  refine ⟨ad, e, fun j hj => ?_⟩
  have h2 : w'.heap[(ad.add j).block]? = w.heap[(ad.add j).block]? := by rw [add_block]; exact hkeep ad e
  rw [World.cell?_of_block h2]
  exact hc j hj
 ·obtain ⟨cur, fz, hc⟩ := h.typed ad e
  exact ⟨cur, fz, (hkeep ad e).trans hc⟩
theorem TX.set {w : World} {A : Option Addr} {n c x o m : Nat} {f : Nat → Nat} {u : Value} {F' : Nat → Value} (h : TX w A n c f) (hx : RW w x 73 m F') : TX (w.setCell ⟨x, o, none⟩ u) A n c f := by
 have hkeep : ∀ ad, A = some ad → (w.setCell ⟨x, o, none⟩ u).heap[ad.block]? = w.heap[ad.block]? := fun ad e => by
  obtain ⟨cur, fz, hc⟩ := h.typed ad e
  refine Below.heap_setCell _ _ _ _ (fun e' => ?_)
  have e2 : ad.block = x := by simpa using e'
  unfold RW at hx
  rw [← e2, hc] at hx
  injection hx with hx
  injection hx with _ hx
  exact absurd hx (by decide)
 refine ⟨⟨h.fx.room, fun hn => ?_⟩, fun ad e => ?_⟩
 ·obtain ⟨ad, e, hc⟩ := h.fx.cells hn
  refine ⟨ad, e, fun j hj => ?_⟩
  have h2 : (w.setCell ⟨x, o, none⟩ u).heap[(ad.add j).block]? = w.heap[(ad.add j).block]? := by rw [add_block]; exact hkeep ad e
  rw [World.cell?_of_block h2]
  exact hc j hj
 ·obtain ⟨cur, fz, hc⟩ := h.typed ad e
  exact ⟨cur, fz, (hkeep ad e).trans hc⟩
theorem UW.tx {w : World} {g n : Nat} {f : Nat → Nat} (h : UW w g n f) : TX w (some ⟨g, 0, none⟩) n n f := ⟨UW.fx h, fun ad e => by injection e with e; subst e; exact ⟨_, _, h⟩⟩
theorem RW.grown {B : Nat} {w w' : World} {v : Value} {k x m : Nat} {t : TypeId} {S F : Nat → Value} (h : RW w x t m F) (hs : SR B w v k S) (ht : t ≠ 23) (hg : w.grownBy w' v.ownBlock) : RW w' x t m F := by
 refine RW.keep h (hg.block x h.lt (fun e2 => ?_))
 rcases hs.2 with ⟨rfl, _⟩ | ⟨g, cap, cur', rfl, _, hh, _⟩
 ·simp [Value.ownBlock] at e2
 ·simp [Value.ownBlock] at e2
  unfold RW at h
  rw [e2, hh] at h
  injection h with h
  injection h with _ h
  exact absurd h.symm ht
theorem SR.cells {B : Nat} {w : World} {v : Value} {k : Nat} {S : Nat → Value} (h : SR B w v k S) : ∃ A c, v = .slice A k c ∧ k ≤ c ∧ (0 < k → ∃ ad, A = some ad ∧ ∀ j, j < k → w.cell? (ad.add j) = some (S j)) := by
 have h0 := h
 rcases h.2 with ⟨rfl, rfl⟩ | ⟨g, cap, cur, rfl, _, hh, hle, _⟩
 ·exact ⟨none, 0, rfl, Nat.le_refl _, fun h => absurd h (by omega)⟩
 ·refine ⟨_, cap, rfl, hle, fun _ => ⟨_, rfl, fun j hj => ?_⟩⟩
  exact World.ownsRow.cells (g := g) h0 rfl j _ (by rw [List.getElem?_map, List.getElem?_range hj]; rfl)
theorem one_slice {A : Option Addr} {n c : Nat} : ∀ u ∈ [Value.slice A n c], u.oneCell' = true := by
 intro u hu; simp at hu; subst hu; rfl
structure Mk (w : World) (B : Nat) (v : Value) (k n : Nat) (F : Nat → Nat → Nat) : Prop where
 ex : ∃ (As : Nat → Option Addr) (cs : Nat → Nat), SR B w v k (fun j => .slice (As j) n (cs j)) ∧ ∀ j, j < k → TX w (As j) n (cs j) (F j)
theorem Mk.nil (w : World) (B n : Nat) (F : Nat → Nat → Nat) : Mk w B (.slice none 0 0) 0 n F := ⟨fun _ => none, fun _ => 0, SR.nil _ _ _, fun j hj => absurd hj (by omega)⟩
theorem Mk.ext {w w' : World} {B : Nat} {v : Value} {k n : Nat} {F : Nat → Nat → Nat} (h : Mk w B v k n F) (hb : Ext w w') : Mk w' B v k n F := by
 obtain ⟨As, cs, h1, h2⟩ := h.ex
 exact ⟨As, cs, h1.ext hb, fun j hj => (h2 j hj).ext hb⟩
theorem Mk.set {w : World} {B : Nat} {v u : Value} {k n x o m : Nat} {F : Nat → Nat → Nat} {F' : Nat → Value} (h : Mk w B v k n F) (hx : RW w x 73 m F') : Mk (w.setCell ⟨x, o, none⟩ u) B v k n F := by
 obtain ⟨As, cs, h1, h2⟩ := h.ex
 exact ⟨As, cs, h1.set hx, fun j hj => (h2 j hj).set hx⟩
theorem Mk.push {w w1 : World} {B : Nat} {v v' : Value} {k n c : Nat} {A : Option Addr} {F : Nat → Nat → Nat} {As : Nat → Option Addr} {cs : Nat → Nat} {o : Obj} (h1 : SR B w v k (fun j => .slice (As j) n (cs j))) (h2 : ∀ j, j < k → TX w (As j) n (cs j) (F j)) (hl : TX w A n c (F k))
    (ho : w1.ownsRow B 23 1 v' (k + 1) ((List.range k).map (fun j => Value.slice (As j) n (cs j)) ++ [.slice A n c])) (hg : (w.alloc o).grownBy w1 v.ownBlock) : Mk w1 B v' (k + 1) n F := by
 have ka : Ext w (w.alloc o) := (Ext.refl w).alloc o
 refine ⟨fun j => if j = k then A else As j, fun j => if j = k then c else cs j, ?_, fun j hj => ?_⟩
 ·have e : (List.range k).map (fun j => Value.slice (As j) n (cs j)) ++ [.slice A n c] = (List.range (k + 1)).map (fun j => Value.slice (if j = k then A else As j) n (if j = k then c else cs j)) := by
     rw [← map_snoc k (fun j => Value.slice (if j = k then A else As j) n (if j = k then c else cs j))]
     congr 1
     ·refine List.map_congr_left fun j hj => ?_
      have := List.mem_range.1 hj
      simp only [if_neg (show ¬ j = k by omega)]
     ·simp
  rw [e] at ho
  exact ho
 ·by_cases hjk : j = k
  ·subst hjk
   simp only [if_true]
   exact (hl.ext ka).grown (h1.ext ka) hg
  ·simp only [if_neg hjk]
   exact ((h2 j (by omega)).ext ka).grown (h1.ext ka) hg
theorem Mk.px {w : World} {B : Nat} {v : Value} {k n : Nat} {F : Nat → Nat → Nat} (h : Mk w B v k n F) : ∃ A c As cs, v = .slice A k c ∧ PX w A k c As (fun _ => n) cs F := by
 obtain ⟨As, cs, h1, h2⟩ := h.ex
 obtain ⟨A, c, e, hle, hc⟩ := h1.cells
 exact ⟨A, c, As, cs, e, hle, hc, fun j hj => (h2 j hj).fx⟩
theorem rliftM (v : Int) (q : Nat) (w : World) (hq0 : 0 < q) (v0 : -9223372036854775808 ≤ v) (v1 : v < 9223372036854775808) (hq : q < 18446744073709551616) :
    Calls Tryz.prog 106 #[.int .i64 v, .int .u64 (q : Int)] w fun e w' => ∃ m : Nat, Hid (m = lif v q) ∧ m < q ∧ e = .returned (.int .u64 (m : Int)) ∧ Ext w w' := by
 have h := rlift_any v (q : Int) w v0 v1 (by omega) (by omega)
 rw [lifS_lif hq0] at h
 exact h.mono fun e w' ⟨he, hw⟩ => ⟨_, Lib.hid rfl, lif_lt hq0, he, by rw [hw]; exact Ext.refl _⟩
set_option maxHeartbeats 8000000 in
theorem refLift_any (B : Option Addr) (M bc : Nat) (q : Nat → Nat) (A : Option Addr) (n c : Nat) (v : Nat → Int) (l : Nat) (w : World) (hQ : FX w B M bc q) (hM : M ≤ 1000) (hq : Hid (∀ j, j < M → 0 < q j ∧ q j < 18446744073709551616)) (hV : VX w A n c v) (hn : n ≤ 1000) (hv : Hid (∀ i, i < n → -9223372036854775808 ≤ v i ∧ v i < 9223372036854775808)) (hl : l < M) :
    Calls Tryz.prog 45 #[.slice B M bc, .slice A n c, .int .i64 (l : Int)] w fun ee w' => ∃ A2 c2 As cs, ee = .returned (.agg #[.slice A2 (l + 1) c2]) ∧ PX w' A2 (l + 1) c2 As (fun _ => n) cs (fun j i => lif (v i) (q j)) ∧ Ext w w' := by
 have HQ := Lib.hid hQ
 have HV := Lib.hid hV
 clear hQ hV
 obtain ⟨i0, hi, hz0, hz1, hz2⟩ := info_parts info_u64
 obtain ⟨j0, hj, hy0, hy1, hy2⟩ := info_parts info_uss
 go_enter Tryz.func45, Tryz.ntmps45
 go_wp2
 have kA : Ext w ((w.alloc (.cells #[.slice none 0 0] 73)).alloc (.cells #[.slice none 0 0] 73)) := ((Ext.refl w).alloc _).alloc _
 have hr6 : RW ((w.alloc (.cells #[.slice none 0 0] 73)).alloc (.cells #[.slice none 0 0] 73)) w.heap.size 73 1 (fun _ => .slice none 0 0) := RW.ext (heap_alloc_new w _) ((Ext.refl _).alloc _)
 have hr7 : RW ((w.alloc (.cells #[.slice none 0 0] 73)).alloc (.cells #[.slice none 0 0] 73)) (w.heap.size + 1) 73 1 (fun _ => .slice none 0 0) := by
  have : RW ((w.alloc (.cells #[.slice none 0 0] 73)).alloc (.cells #[.slice none 0 0] 73)) (w.alloc (.cells #[.slice none 0 0] 73)).heap.size 73 1 (fun _ => .slice none 0 0) := heap_alloc_new _ _
  rwa [show (w.alloc (.cells #[.slice none 0 0] 73)).heap.size = w.heap.size + 1 by simp] at this
 have hs7 : ((w.alloc (.cells #[.slice none 0 0] 73)).alloc (.cells #[.slice none 0 0] 73)).heap.size = w.heap.size + 2 := by simp
 generalize (w.alloc (.cells #[.slice none 0 0] 73)).alloc (.cells #[.slice none 0 0] 73) = V at *
 go_loopw [8] (fun i wr => ∃ (k : Nat) (s : Value), k ≤ l + 1 ∧ i = .int .i64 (k : Int) ∧ Mk wr (w.heap.size + 2) s k n (fun j i => lif (v i) (q j)) ∧ RW wr (w.heap.size + 1) 73 1 (fun _ => s) ∧ RW wr w.heap.size 73 1 (fun _ => .slice none 0 0) ∧ Ext w wr ∧ w.heap.size + 2 ≤ wr.heap.size) (fun i _ => l + 1 - (intOf i).toNat)
 case atStart => exact ⟨0, _, by omega, rfl, Mk.nil _ _ _ _, hr7, hr6, kA, by omega⟩
 case round =>
  obtain ⟨k, s, hk, rfl, hmk, h7, h6, kr, hsz⟩ := hrel
  clear hr6 hr7 hs7 kA
  by_cases hlt : k < l + 1
  ·obtain ⟨hq0, hq1⟩ := hq.out k (by omega)
   have HMK := Lib.hid hmk
   clear hmk
   obtain ⟨wo, rfl⟩ : ∃ x, x = wr := ⟨_, rfl⟩
   have hkl : k ≤ l := by omega
   go_wp2
   clear hkl
   go_loopw [9, 19] (fun s2 i wz => ∃ m : Nat, m ≤ n ∧ i = .int .i64 (m : Int) ∧ LR wo.heap.size wo wz s2 m (fun i => lif (v i) (q k))) (fun _ i _ => n - (intOf i).toNat)
   case atStart => exact ⟨0, by omega, rfl, LR.nil _ _⟩
   case round =>
    obtain ⟨m, hm, rfl, hlr⟩ := hrel
    have kz : Ext wo wr := hlr.2
    have hzs := hlr.2.size
    by_cases hlt2 : m < n
    ·obtain ⟨ad, rfl, hc⟩ := (HV.out.ext (kr.trans kz)).cells (by omega)
     obtain ⟨ad2, rfl, hc2⟩ := (HQ.out.ext (kr.trans kz)).cells (by omega)
     have hcell := hc m hlt2
     have hcell2 := hc2 k (by omega)
     obtain ⟨v0, v1⟩ := hv.out m hlt2
     clear hc2
     clear hc
     have i1 : (0 : Int) ≤ (k : Int) := by omega
     have i2 : (k : Int) < (M : Int) := by omega
     go_wp2_with fail
     refine (rliftM (v m) (q k) wr hq0 v0 v1 hq1).mono ?_
     rintro ee w2 ⟨y, HY, hyl, rfl, k2⟩
     have hlr2 : LR wo.heap.size wo w2 _ m (fun i => lif (v i) (q k)) := hlr.ext k2 (by omega)
     have hs2 := k2.size
     go_wp2_with (at_builtin; go_loud (refine wpList_append_own _ rfl _ _ 23 rfl wo.heap.size 22 i0 (.int .u64 0) 1 8 Tryz.underlying23 hi hz0 hz1 hz2 rfl (by decide) _ _ _ rfl (hlr2.alloc _) ⟨_, 0, none⟩ 1 1 [.int .u64 (y : Int)] rfl rfl one_cell one_int (by unfold maxLen; omega) (by omega) (by simp; omega) ?_; intro v3 w3 hown3 hgrow3 _))
     exact ⟨⟨m + 1, by omega, by go_num, hlr2.push (by omega) HY.out hown3 hgrow3⟩, by simp [intOf]; omega⟩
    ·obtain rfl : m = n := by omega
     obtain ⟨A3, c3, rfl, htx⟩ := hlr.tx (fun i _ => Nat.lt_trans (lif_lt hq0) hq1)
     have hmk2 := HMK.out.ext kz
     have g7 := h7.ext kz
     have g6 := h6.ext kz
     obtain ⟨As, cs, hsr, hls⟩ := hmk2.ex
     have c0 := g7.cell (i := 0) (by omega)
     have HTX := Lib.hid htx
     have HSR := Lib.hid hsr
     have HLS := Lib.hid hls
     clear htx hls hmk2 hlr
     have HK := Lib.hid (show ∀ (A4 : Option Addr) (c4 : Nat) (w3 : World), w3.ownsRow (w.heap.size + 2) 23 1 (.slice A4 (k + 1) c4) (k + 1) ((List.range k).map (fun j => Value.slice (As j) m (cs j)) ++ [.slice A3 m c3]) → (wr.alloc (.cells #[.slice A3 m c3] 23)).grownBy w3 s.ownBlock → RW w3 (w.heap.size + 1) 73 1 (fun _ => s) ∧ RW w3 w.heap.size 73 1 (fun _ => .slice none 0 0) ∧ Mk w3 (w.heap.size + 2) (.slice A4 (k + 1) c4) (k + 1) m (fun j i => lif (v i) (q j)) ∧ Ext w w3 from fun A4 c4 w3 ho hg => by
      have ka : Ext wr (wr.alloc (.cells #[.slice A3 m c3] 23)) := (Ext.refl wr).alloc _
      have hsa := hsr.ext ka
      refine ⟨RW.grown (g7.ext ka) hsa (by decide) hg, RW.grown (g6.ext ka) hsa (by decide) hg, Mk.push hsr HLS.out HTX.out ho hg, ?_⟩
      refine Below.grown ((kr.trans kz).trans ka) hg (by have := (kr.trans (kz.trans ka)).size; omega) (fun x e => ?_)
      have := (hsa.lt x e).1
      omega)
     clear hsr
     go_wp2_with (at_builtin; go_loud (refine wpList_append_own _ rfl _ _ 71 rfl (w.heap.size + 2) 23 j0 (.slice none 0 0) 1 24 Tryz.underlying71 hj hy0 hy1 hy2 rfl (by decide) _ _ _ rfl (SR.ext HSR.out ((Ext.refl wr).alloc _)) ⟨_, 0, none⟩ 1 1 [.slice A3 m c3] rfl rfl one_cell one_slice (by unfold maxLen; omega) (by omega) (by simp; omega) ?_; intro v3 w3 hown3 hgrow3 _; obtain ⟨A4, c4, rfl⟩ := own_slice hown3; obtain ⟨p7, p6, pm, pk⟩ := HK.out A4 c4 w3 hown3 hgrow3; have c3a := p7.cell (i := 0) (by omega); have z3a := p7.frozen 0; have s3a := p7.lt))
     have q7 := (p7.set (show 0 < 1 by omega) (.slice A4 (k + 1) c4)).congr (G := fun _ => .slice A4 (k + 1) c4) fun j hj => by rw [if_pos (by omega)]
     have q6 := RW.keep p6 (Below.heap_setCell w3 ⟨w.heap.size + 1, 0, none⟩ (.slice A4 (k + 1) c4) w.heap.size (fun e' => by simp at e'))
     have qm := pm.set (o := 0) (u := .slice A4 (k + 1) c4) p7
     have qk := pk.set (p := ⟨w.heap.size + 1, 0, none⟩) (by show w.heap.size ≤ w.heap.size + 1; omega) (.slice A4 (k + 1) c4)
     have qs : w.heap.size + 2 ≤ (w3.setCell ⟨w.heap.size + 1, 0, none⟩ (.slice A4 (k + 1) c4)).heap.size := by
      have h1 : wr.heap.size + 1 ≤ w3.heap.size := by have := hgrow3.size; simpa using this
      have h2 : (w3.setCell ⟨w.heap.size + 1, 0, none⟩ (.slice A4 (k + 1) c4)).heap.size = w3.heap.size := by simp [World.setCell]
      omega
     exact ⟨⟨k + 1, _, by omega, by go_num, qm, q7, q6, qk, qs⟩, by simp [intOf]; omega⟩
  ·obtain rfl : k = l + 1 := by omega
   obtain ⟨A2, c2, As, cs, rfl, hpx⟩ := hmk.px
   have c0 := h7.cell (i := 0) (by omega)
   have d0 := h6.cell (i := 0) (by omega)
   have z0 := h6.frozen 0
   have s0 := h6.lt
   have HPX := Lib.hid (hmk.set (o := 0) (u := .slice A2 (l + 1) c2) h6)
   have HK := Lib.hid (kr.set (p := ⟨w.heap.size, 0, none⟩) (Nat.le_refl _) (.slice A2 (l + 1) c2))
   have HD := Lib.hid (ret_cell h6 (.slice A2 (l + 1) c2))
   clear hpx hmk
   go_wp2
   have d1 := HD.out
   obtain ⟨A5, c5, As5, cs5, e5, hpx5⟩ := HPX.out.px
   injection e5 with e51 _ e52
   subst e51 e52
   have hk5 := HK.out
   generalize wr.setCell ⟨w.heap.size, 0, none⟩ (.slice A2 (l + 1) c2) = w5 at *
   exact bodyPost_ret (v := .agg #[.slice A2 (l + 1) c2]) (by simp [results, Tryz.results45, go_sem, d1]) rfl ⟨A2, c2, As5, cs5, rfl, hpx5, hk5⟩
end Go.Proofs.YtjikdbcjabopnaaGreatDoor
