import Derived.Test.YtjikdbcjabopnaaGreatDoorZ24
import Derived.Deep.RegionHeld3
import Derived.Deep.RegionLawGrows
import Derived.Deep.Upon
import Derived.Lib.SliceRun
import Derived.Test.YtjikdbcjabopnaaGreatDoorZTOpen
import Derived.Deep.Matrix
namespace Go.Proofs.YtjikdbcjabopnaaGreatDoor
open Go.RowKit
set_option linter.unusedVariables false
set_option maxRecDepth 100000
def q2 (i : Nat) : Nat := if i = 0 then 5 else 13
theorem fits_any (A : Option Addr) (N c q : Nat) (n : Int) (f : Nat → Nat) (w : World) (hX : FX w A N c f) (hN : N ≤ 100000) :
    Calls Tryz.prog 63 #[.slice A N c, .int .i64 n, .int .u64 (q : Int)] w (Tells w ((N : Int) = n ∧ ∀ i, i < N → f i < q)) := by
 by_cases g0 : (N : Int) = n
 case neg =>
  have HN := Lib.hid (show ¬ ((N : Int) = n ∧ ∀ i, i < N → f i < q) from fun h => g0 h.1)
  have hne : ((N : Int) != n) = true := by simpa using g0
  clear g0
  go_enter Tryz.func63, Tryz.ntmps63
  go_wp2
  go_ret
  exact Tells.no HN.out (Ext.refl _)
 subst g0
 have hne : ((N : Int) != (N : Int)) = false := by simp
 go_enter Tryz.func63, Tryz.ntmps63
 go_wp2
 go_loop [15] (fun i => ∃ m : Nat, m ≤ N ∧ i = .int .i64 (m : Int) ∧ Hid (∀ i, i < m → f i < q)) (fun i => N - (intOf i).toNat)
 case atStart => exact ⟨0, by omega, rfl, Lib.hid fun i hi => by omega⟩
 case round =>
  obtain ⟨m, hm, rfl, hno⟩ := hrel
  by_cases hlt : m < N
  ·obtain ⟨ad, rfl, hc⟩ := hX.cells (by omega)
   have hcell := hc m hlt
   clear hc
   by_cases he : f m < q
   ·have HE := Lib.hid (show ∀ i, i < m + 1 → f i < q from fun i hi => by
       by_cases h : i = m
       ·rw [h]; exact he
       ·exact hno.out i (by omega))
    generalize f m = y at *
    go_wp2
    exact ⟨⟨m + 1, by omega, by go_num, HE⟩, by simp [intOf]; omega⟩
   ·have HE := Lib.hid (show ¬ ∀ i, i < N → f i < q from fun h => he (h m hlt))
    generalize f m = y at *
    go_wp2
    go_ret
    exact Tells.no HE.out (Ext.refl _)
  ·have HE := Lib.hid (show ∀ i, i < N → f i < q from fun i hi => hno.out i (by omega))
   go_wp2
   go_ret
   exact Tells.yes HE.out (Ext.refl _)
theorem add_block (ad : Addr) (j : Nat) : (ad.add j).block = ad.block := by unfold Addr.add; split <;> rfl
theorem map_snoc {α : Type} (k : Nat) (F : Nat → α) : (List.range k).map F ++ [F k] = (List.range (k + 1)).map F := by
 rw [List.range_succ, List.map_append]; rfl
def LR (B : Nat) (w0 w : World) (v : Value) (k : Nat) (F : Nat → Nat) : Prop := w.ownsRow B 22 1 v k (u64s ((List.range k).map F)) ∧ Below B w0 w
theorem LR.nil (w : World) (F : Nat → Nat) : LR w.heap.size w w (.slice none 0 0) 0 F := ⟨World.ownsRow_nil _ _ _ _, Below.refl _ _⟩
theorem LR.push {B : Nat} {w0 w w1 : World} {v v' : Value} {k z : Nat} {F : Nat → Nat} {o : Obj} (h : LR B w0 w v k F) (hB : B ≤ w.heap.size) (hz : z = F k)
    (h1 : w1.ownsRow B 22 1 v' (k + 1) (u64s ((List.range k).map F) ++ [Value.int .u64 (z : Int)])) (hg : (w.alloc o).grownBy w1 v.ownBlock) : LR B w0 w1 v' (k + 1) F := by
 rw [u64s_snoc, hz, map_snoc] at h1
 exact ⟨h1, (h.2.alloc hB o).grown hg (by simp; omega) (fun k e => (h.1.lt k e).1)⟩
theorem LR.ext {B : Nat} {w0 w w' : World} {v : Value} {k : Nat} {F : Nat → Nat} (h : LR B w0 w v k F) (hb : Ext w w') (hB : B ≤ w.heap.size) : LR B w0 w' v k F := by
 refine ⟨⟨h.1.1, ?_⟩, Below.trans h.2 (Below.mono hb hB)⟩
 rcases h.1.2 with h0 | ⟨g, cap, cur, e, hg, hh, h1⟩
 ·exact .inl h0
 ·exact .inr ⟨g, cap, cur, e, hg, (hb.block g (Array.getElem?_eq_some_iff.1 hh).1).trans hh, h1⟩
theorem LR.alloc {B : Nat} {w0 w : World} {v : Value} {k : Nat} {F : Nat → Nat} (h : LR B w0 w v k F) (o : Obj) : (w.alloc o).ownsRow B 22 1 v k (u64s ((List.range k).map F)) := h.1.alloc o
structure TX (w : World) (A : Option Addr) (n c : Nat) (f : Nat → Nat) : Prop where
 fx : FX w A n c f
 typed : ∀ ad, A = some ad → ∃ cur fz, w.heap[ad.block]? = some (.cells cur 22 fz)
theorem TX.ext {w w' : World} {A : Option Addr} {n c : Nat} {f : Nat → Nat} (h : TX w A n c f) (k : Ext w w') : TX w' A n c f :=
 ⟨h.fx.ext k, fun ad e => by
  obtain ⟨cur, fz, hc⟩ := h.typed ad e
  exact ⟨cur, fz, (k.block _ (Array.getElem?_eq_some_iff.1 hc).1).trans hc⟩⟩
theorem TX.congr {w : World} {A : Option Addr} {n c : Nat} {f f' : Nat → Nat} (h : TX w A n c f) (e : ∀ i, i < n → f i = f' i) : TX w A n c f' := ⟨h.fx.congr e, h.typed⟩
def SR (B : Nat) (w : World) (v : Value) (k : Nat) (S : Nat → Value) : Prop := w.ownsRow B 23 1 v k ((List.range k).map S)
theorem SR.nil (B : Nat) (w : World) (S : Nat → Value) : SR B w (.slice none 0 0) 0 S := World.ownsRow_nil _ _ _ _
theorem SR.ext {B : Nat} {w w' : World} {v : Value} {k : Nat} {S : Nat → Value} (h : SR B w v k S) (hb : Ext w w') : SR B w' v k S := by
 refine ⟨h.1, ?_⟩
 rcases h.2 with h0 | ⟨g, cap, cur, e, hg, hh, h1⟩
 ·exact .inl h0
 ·exact .inr ⟨g, cap, cur, e, hg, (hb.block g (Array.getElem?_eq_some_iff.1 hh).1).trans hh, h1⟩
theorem SR.congr {B : Nat} {w : World} {v : Value} {k : Nat} {S S' : Nat → Value} (h : SR B w v k S) (e : ∀ j, j < k → S j = S' j) : SR B w v k S' := by
 unfold SR at h ⊢
 rwa [List.map_congr_left (fun j hj => e j (List.mem_range.1 hj))] at h
theorem SR.set {B : Nat} {w : World} {v u : Value} {k x o m : Nat} {S : Nat → Value} {F' : Nat → Value} (h : SR B w v k S) (hx : RW w x 73 m F') : SR B (w.setCell ⟨x, o, none⟩ u) v k S := by
 refine ⟨h.1, ?_⟩
 rcases h.2 with h0 | ⟨g, cap, cur, e, hb, hh, h1, h2, h3, h4⟩
 ·exact .inl h0
 ·refine .inr ⟨g, cap, cur, e, hb, ?_, h1, h2, h3, h4⟩
  rw [Below.heap_setCell _ _ _ _ (fun e' => ?_)]
  ·exact hh
  ·have e2 : g = x := by simpa using e'
   subst e2
   unfold RW at hx
   rw [hh] at hx
   injection hx with hx
   injection hx with _ hx
   exact absurd hx (by decide)
theorem TX.grown {B : Nat} {w w' : World} {v : Value} {k : Nat} {S : Nat → Value} {A : Option Addr} {n c : Nat} {f : Nat → Nat} (h : TX w A n c f) (hs : SR B w v k S) (hg : w.grownBy w' v.ownBlock) : TX w' A n c f := by
 have hne : ∀ ad, A = some ad → some ad.block ≠ v.ownBlock := fun ad e e2 => by
  obtain ⟨cur, fz, hc⟩ := h.typed ad e
  rcases hs.2 with ⟨rfl, _⟩ | ⟨g, cap, cur', rfl, _, hh, _⟩
  ·simp [Value.ownBlock] at e2
  ·simp [Value.ownBlock] at e2
   rw [e2, hh] at hc
   injection hc with hc
   injection hc with _ hc
   exact absurd hc (by decide)
 have hkeep : ∀ ad, A = some ad → w'.heap[ad.block]? = w.heap[ad.block]? := fun ad e => by
  obtain ⟨cur, fz, hc⟩ := h.typed ad e
  exact hg.block _ (Array.getElem?_eq_some_iff.1 hc).1 (fun e2 => hne ad e e2)
 refine ⟨⟨h.fx.room, fun hn => ?_⟩, fun ad e => ?_⟩
 ·obtain ⟨ad, e, hc⟩ := h.fx.cells hn
  refine ⟨ad, e, fun j hj => ?_⟩
  have h2 : w'.heap[(ad.add j).block]? = w.heap[(ad.add j).block]? := by rw [add_block]; exact hkeep ad e
  rw [World.cell?_of_block h2]
  exact hc j hj
 ·obtain ⟨cur, fz, hc⟩ := h.typed ad e
  exact ⟨cur, fz, (hkeep ad e).trans hc⟩
theorem TX.set {w : World} {A : Option Addr} {n c x o m : Nat} {f : Nat → Nat} {u : Value} {F' : Nat → Value} (h : TX w A n c f) (hx : RW w x 73 m F') : TX (w.setCell ⟨x, o, none⟩ u) A n c f := by
 have hkeep : ∀ ad, A = some ad → (w.setCell ⟨x, o, none⟩ u).heap[ad.block]? = w.heap[ad.block]? := fun ad e => by
  obtain ⟨cur, fz, hc⟩ := h.typed ad e
  refine Below.heap_setCell _ _ _ _ (fun e' => ?_)
  have e2 : ad.block = x := by simpa using e'
  unfold RW at hx
  rw [← e2, hc] at hx
  injection hx with hx
  injection hx with _ hx
  exact absurd hx (by decide)
 refine ⟨⟨h.fx.room, fun hn => ?_⟩, fun ad e => ?_⟩
 ·obtain ⟨ad, e, hc⟩ := h.fx.cells hn
  refine ⟨ad, e, fun j hj => ?_⟩
  have h2 : (w.setCell ⟨x, o, none⟩ u).heap[(ad.add j).block]? = w.heap[(ad.add j).block]? := by rw [add_block]; exact hkeep ad e
  rw [World.cell?_of_block h2]
  exact hc j hj
 ·obtain ⟨cur, fz, hc⟩ := h.typed ad e
  exact ⟨cur, fz, (hkeep ad e).trans hc⟩
theorem RW.grown {B : Nat} {w w' : World} {v : Value} {k x m : Nat} {t : TypeId} {S F : Nat → Value} (h : RW w x t m F) (hs : SR B w v k S) (ht : t ≠ 23) (hg : w.grownBy w' v.ownBlock) : RW w' x t m F := by
 refine RW.keep h (hg.block x h.lt (fun e2 => ?_))
 rcases hs.2 with ⟨rfl, _⟩ | ⟨g, cap, cur', rfl, _, hh, _⟩
 ·simp [Value.ownBlock] at e2
 ·simp [Value.ownBlock] at e2
  unfold RW at h
  rw [e2, hh] at h
  injection h with h
  injection h with _ h
  exact absurd h.symm ht
theorem SR.cells {B : Nat} {w : World} {v : Value} {k : Nat} {S : Nat → Value} (h : SR B w v k S) : ∃ A c, v = .slice A k c ∧ k ≤ c ∧ (0 < k → ∃ ad, A = some ad ∧ ∀ j, j < k → w.cell? (ad.add j) = some (S j)) := by
 have h0 := h
 rcases h.2 with ⟨rfl, rfl⟩ | ⟨g, cap, cur, rfl, _, hh, hle, _⟩
 ·exact ⟨none, 0, rfl, Nat.le_refl _, fun h => absurd h (by omega)⟩
 ·refine ⟨_, cap, rfl, hle, fun _ => ⟨_, rfl, fun j hj => ?_⟩⟩
  exact World.ownsRow.cells (g := g) h0 rfl j _ (by rw [List.getElem?_map, List.getElem?_range hj]; rfl)
structure Mk (w : World) (B : Nat) (v : Value) (k n : Nat) (F : Nat → Nat → Nat) : Prop where
 ex : ∃ (As : Nat → Option Addr) (cs : Nat → Nat), SR B w v k (fun j => .slice (As j) n (cs j)) ∧ ∀ j, j < k → TX w (As j) n (cs j) (F j)
theorem Mk.nil (w : World) (B n : Nat) (F : Nat → Nat → Nat) : Mk w B (.slice none 0 0) 0 n F := ⟨fun _ => none, fun _ => 0, SR.nil _ _ _, fun j hj => absurd hj (by omega)⟩
theorem Mk.ext {w w' : World} {B : Nat} {v : Value} {k n : Nat} {F : Nat → Nat → Nat} (h : Mk w B v k n F) (hb : Ext w w') : Mk w' B v k n F := by
 obtain ⟨As, cs, h1, h2⟩ := h.ex
 exact ⟨As, cs, h1.ext hb, fun j hj => (h2 j hj).ext hb⟩
theorem Mk.set {w : World} {B : Nat} {v u : Value} {k n x o m : Nat} {F : Nat → Nat → Nat} {F' : Nat → Value} (h : Mk w B v k n F) (hx : RW w x 73 m F') : Mk (w.setCell ⟨x, o, none⟩ u) B v k n F := by
 obtain ⟨As, cs, h1, h2⟩ := h.ex
 exact ⟨As, cs, h1.set hx, fun j hj => (h2 j hj).set hx⟩
theorem Mk.push {w w1 : World} {B : Nat} {v v' : Value} {k n c : Nat} {A : Option Addr} {F : Nat → Nat → Nat} {As : Nat → Option Addr} {cs : Nat → Nat} {o : Obj} (h1 : SR B w v k (fun j => .slice (As j) n (cs j))) (h2 : ∀ j, j < k → TX w (As j) n (cs j) (F j)) (hl : TX w A n c (F k))
    (ho : w1.ownsRow B 23 1 v' (k + 1) ((List.range k).map (fun j => Value.slice (As j) n (cs j)) ++ [.slice A n c])) (hg : (w.alloc o).grownBy w1 v.ownBlock) : Mk w1 B v' (k + 1) n F := by
 have ka : Ext w (w.alloc o) := (Ext.refl w).alloc o
 refine ⟨fun j => if j = k then A else As j, fun j => if j = k then c else cs j, ?_, fun j hj => ?_⟩
 ·have e : (List.range k).map (fun j => Value.slice (As j) n (cs j)) ++ [.slice A n c] = (List.range (k + 1)).map (fun j => Value.slice (if j = k then A else As j) n (if j = k then c else cs j)) := by
     rw [← map_snoc k (fun j => Value.slice (if j = k then A else As j) n (if j = k then c else cs j))]
     congr 1
     ·refine List.map_congr_left fun j hj => ?_
      have := List.mem_range.1 hj
      simp only [if_neg (show ¬ j = k by omega)]
     ·simp
  rw [e] at ho
  exact ho
 ·by_cases hjk : j = k
  ·subst hjk
   simp only [if_true]
   exact (hl.ext ka).grown (h1.ext ka) hg
  ·simp only [if_neg hjk]
   exact ((h2 j (by omega)).ext ka).grown (h1.ext ka) hg
end Go.Proofs.YtjikdbcjabopnaaGreatDoor
