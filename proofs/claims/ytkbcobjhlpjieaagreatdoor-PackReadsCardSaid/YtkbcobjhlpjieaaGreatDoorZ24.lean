import Derived.Test.YtkbcobjhlpjieaaGreatDoorZ23
import Derived.Deep.RegionLawGrows
import Derived.Deep.Upon
import Derived.Lib.SliceRun
import Derived.Test.YtkbcobjhlpjieaaGreatDoorZ11
import Derived.Test.YtkbcobjhlpjieaaGreatDoorZPLaid
import Derived.Deep.Matrix
namespace Go.Proofs.YtkbcobjhlpjieaaGreatDoor
open Go.RowKit
set_option linter.unusedVariables false
set_option maxRecDepth 100000
def q2 (i : Nat) : Nat := if i = 0 then 5 else 13
theorem add_block (ad : Addr) (j : Nat) : (ad.add j).block = ad.block := by unfold Addr.add; split <;> rfl
theorem map_snoc {α : Type} (k : Nat) (F : Nat → α) : (List.range k).map F ++ [F k] = (List.range (k + 1)).map F := by
 rw [List.range_succ, List.map_append]; rfl
theorem own_slice {w : World} {B : Nat} {e : TypeId} {s : Nat} {v : Value} {n : Nat} {xs : List Value} (h : w.ownsRow B e s v n xs) : ∃ A c, v = .slice A n c := by
 rcases h.2 with ⟨rfl, rfl⟩ | ⟨g, cap, cur, rfl, _⟩
 ·exact ⟨none, 0, rfl⟩
 ·exact ⟨_, _, rfl⟩
def LR (B : Nat) (w0 w : World) (v : Value) (k : Nat) (F : Nat → Nat) : Prop := w.ownsRow B 22 1 v k (u64s ((List.range k).map F)) ∧ Below B w0 w
theorem LR.nil (w : World) (F : Nat → Nat) : LR w.heap.size w w (.slice none 0 0) 0 F := ⟨World.ownsRow_nil _ _ _ _, Below.refl _ _⟩
theorem LR.push {B : Nat} {w0 w w1 : World} {v v' : Value} {k z : Nat} {F : Nat → Nat} {o : Obj} (h : LR B w0 w v k F) (hB : B ≤ w.heap.size) (hz : z = F k)
    (h1 : w1.ownsRow B 22 1 v' (k + 1) (u64s ((List.range k).map F) ++ [Value.int .u64 (z : Int)])) (hg : (w.alloc o).grownBy w1 v.ownBlock) : LR B w0 w1 v' (k + 1) F := by
 rw [u64s_snoc, hz, map_snoc] at h1
 exact ⟨h1, (h.2.alloc hB o).grown hg (by simp; omega) (fun k e => (h.1.lt k e).1)⟩
theorem LR.ext {B : Nat} {w0 w w' : World} {v : Value} {k : Nat} {F : Nat → Nat} (h : LR B w0 w v k F) (hb : Ext w w') (hB : B ≤ w.heap.size) : LR B w0 w' v k F := by
 refine ⟨⟨h.1.1, ?_⟩, Below.trans h.2 (Below.mono hb hB)⟩
 rcases h.1.2 with h0 | ⟨g, cap, cur, e, hg, hh, h1⟩
 ·exact .inl h0
 ·exact .inr ⟨g, cap, cur, e, hg, (hb.block g (Array.getElem?_eq_some_iff.1 hh).1).trans hh, h1⟩
theorem LR.alloc {B : Nat} {w0 w : World} {v : Value} {k : Nat} {F : Nat → Nat} (h : LR B w0 w v k F) (o : Obj) : (w.alloc o).ownsRow B 22 1 v k (u64s ((List.range k).map F)) := h.1.alloc o
structure TX (w : World) (A : Option Addr) (n c : Nat) (f : Nat → Nat) : Prop where
 fx : FX w A n c f
 typed : ∀ ad, A = some ad → ∃ cur fz, w.heap[ad.block]? = some (.cells cur 22 fz)
theorem TX.ext {w w' : World} {A : Option Addr} {n c : Nat} {f : Nat → Nat} (h : TX w A n c f) (k : Ext w w') : TX w' A n c f :=
 ⟨h.fx.ext k, fun ad e => by
  obtain ⟨cur, fz, hc⟩ := h.typed ad e
  exact ⟨cur, fz, (k.block _ (Array.getElem?_eq_some_iff.1 hc).1).trans hc⟩⟩
theorem TX.congr {w : World} {A : Option Addr} {n c : Nat} {f f' : Nat → Nat} (h : TX w A n c f) (e : ∀ i, i < n → f i = f' i) : TX w A n c f' := ⟨h.fx.congr e, h.typed⟩
def SR (B : Nat) (w : World) (v : Value) (k : Nat) (S : Nat → Value) : Prop := w.ownsRow B 23 1 v k ((List.range k).map S)
theorem SR.nil (B : Nat) (w : World) (S : Nat → Value) : SR B w (.slice none 0 0) 0 S := World.ownsRow_nil _ _ _ _
theorem SR.ext {B : Nat} {w w' : World} {v : Value} {k : Nat} {S : Nat → Value} (h : SR B w v k S) (hb : Ext w w') : SR B w' v k S := by
 refine ⟨h.1, ?_⟩
 rcases h.2 with h0 | ⟨g, cap, cur, e, hg, hh, h1⟩
 ·exact .inl h0
 ·exact .inr ⟨g, cap, cur, e, hg, (hb.block g (Array.getElem?_eq_some_iff.1 hh).1).trans hh, h1⟩
theorem SR.congr {B : Nat} {w : World} {v : Value} {k : Nat} {S S' : Nat → Value} (h : SR B w v k S) (e : ∀ j, j < k → S j = S' j) : SR B w v k S' := by
 unfold SR at h ⊢
 rwa [List.map_congr_left (fun j hj => e j (List.mem_range.1 hj))] at h
theorem SR.set {B : Nat} {w : World} {v u : Value} {k x o m : Nat} {S : Nat → Value} {F' : Nat → Value} (h : SR B w v k S) (hx : RW w x 31 m F') : SR B (w.setCell ⟨x, o, none⟩ u) v k S := by
 refine ⟨h.1, ?_⟩
 rcases h.2 with h0 | ⟨g, cap, cur, e, hb, hh, h1, h2, h3, h4⟩
 ·exact .inl h0
 ·refine .inr ⟨g, cap, cur, e, hb, ?_, h1, h2, h3, h4⟩
  rw [Below.heap_setCell _ _ _ _ (fun e' => ?_)]
  ·exact hh
  ·have e2 : g = x := by simpa using e'
   subst e2
   unfold RW at hx
   rw [hh] at hx
   injection hx with hx
   injection hx with _ hx
   exact absurd hx (by decide)
theorem TX.grown {B : Nat} {w w' : World} {v : Value} {k : Nat} {S : Nat → Value} {A : Option Addr} {n c : Nat} {f : Nat → Nat} (h : TX w A n c f) (hs : SR B w v k S) (hg : w.grownBy w' v.ownBlock) : TX w' A n c f := by
 have hne : ∀ ad, A = some ad → some ad.block ≠ v.ownBlock := fun ad e e2 => by
  obtain ⟨cur, fz, hc⟩ := h.typed ad e
  rcases hs.2 with ⟨rfl, _⟩ | ⟨g, cap, cur', rfl, _, hh, _⟩
  ·simp [Value.ownBlock] at e2
  ·simp [Value.ownBlock] at e2
   rw [e2, hh] at hc
   injection hc with hc
   injection hc with _ hc
   exact absurd hc (by decide)
 have hkeep : ∀ ad, A = some ad → w'.heap[ad.block]? = w.heap[ad.block]? := fun ad e => by
  obtain ⟨cur, fz, hc⟩ := h.typed ad e
  exact hg.block _ (Array.getElem?_eq_some_iff.1 hc).1 (fun e2 => hne ad e e2)
 refine ⟨⟨h.fx.room, fun hn => ?_⟩, fun ad e => ?_⟩
 ·obtain ⟨ad, e, hc⟩ := h.fx.cells hn
  refine ⟨ad, e, fun j hj => ?_⟩
  have h2 : w'.heap[(ad.add j).block]? = w.heap[(ad.add j).block]? := by rw [add_block]; exact hkeep ad e
  rw [World.cell?_of_block h2]
  exact hc j hj
 ·obtain ⟨cur, fz, hc⟩ := h.typed ad e
  exact ⟨cur, fz, (hkeep ad e).trans hc⟩
theorem TX.set {w : World} {A : Option Addr} {n c x o m : Nat} {f : Nat → Nat} {u : Value} {F' : Nat → Value} (h : TX w A n c f) (hx : RW w x 31 m F') : TX (w.setCell ⟨x, o, none⟩ u) A n c f := by
 have hkeep : ∀ ad, A = some ad → (w.setCell ⟨x, o, none⟩ u).heap[ad.block]? = w.heap[ad.block]? := fun ad e => by
  obtain ⟨cur, fz, hc⟩ := h.typed ad e
  refine Below.heap_setCell _ _ _ _ (fun e' => ?_)
  have e2 : ad.block = x := by simpa using e'
  unfold RW at hx
  rw [← e2, hc] at hx
  injection hx with hx
  injection hx with _ hx
  exact absurd hx (by decide)
 refine ⟨⟨h.fx.room, fun hn => ?_⟩, fun ad e => ?_⟩
 ·obtain ⟨ad, e, hc⟩ := h.fx.cells hn
  refine ⟨ad, e, fun j hj => ?_⟩
  have h2 : (w.setCell ⟨x, o, none⟩ u).heap[(ad.add j).block]? = w.heap[(ad.add j).block]? := by rw [add_block]; exact hkeep ad e
  rw [World.cell?_of_block h2]
  exact hc j hj
 ·obtain ⟨cur, fz, hc⟩ := h.typed ad e
  exact ⟨cur, fz, (hkeep ad e).trans hc⟩
theorem RW.grown {B : Nat} {w w' : World} {v : Value} {k x m : Nat} {t : TypeId} {S F : Nat → Value} (h : RW w x t m F) (hs : SR B w v k S) (ht : t ≠ 23) (hg : w.grownBy w' v.ownBlock) : RW w' x t m F := by
 refine RW.keep h (hg.block x h.lt (fun e2 => ?_))
 rcases hs.2 with ⟨rfl, _⟩ | ⟨g, cap, cur', rfl, _, hh, _⟩
 ·simp [Value.ownBlock] at e2
 ·simp [Value.ownBlock] at e2
  unfold RW at h
  rw [e2, hh] at h
  injection h with h
  injection h with _ h
  exact absurd h.symm ht
theorem SR.cells {B : Nat} {w : World} {v : Value} {k : Nat} {S : Nat → Value} (h : SR B w v k S) : ∃ A c, v = .slice A k c ∧ k ≤ c ∧ (0 < k → ∃ ad, A = some ad ∧ ∀ j, j < k → w.cell? (ad.add j) = some (S j)) := by
 have h0 := h
 rcases h.2 with ⟨rfl, rfl⟩ | ⟨g, cap, cur, rfl, _, hh, hle, _⟩
 ·exact ⟨none, 0, rfl, Nat.le_refl _, fun h => absurd h (by omega)⟩
 ·refine ⟨_, cap, rfl, hle, fun _ => ⟨_, rfl, fun j hj => ?_⟩⟩
  exact World.ownsRow.cells (g := g) h0 rfl j _ (by rw [List.getElem?_map, List.getElem?_range hj]; rfl)
theorem one_slice {A : Option Addr} {n c : Nat} : ∀ u ∈ [Value.slice A n c], u.oneCell' = true := by
 intro u hu; simp at hu; subst hu; rfl
structure Mk (w : World) (B : Nat) (v : Value) (k n : Nat) (F : Nat → Nat → Nat) : Prop where
 ex : ∃ (As : Nat → Option Addr) (cs : Nat → Nat), SR B w v k (fun j => .slice (As j) n (cs j)) ∧ ∀ j, j < k → TX w (As j) n (cs j) (F j)
theorem Mk.nil (w : World) (B n : Nat) (F : Nat → Nat → Nat) : Mk w B (.slice none 0 0) 0 n F := ⟨fun _ => none, fun _ => 0, SR.nil _ _ _, fun j hj => absurd hj (by omega)⟩
theorem Mk.ext {w w' : World} {B : Nat} {v : Value} {k n : Nat} {F : Nat → Nat → Nat} (h : Mk w B v k n F) (hb : Ext w w') : Mk w' B v k n F := by
 obtain ⟨As, cs, h1, h2⟩ := h.ex
 exact ⟨As, cs, h1.ext hb, fun j hj => (h2 j hj).ext hb⟩
theorem Mk.set {w : World} {B : Nat} {v u : Value} {k n x o m : Nat} {F : Nat → Nat → Nat} {F' : Nat → Value} (h : Mk w B v k n F) (hx : RW w x 31 m F') : Mk (w.setCell ⟨x, o, none⟩ u) B v k n F := by
 obtain ⟨As, cs, h1, h2⟩ := h.ex
 exact ⟨As, cs, h1.set hx, fun j hj => (h2 j hj).set hx⟩
theorem Mk.push {w w1 : World} {B : Nat} {v v' : Value} {k n c : Nat} {A : Option Addr} {F : Nat → Nat → Nat} {As : Nat → Option Addr} {cs : Nat → Nat} {o : Obj} (h1 : SR B w v k (fun j => .slice (As j) n (cs j))) (h2 : ∀ j, j < k → TX w (As j) n (cs j) (F j)) (hl : TX w A n c (F k))
    (ho : w1.ownsRow B 23 1 v' (k + 1) ((List.range k).map (fun j => Value.slice (As j) n (cs j)) ++ [.slice A n c])) (hg : (w.alloc o).grownBy w1 v.ownBlock) : Mk w1 B v' (k + 1) n F := by
 have ka : Ext w (w.alloc o) := (Ext.refl w).alloc o
 refine ⟨fun j => if j = k then A else As j, fun j => if j = k then c else cs j, ?_, fun j hj => ?_⟩
 ·have e : (List.range k).map (fun j => Value.slice (As j) n (cs j)) ++ [.slice A n c] = (List.range (k + 1)).map (fun j => Value.slice (if j = k then A else As j) n (if j = k then c else cs j)) := by
     rw [← map_snoc k (fun j => Value.slice (if j = k then A else As j) n (if j = k then c else cs j))]
     congr 1
     ·refine List.map_congr_left fun j hj => ?_
      have := List.mem_range.1 hj
      simp only [if_neg (show ¬ j = k by omega)]
     ·simp
  rw [e] at ho
  exact ho
 ·by_cases hjk : j = k
  ·subst hjk
   simp only [if_true]
   exact (hl.ext ka).grown (h1.ext ka) hg
  ·simp only [if_neg hjk]
   exact ((h2 j (by omega)).ext ka).grown (h1.ext ka) hg
theorem Mk.px {w : World} {B : Nat} {v : Value} {k n : Nat} {F : Nat → Nat → Nat} (h : Mk w B v k n F) : ∃ A c As cs, v = .slice A k c ∧ PX w A k c As (fun _ => n) cs F := by
 obtain ⟨As, cs, h1, h2⟩ := h.ex
 obtain ⟨A, c, e, hle, hc⟩ := h1.cells
 exact ⟨A, c, As, cs, e, hle, hc, fun j hj => (h2 j hj).fx⟩
theorem step_append_own {P : Program} {ops : Array Oper} {o : Oper} {a : Act} {w : World} {K : Act → World → Prop} {Q : Exit → Act → World → Prop} {E : Prop}
    (hg : o.guard = none) (s x : Operand) (t : TypeId) (hop : o.op = Op.call { callee := Callee.builtin Builtin.append, args := #[s, x], argTypes := #[t, t] })
    (base : Nat) (e : TypeId) (i : TypeInfo) (z : Value) (size bytes : Nat) (h1 : P.underlying t = some (.slice e)) (h2 : P.info? e = some i) (h3 : i.zero = some z) (h4 : i.size = size) (h5 : i.bytes = bytes) (h6 : z.cells.size = size) (h7 : 0 < size)
    (v : Value) (n : Nat) (xs : List Value) (hs : a.eval s = v) (hown : w.ownsRow base e size v n xs)
    (ad : Addr) (m c : Nat) (news : List Value) (hx : a.eval x = .slice (some ad) m c) (hn : news.length = m * size) (hc : ∀ j u, news[j]? = some u → w.cell? (ad.add j) = some u) (h1c : ∀ u ∈ news, u.oneCell' = true)
    (b1 : n + m ≤ maxLen) (b2 : (n + m) * bytes ≤ 140737488355328) (hbase : base ≤ w.heap.size)
    (hK : ∀ v' w', w'.ownsRow base e size v' (n + m) (xs ++ news) → w.grownBy w' v.ownBlock → K (a.put o.dst v') w') :
    if Region.wanted o (yielded ops a.tmps) = true then Oper.wp P o a w K Q else E := by
 have hw : Region.wanted o (yielded ops a.tmps) = true := by simp [Region.wanted, hg]
 rw [if_pos hw]
 obtain ⟨v', w', hrun, r1, r2, _⟩ := run_append_own (P := P) w base t o.type e i z size bytes h1 h2 h3 h4 h5 h6 h7 v n xs hown ad m c news hn hc h1c b1 b2 hbase
 unfold Oper.wp
 simp [execOp, hop, resolve, invoke, builtin, hs, hx, hrun, Result.andThen]
 exact hK v' w' r1 r2
end Go.Proofs.YtkbcobjhlpjieaaGreatDoor
