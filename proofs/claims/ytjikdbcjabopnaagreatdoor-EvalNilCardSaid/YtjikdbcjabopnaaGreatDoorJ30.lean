import Derived.Test.YtjikdbcjabopnaaGreatDoorJ18
import Derived.Deep.RegionHeld3
import Derived.Test.YtjikdbcjabopnaaGreatDoorJ16
import Derived.Deep.QuietTactic
import Derived.BigQuiet
namespace Go.Proofs.YtjikdbcjabopnaaGreatDoor
open Go.RowKit
set_option linter.unusedVariables false
set_option maxRecDepth 100000
theorem Rd.alloc {k : IntKind} {b : Nat} {w : World} {B : Nat} {A : Option Addr} {n c : Nat} {xs : List Nat} (h : Rd k b w B A n c xs) (hB : B ≤ w.heap.size) (o : Obj) : Rd k b (w.alloc o) B A n c xs := h.keep fun p hp => World.cell?_alloc_lt w o p (by omega)
theorem Rd.drew {k : IntKind} {b : Nat} {w : World} {A : Option Addr} {n c : Nat} {xs : List Nat} (h : Rd k b w w.heap.size A n c xs) : Rd k b w.drew w.drew.heap.size A n c xs := ⟨h.len, h.room, h.lt, h.cells⟩
structure Box2 (w W : World) (b b' : Bool) (s s' : Value) : Prop where
 below : Below w.heap.size w W
 size : w.heap.size + 2 ≤ W.heap.size
 a0 : W.cell? ⟨w.heap.size, 0, none⟩ = some (.bool b)
 a1 : W.cell? ⟨w.heap.size, 1, none⟩ = some s
 b0 : W.cell? ⟨w.heap.size + 1, 0, none⟩ = some (.bool b')
 b1 : W.cell? ⟨w.heap.size + 1, 1, none⟩ = some s'
 free : ∀ o, W.frozen? ⟨w.heap.size, o, none⟩ = false ∧ W.frozen? ⟨w.heap.size + 1, o, none⟩ = false
structure Box3 (w W : World) (b b' : Bool) (s s' r0 r1 : Value) : Prop extends Box2 w W b b' s s' where
 size3 : W.heap.size = w.heap.size + 3
 r0 : W.cell? ⟨w.heap.size + 2, 0, none⟩ = some r0
 r1 : W.cell? ⟨w.heap.size + 2, 1, none⟩ = some r1
 f0 : W.frozen? ⟨w.heap.size + 2, 0, none⟩ = false
 f1 : W.frozen? ⟨w.heap.size + 2, 1, none⟩ = false
theorem Box2.keep {w W W' : World} {b b' : Bool} {s s' : Value} (h : Box2 w W b b' s s') (hb : Below W.heap.size W W') : Box2 w W' b b' s s' := by
 have := h.size
 have z := hb.size
 exact ⟨h.below.trans (hb.mono (by omega)), by omega, (hb.cell (p := ⟨w.heap.size, 0, none⟩) (show w.heap.size < _ by omega)).trans h.a0, (hb.cell (p := ⟨w.heap.size, 1, none⟩) (show w.heap.size < _ by omega)).trans h.a1, (hb.cell (p := ⟨w.heap.size + 1, 0, none⟩) (show w.heap.size + 1 < _ by omega)).trans h.b0, (hb.cell (p := ⟨w.heap.size + 1, 1, none⟩) (show w.heap.size + 1 < _ by omega)).trans h.b1, fun o => ⟨(hb.frozen (p := ⟨w.heap.size, o, none⟩) (show w.heap.size < _ by omega)).trans (h.free o).1, (hb.frozen (p := ⟨w.heap.size + 1, o, none⟩) (show w.heap.size + 1 < _ by omega)).trans (h.free o).2⟩⟩
theorem Box2.drew {w W : World} {b b' : Bool} {s s' : Value} (h : Box2 w W b b' s s') : Box2 w W.drew b b' s s' := ⟨h.below.drew, h.size, h.a0, h.a1, h.b0, h.b1, h.free⟩
theorem Rd.aside {k : IntKind} {b : Nat} {w : World} {B : Nat} {A : Option Addr} {n c : Nat} {xs : List Nat} (h : Rd k b w B A n c xs) {p : Addr} {v : Value} (hp : w.cell? p = some v) (hv : ∀ x : Int, v ≠ .int k x) (u : Value) : Rd k b (w.setCell p u) B A n c xs := by
 refine ⟨h.len, h.room, h.lt, fun hn => ?_⟩
 obtain ⟨ad, rfl, hb, hc⟩ := h.cells hn
 refine ⟨ad, rfl, hb, fun j x hx => ?_⟩
 rw [World.cell?_setCell_other w p _ u (fun e => ?_)]
 ·exact hc j x hx
 ·have := hc j x hx
  first | (rw [e] at this; rw [hp] at this; exact hv _ (Option.some.inj this)) | (rw [← e] at this; rw [hp] at this; exact hv _ (Option.some.inj this))
def iv (b : Bool) (X : Nat) : Int := if b then -(X : Int) else X
theorem Box3.drewN {w W : World} {b b' : Bool} {s s' r0 r1 : Value} (h : Box3 w W b b' s s' r0 r1) (q : Nat) : Box3 w (W.drewN q) b b' s s' r0 r1 :=
 ⟨⟨below_drewNN h.below q, h.size, h.a0, h.a1, h.b0, h.b1, h.free⟩, h.size3, h.r0, h.r1, h.f0, h.f1⟩
def ExtN (a b : World) : Prop := Below a.heap.size a b
theorem ExtN.refl (a : World) : ExtN a a := Below.refl _ _
theorem ExtN.trans {a b c : World} (h : ExtN a b) (k : ExtN b c) : ExtN a c := Below.trans h (Below.mono k h.size)
theorem ExtN.alloc {a b : World} (h : ExtN a b) (o : Obj) : ExtN a (b.alloc o) := h.trans (Below.alloc (Below.refl _ _) (Nat.le_refl _) o)
theorem ExtN.drewN {a b : World} (h : ExtN a b) (n : Nat) : ExtN a (b.drewN n) := below_drewNN h n
def NXN (w : World) (A : Option Addr) (n c : Nat) (xs : List Nat) : Prop := NR w w.heap.size A n c xs
theorem NXN.ext {a b : World} {A : Option Addr} {n c : Nat} {xs : List Nat} (h : NXN a A n c xs) (k : ExtN a b) : NXN b A n c xs := (Rd.below h k).more k.size
theorem NXN.one (w : World) (g : Nat) (hg : g = w.heap.size) (z : Int) (x : Nat) (hz : z = x) (hx : x < 18446744073709551616) : NXN (w.alloc (.cells #[.int .u64 z] 22)) (some ⟨g, 0, none⟩) 1 1 [x] := by
 subst hz hg
 refine ⟨rfl, Nat.le_refl _, fun z hz => by rw [List.mem_singleton.1 hz, W64_eq]; exact hx, fun _ => ⟨_, rfl, by simp, fun j z hz => ?_⟩⟩
 match j, hz with
 | 0, hz => simp at hz; subst hz; simp [Addr.add]
def i64s (zs : List Nat) : List Value := zs.map fun (z : Nat) => Value.int .i64 (z : Int)
theorem i64s_snoc (zs : List Nat) (z : Nat) : i64s zs ++ [Value.int .i64 (z : Int)] = i64s (zs ++ [z]) := by simp [i64s]
def IRow (B : Nat) (w0 w : World) (v : Value) (n : Nat) (zs : List Nat) : Prop := w.ownsRow B 3 1 v n (i64s zs) ∧ Below B w0 w ∧ (∀ x ∈ zs, x < 65536)
theorem IRow.nil (w : World) : IRow w.heap.size w w (.slice none 0 0) 0 [] := ⟨World.ownsRow_nil _ _ _ _, Below.refl _ _, by simp⟩
theorem IRow.len {B : Nat} {w0 w : World} {v : Value} {n : Nat} {zs : List Nat} (h : IRow B w0 w v n zs) : zs.length = n := by
 have := h.1.1
 simpa [i64s] using this
theorem IRow.push {B : Nat} {w0 w w1 : World} {v v' : Value} {n : Nat} {zs : List Nat} {z : Nat} {o : Obj} (h : IRow B w0 w v n zs) (hB : B ≤ w.heap.size) (hz : z < 65536)
    (h1 : w1.ownsRow B 3 1 v' (n + 1) (i64s zs ++ [Value.int .i64 (z : Int)])) (hg : (w.alloc o).grownBy w1 v.ownBlock) : IRow B w0 w1 v' (n + 1) (zs ++ [z]) := by
 rw [i64s_snoc] at h1
 exact ⟨h1, (h.2.1.alloc hB o).grown hg (by simp; omega) (fun k e => (h.1.lt k e).1), snoc_lt h.2.2 hz⟩
theorem IRow.rd {B : Nat} {w0 w : World} {v : Value} {n : Nat} {zs : List Nat} (h : IRow B w0 w v n zs) : ∃ A c, v = .slice A n c ∧ DR w w.heap.size A n c zs ∧ (∀ ad, A = some ad → B ≤ ad.block) := by
 have hlen := h.len
 rcases h.1.2 with ⟨rfl, rfl⟩ | ⟨g, cap, cur, rfl, hg, hh, hle, _⟩
 ·exact ⟨none, 0, rfl, ⟨hlen, Nat.le_refl _, h.2.2, fun h => absurd h (by omega)⟩, fun ad e => by cases e⟩
 ·refine ⟨_, cap, rfl, ⟨hlen, hle, h.2.2, fun _ => ⟨⟨g, 0, none⟩, rfl, (Array.getElem?_eq_some_iff.1 hh).1, fun j x hx => ?_⟩⟩, fun ad e => ?_⟩
  ·exact h.1.cells (g := g) rfl j _ (by simp [i64s, hx])
  ·injection e with e; subst e; exact hg
def URowN (B : Nat) (w0 w : World) (v : Value) (n : Nat) (zs : List Nat) : Prop := w.ownsRow B 22 1 v n (u64s zs) ∧ Below B w0 w ∧ (∀ x ∈ zs, x < W64)
theorem URowN.nil (w : World) : URowN w.heap.size w w (.slice none 0 0) 0 [] := ⟨World.ownsRow_nil _ _ _ _, Below.refl _ _, by simp⟩
theorem URowN.push {B : Nat} {w0 w w1 : World} {v v' : Value} {n : Nat} {zs : List Nat} {z : Nat} {o : Obj} (h : URowN B w0 w v n zs) (hB : B ≤ w.heap.size) (hz : z < W64)
    (h1 : w1.ownsRow B 22 1 v' (n + 1) (u64s zs ++ [Value.int .u64 (z : Int)])) (hg : (w.alloc o).grownBy w1 v.ownBlock) : URowN B w0 w1 v' (n + 1) (zs ++ [z]) := by
 rw [u64s_snoc] at h1
 exact ⟨h1, (h.2.1.alloc hB o).grown hg (by simp; omega) (fun k e => (h.1.lt k e).1), snoc_lt h.2.2 hz⟩
theorem IRow.drewN {B : Nat} {w0 w : World} {v : Value} {n : Nat} {zs : List Nat} (h : IRow B w0 w v n zs) (m : Nat) : IRow B w0 (w.drewN m) v n zs :=
 ⟨⟨h.1.1, h.1.2⟩, ⟨h.2.1.os, h.2.1.tape, h.2.1.output, h.2.1.size, h.2.1.block⟩, h.2.2⟩
def DX (w : World) (A : Option Addr) (n c : Nat) (zs : List Nat) : Prop := DR w w.heap.size A n c zs
theorem DX.ext {a b : World} {A : Option Addr} {n c : Nat} {xs : List Nat} (h : DX a A n c xs) (k : ExtN a b) : DX b A n c xs := (Rd.below h k).more k.size
def Dk (w : World) (g : Nat) (zs : List Nat) : Prop := w.heap[g]? = some (.cells (i64s zs).toArray 3 (0, 0))
theorem Dk.lt {w : World} {g : Nat} {zs : List Nat} (h : Dk w g zs) : g < w.heap.size := (Array.getElem?_eq_some_iff.1 h).1
theorem Dk.frozen {w : World} {g : Nat} {zs : List Nat} (h : Dk w g zs) (i : Nat) : w.frozen? ⟨g, i, none⟩ = false := by
 unfold Dk at h
 simp [World.frozen?, h]
theorem Dk.cell {w : World} {g : Nat} {zs : List Nat} (h : Dk w g zs) {i x : Nat} (hx : zs[i]? = some x) : w.cell? ⟨g, i, none⟩ = some (.int .i64 (x : Int)) := by
 have hl := (List.getElem?_eq_some_iff.1 hx).1
 rw [cell_of_row w g i _ 3 (0, 0) h]
 have e := (List.getElem?_eq_some_iff.1 hx).2
 simp [i64s, hl, e]
theorem Dk.set_ {w : World} {g : Nat} {zs : List Nat} (h : Dk w g zs) {i : Nat} (hi : i < zs.length) (v : Nat) : Dk (w.setCell ⟨g, i, none⟩ (.int .i64 (v : Int))) g (zs.set i v) := by
 unfold Dk at h ⊢
 simp [World.setCell, Array.getElem?_modify, h]
 simp [i64s, List.map_set]
theorem Dk.keep {w w' : World} {g : Nat} {zs : List Nat} (h : Dk w g zs) (hg : w'.heap[g]? = w.heap[g]?) : Dk w' g zs := hg.trans h
theorem Dk.rd {w : World} {g n : Nat} {zs : List Nat} (h : Dk w g zs) (hlt : ∀ x ∈ zs, x < 65536) (hn : zs.length = n) : DR w w.heap.size (some ⟨g, 0, none⟩) n n zs := by
 refine ⟨hn, Nat.le_refl _, hlt, fun _ => ⟨_, rfl, h.lt, fun j x hx => ?_⟩⟩
 rw [Addr.add_lit, Nat.zero_add]
 exact h.cell hx
def MulD (xs : List Nat) (Y lb k : Nat) (ps : List Nat) : Prop := ps.length = lb + k ∧ (∀ x ∈ ps, x < 65536) ∧ vl 65536 ps = vl 65536 (xs.take k) * Y
theorem MulD.step {xs ps ns ys : List Nat} {lb k j x : Nat} (h : MulD xs (vl 65536 ys) lb k ps) (hx : xs[k]? = some x) (hy : ys.length = lb) (t : TimesInv 65536 (ps.drop k ++ [0]) ys x j ns 0) (hj : lb ≤ j) (hj2 : j ≤ lb + 1) :
    MulD xs (vl 65536 ys) lb (k + 1) (ps.take k ++ (ns ++ (ps.drop k ++ [0]).drop j)) := by
 obtain ⟨h1, h2, h3⟩ := h
 obtain ⟨t1, t2, _, t4⟩ := t
 have l : (ps.take k).length = k := by rw [List.length_take]; omega
 have lq : (ps.drop k ++ [0]).length = lb + 1 := by simp; omega
 have hq : ∀ z ∈ ps.drop k ++ [0], z < 65536 := snoc_lt (fun z hz => h2 z (List.mem_of_mem_drop hz)) (by omega)
 have vq : vl 65536 (ps.drop k ++ [0]) = vl 65536 (ps.drop k) := by rw [vl_snoc, Nat.mul_zero, Nat.add_zero]
 rw [Nat.mul_zero, Nat.add_zero, List.take_of_length_le (l := ys) (by omega)] at t4
 refine ⟨by rw [List.length_append, l, List.length_append, t1, List.length_drop, lq]; omega, fun z hz => ?_, ?_⟩
 ·rcases List.mem_append.1 hz with hz | hz
  ·exact h2 z (List.mem_of_mem_take hz)
  ·rcases List.mem_append.1 hz with hz | hz
   ·exact t2 z hz
   ·exact hq z (List.mem_of_mem_drop hz)
 ·have e0 : vl 65536 ps = vl 65536 (ps.take k) + 65536 ^ k * vl 65536 (ps.drop k) := by
     conv => lhs; rw [← List.take_append_drop k ps, vl_append, l]
  have e1 : vl 65536 (ps.drop k ++ [0]) = vl 65536 ((ps.drop k ++ [0]).take j) + 65536 ^ j * vl 65536 ((ps.drop k ++ [0]).drop j) := by
   conv => lhs; rw [← List.take_append_drop j (ps.drop k ++ [0]), vl_append, List.length_take, lq, Nat.min_eq_left hj2]
  have e2 : vl 65536 (ns ++ (ps.drop k ++ [0]).drop j) = vl 65536 (ps.drop k) + x * vl 65536 ys := by
   rw [vl_append, t1, t4, ← vq, e1]; omega
  rw [vl_append, l, e2, Nat.mul_add, ← Nat.add_assoc, ← e0, h3, vl_take_next, hx, Option.getD_some, Nat.add_mul, Nat.mul_assoc]
def BitInv (Y Rh d j q R : Nat) : Prop := R < Y ∧ q < 2 ^ (16 - j) ∧ Y * q + R = Rh * 2 ^ (16 - j) + d / 2 ^ j
theorem BitInv.bound {Y Rh d j q R : Nat} (h : BitInv Y Rh d j q R) (hj : j ≤ 16) : q * 2 ^ j < 65536 := by
 have h2 := h.2.1
 have e : (2 : Nat) ^ (16 - j) * 2 ^ j = 65536 := by rw [← Nat.pow_add, show 16 - j + j = 16 by omega]
 have p : 0 < (2 : Nat) ^ j := Nat.pow_pos (by omega)
 have := (Nat.mul_lt_mul_right p).2 h2
 omega
def DivD (xs : List Nat) (Y n k : Nat) (hs : List Nat) (R : Nat) : Prop := hs.length + k = n ∧ (∀ x ∈ hs, x < 65536) ∧ R < Y ∧ vl 65536 (xs.drop k) = Y * vl 65536 hs + R
theorem DivD.step {xs hs : List Nat} {Y n k Rh d q R : Nat} (h : DivD xs Y n (k + 1) hs Rh) (hx : xs[k]? = some d) (t : BitInv Y Rh d 0 q R) : DivD xs Y n k (q :: hs) R := by
 obtain ⟨h1, h2, h3, h4⟩ := h
 have hb := t.bound (by omega)
 rw [Nat.pow_zero, Nat.mul_one] at hb
 obtain ⟨t1, t2, t3⟩ := t
 have hl := (List.getElem?_eq_some_iff.1 hx).1
 have e := (List.getElem?_eq_some_iff.1 hx).2
 refine ⟨by simp; omega, fun z hz => ?_, t1, ?_⟩
 ·rcases List.mem_cons.1 hz with rfl | hz
  ·exact hb
  ·exact h2 z hz
 ·rw [List.drop_eq_getElem_cons hl, e, vl_cons, vl_cons, h4, Nat.mul_add, Nat.mul_add, Nat.mul_left_comm]
  rw [show 16 - 0 = 16 by omega, show (2 : Nat) ^ 16 = 65536 by decide, Nat.pow_zero, Nat.div_one] at t3
  omega
theorem DivD.done {xs hs : List Nat} {Y n R : Nat} (h : DivD xs Y n 0 hs R) : vl 65536 hs = vl 65536 xs / Y ∧ R = vl 65536 xs % Y := by
 obtain ⟨h1, h2, h3, h4⟩ := h
 rw [List.drop_zero] at h4
 rw [h4]
 refine ⟨?_, ?_⟩
 ·rw [Nat.mul_add_div (by omega), Nat.div_eq_of_lt h3, Nat.add_zero]
 ·rw [Nat.mul_add_mod, Nat.mod_eq_of_lt h3]
theorem DR.one (w : World) (g : Nat) (hg : g = w.heap.size) (z : Int) (x : Nat) (hz : z = x) (hx : x < 65536) : DR (w.alloc (.cells #[.int .i64 z] 3)) (w.alloc (.cells #[.int .i64 z] 3)).heap.size (some ⟨g, 0, none⟩) 1 1 [x] := by
 subst hz hg
 refine ⟨rfl, Nat.le_refl _, fun z hz => by rw [List.mem_singleton.1 hz]; exact hx, fun _ => ⟨_, rfl, by simp, fun j z hz => ?_⟩⟩
 match j, hz with
 | 0, hz => simp at hz; subst hz; simp [Addr.add]
def PInv (w wr : World) (G : Nat) (lst : List Nat) (A : Option Addr) (n c R : Nat) : Prop :=
 Dk wr G lst ∧ Below G w wr ∧ DR wr wr.heap.size A n c (dg 65536 R) ∧ (∀ ad, A = some ad → G < ad.block)
theorem PInv.next {w wr w' : World} {G : Nat} {lst : List Nat} {A A2 : Option Addr} {n c R n2 c2 R2 : Nat} (h : PInv w wr G lst A n c R) (hb : Below wr.heap.size wr w') (hr : DR w' w'.heap.size A2 n2 c2 (dg 65536 R2)) (hf : ∀ ad, A2 = some ad → wr.heap.size ≤ ad.block) : PInv w w' G lst A2 n2 c2 R2 := by
 obtain ⟨h1, h2, h3, h4⟩ := h
 have hlt := h1.lt
 exact ⟨h1.keep (hb.block G hlt), h2.trans (hb.mono (Nat.le_of_lt hlt)), hr, fun ad e => by have := hf ad e; omega⟩
theorem PInv.drewN {w wr : World} {G : Nat} {lst : List Nat} {A : Option Addr} {n c R : Nat} (h : PInv w wr G lst A n c R) (m : Nat) : PInv w (wr.drewN m) G lst A n c R :=
 ⟨h.1, below_drewNN h.2.1 m, h.2.2.1.drewN m, h.2.2.2⟩
theorem PInv.alloc {w wr : World} {G : Nat} {lst : List Nat} {A : Option Addr} {n c R : Nat} (h : PInv w wr G lst A n c R) (o : Obj) : PInv w (wr.alloc o) G lst A n c R := by
 have hb : Below wr.heap.size wr (wr.alloc o) := (Below.refl _ _).alloc (Nat.le_refl _) o
 obtain ⟨h1, h2, h3, h4⟩ := h
 have hlt := h1.lt
 exact ⟨h1.keep (hb.block G hlt), h2.trans (hb.mono (Nat.le_of_lt hlt)), (h3.below hb).more hb.size, h4⟩
end Go.Proofs.YtjikdbcjabopnaaGreatDoor
