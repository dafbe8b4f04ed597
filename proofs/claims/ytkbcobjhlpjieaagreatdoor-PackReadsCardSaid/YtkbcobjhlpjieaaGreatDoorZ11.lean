import Derived.Test.YtkbcobjhlpjieaaGreatDoorZ9
import Derived.Deep.RegionHeld3
namespace Go.Proofs.YtkbcobjhlpjieaaGreatDoor
open Go.RowKit
set_option linter.unusedVariables false
set_option maxRecDepth 100000
def noSq (q x : Nat) : Bool := decide (x ^ ((q - 1) / 2) % q = q - 1)
def First (q x : Nat) : Prop := (x < q ∧ noSq q x = true ∧ ∀ y, y < x → noSq q y = false) ∨ (x = 0 ∧ ∀ y, y < q → noSq q y = false)
theorem isS_ge {q : Nat} (h : isS q = true) : 2 ≤ q := by
 rcases Nat.lt_or_ge q 2 with g | g
 ·rw [isS_one g] at h; cases h
 ·exact g
theorem First.lt {q x : Nat} (h : First q x) (hq : 2 ≤ q) : x < q := by
 rcases h with h | h
 ·exact h.1
 ·rw [h.1]; omega
def RW (w : World) (g : Nat) (t : TypeId) (n : Nat) (F : Nat → Value) : Prop := w.heap[g]? = some (.cells ((List.range n).map F).toArray t (0, 0))
section
variable {w w' : World} {g : Nat} {t : TypeId} {n : Nat} {F G : Nat → Value}
theorem RW.lt (h : RW w g t n F) : g < w.heap.size := (Array.getElem?_eq_some_iff.1 h).1
theorem RW.cell (h : RW w g t n F) {i : Nat} (hi : i < n) : w.cell? ⟨g, i, none⟩ = some (F i) := by
 rw [cell_of_row w g i _ t (0, 0) h]
 simp [hi]
theorem RW.frozen (h : RW w g t n F) (i : Nat) : w.frozen? ⟨g, i, none⟩ = false := by
 unfold RW at h
 simp [World.frozen?, h]
theorem RW.keep (h : RW w g t n F) (hg : w'.heap[g]? = w.heap[g]?) : RW w' g t n F := hg.trans h
theorem RW.below {B : Nat} (h : RW w g t n F) (hb : Below B w w') (hg : g < B) : RW w' g t n F := h.keep (hb.block g hg)
theorem RW.ext (h : RW w g t n F) (hb : Ext w w') : RW w' g t n F := h.below hb h.lt
theorem RW.congr (h : RW w g t n F) (e : ∀ i, i < n → F i = G i) : RW w g t n G := by
 have : (List.range n).map F = (List.range n).map G := List.map_congr_left fun i hi => e i (List.mem_range.1 hi)
 unfold RW at h ⊢
 rw [← this]; exact h
theorem RW.set (h : RW w g t n F) {i : Nat} (hi : i < n) (v : Value) : RW (w.setCell ⟨g, i, none⟩ v) g t n (fun j => if j = i then v else F j) := by
 unfold RW at h ⊢
 simp only [World.setCell, Array.getElem?_modify, h]
 simp only [if_true, Option.map_some, List.setIfInBounds_toArray]
 have e : (List.map F (List.range n)).set i v = List.map (fun j => if j = i then v else F j) (List.range n) := by
  apply List.ext_getElem?
  intro j
  rw [List.getElem?_set, List.getElem?_map, List.getElem?_map]
  by_cases hj : j < n
  ·by_cases hij : i = j
   ·subst hij; simp [hj]
   ·have : ¬ j = i := fun e => hij e.symm
    simp [hj, hij, this]
  ·by_cases hij : i = j
   ·omega
   ·simp [hj, hij]
 rw [← e]
 rfl
end
def UW (w : World) (g n : Nat) (f : Nat → Nat) : Prop := RW w g 22 n (fun i => .int .u64 (f i : Int))
theorem UW.set {w : World} {g n : Nat} {f : Nat → Nat} (h : UW w g n f) {i : Nat} (hi : i < n) (v : Nat) : UW (w.setCell ⟨g, i, none⟩ (.int .u64 (v : Int))) g n (fun j => if j = i then v else f j) :=
 (RW.set h hi _).congr fun j _ => by by_cases e : j = i <;> simp [e]
theorem UW.congr {w : World} {g n : Nat} {f f' : Nat → Nat} (h : UW w g n f) (e : ∀ i, i < n → f i = f' i) : UW w g n f' := RW.congr h fun i hi => by rw [e i hi]
structure FX (w : World) (A : Option Addr) (n c : Nat) (f : Nat → Nat) : Prop where
 room : n ≤ c
 cells : 0 < n → ∃ ad, A = some ad ∧ ∀ j, j < n → w.cell? (ad.add j) = some (.int .u64 (f j : Int))
theorem FX.ext {a b : World} {A : Option Addr} {n c : Nat} {f : Nat → Nat} (h : FX a A n c f) (k : Ext a b) : FX b A n c f :=
 ⟨h.room, fun hn => by
  obtain ⟨ad, e, hc⟩ := h.cells hn
  exact ⟨ad, e, fun j hj => cell_ext k (hc j hj)⟩⟩
theorem FX.congr {w : World} {A : Option Addr} {n c : Nat} {f f' : Nat → Nat} (h : FX w A n c f) (e : ∀ i, i < n → f i = f' i) : FX w A n c f' :=
 ⟨h.room, fun hn => by
  obtain ⟨ad, e', hc⟩ := h.cells hn
  exact ⟨ad, e', fun j hj => by rw [← e j hj]; exact hc j hj⟩⟩
theorem UW.fx {w : World} {g n : Nat} {f : Nat → Nat} (h : UW w g n f) : FX w (some ⟨g, 0, none⟩) n n f :=
 ⟨Nat.le_refl _, fun _ => ⟨_, rfl, fun j hj => by rw [Addr.add_lit, Nat.zero_add]; exact RW.cell h hj⟩⟩
theorem FX.drewN {w : World} {A : Option Addr} {n c : Nat} {f : Nat → Nat} (h : FX w A n c f) (m : Nat) : FX (w.drewN m) A n c f := ⟨h.room, h.cells⟩
def facF (q : Nat) (b : Nat → Nat) (i : Nat) : Value := if i % 2 = 0 then .int .u64 (b (i / 2) : Int) else .int .u64 (shr (b (i / 2)) q : Int)
def FC (w : World) (g n q : Nat) (b : Nat → Nat) : Prop := RW w g 235 (n * 2) (facF q b)
structure Tb (w : World) (B p n q : Nat) (a e : Nat → Nat) (gp ge : Nat) : Prop where
 hp : p < B
 hgp : gp < B
 hge : ge < B
 size : w.cell? ⟨p, 0, none⟩ = some (.int .i64 (n : Int))
 prime : w.cell? ⟨p, 1, none⟩ = some (.int .u64 (q : Int))
 powers : w.cell? ⟨p, 2, none⟩ = some (.slice (some ⟨gp, 0, none⟩) (2 * n) (2 * n))
 ends : w.cell? ⟨p, 3, none⟩ = some (.slice (some ⟨ge, 0, none⟩) n n)
 pw : FC w gp (2 * n) q a
 en : FC w ge n q e
theorem Tb.below {w w' : World} {B p n q : Nat} {a e : Nat → Nat} {gp ge : Nat} (h : Tb w B p n q a e gp ge) (k : Below B w w') : Tb w' B p n q a e gp ge :=
 ⟨h.hp, h.hgp, h.hge, (k.cell (p := ⟨p, 0, none⟩) h.hp).trans h.size, (k.cell (p := ⟨p, 1, none⟩) h.hp).trans h.prime, (k.cell (p := ⟨p, 2, none⟩) h.hp).trans h.powers, (k.cell (p := ⟨p, 3, none⟩) h.hp).trans h.ends, RW.below h.pw k h.hgp, RW.below h.en k h.hge⟩
theorem Tb.more {w : World} {B B' p n q : Nat} {a e : Nat → Nat} {gp ge : Nat} (h : Tb w B p n q a e gp ge) (hB : B ≤ B') : Tb w B' p n q a e gp ge :=
 ⟨Nat.lt_of_lt_of_le h.hp hB, Nat.lt_of_lt_of_le h.hgp hB, Nat.lt_of_lt_of_le h.hge hB, h.size, h.prime, h.powers, h.ends, h.pw, h.en⟩
theorem Tb.ext {w w' : World} {p n q : Nat} {a e : Nat → Nat} {gp ge : Nat} (h : Tb w w.heap.size p n q a e gp ge) (k : Ext w w') : Tb w' w'.heap.size p n q a e gp ge := (h.below k).more k.size
def OddP (q r y : Nat) : Prop := ∃ m, y = r ^ (2 * m + 1) % q
theorem OddP.next {q r y : Nat} (h : OddP q r y) : OddP q r (y * (r * r % q) % q) := by
 obtain ⟨m, rfl⟩ := h
 refine ⟨m + 1, ?_⟩
 rw [← Nat.mul_mod, show 2 * (m + 1) + 1 = (2 * m + 1) + 2 by omega, Nat.pow_add r (2 * m + 1) 2, Nat.pow_two]
end Go.Proofs.YtkbcobjhlpjieaaGreatDoor
