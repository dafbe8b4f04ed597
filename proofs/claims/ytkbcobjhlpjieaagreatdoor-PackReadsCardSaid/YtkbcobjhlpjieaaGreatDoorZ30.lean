import Derived.Test.YtkbcobjhlpjieaaGreatDoorZ28
import Derived.Test.YtkbcobjhlpjieaaGreatDoorZ24
import Derived.Test.YtkbcobjhlpjieaaGreatDoorZVTape
import Derived.Test.YtkbcobjhlpjieaaGreatDoorZ11
import Derived.Test.YtkbcobjhlpjieaaGreatDoorZPLaid
namespace Go.Proofs.YtkbcobjhlpjieaaGreatDoor
open Go.RowKit
set_option linter.unusedVariables false
set_option maxRecDepth 100000
def BX (w : World) (A : Option Addr) (n c : Nat) (xs : List Nat) : Prop := Rd .u8 256 w w.heap.size A n c xs
def TyB (w : World) (A : Option Addr) (t : TypeId) : Prop := ∀ ad, A = some ad → ∃ cur fz, w.heap[ad.block]? = some (.cells cur t fz)
structure Keeps (ts : List TypeId) (w w' : World) : Prop where
 size : w.heap.size ≤ w'.heap.size
 block : ∀ (i : Nat) (cur : Array Value) (t : TypeId) (fz : Nat × Nat), w.heap[i]? = some (.cells cur t fz) → t ∈ ts → w'.heap[i]? = w.heap[i]?
section
variable {ts : List TypeId} {w w' w'' : World}
theorem Keeps.refl (ts : List TypeId) (w : World) : Keeps ts w w := ⟨Nat.le_refl _, fun _ _ _ _ _ _ => rfl⟩
theorem Keeps.trans (h : Keeps ts w w') (k : Keeps ts w' w'') : Keeps ts w w'' := ⟨Nat.le_trans h.size k.size, fun i cur t fz hi ht => by
 have h1 := h.block i cur t fz hi ht
 exact (k.block i cur t fz (h1.trans hi) ht).trans h1⟩
theorem Keeps.ext (k : Ext w w') : Keeps ts w w' := ⟨k.size, fun i cur t fz hi _ => k.block i (Array.getElem?_eq_some_iff.1 hi).1⟩
theorem Keeps.on {p : Nat} {cur : Array Value} {t : TypeId} {fz : Nat × Nat} (k : On p w w') (hp : w.heap[p]? = some (.cells cur t fz)) (ht : t ∉ ts) : Keeps ts w w' := ⟨k.size, fun i cur' t' fz' hi hm => k.block i (Array.getElem?_eq_some_iff.1 hi).1 (fun e => by
 injection e with e
 subst e
 rw [hi] at hp
 injection hp with hp
 injection hp with _ hp _
 subst hp
 exact ht hm)⟩
theorem Keeps.grown {B : Nat} {t : TypeId} {s : Nat} {v : Value} {n : Nat} {xs : List Value} (hg : w.grownBy w' v.ownBlock) (ho : w.ownsRow B t s v n xs) (ht : t ∉ ts) : Keeps ts w w' := by
 refine ⟨hg.size, fun i cur' t' fz' hi hm => hg.block i (Array.getElem?_eq_some_iff.1 hi).1 (fun e => ?_)⟩
 rcases ho.2 with ⟨rfl, _⟩ | ⟨g, cap, cur, rfl, _, hh, _⟩
 ·simp [Value.ownBlock] at e
 ·simp [Value.ownBlock] at e
  subst e
  rw [hi] at hh
  injection hh with hh
  injection hh with _ hh _
  subst hh
  exact ht hm
theorem Keeps.sub {us : List TypeId} (h : Keeps ts w w') (hs : ∀ t ∈ us, t ∈ ts) : Keeps us w w' := ⟨h.size, fun i cur t fz hi ht => h.block i cur t fz hi (hs t ht)⟩
theorem TyB.keeps {A : Option Addr} {t : TypeId} (h : TyB w A t) (k : Keeps ts w w') (ht : t ∈ ts) : TyB w' A t := fun ad e => by
 obtain ⟨cur, fz, hc⟩ := h ad e
 exact ⟨cur, fz, (k.block _ _ _ _ hc ht).trans hc⟩
end
structure LY {α : Type} (t : TypeId) (R : World → Value → α → Prop) (w : World) (A : Option Addr) (c : Nat) (xs : List α) : Prop where
 room : xs.length ≤ c
 ty : TyB w A t
 cells : 0 < xs.length → ∃ ad, A = some ad ∧ ∀ (j : Nat) (x : α), xs[j]? = some x → ∃ u, w.cell? (ad.add j) = some u ∧ R w u x
def LV {α : Type} (t : TypeId) (R : World → Value → α → Prop) (w : World) (v : Value) (xs : List α) : Prop := ∃ A c, v = .slice A xs.length c ∧ LY t R w A c xs
def Stays {α : Type} (ts : List TypeId) (R : World → Value → α → Prop) : Prop := ∀ w w' u x, Keeps ts w w' → R w u x → R w' u x
section
variable {α : Type} {t : TypeId} {ts : List TypeId} {R : World → Value → α → Prop}
theorem LY.keeps (hR : Stays ts R) (ht : t ∈ ts) {w w' : World} {A : Option Addr} {c : Nat} {xs : List α} (h : LY t R w A c xs) (k : Keeps ts w w') : LY t R w' A c xs :=
 ⟨h.room, h.ty.keeps k ht, fun hn => by
  obtain ⟨ad, e, hc⟩ := h.cells hn
  refine ⟨ad, e, fun j x hx => ?_⟩
  obtain ⟨u, hu, hr⟩ := hc j x hx
  obtain ⟨cur, fz, hb⟩ := h.ty ad e
  refine ⟨u, ?_, hR _ _ _ _ k hr⟩
  rw [World.cell?_of_block (w := w) (by rw [add_block]; exact k.block _ _ _ _ hb ht)]
  exact hu⟩
theorem LV.stays (hR : Stays ts R) (ht : t ∈ ts) : Stays ts (LV t R) := fun w w' u xs k h => by
 obtain ⟨A, c, e, hl⟩ := h
 exact ⟨A, c, e, hl.keeps hR ht k⟩
def GR {α : Type} (B : Nat) (t : TypeId) (R : World → Value → α → Prop) (w : World) (v : Value) (xs : List α) : Prop :=
 ∃ us, w.ownsRow B t 1 v xs.length us ∧ ∀ (j : Nat) (x : α), xs[j]? = some x → ∃ u, us[j]? = some u ∧ R w u x
theorem GR.nil (B : Nat) (t : TypeId) (R : World → Value → α → Prop) (w : World) : GR B t R w (.slice none 0 0) [] := ⟨[], World.ownsRow_nil _ _ _ _, fun j x h => by simp at h⟩
theorem GR.keeps (hR : Stays ts R) {B : Nat} {w w' : World} {v : Value} {xs : List α} (h : GR B t R w v xs) (k : Keeps (t :: ts) w w') : GR B t R w' v xs := by
 obtain ⟨us, ho, hu⟩ := h
 refine ⟨us, ⟨ho.1, ?_⟩, fun j x hx => ?_⟩
 ·rcases ho.2 with h0 | ⟨g, cap, cur, e, hg, hh, h1⟩
  ·exact .inl h0
  ·exact .inr ⟨g, cap, cur, e, hg, (k.block g _ _ _ hh (by simp)).trans hh, h1⟩
 ·obtain ⟨u, h1, h2⟩ := hu j x hx
  exact ⟨u, h1, hR _ _ _ _ (k.sub fun t ht => by simp [ht]) h2⟩
theorem GR.push (hR : Stays ts R) (ht : t ∉ ts) {B : Nat} {w w1 : World} {v v' u : Value} {xs : List α} {x : α} {us : List Value} {o : Obj} (hus : ∀ (j : Nat) (x : α), xs[j]? = some x → ∃ u, us[j]? = some u ∧ R w u x) (ho : w.ownsRow B t 1 v xs.length us) (hx : R w u x)
    (h1 : w1.ownsRow B t 1 v' (xs.length + 1) (us ++ [u])) (hg : (w.alloc o).grownBy w1 v.ownBlock) : GR B t R w1 v' (xs ++ [x]) := by
 have kk : Keeps ts w w1 := (Keeps.ext ((Ext.refl w).alloc o)).trans (Keeps.grown hg (ho.alloc o) ht)
 have hl : us.length = xs.length := by have := ho.1; omega
 refine ⟨us ++ [u], by simpa using h1, fun j y hy => ?_⟩
 rcases Nat.lt_trichotomy j xs.length with g | g | g
 ·rw [List.getElem?_append_left g] at hy
  obtain ⟨u', e1, e2⟩ := hus j y hy
  exact ⟨u', by rw [List.getElem?_append_left (by omega)]; exact e1, hR _ _ _ _ kk e2⟩
 ·subst g
  rw [List.getElem?_append_right (Nat.le_refl _)] at hy
  simp at hy
  subst hy
  exact ⟨u, by rw [List.getElem?_append_right (by omega), hl]; simp, hR _ _ _ _ kk hx⟩
 ·rw [List.getElem?_eq_none (by simp; omega)] at hy
  cases hy
theorem GR.lv {B : Nat} {w : World} {v : Value} {xs : List α} (h : GR B t R w v xs) : LV t R w v xs := by
 obtain ⟨us, ho, hu⟩ := h
 have ho' := ho
 rcases ho.2 with ⟨rfl, e⟩ | ⟨g, cap, cur, rfl, hg, hh, hle, _⟩
 ·exact ⟨none, 0, by rw [e], by omega, (fun ad e => by cases e), (fun hn => by omega)⟩
 ·refine ⟨_, cap, rfl, hle, fun ad e => by injection e with e; subst e; exact ⟨_, _, hh⟩, fun hn => ⟨_, rfl, fun j x hx => ?_⟩⟩
  obtain ⟨u, h1, h2⟩ := hu j x hx
  exact ⟨u, World.ownsRow.cells (g := g) ho' rfl j u h1, h2⟩
end
def WordR (w : World) (v : Value) (x : Nat) : Prop := v = .int .u64 (x : Int) ∧ x < 18446744073709551616
def SignR (w : World) (v : Value) (x : Int) : Prop := v = .int .i64 x ∧ -9223372036854775808 ≤ x ∧ x < 9223372036854775808
theorem wordR_stays (ts : List TypeId) : Stays ts WordR := fun w w' u x k h => h
theorem signR_stays (ts : List TypeId) : Stays ts SignR := fun w w' u x k h => h
abbrev WsR := LV 22 WordR
abbrev ElR := LV 23 WsR
theorem wsR_stays {ts : List TypeId} (h : 22 ∈ ts) : Stays ts WsR := LV.stays (wordR_stays ts) h
theorem elR_stays {ts : List TypeId} (h : 22 ∈ ts) (h2 : 23 ∈ ts) : Stays ts ElR := LV.stays (wsR_stays h) h2
abbrev ElsR := LV 31 ElR
theorem elsR_stays {ts : List TypeId} (h : 22 ∈ ts) (h2 : 23 ∈ ts) (h3 : 31 ∈ ts) : Stays ts ElsR := LV.stays (elR_stays h h2) h3
abbrev SgR := LV 2 SignR
theorem sgR_stays {ts : List TypeId} (h : 2 ∈ ts) : Stays ts SgR := LV.stays (signR_stays ts) h
theorem LY.fx {w : World} {A : Option Addr} {c : Nat} {xs : List Nat} (h : LY 22 WordR w A c xs) : FX w A xs.length c (fun j => xs.getD j 0) := by
 refine ⟨h.room, fun hn => ?_⟩
 obtain ⟨ad, e, hc⟩ := h.cells hn
 refine ⟨ad, e, fun j hj => ?_⟩
 obtain ⟨u, h1, h2, _⟩ := hc j xs[j] (List.getElem?_eq_getElem hj)
 rw [h1, h2]
 simp [List.getD, hj]
theorem LY.words {w : World} {A : Option Addr} {c : Nat} {xs : List Nat} (h : LY 22 WordR w A c xs) : ∀ j, j < xs.length → xs.getD j 0 < 18446744073709551616 := fun j hj => by
 obtain ⟨ad, e, hc⟩ := h.cells (by omega)
 obtain ⟨u, _, _, h3⟩ := hc j xs[j] (List.getElem?_eq_getElem hj)
 simpa [List.getD, hj] using h3
section
variable {w w' : World} {A : Option Addr} {n c : Nat} {xs : List Nat}
theorem BX.ext (h : BX w A n c xs) (k : Ext w w') : BX w' A n c xs := (Rd.below h k).more k.size
theorem BX.drop (h : BX w A n c xs) {k : Nat} (hk : k ≤ n) {A' : Option Addr} (hA : ∀ ad, A = some ad → k < n → A' = some (ad.add k)) : BX w A' (n - k) (c - k) (xs.drop k) := by
 have hr := h.room
 have hl := h.len
 refine ⟨by rw [List.length_drop, hl], by omega, fun x hx => h.lt x (List.mem_of_mem_drop hx), fun hn => ?_⟩
 obtain ⟨ad, e, hb, hc⟩ := h.cells (by omega)
 refine ⟨_, hA ad e (by omega), by rw [add_block]; exact hb, fun j x hx => ?_⟩
 rw [List.getElem?_drop] at hx
 rw [← hc (k + j) x hx]
 congr 1
 unfold Addr.add
 by_cases h0 : k = 0
 ·subst h0; simp
 ·by_cases h1 : j = 0
  ·subst h1; simp
  ·simp [h0, h1]; omega
end
open Go.ChangeShapes Go.WideShapes Go.ChangeAt Go.RowKit Go.Joins
section
variable {H : Type} {enc : TypeId × Value → H}
theorem cells_u8U : Tryz.prog.cellsOf 5 = 1 := by kernel_rfl
theorem byte_ofU {a : Int} (h : (Lit.int .u8 a).wf = true) : 0 ≤ a ∧ a < 256 := by
 have h1 : IntKind.u8.min = 0 := by decide
 have h2 : IntKind.u8.max = 255 := by decide
 simp only [Lit.wf, h1, h2, Bool.and_eq_true, decide_eq_true_eq] at h
 omega
theorem bytes_cells {W : World} {fuel : Nat} {cs : List Value} {x : DataW H × List MemPlace} (h : DataW.trod enc Tryz.prog W 0 (fun _ => true) true fuel 37 cs = some x) :
    ∃ A n c xs, cs = [.slice A n c] ∧ BX W A n c xs ∧ n ≤ maxLen := by
 rcases ChangeShapes.open_ints Tryz.underlying37 Tryz.underlying5 cells_u8U h with ⟨rfl, _⟩ | ⟨a, len, cap, zs, rfl, _, hl, hm, hz, _, hcell, hwz⟩
 ·exact ⟨none, 0, 0, [], rfl, Rd.none_ _ _ _ _ _ _, Nat.zero_le _⟩
 ·simp only [if_true] at hz
  refine ⟨some a, len, cap, (zs.take len).map Int.toNat, rfl, ⟨by simp; omega, hl, ?_, fun hn => ⟨a, rfl, ?_, fun j x hx => ?_⟩⟩, by omega⟩
  ·intro x hx
   obtain ⟨z, hz', rfl⟩ := List.mem_map.1 hx
   have := byte_ofU (hwz z (List.mem_of_mem_take hz'))
   omega
  ·have := hcell 0 (by omega)
   exact World.block_lt_of_cell? W a (by simpa [Addr.add] using this)
  ·rw [List.getElem?_map] at hx
   obtain ⟨z, hz1, rfl⟩ := Option.map_eq_some_iff.1 hx
   rw [List.getElem?_take] at hz1
   split at hz1
   ·have hj := (List.getElem?_eq_some_iff.1 hz1).1
    have hw := byte_ofU (hwz z (List.mem_of_getElem? hz1))
    rw [hcell j hj, show zs.getD j 0 = z by simp [List.getD, hz1], Int.toNat_of_nonneg hw.1]
   ·cases hz1
theorem bytes_open {W : World} {v : Value} {d : DataW H} {p : List MemPlace} (h : DataW.Trod enc Tryz.prog W 0 (fun _ => true) true 37 v d p) : ∃ A n c xs, v.cells.toList = [.slice A n c] ∧ BX W A n c xs ∧ n ≤ maxLen := by
 obtain ⟨f, hf⟩ := h
 exact bytes_cells hf
end
end Go.Proofs.YtkbcobjhlpjieaaGreatDoor
