import Derived.Test.YtkbcobjhlpjieaaGreatDoorZVTape
import Derived.Lib.SliceRun
namespace Go.Proofs.YtkbcobjhlpjieaaGreatDoor
open Go.RowKit
set_option linter.unusedVariables false
set_option maxRecDepth 100000
def IW (w : World) (g : Nat) (zs : List Int) : Prop := w.heap[g]? = some (.cells (zs.map (Value.int .i64)).toArray 2 (0, 0))
section
variable {w w' : World} {g : Nat} {zs : List Int}
theorem IW.lt (h : IW w g zs) : g < w.heap.size := (Array.getElem?_eq_some_iff.1 h).1
theorem IW.cell (h : IW w g zs) {i : Nat} {z : Int} (hz : zs[i]? = some z) : w.cell? ⟨g, i, none⟩ = some (.int .i64 z) := by
 rw [cell_of_row w g i _ _ (0, 0) h]
 simp [hz]
theorem IW.frozen (h : IW w g zs) (i : Nat) : w.frozen? ⟨g, i, none⟩ = false := by
 unfold IW at h
 simp [World.frozen?, h]
theorem IW.ext (h : IW w g zs) (k : Ext w w') : IW w' g zs := (k.block g h.lt).trans h
theorem IW.on (h : IW w g zs) {p : Nat} (k : On p w w') (hne : g ≠ p) : IW w' g zs := (k.block g h.lt (fun e => hne (by injection e))).trans h
theorem IW.set (h : IW w g zs) (i : Nat) (z : Int) : IW (w.setCell ⟨g, i, none⟩ (.int .i64 z)) g (zs.set i z) := by
 unfold IW at h ⊢
 simp [World.setCell, Array.getElem?_modify, h, List.map_set]
theorem IW.aside (h : IW w g zs) {a : Addr} {z : Int} (ha : w.cell? a = some (.int .u64 z)) : a.block ≠ g := by
 intro e
 subst e
 unfold IW at h
 unfold World.cell? at ha
 rw [h] at ha
 simp only at ha
 split at ha
 ·cases ha
 ·simp at ha
theorem NX.far {A : Option Addr} {n c : Nat} {xs : List Nat} (hX : NX w A n c xs) (h : IW w g zs) (i : Nat) (v : Value) : NX (w.setCell ⟨g, i, none⟩ v) A n c xs := by
 refine ⟨hX.len, hX.room, hX.lt, fun hn => ?_⟩
 obtain ⟨ad, rfl, hb, hc⟩ := hX.cells hn
 refine ⟨ad, rfl, by simpa using hb, fun j x hx => ?_⟩
 have h1 := hc j x hx
 rw [set_far]
 ·exact h1
 ·intro e
  exact h.aside h1 (by rw [← e])
end
structure LX (w : World) (A : Option Addr) (n c : Nat) (zs : List Int) : Prop where
 len : zs.length = n
 room : n ≤ c
 cells : 0 < n → ∃ ad, A = some ad ∧ ∀ (j : Nat) (z : Int), zs[j]? = some z → w.cell? (ad.add j) = some (.int .i64 z)
theorem LX.ext {w w' : World} {A : Option Addr} {n c : Nat} {zs : List Int} (h : LX w A n c zs) (k : Ext w w') : LX w' A n c zs :=
 ⟨h.len, h.room, fun hn => by
  obtain ⟨ad, e, hc⟩ := h.cells hn
  exact ⟨ad, e, fun j z hz => cell_ext k (hc j z hz)⟩⟩
theorem LX.none_ (w : World) (A : Option Addr) (c : Nat) : LX w A 0 c [] := ⟨rfl, Nat.zero_le _, fun h => absurd h (by omega)⟩
set_option maxHeartbeats 1000000 in
theorem sameInts_any (A A' : Option Addr) (n c c' : Nat) (zs : List Int) (w : World) (h : Hid (LX w A n c zs)) (h' : Hid (LX w A' n c' zs)) (hn : n ≤ 100000) :
    Calls Tryz.prog 32 #[.slice A n c, .slice A' n c'] w fun e w' => e = .returned (.bool true) ∧ Ext w w' := by
 go_enter Tryz.func32, Tryz.ntmps32
 go_wp2
 go_loopw [13] (fun i wr => ∃ k : Nat, k ≤ n ∧ i = .int .i64 (k : Int) ∧ Hid (Ext w wr)) (fun i _ => n - (intOf i).toNat)
 case atStart => exact ⟨0, by omega, rfl, Lib.hid (Ext.refl _)⟩
 case round =>
  obtain ⟨k, hk, rfl, hE⟩ := hrel
  by_cases hlt : k < n
  ·obtain ⟨ad, rfl, hc⟩ := (h.out.ext hE.out).cells (by omega)
   obtain ⟨ad', rfl, hc'⟩ := (h'.out.ext hE.out).cells (by omega)
   have hkz : k < zs.length := by rw [h.out.len]; exact hlt
   have c0 := hc k _ (List.getElem?_eq_getElem hkz)
   have c1 := hc' k _ (List.getElem?_eq_getElem hkz)
   clear hc hc'
   generalize zs[k] = z at *
   have i0 : (0 : Int) ≤ (k : Int) := by omega
   have i1 : (k : Int) < (n : Int) := by omega
   clear hkz
   go_wp2
   go_quiet (fail)
   go_wp2
   exact ⟨⟨k + 1, by omega, by go_num, Lib.hid (hE.out.drewN _)⟩, by simp [intOf]; omega⟩
  ·go_wp2
   go_ret
   exact ⟨rfl, hE.out⟩
end Go.Proofs.YtkbcobjhlpjieaaGreatDoor
