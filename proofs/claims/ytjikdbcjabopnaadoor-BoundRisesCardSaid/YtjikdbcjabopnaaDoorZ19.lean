import Derived.Test.YtjikdbcjabopnaaDoorZ11
import Derived.StillTailTactics
import Derived.BigRegion
import Derived.Test.YtjikdbcjabopnaaDoorZTMath
import Derived.Test.YtjikdbcjabopnaaDoorZ6
import Derived.Test.YtjikdbcjabopnaaDoorZPExt
import Derived.Laws.Bits64b
import Derived.Test.YtjikdbcjabopnaaDoorZ9
import Derived.Deep.RegionHeld3
import Derived.Deep.RegionLaw
import Derived.Test.YtjikdbcjabopnaaDoorZ4
import Derived.Test.YtjikdbcjabopnaaDoorZPMath
namespace Go.Proofs.YtjikdbcjabopnaaDoor
open Go.RowKit
set_option linter.unusedVariables false
set_option maxRecDepth 100000
theorem fx_two (w : World) (a b : Nat) (za zb : Int) (ha : za = a) (hb : zb = b) : FX (w.alloc (.cells #[.int .u64 za, .int .u64 zb] 22)) (some ⟨w.heap.size, 0, none⟩) 2 2 (fun i => if i = 0 then a else b) := by
 subst ha hb
 refine ⟨Nat.le_refl _, fun _ => ⟨_, rfl, fun j hj => ?_⟩⟩
 rw [Addr.add_lit, Nat.zero_add]
 rcases (show j = 0 ∨ j = 1 by omega) with rfl | rfl <;> simp
theorem FX.cut {w : World} {A : Option Addr} {n c : Nat} {f : Nat → Nat} (h : FX w A n c f) {m : Nat} (hm : m ≤ n) : FX w A m c f :=
 ⟨Nat.le_trans hm h.room, fun h0 => by
  obtain ⟨ad, e, hc⟩ := h.cells (by omega)
  exact ⟨ad, e, fun j hj => hc j (by omega)⟩⟩
theorem index_any (A : Option Addr) (n c x : Nat) (f : Nat → Nat) (w : World) (hX : FX w A n c f) (hn : n ≤ 100000) :
    Calls Tryd.prog 79 #[.slice A n c, .int .u64 (x : Int)] w fun ee w' => ∃ z : Int, (0 ≤ z ∧ (∃ i, i < n ∧ f i = x) ∨ z = -1 ∧ ∀ i, i < n → f i ≠ x) ∧ ee = .returned (.int .i64 z) ∧ w = w' := by
 go_enter Tryd.func79, Tryd.ntmps79
 go_wp2
 go_loop [8] (fun i => ∃ m : Nat, m ≤ n ∧ i = .int .i64 (m : Int) ∧ Hid (∀ i, i < m → f i ≠ x)) (fun i => n - (intOf i).toNat)
 case atStart => exact ⟨0, by omega, rfl, Lib.hid fun i hi => by omega⟩
 case round =>
  obtain ⟨m, hm, rfl, hno⟩ := hrel
  by_cases hlt : m < n
  ·obtain ⟨ad, rfl, hc⟩ := hX.cells (by omega)
   have hcell := hc m hlt
   clear hc
   by_cases he : f m = x
   ·have HE := Lib.hid he
    rw [he] at hcell
    clear he
    go_wp2
    go_ret
    exact ⟨_, .inl ⟨by omega, m, hlt, HE.out⟩, rfl, rfl⟩
   ·have HE := Lib.hid (show ∀ i, i < m + 1 → f i ≠ x from fun i hi => by
       by_cases h : i = m
       ·rw [h]; exact he
       ·exact hno.out i (by omega))
    have hne : ((x : Int) == (f m : Int)) = false := by simp; omega
    clear he
    generalize f m = y at *
    go_wp2
    exact ⟨⟨m + 1, by omega, by go_num, HE⟩, by simp [intOf]; omega⟩
  ·have HE := Lib.hid (show ∀ i, i < n → f i ≠ x from fun i hi => hno.out i (by omega))
   go_wp2
   go_ret
   exact ⟨_, .inr ⟨rfl, HE.out⟩, rfl, rfl⟩
theorem contains_any (A : Option Addr) (n c x : Nat) (f : Nat → Nat) (w : World) (hX : FX w A n c f) (hn : n ≤ 100000) :
    Calls Tryd.prog 76 #[.slice A n c, .int .u64 (x : Int)] w fun ee w' => ∃ b : Bool, Hid (b = true ↔ ∃ i, i < n ∧ f i = x) ∧ ee = .returned (.bool b) ∧ w = w' := by
 go_enter Tryd.func76, Tryd.ntmps76
 go_wp2_with fail
 refine (index_any A n c x f w hX hn).mono ?_
 rintro ee w' ⟨z, hz, rfl, rfl⟩
 rcases hz with ⟨h0, h1⟩ | ⟨rfl, h1⟩
 ·have H1 := Lib.hid h1
  clear h1
  go_wp2
  go_ret
  exact ⟨true, Lib.hid ⟨fun _ => H1.out, fun _ => rfl⟩, rfl, rfl⟩
 ·have H1 := Lib.hid h1
  clear h1
  go_wp2
  go_ret
  exact ⟨_, Lib.hid ⟨fun h => by simp at h, fun ⟨i, hi, he⟩ => absurd he (H1.out i hi)⟩, rfl, rfl⟩
def Tells (w : World) (P : Prop) (ee : Ending) (w' : World) : Prop := (P ∧ ee = .returned (.bool true) ∧ Ext w w') ∨ (¬ P ∧ ee = .returned (.bool false) ∧ Ext w w')
theorem Tells.yes {w w' : World} {P : Prop} (h : P) (k : Ext w w') : Tells w P (.returned (.bool true)) w' := .inl ⟨h, rfl, k⟩
theorem Tells.no {w w' : World} {P : Prop} (h : ¬ P) (k : Ext w w') : Tells w P (.returned (.bool false)) w' := .inr ⟨h, rfl, k⟩
theorem ret_cell {w : World} {x : Nat} {t : TypeId} {F : Nat → Value} (h : RW w x t 1 F) (v : Value) : (w.setCell ⟨x, 0, none⟩ v).cell? ⟨x, 0, none⟩ = some v := by
 have := (h.set (show 0 < 1 by omega) v).cell (i := 0) (by omega)
 rwa [if_pos rfl] at this
theorem one_at (w : World) (v : Value) (t : TypeId) : (w.alloc (.cells #[v] t)).cell? ⟨w.heap.size, 0, none⟩ = some v := by simp
end Go.Proofs.YtjikdbcjabopnaaDoor
