import Derived.Test.YtkbcobjhlpjieaaGreatDoorZNRead
import Derived.Test.YtkbcobjhlpjieaaGreatDoorZ6
import Derived.Test.YtkbcobjhlpjieaaGreatDoorZ1
namespace Go.Proofs.YtkbcobjhlpjieaaGreatDoor
open Go.RowKit
set_option linter.unusedVariables false
set_option maxRecDepth 100000
def TrimPost (A : Option Addr) (n B : Nat) (xs : List Nat) (w : World) (e : Ending) (w' : World) : Prop := ∃ m, m ≤ n ∧ e = .returned (.slice A m m) ∧ w = w' ∧ NR w B A m m (nw (nv xs))
theorem trim_is {A : Option Addr} {n c B m : Nat} {xs : List Nat} {w : World} (h : NR w B A n c xs) (hm : m ≤ n) (hz : ∀ (j x : Nat), m ≤ j → xs[j]? = some x → x = 0) (hl : m = 0 ∨ xs[m - 1]? ≠ some 0) : NR w B A m m (nw (nv xs)) := by
 have := h.take_ hm
 rwa [take_dg W64_two xs m h.lt (by rw [h.len]; exact hm) hz hl] at this
theorem trimmed_any (A : Option Addr) (n c B : Nat) (xs : List Nat) (w : World) (h : NR w B A n c xs) (hn : n ≤ 1000000) :
    Calls Tryz.prog 156 #[.slice A n c] w (TrimPost A n B xs w) := by
 have hroom := h.room
 go_enter Tryz.func156, Tryz.ntmps156
 go_wp2
 go_loop [3] (fun i => ∃ m : Nat, m ≤ n ∧ i = .int .i64 m ∧ Hid (∀ (j x : Nat), m ≤ j → xs[j]? = some x → x = 0)) (fun i => (intOf i).toNat)
 case atStart => exact ⟨n, Nat.le_refl _, rfl, Lib.hid (fun j x hj hx => by have := (List.getElem?_eq_some_iff.1 hx).1; have := h.len; omega)⟩
 case round =>
  obtain ⟨m, hm, rfl, hz⟩ := hrel
  by_cases hm0 : m = 0
  ·subst hm0
   go_wp2
   go_ret
   exact ⟨0, hm, rfl, rfl, trim_is h hm hz.out (.inl rfl)⟩
  ·obtain ⟨ad, x, rfl, hb, hxb, hx, hc⟩ := h.at_ (show m - 1 < n by omega)
   rw [W64_eq] at hxb
   have HX := Lib.hid hx
   clear hx
   by_cases hx0 : x = 0
   ·subst hx0
    go_wp2
    refine ⟨⟨m - 1, by omega, by go_num, Lib.hid fun j x hj hx => ?_⟩, by simp [intOf]; omega⟩
    by_cases hjm : j = m - 1
    ·subst hjm; rw [HX.out] at hx; exact (Option.some.inj hx).symm
    ·exact hz.out j x (by omega) hx
   ·have hxb : ((x : Int) == 0) = false := by simpa using hx0
    go_wp2
    go_ret
    exact ⟨m, hm, rfl, rfl, trim_is h hm hz.out (.inr (by rw [HX.out]; simpa using hx0))⟩
theorem info_u64N : (Tryz.prog.info? 22).map (fun i => (i.zero, i.size, i.bytes)) = some (some (.int .u64 0), 1, 8) := by kernel_rfl
theorem below_drewNN {B : Nat} {a w : World} (h : Below B a w) (n : Nat) : Below B a (w.drewN n) := ⟨h.os, h.tape, h.output, h.size, h.block⟩
end Go.Proofs.YtkbcobjhlpjieaaGreatDoor
