import Derived.Test.YtjikdbcjabopnaaGreatDoorJNRead
import Derived.Test.YtjikdbcjabopnaaGreatDoorJ6
import Derived.Test.YtjikdbcjabopnaaGreatDoorJ1
namespace Go.Proofs.YtjikdbcjabopnaaGreatDoor
open Go.RowKit
set_option linter.unusedVariables false
set_option maxRecDepth 100000
def TrimPost (A : Option Addr) (n B : Nat) (xs : List Nat) (w : World) (e : Ending) (w' : World) : Prop := ∃ m, m ≤ n ∧ e = .returned (.slice A m m) ∧ w = w' ∧ NR w B A m m (nw (nv xs))
def OwnPost (n B : Nat) (xs : List Nat) (w : World) (e : Ending) (w' : World) : Prop := ∃ A m c, m ≤ n ∧ e = .returned (.slice A m c) ∧ w = w' ∧ NR w B A m c (nw (nv xs))
theorem trim_is {A : Option Addr} {n c B m : Nat} {xs : List Nat} {w : World} (h : NR w B A n c xs) (hm : m ≤ n) (hz : ∀ (j x : Nat), m ≤ j → xs[j]? = some x → x = 0) (hl : m = 0 ∨ xs[m - 1]? ≠ some 0) : NR w B A m m (nw (nv xs)) := by
 have := h.take_ hm
 rwa [take_dg W64_two xs m h.lt (by rw [h.len]; exact hm) hz hl] at this
theorem trimmed_any (A : Option Addr) (n c B : Nat) (xs : List Nat) (w : World) (h : NR w B A n c xs) (hn : n ≤ 1000000) :
    Calls Tryz.prog 155 #[.slice A n c] w (TrimPost A n B xs w) := by
 have hroom := h.room
 go_enter Tryz.func155, Tryz.ntmps155
 go_wp2
 go_loop [3] (fun i => ∃ m : Nat, m ≤ n ∧ i = .int .i64 m ∧ Hid (∀ (j x : Nat), m ≤ j → xs[j]? = some x → x = 0)) (fun i => (intOf i).toNat)
 case atStart => exact ⟨n, Nat.le_refl _, rfl, Lib.hid (fun j x hj hx => by have := (List.getElem?_eq_some_iff.1 hx).1; have := h.len; omega)⟩
 case round =>
  obtain ⟨m, hm, rfl, hz⟩ := hrel
  by_cases hm0 : m = 0
  ·subst hm0
   go_wp2
   go_ret
   exact ⟨0, hm, rfl, rfl, trim_is h hm hz.out (.inl rfl)⟩
  ·obtain ⟨ad, x, rfl, hb, hxb, hx, hc⟩ := h.at_ (show m - 1 < n by omega)
   rw [W64_eq] at hxb
   have HX := Lib.hid hx
   clear hx
   by_cases hx0 : x = 0
   ·subst hx0
    go_wp2
    refine ⟨⟨m - 1, by omega, by go_num, Lib.hid fun j x hj hx => ?_⟩, by simp [intOf]; omega⟩
    by_cases hjm : j = m - 1
    ·subst hjm; rw [HX.out] at hx; exact (Option.some.inj hx).symm
    ·exact hz.out j x (by omega) hx
   ·have hxb : ((x : Int) == 0) = false := by simpa using hx0
    go_wp2
    go_ret
    exact ⟨m, hm, rfl, rfl, trim_is h hm hz.out (.inr (by rw [HX.out]; simpa using hx0))⟩
theorem own_any (A : Option Addr) (n c B : Nat) (xs : List Nat) (w : World) (h : NR w B A n c xs) (hn : n ≤ 1000000) :
    Calls Tryz.prog 153 #[.slice A n c] w (OwnPost n B xs w) := by
 go_enter Tryz.func153, Tryz.ntmps153
 go_wp2_with fail
 refine (trimmed_any A n c B xs w h hn).mono ?_
 rintro e w' ⟨m, hm, rfl, rfl, hr⟩
 by_cases hm0 : m = 0
 ·subst hm0
  go_wp2
  go_ret
  exact ⟨none, 0, 0, hm, rfl, rfl, by rw [hr.eq_nil rfl]; exact Rd.none_ _ _ _ _ _ _⟩
 ·have hb : ((m : Int) == 0) = false := by simpa using hm0
  go_wp2
  go_ret
  exact ⟨A, m, m, hm, rfl, rfl, hr⟩
theorem wordAt_any (A : Option Addr) (n c B i : Nat) (xs : List Nat) (w : World) (h : NR w B A n c xs) (hn : n ≤ 1000000) (hi : i ≤ 1000001) :
    Calls Tryz.prog 157 #[.slice A n c, .int .i64 (i : Int)] w fun e w' => e = .returned (.int .u64 ((xs[i]?.getD 0 : Nat) : Int)) ∧ w = w' := by
 by_cases hlt : i < n
 ·obtain ⟨ad, x, rfl, hb, hxb, hx, hc⟩ := h.at_ hlt
  have HX := Lib.hid hx
  clear hx
  go_enter Tryz.func157, Tryz.ntmps157
  go_wp2
  go_ret
  exact ⟨congrArg Ending.returned (u64_eq (by rw [HX.out]; rfl)), rfl⟩
 ·have H := Lib.hid (List.getElem?_eq_none (l := xs) (i := i) (by rw [h.len]; omega))
  go_enter Tryz.func157, Tryz.ntmps157
  go_wp2
  go_ret
  exact ⟨congrArg Ending.returned (u64_eq (by rw [H.out]; rfl)), rfl⟩
theorem info_u64N : (Tryz.prog.info? 22).map (fun i => (i.zero, i.size, i.bytes)) = some (some (.int .u64 0), 1, 8) := by kernel_rfl
theorem below_drewNN {B : Nat} {a w : World} (h : Below B a w) (n : Nat) : Below B a (w.drewN n) := ⟨h.os, h.tape, h.output, h.size, h.block⟩
end Go.Proofs.YtjikdbcjabopnaaGreatDoor
