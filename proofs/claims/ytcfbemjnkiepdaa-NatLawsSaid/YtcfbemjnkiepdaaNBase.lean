/-
  What the small calls of package nat on naturals answer: trimmed, own, wordAt, sign.
-/
import Derived.Test.YtcfbemjnkiepdaaNRead
import Derived.Test.YtcfbemjnkiepdaaNWord
namespace Go.Proofs.Ytcfbemjnkiepdaa
open Go.RowKit
set_option linter.unusedVariables false

/-- What a call answers that cuts the noughts off a natural's end: the same memory. -/
def TrimPost (A : Option Addr) (n B : Nat) (xs : List Nat) (w : World) (e : Ending) (w' : World) : Prop := ∃ m, m ≤ n ∧ e = .returned (.slice A m m) ∧ w = w' ∧ NR w B A m m (nw (nv xs))
def OwnPost (n B : Nat) (xs : List Nat) (w : World) (e : Ending) (w' : World) : Prop := ∃ A m c, m ≤ n ∧ e = .returned (.slice A m c) ∧ w = w' ∧ NR w B A m c (nw (nv xs))
theorem trim_is {A : Option Addr} {n c B m : Nat} {xs : List Nat} {w : World} (h : NR w B A n c xs) (hm : m ≤ n) (hz : ∀ (j x : Nat), m ≤ j → xs[j]? = some x → x = 0) (hl : m = 0 ∨ xs[m - 1]? ≠ some 0) : NR w B A m m (nw (nv xs)) := by
  have := h.take_ hm
  rwa [take_dg W64_two xs m h.lt (by rw [h.len]; exact hm) hz hl] at this

theorem trimmed_any (A : Option Addr) (n c B : Nat) (xs : List Nat) (w : World) (h : NR w B A n c xs) (hn : n ≤ 1000000) :
    Calls Try.prog 61 #[.slice A n c] w (TrimPost A n B xs w) := by
  have hroom := h.room
  go_enter Try.func61, Try.ntmps61
  go_wp2
  go_loop [3] (fun i => ∃ m : Nat, m ≤ n ∧ i = .int .i64 m ∧ Hid (∀ (j x : Nat), m ≤ j → xs[j]? = some x → x = 0)) (fun i => (intOf i).toNat)
  case atStart => exact ⟨n, Nat.le_refl _, rfl, Lib.hid (fun j x hj hx => by have := (List.getElem?_eq_some_iff.1 hx).1; have := h.len; omega)⟩
  case round =>
    obtain ⟨m, hm, rfl, hz⟩ := hrel
    by_cases hm0 : m = 0
    · subst hm0
      go_wp2
      go_ret
      exact ⟨0, hm, rfl, rfl, trim_is h hm hz.out (.inl rfl)⟩
    · obtain ⟨ad, x, rfl, hb, hxb, hx, hc⟩ := h.at_ (show m - 1 < n by omega)
      rw [W64_eq] at hxb
      have HX := Lib.hid hx
      clear hx
      by_cases hx0 : x = 0
      · subst hx0
        go_wp2
        refine ⟨⟨m - 1, by omega, by go_num, Lib.hid fun j x hj hx => ?_⟩, by simp [intOf]; omega⟩
        by_cases hjm : j = m - 1
        · subst hjm; rw [HX.out] at hx; exact (Option.some.inj hx).symm
        · exact hz.out j x (by omega) hx
      · have hxb : ((x : Int) == 0) = false := by simpa using hx0
        go_wp2
        go_ret
        exact ⟨m, hm, rfl, rfl, trim_is h hm hz.out (.inr (by rw [HX.out]; simpa using hx0))⟩

theorem own_any (A : Option Addr) (n c B : Nat) (xs : List Nat) (w : World) (h : NR w B A n c xs) (hn : n ≤ 1000000) :
    Calls Try.prog 67 #[.slice A n c] w (OwnPost n B xs w) := by
  go_enter Try.func67, Try.ntmps67
  go_wp2_with fail
  refine (trimmed_any A n c B xs w h hn).mono ?_
  rintro e w' ⟨m, hm, rfl, rfl, hr⟩
  by_cases hm0 : m = 0
  · subst hm0
    go_wp2
    go_ret
    exact ⟨none, 0, 0, hm, rfl, rfl, by rw [hr.eq_nil rfl]; exact Rd.none_ _ _ _ _ _ _⟩
  · have hb : ((m : Int) == 0) = false := by simpa using hm0
    go_wp2
    go_ret
    exact ⟨A, m, m, hm, rfl, rfl, hr⟩

theorem wordAt_any (A : Option Addr) (n c B i : Nat) (xs : List Nat) (w : World) (h : NR w B A n c xs) (hn : n ≤ 1000000) (hi : i ≤ 1000001) :
    Calls Try.prog 66 #[.slice A n c, .int .i64 (i : Int)] w fun e w' => e = .returned (.int .u64 ((xs[i]?.getD 0 : Nat) : Int)) ∧ w = w' := by
  by_cases hlt : i < n
  · obtain ⟨ad, x, rfl, hb, hxb, hx, hc⟩ := h.at_ hlt
    have HX := Lib.hid hx
    clear hx
    go_enter Try.func66, Try.ntmps66
    go_wp2
    go_ret
    exact ⟨congrArg Ending.returned (u64_eq (by rw [HX.out]; rfl)), rfl⟩
  · have H := Lib.hid (List.getElem?_eq_none (l := xs) (i := i) (by rw [h.len]; omega))
    go_enter Try.func66, Try.ntmps66
    go_wp2
    go_ret
    exact ⟨congrArg Ending.returned (u64_eq (by rw [H.out]; rfl)), rfl⟩

theorem sign_any (b : Bool) (w : World) : Calls Try.prog 69 #[.bool b] w fun e w' => e = .returned (.int .i64 (if b then -1 else 1)) ∧ w = w' := by
  cases b
  all_goals
    go_enter Try.func69, Try.ntmps69
    go_wp2
    go_ret
    exact ⟨rfl, rfl⟩

end Go.Proofs.Ytcfbemjnkiepdaa
