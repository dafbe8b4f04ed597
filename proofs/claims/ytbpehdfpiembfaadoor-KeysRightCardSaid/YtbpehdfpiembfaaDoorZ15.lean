/-
  What the small calls of package nat on naturals answer: trimmed, own, wordAt, sign.
-/
import Derived.Test.YtbpehdfpiembfaaDoorZ3
import Derived.Test.YtbpehdfpiembfaaDoorZ6
import Derived.Test.YtbpehdfpiembfaaDoorZ2
namespace Go.Proofs.YtbpehdfpiembfaaDoor
open Go.RowKit
set_option linter.unusedVariables false
set_option maxRecDepth 100000

/-- What a call answers that cuts the noughts off a natural's end: the same memory. -/
def TrimPost (A : Option Addr) (n B : Nat) (xs : List Nat) (w : World) (e : Ending) (w' : World) : Prop := ∃ m, m ≤ n ∧ e = .returned (.slice A m m) ∧ w = w' ∧ NR w B A m m (nw (nv xs))
def OwnPost (n B : Nat) (xs : List Nat) (w : World) (e : Ending) (w' : World) : Prop := ∃ A m c, m ≤ n ∧ e = .returned (.slice A m c) ∧ w = w' ∧ NR w B A m c (nw (nv xs))
theorem trim_is {A : Option Addr} {n c B m : Nat} {xs : List Nat} {w : World} (h : NR w B A n c xs) (hm : m ≤ n) (hz : ∀ (j x : Nat), m ≤ j → xs[j]? = some x → x = 0) (hl : m = 0 ∨ xs[m - 1]? ≠ some 0) : NR w B A m m (nw (nv xs)) := by
  have := h.take_ hm
  rwa [take_dg W64_two xs m h.lt (by rw [h.len]; exact hm) hz hl] at this

theorem trimmed_any (A : Option Addr) (n c B : Nat) (xs : List Nat) (w : World) (h : NR w B A n c xs) (hn : n ≤ 1000000) :
    Calls Tryd.prog 69 #[.slice A n c] w (TrimPost A n B xs w) := by
  have hroom := h.room
  go_enter Tryd.func69, Tryd.ntmps69
  go_wp2
  go_loop [3] (fun i => ∃ m : Nat, m ≤ n ∧ i = .int .i64 m ∧ Hid (∀ (j x : Nat), m ≤ j → xs[j]? = some x → x = 0)) (fun i => (intOf i).toNat)
  case atStart => exact ⟨n, Nat.le_refl _, rfl, Lib.hid (fun j x hj hx => by have := (List.getElem?_eq_some_iff.1 hx).1; have := h.len; omega)⟩
  case round =>
    obtain ⟨m, hm, rfl, hz⟩ := hrel
    by_cases hm0 : m = 0
    · subst hm0
      go_wp2
      go_ret
      exact ⟨0, hm, rfl, rfl, trim_is h hm hz.out (.inl rfl)⟩
    · obtain ⟨ad, x, rfl, hb, hxb, hx, hc⟩ := h.at_ (show m - 1 < n by omega)
      rw [W64_eq] at hxb
      have HX := Lib.hid hx
      clear hx
      by_cases hx0 : x = 0
      · subst hx0
        go_wp2
        refine ⟨⟨m - 1, by omega, by go_num, Lib.hid fun j x hj hx => ?_⟩, by simp [intOf]; omega⟩
        by_cases hjm : j = m - 1
        · subst hjm; rw [HX.out] at hx; exact (Option.some.inj hx).symm
        · exact hz.out j x (by omega) hx
      · have hxb : ((x : Int) == 0) = false := by simpa using hx0
        go_wp2
        go_ret
        exact ⟨m, hm, rfl, rfl, trim_is h hm hz.out (.inr (by rw [HX.out]; simpa using hx0))⟩

theorem own_any (A : Option Addr) (n c B : Nat) (xs : List Nat) (w : World) (h : NR w B A n c xs) (hn : n ≤ 1000000) :
    Calls Tryd.prog 82 #[.slice A n c] w (OwnPost n B xs w) := by
  go_enter Tryd.func82, Tryd.ntmps82
  go_wp2_with fail
  refine (trimmed_any A n c B xs w h hn).mono ?_
  rintro e w' ⟨m, hm, rfl, rfl, hr⟩
  by_cases hm0 : m = 0
  · subst hm0
    go_wp2
    go_ret
    exact ⟨none, 0, 0, hm, rfl, rfl, by rw [hr.eq_nil rfl]; exact Rd.none_ _ _ _ _ _ _⟩
  · have hb : ((m : Int) == 0) = false := by simpa using hm0
    go_wp2
    go_ret
    exact ⟨A, m, m, hm, rfl, rfl, hr⟩

end Go.Proofs.YtbpehdfpiembfaaDoor

/-
  What the calls of package nat that make a natural by appending its words answer: less, Add.
-/
namespace Go.Proofs.YtbpehdfpiembfaaDoor
open Go.RowKit
set_option linter.unusedVariables false
set_option maxRecDepth 100000

theorem info_u64N : (Tryd.prog.info? 22).map (fun i => (i.zero, i.size, i.bytes)) = some (some (.int .u64 0), 1, 8) := by kernel_rfl

end Go.Proofs.YtbpehdfpiembfaaDoor

/-
  What Cmp and Sub of package nat answer for all naturals.
-/
namespace Go.Proofs.YtbpehdfpiembfaaDoor
open Go.RowKit
set_option linter.unusedVariables false
set_option maxRecDepth 100000

theorem same_quiet {P : Program} {f : FuncId} {args : Array Value} {w : World} {n : Nat} {v : Value} (h : Calls P f args (w.drewN n) fun e w' => e = .returned v ∧ w.drewN n = w') : Calls P f args (w.drewN n) fun e w'' => e = .returned v ∧ ∃ m, w'' = w.drewN m :=
  h.mono fun _ _ ⟨he, hm⟩ => ⟨he, n, hm.symm⟩
theorem same_quiet2 {P : Program} {f : FuncId} {args : Array Value} {w : World} {a n : Nat} {v : Value} (h : Calls P f args (w.drewN (a + n)) fun e w' => e = .returned v ∧ w.drewN (a + n) = w') : Calls P f args (w.drewN (a + n)) fun e w'' => e = .returned v ∧ ∃ m, w'' = w.drewN (a + m) :=
  h.mono fun _ _ ⟨he, hm⟩ => ⟨he, n, hm.symm⟩

theorem Qt.eqN3 {v u : Value} {w : World} {a b c : Nat} (h : u = v) : Qt v w (.returned u) (((w.drewN a).drewN b).drewN c) := by rw [h]; exact ⟨rfl, a + (b + c), by rw [World.drewN_drewN, World.drewN_drewN]⟩
/-- What Sub answers: the difference, or nothing and that it is below 0. -/
def SubPost (w : World) (N X Y : Nat) (e : Ending) (w' : World) : Prop :=
  (X < Y ∧ e = .returned (.tuple #[.slice none 0 0, .int .i64 5]) ∧ Below w.heap.size w w') ∨
  (Y ≤ X ∧ ∃ A n c, e = .returned (.tuple #[.slice A n c, .int .i64 0]) ∧ n ≤ N ∧ NR w' w'.heap.size A n c (nw (X - Y)) ∧ Below w.heap.size w w')
theorem below_drewNN {B : Nat} {a w : World} (h : Below B a w) (n : Nat) : Below B a (w.drewN n) := ⟨h.os, h.tape, h.output, h.size, h.block⟩

end Go.Proofs.YtbpehdfpiembfaaDoor
