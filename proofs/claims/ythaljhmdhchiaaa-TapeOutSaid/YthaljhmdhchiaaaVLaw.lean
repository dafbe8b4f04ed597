/-
  The laws TapeNil and TapeOut, walked.
-/
import Derived.Test.YthaljhmdhchiaaaVFix
namespace Go.Proofs.Ythaljhmdhchiaaa
open Go.RowKit
set_option linter.unusedVariables false
set_option maxRecDepth 100000

set_option maxHeartbeats 4000000 in
theorem tapeNil_walk (w : World) {q : Nat} {n : Int} (hq : q < 18446744073709551616) (h0 : -9223372036854775808 ≤ n) (h1 : n < 9223372036854775808) :
    Calls Try.prog 5 #[.int .u64 (q : Int), .int .i64 n] w fun e w' => e = .returned (.bool true) ∧ Ext w w' := by
  go_enter Try.func5, Try.ntmps5
  go_wp2_with fail
  refine (fixed_any w).mono ?_
  rintro e w1 ⟨rfl, k1⟩
  have K1 := Lib.hid k1
  clear k1
  go_wp2_with (first
    | (go_at_call 8; refine (below_nil q _ hq).mono ?_; rintro e w2 ⟨rfl, rfl⟩)
    | (go_at_call 9; refine (ternary_nil _).mono ?_; rintro e w2 ⟨rfl, rfl⟩)
    | (go_at_call 10; refine (error_nil n _ h0 h1).mono ?_; rintro e w2 ⟨rfl, rfl⟩)
    | (go_at_call 14; refine (uniform_nil n _ _ _ _ h0 h1).mono ?_; rintro e w3 ⟨rfl, k3⟩; have K3 := Lib.hid ((K1.out.alloc _).trans k3); clear k3)
    | (go_at_call 12; refine (ternaries_nil n _ h0 h1).mono ?_; rintro e w2 ⟨rfl, rfl⟩)
    | (go_at_call 15; refine (errors_nil n n _ h0 h1 h0 h1).mono ?_; rintro e w2 ⟨rfl, rfl⟩)
    | (go_at_call 11; refine (left_nil _).mono ?_; rintro e w2 ⟨rfl, rfl⟩))
  go_ret
  exact ⟨rfl, K3.out.alloc _⟩
set_option maxHeartbeats 4000000 in
theorem tapeOut_walk (w : World) {A : Option Addr} {n c : Nat} {xs : List Nat} {q : Nat} (hX : NX w A n c xs) (hm : n ≤ maxLen) (hq : q < 18446744073709551616) :
    Calls Try.prog 4 #[.slice A n c, .int .u64 (q : Int)] w fun e w' => e = .returned (.bool true) ∧ Ext w w' := by
  have HX := Lib.hid hX
  clear hX
  go_enter Try.func4, Try.ntmps4
  go_wp2_with fail
  refine (fixed_any w).mono ?_
  rintro e w1 ⟨rfl, k1⟩
  have K1 := Lib.hid k1
  clear k1
  by_cases hn : 3000 < n
  · have hd : decide ((3000 : Int) < (n : Int)) = true := decide_eq_true (by omega)
    go_wp2
    go_ret
    exact ⟨rfl, K1.out⟩
  have hd : decide ((3000 : Int) < (n : Int)) = false := decide_eq_false (by omega)
  by_cases hq0 : q = 0
  · subst hq0
    go_wp2
    go_ret
    exact ⟨rfl, K1.out⟩
  have hz : ((q : Int) == 0) = false := by simp; omega
  go_wp2_with fail
  clear hd
  refine (new_tape A n c xs w1 (Lib.hid (HX.out.ext K1.out)) (by omega)).mono ?_
  rintro e w2 ⟨p, rfl, hp, hT, hE⟩
  have K2 := Lib.hid (K1.out.trans hE.out)
  have hwp : w.heap.size ≤ p := Nat.le_trans K1.out.size hp
  have hlen := HX.out.len
  have HT := Lib.hid (show Tp w2 p xs from hT.out)
  clear K1 hE hp hT
  go_wp2_with fail
  have hR := ternaries_any p (n + 1) xs w2 HT (by omega) (by omega) (by omega)
  rw [show ((n + 1 : Nat) : Int) = (n : Int) + 1 by omega] at hR
  refine hR.mono ?_
  clear hR
  rintro e w3 (⟨acc, r, A3, h1, _⟩ | ⟨h1, rfl, h4, h5⟩)
  · rw [← hlen, ternS_over] at h1
    cases h1
  have K3 := Lib.hid (K2.out.on h5 hwp)
  have T3 := Lib.hid h4
  clear h1 h4 h5 K2 HT hlen
  have hd2 : decide ((n : Int) < 4096) = true := decide_eq_true (by omega)
  have hd3 : decide ((4096 : Int) ≤ (n : Int)) = false := decide_eq_false (by omega)
  go_wp2_with fail
  clear hd2 hd3
  refine (below_out p q w3 T3 (by omega) hq).mono ?_
  rintro e w4 ⟨rfl, T4, O4⟩
  have K4 := Lib.hid (K3.out.on O4.out hwp)
  clear K3 T3 O4
  go_wp2_with fail
  refine (ternary_out p [] w4 T4 (by simp) rfl).mono ?_
  rintro e w5 ⟨rfl, T5, O5⟩
  have K5 := Lib.hid (K4.out.on O5.out hwp)
  clear K4 T4 O5
  go_wp2_with fail
  refine (error_out p 1 w5 T5 (by omega) (by omega)).mono ?_
  rintro e w6 ⟨rfl, T6, O6⟩
  have K6 := Lib.hid (K5.out.on O6.out hwp)
  clear K5 T5 O6
  go_wp2_with (go_at_call 11; refine (left_any p [] w6 T6 (by simp)).mono ?_; rintro e w8 ⟨rfl, rfl⟩; rw [show (([] : List Nat).length : Int) = 0 from rfl])
  go_ret
  exact ⟨rfl, K6.out⟩
end Go.Proofs.Ythaljhmdhchiaaa
