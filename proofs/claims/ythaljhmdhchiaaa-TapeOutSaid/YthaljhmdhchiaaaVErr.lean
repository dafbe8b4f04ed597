/-
  What OnesCount64 of math/bits answers for numbers of sixteen bits, and Error of package tape.
-/
import Derived.Test.YthaljhmdhchiaaaVCall
namespace Go.Proofs.Ythaljhmdhchiaaa
open Go.RowKit
set_option linter.unusedVariables false
set_option maxRecDepth 100000

theorem ret_i64 {a b : Int} (h : a = b) : Ending.returned (.int .i64 a) = .returned (.int .i64 b) := by rw [h]
theorem ret_bool {a b : Bool} (h : a = b) : Ending.returned (.bool a) = .returned (.bool b) := by rw [h]
theorem mayWidth_yes (n : Nat) (w : World) (h0 : 1 ≤ n) (h1 : n ≤ 16) :
    Calls Try.prog 20 #[.int .i64 (n : Int)] w fun e w' => e = .returned (.bool true) ∧ w = w' := by
  go_enter Try.func20, Try.ntmps20
  go_wp2
  go_ret
  exact ⟨ret_bool (decide_eq_true (by omega)), rfl⟩
theorem land_int (x m : Nat) (hx : x < 18446744073709551616) (hm : m < 18446744073709551616) : bits .and .u64 (x : Int) (m : Int) = ((Nat.land x m : Nat) : Int) := bits_and_u64_nat _ _ hx hm
theorem and127 (x : Nat) (hx : x < 4194304) : bits .and .i64 (x : Int) 127 = ((x % 128 : Nat) : Int) := by
  show IntKind.i64.wrap ((BitVec.ofInt 64 (x : Int) &&& BitVec.ofInt 64 127).toNat : Int) = _
  rw [BitVec.toNat_and, show (BitVec.ofInt 64 (x : Int)).toNat = x by rw [BitVec.ofInt_natCast, BitVec.toNat_ofNat]; exact Nat.mod_eq_of_lt (by omega), show (BitVec.ofInt 64 127).toNat = 2 ^ 7 - 1 by decide, Nat.and_two_pow_sub_one_eq_mod, IntKind.wrap_i64]
  omega
set_option maxHeartbeats 1000000 in
theorem ones_any (x : Nat) (w : World) (hx : x < 65536) :
    Calls Try.prog 22 #[.int .u64 (x : Int)] w fun e w' => e = .returned (.int .i64 (popS x : Int)) ∧ w = w' := by
  have a1 := land_int (x / 2) 6148914691236517205 (by omega) (by omega)
  have a2 := land_int x 6148914691236517205 (by omega) (by omega)
  have b1 := land_le (x / 2) 6148914691236517205
  have b2 := land_le x 6148914691236517205
  have lA := popA_le hx
  have a3 := land_int (popA x / 4) 3689348814741910323 (by omega) (by omega)
  have a4 := land_int (popA x) 3689348814741910323 (by omega) (by omega)
  have b3 := land_le (popA x / 4) 3689348814741910323
  have b4 := land_le (popA x) 3689348814741910323
  have lB := popB_le lA
  have a5 := land_int (popB (popA x) / 16 + popB (popA x)) 1085102592571150095 (by omega) (by omega)
  have lC := popC_le lB
  have lD := popD_le lC
  have lE := popE_le lD
  have lF := popF_le lE
  have a6 := and127 _ lF
  have eA : popA x = Nat.land (x / 2) 6148914691236517205 + Nat.land x 6148914691236517205 := rfl
  have eB : popB (popA x) = Nat.land (popA x / 4) 3689348814741910323 + Nat.land (popA x) 3689348814741910323 := rfl
  have eC : popC (popB (popA x)) = Nat.land (popB (popA x) / 16 + popB (popA x)) 1085102592571150095 := rfl
  have eD : popD (popC (popB (popA x))) = popC (popB (popA x)) + popC (popB (popA x)) / 256 := rfl
  have eE : popE (popD (popC (popB (popA x)))) = popD (popC (popB (popA x))) + popD (popC (popB (popA x))) / 65536 := rfl
  have eF : popF (popE (popD (popC (popB (popA x))))) = popE (popD (popC (popB (popA x)))) + popE (popD (popC (popB (popA x)))) / 4294967296 := rfl
  have eS : popS x = popF (popE (popD (popC (popB (popA x))))) % 128 := rfl
  generalize popS x = s at *
  generalize popF (popE (popD (popC (popB (popA x))))) = f at *
  generalize popE (popD (popC (popB (popA x)))) = e at *
  generalize popD (popC (popB (popA x))) = d at *
  generalize popC (popB (popA x)) = c at *
  generalize popB (popA x) = b at *
  generalize popA x = a at *
  rw [← eC] at a5
  generalize Nat.land (x / 2) 6148914691236517205 = u1 at *
  generalize Nat.land x 6148914691236517205 = u2 at *
  generalize Nat.land (a / 4) 3689348814741910323 = u3 at *
  generalize Nat.land a 3689348814741910323 = u4 at *
  subst eA
  subst eB
  clear eC
  subst eD eE eF eS
  simp only [Int.cast_ofNat_Int, Int.natCast_add, Int.natCast_ediv] at a1 a2 a3 a4 a5 a6
  go_enter Try.func22, Try.ntmps22
  go_wp2
  go_ret
  exact ⟨ret_i64 (by omega), rfl⟩
theorem low_int (n : Nat) (h1 : n ≤ 16) : IntKind.u64.wrap (IntKind.u64.wrap (2 ^ n) - 1) = ((2 ^ n - 1 : Nat) : Int) := by
  have h2 : 2 ^ n ≤ 2 ^ 16 := Nat.pow_le_pow_right (by omega) h1
  have h0 := Nat.two_pow_pos n
  rw [show (2 : Int) ^ n = ((2 ^ n : Nat) : Int) by rw [Int.natCast_pow]; rfl]
  generalize 2 ^ n = k at *
  rw [IntKind.wrap_u64, IntKind.wrap_u64]
  omega
theorem low_and (n x : Nat) (h1 : n ≤ 16) (hx : x < W64) : bits .and .u64 (x : Int) ((2 ^ n - 1 : Nat) : Int) = ((x % 2 ^ n : Nat) : Int) := by
  have h2 : 2 ^ n ≤ 2 ^ 16 := Nat.pow_le_pow_right (by omega) h1
  rw [W64_eq] at hx
  rw [bits_and_u64_nat _ _ hx (by omega), Nat.and_two_pow_sub_one_eq_mod]
theorem high_and (n x : Nat) (h1 : n ≤ 16) (hx : x < W64) : bits .and .u64 ((x : Int) / 2 ^ n) ((2 ^ n - 1 : Nat) : Int) = ((x / 2 ^ n % 2 ^ n : Nat) : Int) := by
  have := low_and n (x / 2 ^ n) h1 (Nat.lt_of_le_of_lt (Nat.div_le_self _ _) hx)
  rw [← this, Int.natCast_ediv, Int.natCast_pow]
  rfl
/-- What Error answers. -/
def EPost (w : World) (p n : Nat) (l : List Nat) (e : Ending) (w' : World) : Prop :=
  (∃ x r, l = x :: r ∧ e = .returned (.tuple #[.int .i64 (errS n x), .int .i64 0]) ∧ Tp w' p r ∧ On p w w') ∨
  (l = [] ∧ e = .returned (.tuple #[.int .i64 0, .int .i64 11]) ∧ Tp w' p [] ∧ On p w w')
theorem first_true {l r : List Nat} {x : Nat} (h : firstS (fun _ => true) l = (some x, r)) : l = x :: r := by
  cases l with
  | nil => simp [firstS] at h
  | cons y l => simp [firstS] at h; rw [h.1, h.2]
theorem first_void {l : List Nat} (h : firstS (fun _ => true) l = (none, [])) : l = [] := by
  cases l with
  | nil => rfl
  | cons y l => simp [firstS] at h
theorem ret_pair {a b : Int} {v : Value} (h : a = b) : Ending.returned (.tuple #[.int .i64 a, v]) = .returned (.tuple #[.int .i64 b, v]) := by rw [h]
theorem quiet_V {P : Program} {f : FuncId} {args : Array Value} {w : World} {n : Nat} {v : Value} (h : Calls P f args (w.drewN n) fun e w' => e = .returned v ∧ w.drewN n = w') : Calls P f args (w.drewN n) fun e w'' => e = .returned v ∧ ∃ m, w'' = w.drewN m :=
  h.mono fun _ _ ⟨he, hm⟩ => ⟨he, n, hm.symm⟩
set_option maxHeartbeats 1000000 in
theorem error_any (p n : Nat) (l : List Nat) (w : World) (hT : Hid (Tp w p l)) (hn : l.length ≤ 100000) (h0 : 1 ≤ n) (h16 : n ≤ 16) :
    Calls Try.prog 10 #[.pointer (some ⟨p, 0, none⟩), .int .i64 (n : Int)] w (EPost w p n l) := by
  have h2 : 2 ^ n ≤ 2 ^ 16 := Nat.pow_le_pow_right (by omega) h16
  have HN := Lib.hid (low_int n h16)
  have H2 := Lib.hid (Nat.two_pow_pos n)
  have H3 := Lib.hid h2
  clear h2
  go_enter Try.func10, Try.ntmps10
  go_wp2_with (go_at_call 20; refine (mayWidth_yes n _ h0 h16).mono ?_; rintro ee w2 ⟨rfl, rfl⟩)
  refine (first_any 21 #[] (fun _ => true) p l w hT hn (Lib.hid Try.call21) (Lib.hid (asks_true p w))).mono ?_
  rintro ee w2 (⟨x, r, h1, h2, rfl, h4, h5⟩ | ⟨h1, rfl, h4, h5⟩)
  · have G1 := Lib.hid (first_true h1)
    have G4 := Lib.hid h4
    have G5 := Lib.hid h5
    have A1 := Lib.hid (low_and n x h16 h2)
    have A2 := Lib.hid (high_and n x h16 h2)
    have L1 := Lib.hid (Nat.mod_lt x H2.out)
    have L2 := Lib.hid (Nat.mod_lt (x / 2 ^ n) H2.out)
    have HS := Lib.hid (show errS n x = (popS (x % 2 ^ n) : Int) - (popS (x / 2 ^ n % 2 ^ n) : Int) from rfl)
    have q1 := popS_le h16 L1.out
    have q2 := popS_le h16 L2.out
    rw [W64_eq] at h2
    clear h1 h4 h5
    go_wp2
    rw [HN.out]
    have a1 := A1.out
    have a2 := A2.out
    have l1 : x % 2 ^ n < 65536 := by have := L1.out; have := H3.out; omega
    have l2 : x / 2 ^ n % 2 ^ n < 65536 := by have := L2.out; have := H3.out; omega
    generalize x % 2 ^ n = y1 at *
    generalize x / 2 ^ n % 2 ^ n = y2 at *
    have hw : IntKind.i64.wrap ((popS y1 : Int) - (popS y2 : Int)) = (popS y1 : Int) - (popS y2 : Int) := by rw [IntKind.wrap_i64]; omega
    generalize 2 ^ n - 1 = M at *
    go_quiet ((go_at_call 22; exact quiet_V (ones_any _ _ (by omega))))
    clear hw
    go_wp2
    go_ret2
    exact .inl ⟨x, r, G1.out, ret_pair (by rw [HS.out]), G4.out.ext ((Ext.refl _).drewN _), G5.out.drewN _⟩
  · have G1 := Lib.hid (first_void h1)
    have G4 := Lib.hid h4
    have G5 := Lib.hid h5
    have A1 := Lib.hid (low_and n 0 h16 (by rw [W64_eq]; omega))
    clear h1 h4 h5
    go_wp2
    rw [HN.out]
    have a1 := A1.out
    have s0 : popS 0 = 0 := by decide
    simp only [Nat.zero_mod, Int.natCast_zero] at a1
    generalize 2 ^ n - 1 = M at *
    have o1 := ones_any 0
    rw [s0] at o1
    simp only [Int.natCast_zero] at o1
    clear s0
    go_quiet ((go_at_call 22; exact quiet_V (o1 _ (by omega))))
    go_wp2
    go_ret2
    exact .inr ⟨G1.out, rfl, G4.out.ext ((Ext.refl _).drewN _), G5.out.drewN _⟩
theorem error_nil (n : Int) (w : World) (h0 : -9223372036854775808 ≤ n) (h1 : n < 9223372036854775808) :
    Calls Try.prog 10 #[.pointer none, .int .i64 n] w fun e w' => e = .returned (.tuple #[.int .i64 0, .int .i64 1]) ∧ w = w' := by
  go_enter Try.func10, Try.ntmps10
  go_wp2
  go_ret2
  exact ⟨rfl, rfl⟩
end Go.Proofs.Ythaljhmdhchiaaa
