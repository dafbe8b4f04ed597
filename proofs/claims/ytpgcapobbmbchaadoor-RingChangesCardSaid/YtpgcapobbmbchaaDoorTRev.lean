/-
  What math/bits Reverse64 answers: a word's bits in reverse, by six exchanges.
-/
import Derived.Test.YtpgcapobbmbchaaDoorTBits
namespace Go.Proofs.YtpgcapobbmbchaaDoor
open Go.RowKit
set_option linter.unusedVariables false
set_option maxRecDepth 100000

/-- An exchange of neighbouring groups of bits. -/
def exch (p m x : Nat) : Nat := Nat.lor (Nat.land (x / p) m) (Nat.land x m * p % 18446744073709551616)
theorem exch_lt (p m x : Nat) (hx : x < 18446744073709551616) : exch p m x < 18446744073709551616 := by
  have h1 : x / p ≤ x := Nat.div_le_self x p
  have h2 : Nat.land (x / p) m < 2 ^ 64 := Nat.lt_of_le_of_lt Nat.and_le_left (by omega)
  have h3 : Nat.land x m * p % 18446744073709551616 < 2 ^ 64 := by omega
  exact Nat.or_lt_two_pow h2 h3
theorem exch_int (p m x : Nat) (hx : x < 18446744073709551616) (hm : m < 18446744073709551616) :
    bits .or .u64 (bits .and .u64 ((x : Int) / (p : Int)) (m : Int)) (IntKind.u64.wrap (bits .and .u64 (x : Int) (m : Int) * (p : Int))) = ((exch p m x : Nat) : Int) := by
  have h1 : x / p ≤ x := Nat.div_le_self x p
  have h2 : x / p &&& m ≤ x / p := Nat.and_le_left
  rw [← Int.natCast_ediv, bits_and_u64_nat _ _ (by omega) hm, bits_and_u64_nat _ _ hx hm, wrap64u, ← Int.natCast_mul]
  rw [show (((x &&& m) * p : Nat) : Int) % 18446744073709551616 = (((x &&& m) * p % 18446744073709551616 : Nat) : Int) by omega]
  rw [bits_or_u64_nat _ _ (by omega) (by omega)]
  rfl
/-- The halves exchanged. -/
def exchH (x : Nat) : Nat := Nat.lor (x / 4294967296) (x * 4294967296 % 18446744073709551616)
theorem exchH_int (x : Nat) (hx : x < 18446744073709551616) :
    bits .or .u64 ((x : Int) / 4294967296) (IntKind.u64.wrap ((x : Int) * 4294967296)) = ((exchH x : Nat) : Int) := by
  rw [wrap64u, show (x : Int) / 4294967296 = ((x / 4294967296 : Nat) : Int) by omega, show (x : Int) * 4294967296 % 18446744073709551616 = ((x * 4294967296 % 18446744073709551616 : Nat) : Int) by omega]
  rw [bits_or_u64_nat _ _ (by omega) (by omega)]
  rfl
theorem exchH_lt (x : Nat) (hx : x < 18446744073709551616) : exchH x < 18446744073709551616 := by
  have h2 : x / 4294967296 < 2 ^ 64 := by omega
  have h3 : x * 4294967296 % 18446744073709551616 < 2 ^ 64 := by omega
  exact Nat.or_lt_two_pow h2 h3
/-- All exchanges. -/
def revB (x : Nat) : Nat := exchH (exch 65536 281470681808895 (exch 256 71777214294589695 x))
def revW (x : Nat) : Nat := revB (exch 16 1085102592571150095 (exch 4 3689348814741910323 (exch 2 6148914691236517205 x)))
theorem revW_lt (x : Nat) (hx : x < 18446744073709551616) : revW x < 18446744073709551616 :=
  exchH_lt _ (exch_lt _ _ _ (exch_lt _ _ _ (exch_lt _ _ _ (exch_lt _ _ _ (exch_lt _ _ _ hx)))))

set_option maxHeartbeats 1000000 in
theorem revBytes_any (x : Nat) (w : World) (hx : x < 18446744073709551616) :
    Calls Tryd.prog 183 #[.int .u64 (x : Int)] w fun e w' => e = .returned (.int .u64 ((revB x : Nat) : Int)) ∧ w = w' := by
  have g1 := exch_int 256 71777214294589695 x hx (by omega)
  have l1 := exch_lt 256 71777214294589695 x hx
  have g2 := exch_int 65536 281470681808895 _ l1 (by omega)
  have l2 := exch_lt 65536 281470681808895 _ l1
  have g3 := exchH_int _ l2
  have HB := Lib.hid (show revB x = exchH (exch 65536 281470681808895 (exch 256 71777214294589695 x)) from rfl)
  generalize exch 256 71777214294589695 x = x1 at *
  generalize exch 65536 281470681808895 x1 = x2 at *
  generalize exchH x2 = x3 at *
  rw [HB.out]
  clear HB
  simp only [Int.cast_ofNat_Int] at g1 g2
  go_enter Tryd.func183, Tryd.ntmps183
  go_wp2
  go_ret
  exact ⟨rfl, rfl⟩
set_option maxHeartbeats 1000000 in
theorem rev_any (x : Nat) (w : World) (hx : x < 18446744073709551616) :
    Calls Tryd.prog 180 #[.int .u64 (x : Int)] w fun e w' => e = .returned (.int .u64 ((revW x : Nat) : Int)) ∧ w = w' := by
  have g1 := exch_int 2 6148914691236517205 x hx (by omega)
  have l1 := exch_lt 2 6148914691236517205 x hx
  have g2 := exch_int 4 3689348814741910323 _ l1 (by omega)
  have l2 := exch_lt 4 3689348814741910323 _ l1
  have g3 := exch_int 16 1085102592571150095 _ l2 (by omega)
  have l3 := exch_lt 16 1085102592571150095 _ l2
  have HB := Lib.hid (show revW x = revB (exch 16 1085102592571150095 (exch 4 3689348814741910323 (exch 2 6148914691236517205 x))) from rfl)
  generalize exch 2 6148914691236517205 x = x1 at *
  generalize exch 4 3689348814741910323 x1 = x2 at *
  generalize exch 16 1085102592571150095 x2 = x3 at *
  rw [HB.out]
  clear HB
  simp only [Int.cast_ofNat_Int] at g1 g2 g3
  go_enter Tryd.func180, Tryd.ntmps180
  go_wp2_with fail
  refine (revBytes_any x3 _ l3).mono ?_
  rintro e w' ⟨rfl, rfl⟩
  go_wp2
  go_ret
  exact ⟨rfl, rfl⟩

/-- The bits of a number in reverse, k of them. -/
def rev : Nat → Nat → Nat
  | 0, _ => 0
  | k + 1, x => (x % 2) * 2 ^ k + rev k (x / 2)
def revRun (k : Nat) : Nat → Bool
  | 0 => true
  | n + 1 => (Nat.beq (revW n / 2 ^ (64 - k)) (rev k n)) && revRun k n
theorem revRun_spec {k : Nat} : ∀ n, revRun k n = true → ∀ x, x < n → revW x / 2 ^ (64 - k) = rev k x
  | 0, _, x, hx => by omega
  | n + 1, h, x, hx => by
    rw [revRun, Bool.and_eq_true] at h
    rcases Nat.lt_or_eq_of_le (Nat.le_of_lt_succ hx) with g | g
    · exact revRun_spec n h.2 x g
    · subst g; exact Nat.eq_of_beq_eq_true h.1
theorem revAll : (revRun 1 2 && revRun 2 4 && revRun 3 8 && revRun 4 16 && revRun 5 32 && revRun 6 64 && revRun 7 128 && revRun 8 256 && revRun 9 512) = true := by decide +kernel
theorem rev_top {k x : Nat} (h0 : 1 ≤ k) (h1 : k ≤ 9) (hx : x < 2 ^ k) : revW x / 2 ^ (64 - k) = rev k x := by
  have h := revAll
  simp only [Bool.and_eq_true] at h
  obtain ⟨⟨⟨⟨⟨⟨⟨⟨a, b⟩, c⟩, d⟩, e⟩, f⟩, g⟩, i⟩, j⟩ := h
  rcases (show k = 1 ∨ k = 2 ∨ k = 3 ∨ k = 4 ∨ k = 5 ∨ k = 6 ∨ k = 7 ∨ k = 8 ∨ k = 9 by omega) with rfl | rfl | rfl | rfl | rfl | rfl | rfl | rfl | rfl
  · exact revRun_spec 2 a x hx
  · exact revRun_spec 4 b x hx
  · exact revRun_spec 8 c x hx
  · exact revRun_spec 16 d x hx
  · exact revRun_spec 32 e x hx
  · exact revRun_spec 64 f x hx
  · exact revRun_spec 128 g x hx
  · exact revRun_spec 256 i x hx
  · exact revRun_spec 512 j x hx
end Go.Proofs.YtpgcapobbmbchaaDoor
