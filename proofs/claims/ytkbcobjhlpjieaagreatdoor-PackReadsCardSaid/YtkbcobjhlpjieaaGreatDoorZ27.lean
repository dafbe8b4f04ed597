import Derived.Test.YtkbcobjhlpjieaaGreatDoorZ25
import Derived.Carry
import Derived.ChangeSlices
import Derived.Lib.SmallJoins
import Derived.OpenShut
import Derived.Test.YtkbcobjhlpjieaaGreatDoorZ4
namespace Go.Proofs.YtkbcobjhlpjieaaGreatDoor
open Go.RowKit
set_option linter.unusedVariables false
set_option maxRecDepth 100000
theorem bitLen_zero {n : Nat} (h : n = 0) : Go.bitLen n = 0 := by subst h; rfl
theorem bitLen_pos {n : Nat} (h : 0 < n) : 0 < Go.bitLen n := by
 obtain ⟨a, _⟩ := Go.bitLen_spec n
 rcases Nat.eq_zero_or_pos (Go.bitLen n) with h0 | h0
 ·rw [h0] at a; omega
 ·exact h0
section
variable {H : Type} {enc : TypeId × Value → H}
end
theorem bits_half {v : Nat} (h : 0 < v) : Go.bitLen v = Go.bitLen (v / 2) + 1 := by
 obtain ⟨a, b⟩ := Go.bitLen_spec (v / 2)
 rcases Nat.eq_zero_or_pos (v / 2) with h0 | h0
 ·rw [bitLen_zero h0]
  exact (bits_unique (k := 1) (by simp; omega) (by omega) (by omega)).symm
 ·have c := b (by omega)
  have hp := bitLen_pos h0
  refine (bits_unique (k := Go.bitLen (v / 2) + 1) ?_ ?_ (by omega)).symm
  ·rw [Nat.add_sub_cancel]
   have e : 2 ^ Go.bitLen (v / 2) = 2 * 2 ^ (Go.bitLen (v / 2) - 1) := by
    rw [← Nat.pow_succ']; congr 1; omega
   omega
  ·rw [Nat.pow_succ]; omega
theorem bits_digits {Y t m : Nat} (hm : (dg 65536 Y).length = m) (ht : (dg 65536 Y)[m - 1]? = some t) : 16 * (m - 1) + Go.bitLen t = Go.bitLen Y ∧ 0 < t := by
 subst hm
 have hl := (List.getElem?_eq_some_iff.1 ht).1
 have e := vl_split 65536 (dg 65536 Y) ht
 rw [List.drop_of_length_le (by omega), vl_nil, Nat.mul_zero, Nat.add_zero, vl_dg d_two] at e
 have h1 := vl_lt (b := 65536) (xs := (dg 65536 Y).take ((dg 65536 Y).length - 1)) (fun z hz => dg_lt d_two Y z (List.mem_of_mem_take hz))
 rw [List.length_take, Nat.min_eq_left (by omega)] at h1
 have hY : 0 < Y := by
  rcases Nat.eq_zero_or_pos Y with h0 | h0
  ·subst h0; simp [dg_zero] at hl
  ·exact h0
 obtain ⟨_, h2, _⟩ := dg_len d_two Y hY
 generalize (dg 65536 Y).length = m at *
 have ek : 65536 ^ (m - 1) = 2 ^ (16 * (m - 1)) := by rw [Nat.pow_mul]
 rw [ek] at h1 h2 e
 generalize (vl 65536 ((dg 65536 Y).take (m - 1))) = r at *
 have ht0 : 0 < t := by
  rcases Nat.eq_zero_or_pos t with h0 | h0
  ·subst h0; rw [Nat.mul_zero] at e; omega
  ·exact h0
 obtain ⟨b1, b2⟩ := Go.bitLen_spec t
 have b3 := b2 (by omega)
 have bp := bitLen_pos ht0
 refine ⟨bits_unique ?_ ?_ (by omega), ht0⟩
 ·rw [show 16 * (m - 1) + Go.bitLen t - 1 = 16 * (m - 1) + (Go.bitLen t - 1) by omega, Nat.pow_add]
  have := Nat.mul_le_mul_left (2 ^ (16 * (m - 1))) b3
  omega
 ·rw [Nat.pow_add]
  have := Nat.mul_le_mul_left (2 ^ (16 * (m - 1))) (show t + 1 ≤ 2 ^ Go.bitLen t by omega)
  rw [Nat.mul_add, Nat.mul_one] at this
  omega
theorem rbitsX {A : Option Addr} {n c : Nat} {xs : List Nat} {w : World} (h : NXN w A n c xs) (hn : n ≤ 2000) :
    Calls Tryz.prog 86 #[.slice A n c] w fun e w' => e = .returned (.int .i64 (Go.bitLen (nv xs) : Nat)) ∧ ExtN w w' := by
 go_enter Tryz.func86, Tryz.ntmps86
 go_wp2_with fail
 refine (digX h (by omega)).mono ?_
 rintro e w1 ⟨A1, n1, c1, rfl, hn1, d1, k1⟩
 by_cases hm0 : n1 = 0
 ·subst hm0
  have H := Lib.hid (dg_nil d_two (d1.eq_nil rfl))
  go_wp2
  go_ret
  refine ⟨congrArg Ending.returned (i64_eq ?_), k1⟩
  rw [H.out]; rfl
 ·have hmb : ((n1 : Int) == 0) = false := by simpa using hm0
  obtain ⟨ad, t, rfl, hb, htb, ht, hc⟩ := d1.at_ (show n1 - 1 < n1 by omega)
  obtain ⟨hbl, ht0⟩ := bits_digits d1.len ht
  have H := Lib.hid hbl
  clear ht hbl
  go_wp2
  go_loop [4, 5] (fun s v => ∃ (k V : Nat), V < 65536 ∧ k + V ≤ 200000 ∧ s = .int .i64 (k : Int) ∧ v = .int .i64 (V : Int) ∧ Hid (k + Go.bitLen V = Go.bitLen (nv xs))) (fun _ v => (intOf v).toNat)
  case atStart => exact ⟨16 * (n1 - 1), t, htb, by omega, by go_num, rfl, H⟩
  case round =>
   obtain ⟨k, V, hV, hk, rfl, rfl, hi⟩ := hrel
   by_cases hV0 : V = 0
   ·subst hV0
    go_wp2
    go_ret
    refine ⟨congrArg Ending.returned (i64_eq ?_), k1⟩
    have := hi.out
    rw [bitLen_zero rfl, Nat.add_zero] at this
    rw [this]
   ·have HN := Lib.hid (show k + 1 + Go.bitLen (V / 2) = Go.bitLen (nv xs) by have := hi.out; rw [bits_half (v := V) (by omega)] at this; omega)
    go_wp2
    exact ⟨⟨k + 1, V / 2, by omega, by omega, by go_num, by go_num, HN⟩, by simp [intOf] <;> omega⟩
end Go.Proofs.YtkbcobjhlpjieaaGreatDoor
