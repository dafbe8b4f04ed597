/-
  What Digits, From, plus and less of the reference of layer 2 answer.
-/
import Derived.Test.YtcfbemjnkiepdaaRDig
import Derived.Test.YtcfbemjnkiepdaaRMath
namespace Go.Proofs.Ytcfbemjnkiepdaa
open Go.RowKit
set_option linter.unusedVariables false

theorem dig_int {x i : Nat} : wrap64 (((x : Int) / 2 ^ (16 * i)).tmod 65536) = ((x / 65536 ^ i % 65536 : Nat) : Int) := by
  rw [two_pow_cast, pow_16, ← Int.natCast_ediv, Int.tmod_eq_emod_of_nonneg (Int.natCast_nonneg _)]
  have : x / 65536 ^ i % 65536 < 65536 := Nat.mod_lt _ (by omega)
  rw [show ((x / 65536 ^ i : Nat) : Int) % 65536 = ((x / 65536 ^ i % 65536 : Nat) : Int) from (Int.natCast_emod _ _).symm]
  generalize x / 65536 ^ i % 65536 = q at *
  unfold wrap64
  omega

set_option maxHeartbeats 2000000 in
theorem digits_any (A : Option Addr) (n c : Nat) (xs : List Nat) (w : World) (h : NR w w.heap.size A n c xs) (hn : n ≤ 10000) :
    Calls Try.prog 64 #[.slice A n c] w (DigPost w (4 * n) (dg 65536 (nv xs))) := by
  obtain ⟨i0, hi, hz0, hz1, hz2⟩ := info_parts info_int
  go_enter Try.func64, Try.ntmps64
  go_wp2
  go_loopw [3, 9] (fun s i wr => ∃ (k : Nat) (zs : List Nat), k ≤ n ∧ i = .int .i64 k ∧ IRow w.heap.size w wr s (4 * k) zs ∧ DigInv xs k 0 0 zs) (fun _ i _ => n - (intOf i).toNat)
  case atStart => exact ⟨0, [], by omega, rfl, IRow.nil w, digInv_zero 0⟩
  case round =>
    obtain ⟨k, zs, hk, rfl, hrow, hinv⟩ := hrel
    by_cases hlt : k < n
    · obtain ⟨ad, x, rfl, hb, hxb, hx, hc⟩ := (h.below hrow.2.1).at_ hlt
      rw [W64_eq] at hxb
      have HX := Lib.hid hx
      clear hx
      have hinv0 : DigInv xs k 0 x zs := ⟨hinv.1, by rw [hinv.2]; simp [Nat.mod_one]⟩
      go_wp2
      go_loopw [3, 6] (fun s i wr => ∃ (j : Nat) (zs : List Nat), j ≤ 4 ∧ i = .int .i64 j ∧ IRow w.heap.size w wr s (4 * k + j) zs ∧ DigInv xs k j x zs) (fun _ i _ => 4 - (intOf i).toNat)
      case atStart => exact ⟨0, zs, by omega, rfl, hrow, hinv0⟩
      case round =>
        obtain ⟨j, zs, hj, rfl, hrow, hinv⟩ := hrel
        have hsz := hrow.2.1.size
        by_cases hj4 : j < 4
        · have HI := Lib.hid (dig_int (x := x) (i := j))
          have hdl : x / 65536 ^ j % 65536 < 65536 := Nat.mod_lt _ (by omega)
          go_wp2_with (at_builtin; go_loud (rw [HI.out]; refine wpList_append_own _ rfl _ _ 63 rfl w.heap.size 3 i0 (.int .i64 0) 1 8 Try.underlying63 hi hz0 hz1 hz2 rfl (by decide) _ _ _ rfl (hrow.1.alloc _) ⟨_, 0, none⟩ 1 1 [.int .i64 (x / 65536 ^ j % 65536 : Nat)] rfl rfl one_cell one_int (by unfold maxLen; omega) (by omega) (by simp; omega) ?_; intro v2 w2 hown2 hgrow2 _))
          exact ⟨⟨j + 1, _, by omega, by go_num, hrow.push hsz hdl hown2 hgrow2, hinv.step⟩, by simp [intOf]; omega⟩
        · obtain rfl : j = 4 := by omega
          go_wp2
          exact ⟨⟨k + 1, zs, by omega, by go_num, hrow, hinv.word HX.out hxb 0⟩, by simp [intOf]; omega⟩
    · obtain rfl : k = n := by omega
      have V := Lib.hid (hinv.done (by rw [h.len]; exact Nat.le_refl _))
      obtain ⟨A2, c2, rfl, hr2, hfr⟩ := hrow.rd
      go_wp2_with fail
      refine (trim_any _ _ _ _ zs _ hr2 (by omega)).mono ?_
      rintro e w' ⟨m, c3, hm, rfl, rfl, hr3⟩
      rw [V.out] at hr3
      go_wp2
      go_ret
      exact ⟨A2, m, c3, rfl, hm, hr3, hrow.2.1, hfr⟩
end Go.Proofs.Ytcfbemjnkiepdaa
