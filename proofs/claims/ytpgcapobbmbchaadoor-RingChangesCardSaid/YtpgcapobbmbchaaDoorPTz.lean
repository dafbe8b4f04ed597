/-
  What math/bits TrailingZeros64 and testOf of package prime answer.
-/
import Derived.Test.YtpgcapobbmbchaaDoorPExt
import Derived.Test.YtpgcapobbmbchaaDoorPMath
import Derived.Laws.Bits64b
namespace Go.Proofs.YtpgcapobbmbchaaDoor
open Go.RowKit
set_option linter.unusedVariables false

/-- The two tables of the program, as their initialisers lay them. -/
structure Tabs (w : World) : Prop where
  tz : ∀ j, j < 64 → w.cell? ⟨3, j, none⟩ = some (.int .u8 ((Lib.deBruijn64tab.getD j 0 : Nat) : Int))
  ba : ∀ j, j < 12 → w.cell? ⟨0, j, none⟩ = some (.int .u64 ((L12.getD j 0 : Nat) : Int))

set_option maxHeartbeats 1000000 in
theorem tz64_core (x k idx : Nat) (w : World) (hx0 : ((x : Int) == 0) = false)
    (key : IntKind.u64.wrap (bits BinOp.and IntKind.u64 (x : Int) (IntKind.u64.wrap (-(x : Int))) * 285870213051353865) / 288230376151711744 = (idx : Int))
    (hi : idx < 64) (hk : k < 64) (hcell : w.cell? ⟨3, idx, none⟩ = some (.int .u8 k)) :
    Calls Tryd.prog 162 #[.int .u64 x] w fun e w' => e = .returned (.int .i64 k) ∧ w = w' := by
  go_enter Tryd.func162, Tryd.ntmps162
  go_wp2_with (simp only [key])
  go_ret
  exact ⟨rfl, rfl⟩
theorem tz64_key (x a : Nat) (hx : x < 18446744073709551616) (hx0 : x ≠ 0) (hlow : x &&& (18446744073709551616 - x) = a) :
    IntKind.u64.wrap (bits BinOp.and IntKind.u64 (x : Int) (IntKind.u64.wrap (-(x : Int))) * 285870213051353865) / 288230376151711744 = ((a * 285870213051353865 % 18446744073709551616 / 288230376151711744 : Nat) : Int) := by
  have e1 : IntKind.u64.wrap (-(x : Int)) = ((18446744073709551616 - x : Nat) : Int) := by rw [IntKind.wrap_u64]; omega
  rw [e1, bits_and_u64_nat x _ hx (by omega), hlow, IntKind.wrap_u64]
  omega
theorem tz_any (x : Nat) (w : World) (hx0 : x ≠ 0) (hx : x < 18446744073709551616) (hT : Tabs w) :
    Calls Tryd.prog 162 #[.int .u64 (x : Int)] w fun e w' => e = .returned (.int .i64 ((ctzF 64 x : Nat) : Int)) ∧ w = w' := by
  obtain ⟨hlow, hk⟩ := Lib.lowest_bit 64 x hx0 hx
  obtain ⟨hi, htab⟩ := Lib.deBruijn64_at _ hk
  have hcell := hT.tz _ hi
  rw [htab] at hcell
  have e : Lib.ctz 64 x = ctzF 64 x := by rw [ctzF_lib]; simp [Lib.ctz, hx0]
  rw [← e]
  exact tz64_core x _ _ w (by simp; omega) (tz64_key x _ hx hx0 hlow) hi hk hcell
theorem ctzF_lt (x : Nat) (h0 : 0 < x) (h : x < 18446744073709551616) : ctzF 64 x < 64 ∧ ∃ m, x = 2 ^ ctzF 64 x * (2 * m + 1) := by
  obtain ⟨m, hm, hk⟩ := Lib.ctzFrom_spec 64 x h0 h
  rw [ctzF_lib]
  exact ⟨hk, m, hm⟩
theorem Tabs.ext {a b : World} (h : Tabs a) (k : Ext a b) : Tabs b := ⟨fun j hj => cell_ext k (h.tz j hj), fun j hj => cell_ext k (h.ba j hj)⟩
theorem testOf_any (n : Nat) (w : World) (h0 : 2 ≤ n) (hn : n < 18446744073709551616) (hT : Tabs w) :
    Calls Tryd.prog 145 #[.int .u64 (n : Int)] w fun e w' => e = .returned (.agg #[.int .u64 (n : Int), .int .u64 ((oddS n : Nat) : Int), .int .i64 ((tzS n : Nat) : Int)]) ∧ Ext w w' := by
  have tz_def : ctzF 64 (n - 1) = tzS n := by unfold tzS; rfl
  have hc := (ctzF_lt (n - 1) (by omega) (by omega)).1
  rw [tz_def] at hc
  have e1 : (n : Int) - 1 = ((n - 1 : Nat) : Int) := by omega
  have hd : ((n : Int) - 1) / 2 ^ tzS n = ((oddS n : Nat) : Int) := by
    rw [oddS, e1, Int.natCast_ediv, Int.natCast_pow]; rfl
  have HD := Lib.hid hd
  have HTT := Lib.hid tz_def
  have E1 := Lib.hid e1
  clear tz_def e1 hd
  generalize tzS n = s at *
  generalize oddS n = d at *
  go_enter Tryd.func145, Tryd.ntmps145
  go_wp2_with fail
  have hcall := tz_any (n - 1) (w.alloc (Obj.cells #[Value.int IntKind.u64 0, Value.int IntKind.u64 0, Value.int IntKind.i64 0] 177)) (by omega) (by omega) (hT.ext ((Ext.refl w).alloc _))
  rw [← E1.out, HTT.out] at hcall
  refine hcall.mono ?_
  clear hcall
  rintro e w' ⟨rfl, rfl⟩
  go_wp2
  rw [HD.out]
  exact bodyPost_ret (v := .agg #[.int .u64 (n : Int), .int .u64 (d : Int), .int .i64 (s : Int)]) (by simp [results, Tryd.results145, go_sem]) rfl ⟨rfl, (Ext.refl w).alloc _⟩
end Go.Proofs.YtpgcapobbmbchaaDoor
