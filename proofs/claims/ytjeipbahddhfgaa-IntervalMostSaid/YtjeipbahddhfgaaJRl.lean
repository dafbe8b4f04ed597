/-
  What ruleOf answers.
-/
import Derived.Test.YtjeipbahddhfgaaJCk
import Derived.Laws.EntriesVeiled
namespace Go.Proofs.Ytjeipbahddhfgaa
open Go.RowKit
set_option linter.unusedVariables false
set_option maxRecDepth 100000

theorem rule1 (k : Int) (hk : k = 1) (w : World) : Calls Try.prog 45 #[.int .i64 k] w fun e w' => e = .returned (.agg #[.int .i64 12, .func (.func 63) #[] #[], .func (.func 64) #[] #[]]) ∧ Ext w w' := by
  subst hk
  go_enter Try.func45, Try.ntmps45
  go_wp2
  exact bodyPost_ret (v := .agg #[.int .i64 12, .func (.func 63) #[] #[], .func (.func 64) #[] #[]]) (by simp [results, Try.results45, go_sem]) rfl ⟨rfl, (Ext.refl w).alloc _⟩
theorem rule2 (k : Int) (hk : k = 2) (w : World) : Calls Try.prog 45 #[.int .i64 k] w fun e w' => e = .returned (.agg #[.int .i64 36, .func (.func 65) #[] #[], .func (.func 64) #[] #[]]) ∧ Ext w w' := by
  subst hk
  go_enter Try.func45, Try.ntmps45
  go_wp2
  exact bodyPost_ret (v := .agg #[.int .i64 36, .func (.func 65) #[] #[], .func (.func 64) #[] #[]]) (by simp [results, Try.results45, go_sem]) rfl ⟨rfl, (Ext.refl w).alloc _⟩
theorem rule3 (k : Int) (hk : k = 3) (w : World) : Calls Try.prog 45 #[.int .i64 k] w fun e w' => e = .returned (.agg #[.int .i64 97, .func (.func 66) #[] #[], .func (.func 67) #[] #[]]) ∧ Ext w w' := by
  subst hk
  go_enter Try.func45, Try.ntmps45
  go_wp2
  exact bodyPost_ret (v := .agg #[.int .i64 97, .func (.func 66) #[] #[], .func (.func 67) #[] #[]]) (by simp [results, Try.results45, go_sem]) rfl ⟨rfl, (Ext.refl w).alloc _⟩
theorem rule4 (k : Int) (hk : k = 4) (w : World) : Calls Try.prog 45 #[.int .i64 k] w fun e w' => e = .returned (.agg #[.int .i64 101, .func (.func 68) #[] #[], .func (.func 69) #[] #[]]) ∧ Ext w w' := by
  subst hk
  go_enter Try.func45, Try.ntmps45
  go_wp2
  exact bodyPost_ret (v := .agg #[.int .i64 101, .func (.func 68) #[] #[], .func (.func 69) #[] #[]]) (by simp [results, Try.results45, go_sem]) rfl ⟨rfl, (Ext.refl w).alloc _⟩
theorem rule5 (k : Int) (hk : k = 5) (w : World) : Calls Try.prog 45 #[.int .i64 k] w fun e w' => e = .returned (.agg #[.int .i64 17, .func (.func 70) #[] #[], .func (.func 71) #[] #[]]) ∧ Ext w w' := by
  subst hk
  go_enter Try.func45, Try.ntmps45
  go_wp2
  exact bodyPost_ret (v := .agg #[.int .i64 17, .func (.func 70) #[] #[], .func (.func 71) #[] #[]]) (by simp [results, Try.results45, go_sem]) rfl ⟨rfl, (Ext.refl w).alloc _⟩
theorem rule6 (k : Int) (hk : k = 6) (w : World) : Calls Try.prog 45 #[.int .i64 k] w fun e w' => e = .returned (.agg #[.int .i64 3, .func (.func 72) #[] #[], .func (.func 73) #[] #[]]) ∧ Ext w w' := by
  subst hk
  go_enter Try.func45, Try.ntmps45
  go_wp2
  exact bodyPost_ret (v := .agg #[.int .i64 3, .func (.func 72) #[] #[], .func (.func 73) #[] #[]]) (by simp [results, Try.results45, go_sem]) rfl ⟨rfl, (Ext.refl w).alloc _⟩
theorem rule7 (k : Int) (hk : k = 7) (w : World) : Calls Try.prog 45 #[.int .i64 k] w fun e w' => e = .returned (.agg #[.int .i64 33, .func (.func 74) #[] #[], .func (.func 75) #[] #[]]) ∧ Ext w w' := by
  subst hk
  go_enter Try.func45, Try.ntmps45
  go_wp2
  exact bodyPost_ret (v := .agg #[.int .i64 33, .func (.func 74) #[] #[], .func (.func 75) #[] #[]]) (by simp [results, Try.results45, go_sem]) rfl ⟨rfl, (Ext.refl w).alloc _⟩
theorem rule8 (k : Int) (hk : k = 8) (w : World) : Calls Try.prog 45 #[.int .i64 k] w fun e w' => e = .returned (.agg #[.int .i64 33, .func (.func 76) #[] #[], .func (.func 75) #[] #[]]) ∧ Ext w w' := by
  subst hk
  go_enter Try.func45, Try.ntmps45
  go_wp2
  exact bodyPost_ret (v := .agg #[.int .i64 33, .func (.func 76) #[] #[], .func (.func 75) #[] #[]]) (by simp [results, Try.results45, go_sem]) rfl ⟨rfl, (Ext.refl w).alloc _⟩
theorem rule9 (k : Int) (hk : k = 9) (w : World) : Calls Try.prog 45 #[.int .i64 k] w fun e w' => e = .returned (.agg #[.int .i64 5, .func (.func 63) #[] #[], .func (.func 77) #[] #[]]) ∧ Ext w w' := by
  subst hk
  go_enter Try.func45, Try.ntmps45
  go_wp2
  exact bodyPost_ret (v := .agg #[.int .i64 5, .func (.func 63) #[] #[], .func (.func 77) #[] #[]]) (by simp [results, Try.results45, go_sem]) rfl ⟨rfl, (Ext.refl w).alloc _⟩
theorem rule0 (k : Int) (hk : k ≠ 1 ∧ k ≠ 2 ∧ k ≠ 3 ∧ k ≠ 4 ∧ k ≠ 5 ∧ k ≠ 6 ∧ k ≠ 7 ∧ k ≠ 8 ∧ k ≠ 9) (w : World) : Calls Try.prog 45 #[.int .i64 k] w fun e w' => e = .returned (.agg #[.int .i64 0, .nilFunc, .nilFunc]) ∧ Ext w w' := by
  obtain ⟨h1, h2, h3, h4, h5, h6, h7, h8, h9⟩ := hk
  go_enter Try.func45, Try.ntmps45
  go_wp2
  exact bodyPost_ret (v := .agg #[.int .i64 0, .nilFunc, .nilFunc]) (by simp [results, Try.results45, go_sem]) rfl ⟨rfl, (Ext.refl w).alloc _⟩
end Go.Proofs.Ytjeipbahddhfgaa
