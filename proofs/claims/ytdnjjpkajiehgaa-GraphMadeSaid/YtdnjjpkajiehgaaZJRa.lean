/-
  What a kind may have, and what a node has, by the document.
-/
import Derived.Test.YtdnjjpkajiehgaaZ14
import Derived.Test.YtdnjjpkajiehgaaZ9
import Derived.Test.YtdnjjpkajiehgaaZ11
namespace Go.Proofs.Ytdnjjpkajiehgaa
open Go.RowKit
set_option linter.unusedVariables false
set_option maxRecDepth 100000

def bools (l : List Bool) : Array Value := (l.map Value.bool).toArray
theorem okL_drop {hs ms : List Bool} {j : Nat} {h b : Bool} (h1 : hs[j]? = some h) (b1 : ms[j]? = some b) : okL (hs.drop j) (ms.drop j) = ((!h || b) && okL (hs.drop (j + 1)) (ms.drop (j + 1))) := by
  obtain ⟨l1, e1⟩ := List.getElem?_eq_some_iff.1 h1
  obtain ⟨l2, e2⟩ := List.getElem?_eq_some_iff.1 b1
  rw [List.drop_eq_getElem_cons l1, List.drop_eq_getElem_cons l2, e1, e2, okL]
theorem may1 (k : Int) (hk : k = 1) (w : World) : Calls Try.prog 71 #[.int .i64 k] w fun e w' => e = .returned (.slice (some ⟨w.heap.size, 0, none⟩) 7 7) ∧ w' = w.alloc (.cells #[.bool false, .bool false, .bool true, .bool true, .bool false, .bool false, .bool false] 4) := by
  subst hk
  go_enter Try.func71, Try.ntmps71
  go_wp2
  go_ret
  exact ⟨rfl, rfl⟩
theorem may2 (k : Int) (hk : k = 2) (w : World) : Calls Try.prog 71 #[.int .i64 k] w fun e w' => e = .returned (.slice (some ⟨w.heap.size, 0, none⟩) 7 7) ∧ w' = w.alloc (.cells #[.bool false, .bool false, .bool true, .bool false, .bool false, .bool true, .bool false] 4) := by
  subst hk
  go_enter Try.func71, Try.ntmps71
  go_wp2
  go_ret
  exact ⟨rfl, rfl⟩
theorem may3 (k : Int) (hk : k = 3) (w : World) : Calls Try.prog 71 #[.int .i64 k] w fun e w' => e = .returned (.slice (some ⟨w.heap.size, 0, none⟩) 7 7) ∧ w' = w.alloc (.cells #[.bool true, .bool false, .bool false, .bool false, .bool false, .bool true, .bool true] 4) := by
  subst hk
  go_enter Try.func71, Try.ntmps71
  go_wp2
  go_ret
  exact ⟨rfl, rfl⟩
theorem may4 (k : Int) (hk : k = 4) (w : World) : Calls Try.prog 71 #[.int .i64 k] w fun e w' => e = .returned (.slice (some ⟨w.heap.size, 0, none⟩) 7 7) ∧ w' = w.alloc (.cells #[.bool true, .bool false, .bool true, .bool false, .bool false, .bool true, .bool true] 4) := by
  subst hk
  go_enter Try.func71, Try.ntmps71
  go_wp2
  go_ret
  exact ⟨rfl, rfl⟩
theorem may5 (k : Int) (hk : k = 5) (w : World) : Calls Try.prog 71 #[.int .i64 k] w fun e w' => e = .returned (.slice (some ⟨w.heap.size, 0, none⟩) 7 7) ∧ w' = w.alloc (.cells #[.bool true, .bool false, .bool false, .bool false, .bool true, .bool false, .bool false] 4) := by
  subst hk
  go_enter Try.func71, Try.ntmps71
  go_wp2
  go_ret
  exact ⟨rfl, rfl⟩
theorem may6 (k : Int) (hk : k = 6) (w : World) : Calls Try.prog 71 #[.int .i64 k] w fun e w' => e = .returned (.slice (some ⟨w.heap.size, 0, none⟩) 7 7) ∧ w' = w.alloc (.cells #[.bool true, .bool true, .bool false, .bool false, .bool false, .bool false, .bool false] 4) := by
  subst hk
  go_enter Try.func71, Try.ntmps71
  go_wp2
  go_ret
  exact ⟨rfl, rfl⟩
theorem may7 (k : Int) (hk : k = 7) (w : World) : Calls Try.prog 71 #[.int .i64 k] w fun e w' => e = .returned (.slice (some ⟨w.heap.size, 0, none⟩) 7 7) ∧ w' = w.alloc (.cells #[.bool true, .bool false, .bool false, .bool false, .bool false, .bool true, .bool false] 4) := by
  subst hk
  go_enter Try.func71, Try.ntmps71
  go_wp2
  go_ret
  exact ⟨rfl, rfl⟩
theorem may8 (k : Int) (hk : k = 8) (w : World) : Calls Try.prog 71 #[.int .i64 k] w fun e w' => e = .returned (.slice (some ⟨w.heap.size, 0, none⟩) 7 7) ∧ w' = w.alloc (.cells #[.bool true, .bool false, .bool false, .bool false, .bool false, .bool true, .bool false] 4) := by
  subst hk
  go_enter Try.func71, Try.ntmps71
  go_wp2
  go_ret
  exact ⟨rfl, rfl⟩
theorem may9 (k : Int) (hk : k = 9) (w : World) : Calls Try.prog 71 #[.int .i64 k] w fun e w' => e = .returned (.slice (some ⟨w.heap.size, 0, none⟩) 7 7) ∧ w' = w.alloc (.cells #[.bool true, .bool false, .bool true, .bool false, .bool false, .bool false, .bool false] 4) := by
  subst hk
  go_enter Try.func71, Try.ntmps71
  go_wp2
  go_ret
  exact ⟨rfl, rfl⟩
theorem may0 (k : Int) (hk : k ≠ 1 ∧ k ≠ 2 ∧ k ≠ 3 ∧ k ≠ 4 ∧ k ≠ 5 ∧ k ≠ 6 ∧ k ≠ 7 ∧ k ≠ 8 ∧ k ≠ 9) (w : World) : Calls Try.prog 71 #[.int .i64 k] w fun e w' => e = .returned (.slice none 0 0) ∧ w' = w := by
  obtain ⟨h1, h2, h3, h4, h5, h6, h7, h8, h9⟩ := hk
  go_enter Try.func71, Try.ntmps71
  go_wp2
  go_ret
  exact ⟨rfl, rfl⟩
theorem seven_at (w : World) (a0 a1 a2 a3 a4 a5 a6 : Value) (t : TypeId) : ∀ (i : Nat) (v : Value), [a0, a1, a2, a3, a4, a5, a6][i]? = some v → (w.alloc (.cells #[a0, a1, a2, a3, a4, a5, a6] t)).cell? ⟨w.heap.size, i, none⟩ = some v := by
  intro i v h
  rcases i with _ | _ | _ | _ | _ | _ | _ | i <;> simp at h <;> subst h <;> simp
set_option maxHeartbeats 4000000 in
theorem has_any (x : Nd) (As Ad Ab : Option Addr) (cs cd cb : Nat) (w : World) (hX : Hid (NdX w x As Ad Ab cs cd cb)) :
    Calls Try.prog 72 #[.agg #[.int .i64 x.k, .int .i64 x.a, .int .i64 x.b, .slice As x.sh.length cs, .int .i64 x.lo, .int .i64 x.hi, .int .i64 x.sz, .slice Ad x.da.length cd, .slice Ab x.bi.length cb]] w fun e w' => ∃ g, e = .returned (.slice (some ⟨g, 0, none⟩) 7 7) ∧ (∀ (i : Nat) (b : Bool), (hasL x)[i]? = some b → w'.cell? ⟨g, i, none⟩ = some (.bool b)) ∧ Ext w w' := by
  obtain ⟨y0, y1, y2, y3, y4, y5, y6, y7, y8⟩ := nine_at w (.int .i64 x.k) (.int .i64 x.a) (.int .i64 x.b) (.slice As x.sh.length cs) (.int .i64 x.lo) (.int .i64 x.hi) (.int .i64 x.sz) (.slice Ad x.da.length cd) (.slice Ab x.bi.length cb) 40
  have L0 := hX.out.lsh
  have L1 := hX.out.lda
  have L2 := hX.out.lbi
  by_cases hl : x.lo = 0
  · have HL := Lib.hid hl
    go_enter Try.func72, Try.ntmps72
    go_wp2
    go_ret
    refine ⟨_, rfl, ?_, ((Ext.refl w).alloc _).alloc _⟩
    intro i b hb
    rw [show w.heap.size + 1 = (w.alloc (.cells #[.int .i64 x.k, .int .i64 x.a, .int .i64 x.b, .slice As x.sh.length cs, .int .i64 0, .int .i64 x.hi, .int .i64 x.sz, .slice Ad x.da.length cd, .slice Ab x.bi.length cb] 40)).heap.size by simp]
    refine seven_at _ _ _ _ _ _ _ _ _ i _ ?_
    have hl2 := HL.out
    rcases i with _ | _ | _ | _ | _ | _ | _ | i <;> simp [hasL, hl2] at hb ⊢ <;> (first | (subst hb; first | rfl | (simp; done)) | (clear y0 y1 y2 y3 y4 y5 y6 y7 y8; cases b <;> simp_all))
  · have HL := Lib.hid hl
    go_enter Try.func72, Try.ntmps72
    go_wp2
    go_ret
    refine ⟨_, rfl, ?_, ((Ext.refl w).alloc _).alloc _⟩
    intro i b hb
    rw [show w.heap.size + 1 = (w.alloc (.cells #[.int .i64 x.k, .int .i64 x.a, .int .i64 x.b, .slice As x.sh.length cs, .int .i64 x.lo, .int .i64 x.hi, .int .i64 x.sz, .slice Ad x.da.length cd, .slice Ab x.bi.length cb] 40)).heap.size by simp]
    refine seven_at _ _ _ _ _ _ _ _ _ i _ ?_
    have hl2 := HL.out
    rcases i with _ | _ | _ | _ | _ | _ | _ | i <;> simp [hasL, hl2] at hb ⊢ <;> (first | (subst hb; first | rfl | (simp; done)) | (clear y0 y1 y2 y3 y4 y5 y6 y7 y8; cases b <;> simp_all))
end Go.Proofs.Ytdnjjpkajiehgaa
