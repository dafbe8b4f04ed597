/-
  What is fixed in layer 19's laws.
-/
import Derived.Test.YtdnjjpkajiehgaaLSam
import Derived.KernelRfl
namespace Go.Proofs.Ytdnjjpkajiehgaa
open Go.RowKit
set_option linter.unusedVariables false
set_option maxRecDepth 100000

theorem add0L (ad : Addr) : ad.add 0 = ad := by
  unfold Addr.add
  split <;> simp_all
theorem cell_litL (w : World) (cs : List Value) (t : TypeId) (j : Nat) (v : Value) (h : cs[j]? = some v) (hl : cs.length ≤ 1000) : (w.alloc (.cells cs.toArray t)).cell? ⟨w.heap.size, j, none⟩ = some v := by
  have := World.ownsRow.cells (g := w.heap.size) (own_newL w t 1 cs.length cs (by omega) (by unfold maxLen; omega)) rfl j v h
  rw [Addr.add_lit, Nat.zero_add] at this
  exact this
theorem zx_litL (w : World) (l : List Int) (hl : l.length ≤ 1000) : ZX (w.alloc (.cells (i64s l).toArray 3)) (some ⟨w.heap.size, 0, none⟩) l.length l.length l :=
  ⟨rfl, Nat.le_refl _, fun _ => ⟨_, rfl, fun j z hz => by
    rw [add_own]
    exact cell_litL w (i64s l) _ j _ (by unfold i64s; rw [List.getElem?_map, hz]; rfl) (by rw [i64s_length]; exact hl)⟩⟩
theorem sx_oneL (w : World) (l : List Int) (hl : l.length ≤ 1000) : SX ((w.alloc (.cells (i64s l).toArray 3)).alloc (.cells #[.slice (some ⟨w.heap.size, 0, none⟩) l.length l.length] 38)) (some ⟨w.heap.size + 1, 0, none⟩) 1 [l] :=
  ⟨Nat.le_refl _, fun _ => ⟨_, rfl, fun j s hs => by
    rcases j with _ | j
    · simp at hs
      subst hs
      rw [add_own]
      refine ⟨some ⟨w.heap.size, 0, none⟩, l.length, ?_, (zx_litL w l hl).ext ((Ext.refl _).alloc _)⟩
      have := cell_litL (w.alloc (.cells (i64s l).toArray 3)) [.slice (some ⟨w.heap.size, 0, none⟩) l.length l.length] 38 0 _ rfl (by simp)
      rw [show (w.alloc (.cells (i64s l).toArray 3)).heap.size = w.heap.size + 1 by simp] at this
      exact this
    · simp at hs⟩⟩
theorem slots_fix : slotsR [2, 3, 1] 1 8 = .ok [0, 1, 2, 4, 5, 6] := by kernel_rfl
theorem diags_fix : diagsR [[5, 7]] [0, 1] [0] 2 = .ok [[5, 0], [7, 0]] := by kernel_rfl
set_option maxHeartbeats 4000000 in
theorem fixed19_any (w : World) : Calls Try.prog 30 #[] w fun e w' => e = .returned (.bool true) ∧ Ext w w' := by
  go_enter Try.func30, Try.ntmps30
  go_wp2_with fail
  refine (slots_any (some ⟨w.heap.size, 0, none⟩) 3 3 [2, 3, 1] 1 8 _ (Lib.hid (zx_litL w [2, 3, 1] (by decide)))).mono ?_
  rintro e1 w1 (⟨l, A1, c1, h1, rfl, h3, h4, k1⟩ | ⟨n, h1, _⟩)
  rotate_left
  · rw [slots_fix] at h1
    cases h1
  rw [slots_fix] at h1
  injection h1 with h1
  subst h1
  have KK := Lib.hid (((Ext.refl w).alloc _).trans k1)
  have HZ := Lib.hid h3
  clear h3 h4 k1
  have s1 : (w1.alloc (.cells #[.int .i64 5, .int .i64 7] 3)).heap.size = w1.heap.size + 1 := by simp
  have s2 : ((w1.alloc (.cells #[.int .i64 5, .int .i64 7] 3)).alloc (.cells #[.slice (some ⟨w1.heap.size, 0, none⟩) 2 2] 38)).heap.size = w1.heap.size + 1 + 1 := by simp
  have s3 : (((w1.alloc (.cells #[.int .i64 5, .int .i64 7] 3)).alloc (.cells #[.slice (some ⟨w1.heap.size, 0, none⟩) 2 2] 38)).alloc (.cells #[.int .i64 0, .int .i64 1] 3)).heap.size = w1.heap.size + 1 + 1 + 1 := by simp
  have z2 := zx_litL ((w1.alloc (.cells #[.int .i64 5, .int .i64 7] 3)).alloc (.cells #[.slice (some ⟨w1.heap.size, 0, none⟩) 2 2] 38)) [0, 1] (by decide)
  have z3 := zx_litL (((w1.alloc (.cells #[.int .i64 5, .int .i64 7] 3)).alloc (.cells #[.slice (some ⟨w1.heap.size, 0, none⟩) 2 2] 38)).alloc (.cells #[.int .i64 0, .int .i64 1] 3)) [0] (by decide)
  rw [s2] at z2
  rw [s3] at z3
  have H1 := Lib.hid (((sx_oneL w1 [5, 7] (by decide)).ext ((Ext.refl _).alloc (.cells #[.int .i64 0, .int .i64 1] 3))).ext ((Ext.refl _).alloc (.cells #[.int .i64 0] 3)))
  have H2 := Lib.hid (z2.ext ((Ext.refl _).alloc (.cells #[.int .i64 0] 3)))
  have H3 := Lib.hid z3
  have K4 := Lib.hid (show Ext w1 ((((w1.alloc (.cells #[.int .i64 5, .int .i64 7] 3)).alloc (.cells #[.slice (some ⟨w1.heap.size, 0, none⟩) 2 2] 38)).alloc (.cells #[.int .i64 0, .int .i64 1] 3)).alloc (.cells #[.int .i64 0] 3)) from ((((Ext.refl w1).alloc _).alloc _).alloc _).alloc _)
  clear z2 z3 s1 s2 s3
  go_wp2_with fail
  refine (diag_any (some ⟨w1.heap.size + 1, 0, none⟩) (some ⟨w1.heap.size + 1 + 1, 0, none⟩) (some ⟨w1.heap.size + 1 + 1 + 1, 0, none⟩) 1 2 1 [[5, 7]] [0, 1] [0] 2 _ (Lib.hid H1.out) (Lib.hid H2.out) (Lib.hid H3.out) (by decide) (by decide) (by decide)).mono ?_
  rintro e2 w2 (⟨ds, A2, c2, h1, rfl, h3, k2⟩ | ⟨h1, _⟩)
  rotate_left
  · rw [diags_fix] at h1
    cases h1
  rw [diags_fix] at h1
  injection h1 with h1
  subst h1
  have KK2 := Lib.hid (KK.out.trans (K4.out.trans k2))
  have HZ2 := Lib.hid (HZ.out.ext (K4.out.trans k2))
  obtain ⟨ad, rfl, hc⟩ := h3.cells (by decide)
  obtain ⟨B0, d0, q0, y0⟩ := hc 0 _ rfl
  obtain ⟨B1, d1, q1, y1⟩ := hc 1 _ rfl
  rw [add0L] at q0
  have Y0 := Lib.hid y0
  have Y1 := Lib.hid y1
  replace q1 : w2.cell? ⟨ad.block, ad.off + 1, none⟩ = _ := q1
  have Q0 := Lib.hid q0
  have Q1 := Lib.hid q1
  clear h3 hc y0 y1 q0 q1 k2 H1 H2 H3 K4 KK HZ
  go_wp2_with fail
  have kn : Ext w2 (w2.alloc (.cells #[.int .i64 0, .int .i64 1, .int .i64 2, .int .i64 4, .int .i64 5, .int .i64 6] 3)) := (Ext.refl w2).alloc _
  refine (same_any A1 (some ⟨w2.heap.size, 0, none⟩) 6 6 c1 6 [0, 1, 2, 4, 5, 6] [0, 1, 2, 4, 5, 6] _ (Lib.hid (HZ2.out.ext kn)) (Lib.hid (zx_litL w2 [0, 1, 2, 4, 5, 6] (by decide))) (by decide) (by decide)).mono ?_
  rintro e3 w3 ⟨rfl, k3⟩
  rw [show decide (([0, 1, 2, 4, 5, 6] : List Int) = [0, 1, 2, 4, 5, 6]) = true from decide_eq_true rfl]
  have K3 := Lib.hid (kn.trans k3)
  have q0 := cell_ext K3.out Q0.out
  have q0' := cell_ext ((Ext.refl w3).alloc (.cells #[.int .i64 5, .int .i64 0] 3)) q0
  clear kn k3
  go_wp2_with fail
  have kn : Ext w3 (w3.alloc (.cells #[.int .i64 5, .int .i64 0] 3)) := (Ext.refl w3).alloc _
  refine (same_any B0 (some ⟨w3.heap.size, 0, none⟩) 2 2 d0 2 [5, 0] [5, 0] _ (Lib.hid ((Y0.out.ext K3.out).ext kn)) (Lib.hid (zx_litL w3 [5, 0] (by decide))) (by decide) (by decide)).mono ?_
  rintro e4 w4 ⟨rfl, k4⟩
  rw [show decide (([5, 0] : List Int) = [5, 0]) = true from decide_eq_true rfl]
  have K4 := Lib.hid (K3.out.trans (kn.trans k4))
  have q1 := cell_ext K4.out Q1.out
  clear kn k4 q0 q0'
  go_wp2_with fail
  have kn : Ext w4 (w4.alloc (.cells #[.int .i64 7, .int .i64 0] 3)) := (Ext.refl w4).alloc _
  refine (same_any B1 (some ⟨w4.heap.size, 0, none⟩) 2 2 d1 2 [7, 0] [7, 0] _ (Lib.hid ((Y1.out.ext K4.out).ext kn)) (Lib.hid (zx_litL w4 [7, 0] (by decide))) (by decide) (by decide)).mono ?_
  rintro e5 w5 ⟨rfl, k5⟩
  rw [show decide (([7, 0] : List Int) = [7, 0]) = true from decide_eq_true rfl]
  have K5 := Lib.hid (KK2.out.trans (K4.out.trans (kn.trans k5)))
  clear kn k5 q1
  go_wp2
  go_ret
  exact ⟨rfl, K5.out⟩
end Go.Proofs.Ytdnjjpkajiehgaa
