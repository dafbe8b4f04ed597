/-
  The calls whose answers the document fixes for package graph; the law GraphEntries walked.
-/
import Derived.Test.YtjeipbahddhfgaaJNo
import Derived.KernelRfl
namespace Go.Proofs.Ytjeipbahddhfgaa
open Go.RowKit
set_option linter.unusedVariables false
set_option maxRecDepth 100000

def nd1 : Nd := ⟨1, 0, 0, [2], 0, 1, 0, [], []⟩
theorem gx_nil (w : World) : GX w none 0 [] := ⟨Nat.le_refl _, fun h => absurd h (by simp)⟩
theorem gx_one (w : World) (g : Nat) (hg : w.heap[g]? = some (.cells #[.int .i64 2] 3)) : GX (w.alloc (.cells #[.int .i64 1, .int .i64 0, .int .i64 0, .slice (some ⟨g, 0, none⟩) 1 1, .int .i64 0, .int .i64 1, .int .i64 0, .slice none 0 0, .slice none 0 0] 40)) (some ⟨w.heap.size, 0, none⟩) 1 [nd1] := by
  refine ⟨Nat.le_refl _, fun _ => ⟨_, rfl, fun j x hx => ?_⟩⟩
  rcases j with _ | j
  · simp at hx
    subst hx
    refine ⟨some ⟨g, 0, none⟩, none, none, 1, 0, 0, ⟨⟨rfl, Nat.le_refl _, fun _ => ⟨_, rfl, fun j z hz => ?_⟩⟩, ZX.none_ _ _ _, ZX.none_ _ _ _, by decide, by decide, by decide⟩, fun f v hv => ?_⟩
    · rcases j with _ | j
      · simp [nd1] at hz
        subst hz
        refine cell_ext ((Ext.refl w).alloc _) ?_
        simp [World.cell?, hg, Addr.add]
      · simp [nd1] at hz
    · obtain ⟨m0, m1, m2, m3, m4, m5, m6, m7, m8⟩ := nine_at w (.int .i64 1) (.int .i64 0) (.int .i64 0) (.slice (some ⟨g, 0, none⟩) 1 1) (.int .i64 0) (.int .i64 1) (.int .i64 0) (.slice none 0 0) (.slice none 0 0) 40
      rw [Nat.zero_mul, add0J]
      rcases f with _ | _ | _ | _ | _ | _ | _ | _ | _ | f <;> (simp [nd1] at hv) <;> (subst hv) <;> (rw [Addr.add_lit]) <;> (first | exact m0 | exact m1 | exact m2 | exact m3 | exact m4 | exact m5 | exact m6 | exact m7 | exact m8)
  · simp at hx
theorem chk_one : checkR [nd1] 0 = .ok [[2]] := by kernel_rfl
theorem chk_nil : checkR [] 0 = .error 3 := by kernel_rfl
theorem ent_23 : entN [2, 3] = 6 := by simp [entN, entF]
theorem ent_0 : entN [0] = 0 := by simp [entN, entF]
theorem zx_new2 (w : World) (a b : Int) : ZX (w.alloc (.cells #[.int .i64 a, .int .i64 b] 3)) (some ⟨w.heap.size, 0, none⟩) 2 2 [a, b] :=
  ⟨rfl, Nat.le_refl _, fun _ => ⟨_, rfl, fun j x hx => by
    rcases j with _ | _ | j
    · simp at hx
      subst hx
      rw [Addr.add_lit]
      simp
    · simp at hx
      subst hx
      rw [Addr.add_lit]
      simp
    · simp at hx⟩⟩
set_option maxHeartbeats 4000000 in
theorem fixed16_any (w : World) : Calls Try.prog 11 #[] w fun e w' => e = .returned (.bool true) ∧ Ext w w' := by
  have k0 : Ext w ((w.alloc (.cells #[.int .i64 2] 3)).alloc (.cells #[.int .i64 1, .int .i64 0, .int .i64 0, .slice (some ⟨w.heap.size, 0, none⟩) 1 1, .int .i64 0, .int .i64 1, .int .i64 0, .slice none 0 0, .slice none 0 0] 40)) := ((Ext.refl w).alloc _).alloc _
  have hG := gx_one (w.alloc (.cells #[.int .i64 2] 3)) w.heap.size (heap_alloc_new w _)
  rw [show (w.alloc (.cells #[.int .i64 2] 3)).heap.size = w.heap.size + 1 by simp] at hG
  have HG := Lib.hid hG
  have KK := Lib.hid k0
  clear hG k0
  go_enter Try.func11, Try.ntmps11
  go_wp2_with fail
  refine (graphCheck [nd1] (some ⟨w.heap.size + 1, 0, none⟩) 1 0 _ HG (by decide)).mono ?_
  rintro e1 w1 (⟨shs, A1, c1, h1, rfl, h3, h4, h5, k1⟩ | ⟨n, h1, _⟩)
  rotate_left
  · rw [chk_one] at h1
    cases h1
  rw [chk_one] at h1
  injection h1 with h1
  subst h1
  replace KK := Lib.hid (KK.out.trans k1)
  clear k1 h4 h5
  go_wp2_with fail
  refine (graphCheck [] none 0 0 w1 (Lib.hid (gx_nil w1)) (by decide)).mono ?_
  rintro e2 w2 (⟨shs2, A2, c2, h1, _⟩ | ⟨n, h1, _, rfl, k2⟩)
  · rw [chk_nil] at h1
    cases h1
  rw [chk_nil] at h1
  injection h1 with h1
  subst h1
  obtain ⟨ad, rfl, hc⟩ := (h3.ext k2).cells (by decide)
  obtain ⟨B, d, hc0, hz⟩ := hc 0 [2] rfl
  rw [add0J] at hc0
  have HZ := Lib.hid hz
  replace KK := Lib.hid (KK.out.trans k2)
  clear k2 h3 hc hz
  have hc1 := cell_ext ((Ext.refl w2).alloc (.cells #[.int .i64 2] 3)) hc0
  go_wp2_with fail
  refine (same_any B (some ⟨w2.heap.size, 0, none⟩) 1 1 d 1 [2] [2] _ (Lib.hid (HZ.out.ext ((Ext.refl w2).alloc _))) (Lib.hid (zx_new1 w2 2)) (by decide) (by decide)).mono ?_
  rintro e3 w3 ⟨rfl, k3⟩
  rw [show decide ([(2 : Int)] = [2]) = true from rfl]
  replace KK := Lib.hid (KK.out.trans (((Ext.refl w2).alloc _).trans k3))
  clear hc0 hc1 k3
  go_wp2_with fail
  refine (ent_any (some ⟨w3.heap.size, 0, none⟩) 2 2 [2, 3] _ (Lib.hid (zx_new2 w3 2 3))).mono ?_
  rintro e4 w4 ⟨rfl, rfl⟩
  rw [ent_23]
  go_wp2_with fail
  have hz0 := zx_new1 (w3.alloc (.cells #[.int .i64 2, .int .i64 3] 3)) 0
  rw [show (w3.alloc (.cells #[.int .i64 2, .int .i64 3] 3)).heap.size = w3.heap.size + 1 by simp] at hz0
  refine (ent_any (some ⟨w3.heap.size + 1, 0, none⟩) 1 1 [0] _ (Lib.hid hz0)).mono ?_
  rintro e5 w5 ⟨rfl, rfl⟩
  rw [ent_0]
  go_wp2
  go_ret
  exact ⟨rfl, KK.out.trans (((Ext.refl _).alloc _).alloc _)⟩
end Go.Proofs.Ytjeipbahddhfgaa
