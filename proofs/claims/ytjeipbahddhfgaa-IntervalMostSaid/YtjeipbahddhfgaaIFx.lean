/-
  What is fixed in the laws of layer 17.
-/
import Derived.Test.YtjeipbahddhfgaaIRu
import Derived.Test.YtjeipbahddhfgaaJFx
namespace Go.Proofs.Ytjeipbahddhfgaa
open Go.RowKit
set_option linter.unusedVariables false
set_option maxRecDepth 100000

/-- An input of one number from lo to hv. -/
def ndA (lo hv : Int) : Nd := ⟨1, 0, 0, [1], lo, hv, 0, [], []⟩
/-- A power of the node 0. -/
def ndB (c0 c1 c2 : Int) : Nd := ⟨8, 0, 0, [], 0, 0, 0, [c0, c1, c2], []⟩
theorem cell_newJ (w : World) (cs : List Value) (t : TypeId) (j : Nat) (v : Value) (h : cs[j]? = some v) (hl : cs.length ≤ 1000) : (w.alloc (.cells cs.toArray t)).cell? ⟨w.heap.size, j, none⟩ = some v := by
  have := World.ownsRow.cells (g := w.heap.size) (own_newJ w t 1 cs.length cs (by omega) (by unfold maxLen; omega)) rfl j v h
  rw [Addr.add_lit, Nat.zero_add] at this
  exact this
theorem gx_two (w : World) (g0 g1 : Nat) (lo hv c0 c1 c2 : Int) (h0 : w.heap[g0]? = some (.cells #[.int .i64 1] 3)) (h1 : w.heap[g1]? = some (.cells #[.int .i64 c0, .int .i64 c1, .int .i64 c2] 3)) :
    GX (w.alloc (.cells #[.int .i64 1, .int .i64 0, .int .i64 0, .slice (some ⟨g0, 0, none⟩) 1 1, .int .i64 lo, .int .i64 hv, .int .i64 0, .slice none 0 0, .slice none 0 0, .int .i64 8, .int .i64 0, .int .i64 0, .slice none 0 0, .int .i64 0, .int .i64 0, .int .i64 0, .slice (some ⟨g1, 0, none⟩) 3 3, .slice none 0 0] 40)) (some ⟨w.heap.size, 0, none⟩) 2 [ndA lo hv, ndB c0 c1 c2] := by
  refine ⟨Nat.le_refl _, fun _ => ⟨_, rfl, fun j x hx => ?_⟩⟩
  have hcell := cell_newJ w [.int .i64 1, .int .i64 0, .int .i64 0, .slice (some ⟨g0, 0, none⟩) 1 1, .int .i64 lo, .int .i64 hv, .int .i64 0, .slice none 0 0, .slice none 0 0, .int .i64 8, .int .i64 0, .int .i64 0, .slice none 0 0, .int .i64 0, .int .i64 0, .int .i64 0, .slice (some ⟨g1, 0, none⟩) 3 3, .slice none 0 0] 40
  rcases j with _ | _ | j
  · simp at hx
    subst hx
    refine ⟨some ⟨g0, 0, none⟩, none, none, 1, 0, 0, ⟨⟨rfl, Nat.le_refl _, fun _ => ⟨_, rfl, fun j z hz => ?_⟩⟩, ZX.none_ _ _ _, ZX.none_ _ _ _, by simp [ndA], by simp [ndA], by simp [ndA]⟩, fun f v hv => ?_⟩
    · rcases j with _ | j
      · simp [ndA] at hz
        subst hz
        refine cell_ext ((Ext.refl w).alloc _) ?_
        simp [World.cell?, h0, Addr.add]
      · simp [ndA] at hz
    · rw [Addr.add_lit, Addr.add_lit]
      rw [show 0 + 0 * 9 + f = f by omega]
      refine hcell f v ?_ (by simp)
      rcases f with _ | _ | _ | _ | _ | _ | _ | _ | _ | f <;> (first | exact hv | (simp [ndA] at hv))
  · simp at hx
    subst hx
    refine ⟨none, some ⟨g1, 0, none⟩, none, 0, 3, 0, ⟨ZX.none_ _ _ _, ⟨rfl, Nat.le_refl _, fun _ => ⟨_, rfl, fun j z hz => ?_⟩⟩, ZX.none_ _ _ _, by simp [ndB], by simp [ndB], by simp [ndB]⟩, fun f v hv => ?_⟩
    · refine cell_ext ((Ext.refl w).alloc _) ?_
      rcases j with _ | _ | _ | j <;> simp [ndB] at hz
      · subst hz; simp [World.cell?, h1, Addr.add]
      · subst hz; simp [World.cell?, h1, Addr.add]
      · subst hz; simp [World.cell?, h1, Addr.add]
    · rw [Addr.add_lit, Addr.add_lit]
      rw [show 0 + (0 + 1) * 9 + f = 9 + f by omega]
      refine hcell (9 + f) v ?_ (by simp)
      rcases f with _ | _ | _ | _ | _ | _ | _ | _ | _ | f <;> (first | exact hv | (simp [ndB] at hv))
  · simp at hx
def G0 : Pl → List (Int × Int) → Int × Int := fun _ _ => (0, 0)
theorem sp_fixed : graphSp G0 [ndA (-2) 3, ndB 1 0 1] 1 = .ok [(-2, 3), (1, 10)] := by kernel_rfl
theorem run_fixed : graphRun G0 [ndA (-2) 3, ndB 1 0 1] 1 [[-2]] = .ok [[-2], [5]] := by kernel_rfl
theorem two_18 {lo hv c0 c1 c2 : Int} : ∀ x ∈ [ndA lo hv, ndB c0 c1 c2], x.k = 1 ∨ x.k = 8 := by
  intro x hx
  simp at hx
  rcases hx with rfl | rfl
  · exact .inl rfl
  · exact .inr rfl
theorem two_sum {out lo hv c0 c1 c2 : Int} : ∀ shs, checkR [ndA lo hv, ndB c0 c1 c2] out = .ok shs → ∀ (j : Nat) (p : Pl), (placesF [ndA lo hv, ndB c0 c1 c2] shs)[j]? = some p → p.x.k ≠ 1 → p.x.k ≠ 8 → SumOk G0 p j := fun shs _ j p hp h1 h8 => by
  obtain ⟨x, hx, rfl⟩ := placesF_inv hp
  rcases two_18 x (List.mem_of_getElem? hx) with g | g
  · exact absurd g h1
  · exact absurd g h8
theorem in_one (w : World) (z : Int) : InX ((w.alloc (.cells #[.int .i64 z] 3)).alloc (.cells #[.slice (some ⟨w.heap.size, 0, none⟩) 1 1] 38)) (some ⟨w.heap.size + 1, 0, none⟩) 1 [[z]] := by
  refine ⟨Nat.le_refl _, fun _ => ⟨_, rfl, fun j s hs => ?_⟩⟩
  rcases j with _ | j
  · simp at hs
    subst hs
    refine ⟨some ⟨w.heap.size, 0, none⟩, 1, ?_, (zx_new1 w z).ext ((Ext.refl _).alloc _), fun ad e => ?_⟩
    · have := cell_newJ (w.alloc (.cells #[.int .i64 z] 3)) [.slice (some ⟨w.heap.size, 0, none⟩) 1 1] 38 0 _ rfl (by simp)
      rw [show (w.alloc (.cells #[.int .i64 z] 3)).heap.size = w.heap.size + 1 by simp] at this
      rw [Addr.add_lit]
      exact this
    · injection e with e
      subst e
      exact ⟨_, _, (((Ext.refl _).alloc _).block _ (by simp)).trans (heap_alloc_new w _)⟩
  · simp at hs
set_option maxHeartbeats 2000000 in
theorem fixed17_any (w : World) : Calls Try.prog 16 #[] w fun e w' => e = .returned (.bool true) ∧ Ext w w' := by
  have hG := gx_two ((w.alloc (.cells #[.int .i64 1] 3)).alloc (.cells #[.int .i64 1, .int .i64 0, .int .i64 1] 3)) w.heap.size (w.heap.size + 1) (-2) 3 1 0 1 ((((Ext.refl _).alloc _).block _ (by simp)).trans (heap_alloc_new w _)) (by have := heap_alloc_new (w.alloc (.cells #[.int .i64 1] 3)) (.cells #[.int .i64 1, .int .i64 0, .int .i64 1] 3); rw [show (w.alloc (.cells #[.int .i64 1] 3)).heap.size = w.heap.size + 1 by simp] at this; exact this)
  rw [show ((w.alloc (.cells #[.int .i64 1] 3)).alloc (.cells #[.int .i64 1, .int .i64 0, .int .i64 1] 3)).heap.size = w.heap.size + 1 + 1 by simp] at hG
  have hs3 : (((w.alloc (.cells #[.int .i64 1] 3)).alloc (.cells #[.int .i64 1, .int .i64 0, .int .i64 1] 3)).alloc (.cells #[.int .i64 1, .int .i64 0, .int .i64 0, .slice (some ⟨w.heap.size, 0, none⟩) 1 1, .int .i64 (-2), .int .i64 3, .int .i64 0, .slice none 0 0, .slice none 0 0, .int .i64 8, .int .i64 0, .int .i64 0, .slice none 0 0, .int .i64 0, .int .i64 0, .int .i64 0, .slice (some ⟨w.heap.size + 1, 0, none⟩) 3 3, .slice none 0 0] 40)).heap.size = w.heap.size + 1 + 1 + 1 := by simp
  have k3 : Ext w (((w.alloc (.cells #[.int .i64 1] 3)).alloc (.cells #[.int .i64 1, .int .i64 0, .int .i64 1] 3)).alloc (.cells #[.int .i64 1, .int .i64 0, .int .i64 0, .slice (some ⟨w.heap.size, 0, none⟩) 1 1, .int .i64 (-2), .int .i64 3, .int .i64 0, .slice none 0 0, .slice none 0 0, .int .i64 8, .int .i64 0, .int .i64 0, .slice none 0 0, .int .i64 0, .int .i64 0, .int .i64 0, .slice (some ⟨w.heap.size + 1, 0, none⟩) 3 3, .slice none 0 0] 40)) := (((Ext.refl w).alloc _).alloc _).alloc _
  have q0 := two_atJ0 (((w.alloc (.cells #[.int .i64 1] 3)).alloc (.cells #[.int .i64 1, .int .i64 0, .int .i64 1] 3)).alloc (.cells #[.int .i64 1, .int .i64 0, .int .i64 0, .slice (some ⟨w.heap.size, 0, none⟩) 1 1, .int .i64 (-2), .int .i64 3, .int .i64 0, .slice none 0 0, .slice none 0 0, .int .i64 8, .int .i64 0, .int .i64 0, .slice none 0 0, .int .i64 0, .int .i64 0, .int .i64 0, .slice (some ⟨w.heap.size + 1, 0, none⟩) 3 3, .slice none 0 0] 40)) (.slice (some ⟨w.heap.size + 1 + 1, 0, none⟩) 2 2) (.int .i64 1) 26
  have q1 := two_atJ1 (((w.alloc (.cells #[.int .i64 1] 3)).alloc (.cells #[.int .i64 1, .int .i64 0, .int .i64 1] 3)).alloc (.cells #[.int .i64 1, .int .i64 0, .int .i64 0, .slice (some ⟨w.heap.size, 0, none⟩) 1 1, .int .i64 (-2), .int .i64 3, .int .i64 0, .slice none 0 0, .slice none 0 0, .int .i64 8, .int .i64 0, .int .i64 0, .slice none 0 0, .int .i64 0, .int .i64 0, .int .i64 0, .slice (some ⟨w.heap.size + 1, 0, none⟩) 3 3, .slice none 0 0] 40)) (.slice (some ⟨w.heap.size + 1 + 1, 0, none⟩) 2 2) (.int .i64 1) 26
  rw [hs3] at q0 q1
  go_enter Try.func16, Try.ntmps16
  go_wp2_with fail
  have k4 : Ext (((w.alloc (.cells #[.int .i64 1] 3)).alloc (.cells #[.int .i64 1, .int .i64 0, .int .i64 1] 3)).alloc (.cells #[.int .i64 1, .int .i64 0, .int .i64 0, .slice (some ⟨w.heap.size, 0, none⟩) 1 1, .int .i64 (-2), .int .i64 3, .int .i64 0, .slice none 0 0, .slice none 0 0, .int .i64 8, .int .i64 0, .int .i64 0, .slice none 0 0, .int .i64 0, .int .i64 0, .int .i64 0, .slice (some ⟨w.heap.size + 1, 0, none⟩) 3 3, .slice none 0 0] 40)) ((((w.alloc (.cells #[.int .i64 1] 3)).alloc (.cells #[.int .i64 1, .int .i64 0, .int .i64 1] 3)).alloc (.cells #[.int .i64 1, .int .i64 0, .int .i64 0, .slice (some ⟨w.heap.size, 0, none⟩) 1 1, .int .i64 (-2), .int .i64 3, .int .i64 0, .slice none 0 0, .slice none 0 0, .int .i64 8, .int .i64 0, .int .i64 0, .slice none 0 0, .int .i64 0, .int .i64 0, .int .i64 0, .slice (some ⟨w.heap.size + 1, 0, none⟩) 3 3, .slice none 0 0] 40)).alloc (.cells #[.slice (some ⟨w.heap.size + 1 + 1, 0, none⟩) 2 2, .int .i64 1] 26)) := (Ext.refl _).alloc _
  have HG := Lib.hid (hG.ext k4)
  have KK := Lib.hid (k3.trans k4)
  clear hG k3 k4 hs3
  generalize (((w.alloc (.cells #[.int .i64 1] 3)).alloc (.cells #[.int .i64 1, .int .i64 0, .int .i64 1] 3)).alloc (.cells #[.int .i64 1, .int .i64 0, .int .i64 0, .slice (some ⟨w.heap.size, 0, none⟩) 1 1, .int .i64 (-2), .int .i64 3, .int .i64 0, .slice none 0 0, .slice none 0 0, .int .i64 8, .int .i64 0, .int .i64 0, .slice none 0 0, .int .i64 0, .int .i64 0, .int .i64 0, .slice (some ⟨w.heap.size + 1, 0, none⟩) 3 3, .slice none 0 0] 40)).alloc (.cells #[.slice (some ⟨w.heap.size + 1 + 1, 0, none⟩) 2 2, .int .i64 1] 26) = W at *
  refine (Spans_any G0 [ndA (-2) 3, ndB 1 0 1] (some ⟨w.heap.size + 1 + 1, 0, none⟩) 2 1 _ HG (by decide) (Lib.hid two_sum)).mono ?_
  rintro e1 w1 (⟨ks, A1, c1, h1, rfl, h3, h4, k1⟩ | ⟨n, h1, _⟩)
  rotate_left
  · rw [sp_fixed] at h1
    cases h1
  rw [sp_fixed] at h1
  injection h1 with h1
  subst h1
  have HS := Lib.hid h3
  replace q0 := cell_ext k1 q0
  replace q1 := cell_ext k1 q1
  clear h3 h4
  have q0' := cell_ext (((Ext.refl w1).alloc (.cells #[.int .i64 (-2)] 3)).alloc (.cells #[.slice (some ⟨w1.heap.size, 0, none⟩) 1 1] 38)) q0
  go_wp2_with fail
  have k2 : Ext w1 ((w1.alloc (.cells #[.int .i64 (-2)] 3)).alloc (.cells #[.slice (some ⟨w1.heap.size, 0, none⟩) 1 1] 38)) := ((Ext.refl w1).alloc _).alloc _
  refine (Run_any G0 [ndA (-2) 3, ndB 1 0 1] (some ⟨w.heap.size + 1 + 1, 0, none⟩) 2 1 [[-2]] (some ⟨w1.heap.size + 1, 0, none⟩) 1 _ (Lib.hid (HG.out.ext (k1.trans k2))) (by decide) (Lib.hid (in_one w1 (-2))) (Lib.hid (by simp)) (by decide) (Lib.hid two_18)).mono ?_
  rintro e2 w2 (⟨vs, A2, n2, c2, h1, rfl, h3, k5⟩ | ⟨n, h1, _⟩)
  rotate_left
  · rw [run_fixed] at h1
    cases h1
  rw [run_fixed] at h1
  injection h1 with h1
  subst h1
  have hn2 := h3.len
  have HZ := Lib.hid h3
  have e2 : n2 = 1 := by rw [← hn2]; rfl
  subst e2
  have KK2 := Lib.hid (KK.out.trans (k1.trans (k2.trans k5)))
  obtain ⟨ad, rfl, hc⟩ := (HS.out.ext (k2.trans k5)).cells (by decide)
  obtain ⟨s0, s1⟩ := hc 1 (1, 10) rfl
  have S2 := Lib.hid (HS.out.ext (k2.trans k5))
  have s0' : w2.cell? ⟨ad.block, ad.off + 2, none⟩ = some (.int .i64 1) := s0
  have s1' : w2.cell? ⟨ad.block, ad.off + 3, none⟩ = some (.int .i64 10) := s1
  clear h3 hn2 hc s0 s1 k1 k2 k5 q0 q1 q0'
  go_wp2_with fail
  refine (same_any A2 (some ⟨w2.heap.size, 0, none⟩) 1 1 c2 1 [5] [5] _ (Lib.hid ((show ZX w2 A2 1 c2 [5] from HZ.out).ext ((Ext.refl w2).alloc _))) (Lib.hid (zx_new1 w2 5)) (by decide) (by decide)).mono ?_
  rintro e3 w3 ⟨rfl, k3⟩
  rw [show decide ([(5 : Int)] = [5]) = true from rfl]
  have k4 : Ext w2 w3 := ((Ext.refl w2).alloc _).trans k3
  go_wp2_with fail
  refine (most_any (some ad) c1 [(-2, 3), (1, 10)] w3 (Lib.hid (S2.out.ext k4)) (by simp) (Lib.hid (by intro p hp; simp at hp; rcases hp with rfl | rfl <;> (constructor <;> constructor <;> decide)))).mono ?_
  rintro e4 w4 ⟨rfl, k5⟩
  rw [show mostF [((-2 : Int), (3 : Int)), (1, 10)] 0 = 10 by rfl]
  go_wp2
  go_ret
  exact ⟨rfl, KK2.out.trans (k4.trans k5)⟩
end Go.Proofs.Ytjeipbahddhfgaa
