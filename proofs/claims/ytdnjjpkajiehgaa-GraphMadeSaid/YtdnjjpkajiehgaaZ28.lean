/-
  How bytes that are handed in read as arrasmake's tape; graphs and shapes cut short.
-/
import Derived.Test.YtdnjjpkajiehgaaZMKg
import Derived.Test.YtdnjjpkajiehgaaZJOpen
import Derived.Test.YtdnjjpkajiehgaaZ27
namespace Go.Proofs.Ytdnjjpkajiehgaa
open Go.ChangeShapes Go.WideShapes Go.ChangeAt Go.RowKit Go.Joins
set_option linter.unusedVariables false
set_option maxRecDepth 100000

/-- Bytes, wherever they lie. -/
def ByX (w : World) (A : Option Addr) (n : Nat) : Prop := 0 < n → ∃ ad, A = some ad ∧ ∀ j, j < n → ∃ b : Nat, b < 256 ∧ w.cell? (ad.add j) = some (.int .u8 (b : Int))
theorem ByX.ext {w w' : World} {A : Option Addr} {n : Nat} (h : ByX w A n) (k : Ext w w') : ByX w' A n := fun hn => by
  obtain ⟨ad, e, hc⟩ := h hn
  exact ⟨ad, e, fun j hj => by obtain ⟨b, b1, b2⟩ := hc j hj; exact ⟨b, b1, cell_ext k b2⟩⟩
theorem tm_new {w : World} {A : Option Addr} {n c : Nat} (h : ByX w A n) (hn : n ≤ 1000) : TM (w.alloc (.cells #[.slice A n c, .int .i64 0] 30)) w.heap.size :=
  ⟨A, n, c, 0, heap_alloc_new w _, Nat.zero_le _, hn, fun hp => by
    obtain ⟨ad, e, hc⟩ := h hp
    refine ⟨ad, e, ?_, fun j hj => ?_⟩
    · obtain ⟨b, _, hb⟩ := hc 0 hp
      have := World.block_lt_of_cell? w _ hb
      rw [add_blockJ] at this
      exact this
    · obtain ⟨b, b1, b2⟩ := hc j hj
      exact ⟨b, b1, cell_ext ((Ext.refl w).alloc _) b2⟩⟩
section
variable {H : Type} {enc : TypeId × Value → H}
theorem cells_u8M : Try.prog.cellsOf 5 = 1 := by kernel_rfl
theorem byte_ofM {a : Int} (h : (Lit.int .u8 a).wf = true) : 0 ≤ a ∧ a < 256 := by
  have h1 : IntKind.u8.min = 0 := by decide
  have h2 : IntKind.u8.max = 255 := by decide
  simp only [Lit.wf, h1, h2, Bool.and_eq_true, decide_eq_true_eq] at h
  omega
theorem bytes_openM {W : World} {v : Value} {d : DataW H} {p : List MemPlace} (h : DataW.Trod enc Try.prog W 0 (fun _ => true) true 22 v d p) : ∃ A n c, v.cells.toList = [.slice A n c] ∧ ByX W A n := by
  obtain ⟨f, hf⟩ := h
  rcases ChangeShapes.open_ints Try.underlying22 Try.underlying5 cells_u8M hf with ⟨e, _⟩ | ⟨a, len, cap, zs, e, _, hl, hm, hz, _, hcell, hwz⟩
  · exact ⟨none, 0, 0, e, fun h => absurd h (by omega)⟩
  · simp only [if_true] at hz
    refine ⟨some a, len, cap, e, fun hn => ⟨a, rfl, fun j hj => ?_⟩⟩
    have hjz : j < zs.length := by omega
    have hw := byte_ofM (hwz zs[j] (List.getElem_mem hjz))
    refine ⟨(zs[j]).toNat, by omega, ?_⟩
    rw [hcell j hjz, show zs.getD j 0 = zs[j] by simp [List.getD, List.getElem?_eq_getElem hjz], Int.toNat_of_nonneg hw.1]
end
theorem GX.take {w : World} {A : Option Addr} {c : Nat} {nodes : List Nd} (h : GX w A c nodes) (m : Nat) : GX w A c (nodes.take m) :=
  ⟨by have := h.room; simp; omega, fun hn => by
    obtain ⟨ad, e, hc⟩ := h.cells (by simp at hn; omega)
    exact ⟨ad, e, fun j x hx => hc j x (by rw [List.getElem?_take] at hx; split at hx; exact hx; cases hx)⟩⟩
theorem SX.take {w : World} {A : Option Addr} {c : Nat} {shs : List (List Int)} (h : SX w A c shs) (m : Nat) : SX w A c (shs.take m) :=
  ⟨by have := h.room; simp; omega, fun hn => by
    obtain ⟨ad, e, hc⟩ := h.cells (by simp at hn; omega)
    exact ⟨ad, e, fun j x hx => hc j x (by rw [List.getElem?_take] at hx; split at hx; exact hx; cases hx)⟩⟩
theorem chk_prefix : ∀ (l : List Nd) (acc shs : List (List Int)), chkR l acc = .ok shs → ∃ r, shs = acc ++ r ∧ r.length = l.length
  | [], acc, shs, h => by
    unfold chkR at h
    injection h with h
    exact ⟨[], by simp [h], rfl⟩
  | x :: l, acc, shs, h => by
    unfold chkR at h
    cases hx : nodeR x acc with
    | error n => rw [hx] at h; cases h
    | ok t =>
      rw [hx] at h
      obtain ⟨r, e, hl⟩ := chk_prefix l (acc ++ [t]) shs h
      exact ⟨t :: r, by rw [e]; simp, by simp [hl]⟩
theorem chk_take : ∀ (l : List Nd) (acc shs : List (List Int)) (m : Nat), chkR l acc = .ok shs → chkR (l.take m) acc = .ok (shs.take (acc.length + m))
  | [], acc, shs, m, h => by
    obtain ⟨r, e, hl⟩ := chk_prefix [] acc shs h
    have : r = [] := List.eq_nil_of_length_eq_zero hl
    subst this
    rw [e, List.append_nil, List.take_nil, List.take_of_length_le (Nat.le_add_right _ _)]
    rfl
  | x :: l, acc, shs, 0, h => by
    obtain ⟨r, e, hl⟩ := chk_prefix (x :: l) acc shs h
    rw [e]
    simp [chkR]
  | x :: l, acc, shs, m + 1, h => by
    unfold chkR at h
    rw [List.take_succ_cons]
    unfold chkR
    cases hx : nodeR x acc with
    | error n => rw [hx] at h; cases h
    | ok t =>
      rw [hx] at h
      have := chk_take l (acc ++ [t]) shs m h
      show chkR (l.take m) (acc ++ [t]) = _
      rw [this, show (acc ++ [t]).length + m = acc.length + (m + 1) by simp; omega]
end Go.Proofs.Ytdnjjpkajiehgaa

/-
  The law GraphMade walked.
-/
namespace Go.Proofs.Ytdnjjpkajiehgaa
open Go.RowKit
set_option linter.unusedVariables false
set_option maxRecDepth 100000

theorem made_ok {nodes : List Nd} {shs : List (List Int)} {out : Int} (h : chkR nodes [] = .ok shs) (h0 : 0 < nodes.length) (h9 : nodes.length ≤ 9) (o0 : 0 ≤ out) (o1 : out < (nodes.length : Int)) : checkR nodes out = .ok shs := by
  unfold checkR
  rw [if_neg (by omega)]
  exact h
set_option maxHeartbeats 1000000 in
theorem graphMade_walk (A : Option Addr) (n c less : Nat) (w : World) (hX : Hid (ByX w A n)) (hl : less < 256) :
    Calls Try.prog 3 #[.slice A n c, .int .u8 (less : Int)] w fun e w' => e = .returned (.bool true) ∧ Ext w w' := by
  go_enter Try.func3, Try.ntmps3
  go_wp2_with fail
  refine (fixed16_any w).mono ?_
  rintro e1 w1 ⟨rfl, k1⟩
  have HX1 := Lib.hid (hX.out.ext k1)
  have K1 := Lib.hid k1
  clear k1
  by_cases h3 : (300 : Int) < (n : Int)
  · go_wp2
    go_ret
    exact ⟨rfl, K1.out⟩
  have hT := tm_new (c := c) HX1.out (by omega)
  have kT : Ext w1 (w1.alloc (.cells #[.slice A n c, .int .i64 0] 30)) := (Ext.refl w1).alloc _
  have hgb : w1.heap.size < (w1.alloc (.cells #[.slice A n c, .int .i64 0] 30)).heap.size := by simp
  go_wp2_with fail
  generalize w1.alloc (.cells #[.slice A n c, .int .i64 0] 30) = V at *
  obtain ⟨g, hg⟩ : ∃ g, w1.heap.size = g := ⟨_, rfl⟩
  rw [hg] at hT hgb ⊢
  have HT := Lib.hid hT
  have KT := Lib.hid kT
  have hgle : w1.heap.size ≤ g := by omega
  have HG := Lib.hid hg
  clear hT kT hg
  refine (mkGraph_any g V HT).mono ?_
  rintro e2 w2 ⟨v, nodes, out, shs, rfl, hns, hn0, hn9, hout, hck, hgs, ht2, ho2⟩
  obtain ⟨A2, c2, rfl, hgx⟩ := hns.gx
  have K2 := Lib.hid (show Ext w w2 from K1.out.trans (below_only KT.out ho2 KT.out.size (by omega)))
  have HGX := Lib.hid hgx
  have HCK := Lib.hid hck
  clear hns hgx hck hgs ht2 ho2
  have h5 := heap_alloc_new w2 (.cells #[.slice A2 nodes.length c2, .int .i64 (out : Int)] 26)
  have k5 : Ext w2 (w2.alloc (.cells #[.slice A2 nodes.length c2, .int .i64 (out : Int)] 26)) := (Ext.refl w2).alloc _
  have q0 := cell_of_heap h5 (j := 0) rfl
  have q1 := cell_of_heap h5 (j := 1) rfl
  clear h5
  go_wp2_with fail
  generalize w2.alloc (.cells #[.slice A2 nodes.length c2, .int .i64 (out : Int)] 26) = W at *
  obtain ⟨p5, hp5⟩ : ∃ p, w2.heap.size = p := ⟨_, rfl⟩
  rw [hp5] at q0 q1 ⊢
  clear hp5
  have KW := Lib.hid (K2.out.trans k5)
  have HGW := Lib.hid (HGX.out.ext k5)
  clear k5
  refine (graphCheck nodes A2 c2 (out : Int) W HGW (by omega)).mono ?_
  rintro e3 w3 (⟨shs3, A3, c3, h1, rfl, hsx, hrt, hsl, k3⟩ | ⟨m, h1, _⟩)
  rotate_left
  · rw [made_ok HCK.out hn0 hn9 (by omega) (by omega)] at h1
    cases h1
  rw [made_ok HCK.out hn0 hn9 (by omega) (by omega)] at h1
  injection h1 with h1
  subst h1
  have HSX := Lib.hid hsx
  have HRT := Lib.hid hrt
  have HSL := Lib.hid hsl
  have K3 := Lib.hid (KW.out.trans k3)
  have HG3 := Lib.hid (HGW.out.ext k3)
  replace q0 := cell_ext k3 q0
  replace q1 := cell_ext k3 q1
  have hsl' := hsl
  clear hsx hrt hsl k3
  obtain ⟨m, hm⟩ : ∃ m : Nat, less % nodes.length = m := ⟨_, rfl⟩
  have hml : m < nodes.length := by rw [← hm]; exact Nat.mod_lt _ (by omega)
  have hcm : (less : Int).tmod (nodes.length : Int) = (m : Int) := by
    rw [Int.tmod_eq_emod_of_nonneg (by omega), ← hm, Int.natCast_emod]
  have hem : (less : Int) % (nodes.length : Int) = (m : Int) := by rw [← hm, Int.natCast_emod]
  have n0 : ¬ nodes.length = 0 := by omega
  have hroom := HG3.out.room
  have i1 : (0 : Int) ≤ 1 + (m : Int) := by omega
  have i2 : 1 + (m : Int) ≤ (c2 : Int) := by omega
  have i3 : (1 + (m : Int)).toNat = m + 1 := by omega
  have htl : (nodes.take (m + 1)).length = m + 1 := by simp; omega
  have hCk := graphCheck (nodes.take (m + 1)) A2 c2 (1 + (m : Int) - 1) w3 (Lib.hid (HG3.out.take (m + 1))) (by omega)
  rw [htl] at hCk
  have HCk := Lib.hid hCk
  have HTL := Lib.hid htl
  have hr3 := HSX.out.room
  have hsm : (shs.take (m + 1)).length = m + 1 := by simp; omega
  have HSM := Lib.hid hsm
  have i4 : 1 + (m : Int) ≤ (c3 : Int) := by omega
  have HL9 := Lib.hid (show shs.length ≤ 9 by omega)
  have HM := Lib.hid hml
  have hm9 : m < 9 := by omega
  clear hCk htl hsm hr3 hm hcm hsl' hml
  go_wp2_with fail
  refine HCk.out.mono ?_
  rintro e4 w4 (⟨shs4, A4, c4, h1, rfl, hsx, hrt, hsl, k4⟩ | ⟨j, h1, _⟩)
  rotate_left
  · rw [made_ok (chk_take nodes [] shs (m + 1) HCK.out) (by have := HTL.out; omega) (by have := HTL.out; have := HM.out; omega) (by omega) (by have := HTL.out; omega)] at h1
    cases h1
  rw [made_ok (chk_take nodes [] shs (m + 1) HCK.out) (by have := HTL.out; omega) (by have := HTL.out; have := HM.out; omega) (by omega) (by have := HTL.out; omega)] at h1
  injection h1 with h1
  rw [List.length_nil, Nat.zero_add] at h1
  subst h1
  have HSX4 := Lib.hid hsx
  have HRT4 := Lib.hid hrt
  have K4 := Lib.hid (K3.out.trans k4)
  have HSX3 := Lib.hid ((HSX.out.ext k4).take (m + 1))
  have hSame := sameShapes_any A4 A3 c4 c3 (shs.take (m + 1)) w4 HSX4 HSX3 HRT4 (by have := HSM.out; have := HL9.out; have := HM.out; omega)
  rw [HSM.out] at hSame
  have HSA := Lib.hid hSame
  rw [HSM.out]
  clear hsx hrt hsl k4 hSame
  go_wp2_with fail
  refine HSA.out.mono ?_
  rintro e5 w5 ⟨rfl, k5⟩
  go_wp2
  go_ret
  exact ⟨rfl, K4.out.trans k5⟩
end Go.Proofs.Ytdnjjpkajiehgaa
