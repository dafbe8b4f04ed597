/-
  The laws LinearSlots and LinearDiagonals walked.
-/
import Derived.Test.YtdnjjpkajiehgaaLFix
namespace Go.Proofs.Ytdnjjpkajiehgaa
open Go.RowKit
set_option linter.unusedVariables false
set_option maxRecDepth 100000

set_option maxHeartbeats 4000000 in
theorem linearSlots_walk (A : Option Addr) (n c : Nat) (l : List Int) (y m : Int) (w : World) (hX : Hid (ZX w A n c l)) :
    Calls Try.prog 9 #[.slice A n c, .int .i64 y, .int .i64 m] w fun e w' => e = .returned (.bool true) ∧ Ext w w' := by
  go_enter Try.func9, Try.ntmps9
  go_wp2_with fail
  refine (fixed19_any w).mono ?_
  rintro e1 w1 ⟨rfl, k1⟩
  go_wp2_with fail
  refine (slots_any A n c l y m w1 (Lib.hid (hX.out.ext k1))).mono ?_
  rintro e2 w2 (⟨a, A1, c1, h1, rfl, h3, h4, k2⟩ | ⟨x, h1, x1, x7, rfl, k2⟩)
  · have H1 := Lib.hid h1
    have H3 := Lib.hid h3
    have K := Lib.hid (k1.trans k2)
    clear h1 h3 k1 k2
    go_wp2_with fail
    refine (rslots_any A n c l y m w2 (Lib.hid (hX.out.ext K.out))).mono ?_
    rintro e3 w3 (⟨b, A2, c2, h5, rfl, h6, h7, k3⟩ | ⟨x, h5, _⟩)
    rotate_left
    · rw [H1.out] at h5
      cases h5
    rw [H1.out] at h5
    injection h5 with h5
    subst h5
    have H6 := Lib.hid h6
    have K3 := Lib.hid k3
    clear h6 k3 h7
    go_wp2_with fail
    refine (same_any A1 A2 a.length a.length c1 c2 a a w3 (Lib.hid (H3.out.ext K3.out)) H6 (by omega) (by omega)).mono ?_
    rintro e4 w4 ⟨rfl, k4⟩
    rw [decide_eq_true (show a = a from rfl)]
    go_wp2
    go_ret
    exact ⟨rfl, K.out.trans (K3.out.trans k4)⟩
  · have H1 := Lib.hid h1
    have K := Lib.hid (k1.trans k2)
    clear h1 k1 k2
    go_wp2_with fail
    refine (rslots_any A n c l y m w2 (Lib.hid (hX.out.ext K.out))).mono ?_
    rintro e3 w3 (⟨b, A2, c2, h5, _⟩ | ⟨x', h5, _, _, rfl, k3⟩)
    · rw [H1.out] at h5
      cases h5
    rw [H1.out] at h5
    injection h5 with h5
    subst h5
    have K3 := Lib.hid k3
    clear k3
    go_wp2_with fail
    refine (same_any none none 0 0 0 0 [] [] w3 (Lib.hid (ZX.none_ _ _ _)) (Lib.hid (ZX.none_ _ _ _)) (by omega) (by omega)).mono ?_
    rintro e4 w4 ⟨rfl, k4⟩
    rw [decide_eq_true (show ([] : List Int) = [] from rfl)]
    go_wp2
    go_ret
    exact ⟨rfl, K.out.trans (K3.out.trans k4)⟩
theorem diag_len (D : Dg) (h : D.n ≤ 100000) : ∀ s ∈ D.diags, s.length ≤ 100000 := fun s hs => by
  unfold Dg.diags at hs
  obtain ⟨d, _, rfl⟩ := List.mem_map.1 hs
  unfold Dg.diag
  split
  · simp
  · simp; omega
theorem diags_len (D : Dg) : D.diags.length = D.n := by unfold Dg.diags; simp
theorem diagsR_len {rows : List (List Int)} {fr tt : List Int} {m : Int} {ds : List (List Int)} (h : diagsR rows fr tt m = .ok ds) (hm : m ≤ 200) : ds.length ≤ 100000 ∧ ∀ s ∈ ds, s.length ≤ 100000 := by
  unfold diagsR at h
  split at h
  · injection h with h
    subst h
    exact ⟨by rw [diags_len]; show m.toNat ≤ _; omega, diag_len _ (by show m.toNat ≤ _; omega)⟩
  · cases h
set_option maxHeartbeats 4000000 in
theorem linearDiagonals_walk (Ah A A' : Option Addr) (ch c c' nf nt : Nat) (rows : List (List Int)) (fr tt : List Int) (m : Int) (w : World) (hR : Hid (SX w Ah ch rows)) (hF : Hid (ZX w A nf c fr)) (hT : Hid (ZX w A' nt c' tt)) :
    Calls Try.prog 12 #[.slice Ah rows.length ch, .slice A nf c, .slice A' nt c', .int .i64 m] w fun e w' => e = .returned (.bool true) ∧ Ext w w' := by
  obtain rfl : fr.length = nf := hF.out.len
  obtain rfl : tt.length = nt := hT.out.len
  go_enter Try.func12, Try.ntmps12
  go_wp2_with fail
  refine (fixed19_any w).mono ?_
  rintro e1 w1 ⟨rfl, k1⟩
  have HR1 := Lib.hid (hR.out.ext k1)
  go_wp2_with fail
  refine (short_any Ah A A' ch c c' fr.length tt.length rows m w1 HR1).mono ?_
  rintro e2 w2 ⟨b, rfl, hb, rfl⟩
  cases b
  · clear hb
    go_wp2
    go_ret
    exact ⟨rfl, k1⟩
  obtain ⟨b1, b2, b3, b4, b5⟩ := hb rfl
  have HF1 := Lib.hid (hF.out.ext k1)
  have HT1 := Lib.hid (hT.out.ext k1)
  have K1 := Lib.hid k1
  have B5 := Lib.hid b5
  clear hb k1 b5
  go_wp2_with fail
  refine (diag_any Ah A A' ch c c' rows fr tt m w2 HR1 HF1 HT1 (by omega) (by omega) (by omega)).mono ?_
  rintro e2 w3 (⟨ds, A1, c1, h1, rfl, h3, k2⟩ | ⟨h1, rfl, k2⟩)
  · have H1 := Lib.hid h1
    have H3 := Lib.hid h3
    have HL := Lib.hid (diagsR_len h1 b4)
    have K2 := Lib.hid k2
    clear h1 h3 k2
    go_wp2_with fail
    refine (rdiag_any Ah A A' ch c c' rows fr tt m w3 (Lib.hid (HR1.out.ext K2.out)) (Lib.hid (HF1.out.ext K2.out)) (Lib.hid (HT1.out.ext K2.out)) (by omega) (by omega) (by omega)).mono ?_
    rintro e3 w4 (⟨ds', A2, c2, h5, rfl, h6, k3⟩ | ⟨h5, _⟩)
    rotate_left
    · rw [H1.out] at h5
      cases h5
    rw [H1.out] at h5
    injection h5 with h5
    subst h5
    have H6 := Lib.hid h6
    have K3 := Lib.hid k3
    clear h6 k3
    go_wp2_with fail
    refine (sameRows_any A1 A2 c1 c2 ds w4 (Lib.hid (H3.out.ext K3.out)) H6 (Lib.hid HL.out.2) HL.out.1).mono ?_
    rintro e4 w5 ⟨rfl, k4⟩
    go_wp2
    go_ret
    exact ⟨rfl, K1.out.trans (K2.out.trans (K3.out.trans k4))⟩
  · have H1 := Lib.hid h1
    have K2 := Lib.hid k2
    clear h1 k2
    go_wp2_with fail
    refine (rdiag_any Ah A A' ch c c' rows fr tt m w3 (Lib.hid (HR1.out.ext K2.out)) (Lib.hid (HF1.out.ext K2.out)) (Lib.hid (HT1.out.ext K2.out)) (by omega) (by omega) (by omega)).mono ?_
    rintro e3 w4 (⟨ds', A2, c2, h5, _⟩ | ⟨h5, rfl, k3⟩)
    · rw [H1.out] at h5
      cases h5
    have K3 := Lib.hid k3
    clear h5 k3
    go_wp2_with fail
    refine (sameRows_any none none 0 0 [] w4 (Lib.hid ⟨Nat.le_refl _, fun h => absurd h (by simp)⟩) (Lib.hid ⟨Nat.le_refl _, fun h => absurd h (by simp)⟩) (Lib.hid (fun s h => by cases h)) (by simp)).mono ?_
    rintro e4 w5 ⟨rfl, k4⟩
    go_wp2
    go_ret
    exact ⟨rfl, K1.out.trans (K2.out.trans (K3.out.trans k4))⟩
end Go.Proofs.Ytdnjjpkajiehgaa
