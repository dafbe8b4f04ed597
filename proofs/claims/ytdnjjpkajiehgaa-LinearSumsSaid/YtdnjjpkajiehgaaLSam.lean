/-
  The same rows; few of them; what is fixed in layer 19's laws; the laws of diagonals and slots walked.
-/
import Derived.Test.YtdnjjpkajiehgaaLRDg
import Derived.Test.YtdnjjpkajiehgaaLRSl
import Derived.Deep.RegionHeld3
namespace Go.Proofs.Ytdnjjpkajiehgaa
open Go.RowKit
set_option linter.unusedVariables false
set_option maxRecDepth 100000

set_option maxHeartbeats 4000000 in
theorem sameRows_any (A A' : Option Addr) (c c' : Nat) (shs : List (List Int)) (w : World) (h : Hid (SX w A c shs)) (h' : Hid (SX w A' c' shs)) (hr : Hid (∀ s ∈ shs, s.length ≤ 100000)) (hl : shs.length ≤ 100000) :
    Calls Try.prog 35 #[.slice A shs.length c, .slice A' shs.length c'] w fun e w' => e = .returned (.bool true) ∧ Ext w w' := by
  go_enter Try.func35, Try.ntmps35
  go_wp2_with fail
  go_loopw [13] (fun i wr => ∃ k : Nat, k ≤ shs.length ∧ i = .int .i64 (k : Int) ∧ Hid (Ext w wr)) (fun i _ => shs.length - (intOf i).toNat)
  case atStart => exact ⟨0, by omega, rfl, Lib.hid (Ext.refl _)⟩
  case round =>
    obtain ⟨k, hk, rfl, hE⟩ := hrel
    by_cases hlt : k < shs.length
    · obtain ⟨s, hs⟩ : ∃ s, shs[k]? = some s := ⟨_, List.getElem?_eq_getElem hlt⟩
      obtain ⟨ad, rfl, hc⟩ := (h.out.ext hE.out).cells (by omega)
      obtain ⟨ad', rfl, hc'⟩ := (h'.out.ext hE.out).cells (by omega)
      obtain ⟨B, d, c0, hz⟩ := hc k s hs
      obtain ⟨B2, d2, c1, hz2⟩ := hc' k s hs
      have HZ := Lib.hid hz
      have HZ2 := Lib.hid hz2
      have ls := hr.out s (List.mem_of_getElem? hs)
      clear hc hc' hz hz2 hs
      have j0 : (0 : Int) ≤ (k : Int) := by omega
      have j1 : (k : Int) < (shs.length : Int) := by omega
      go_wp2_with fail
      refine wp_region_held_drew (S := (fun w' => Ext wr w')) (by kernel_rfl) ?_ (fun hHeld => ?_)
      · (try dsimp only); repeat (first | exact Ext.refl _ | assumption | refine Ext.drew ?_ | refine Ext.drewN ?_ _ | refine Ext.alloc ?_ _)
      refine wpAnyH_take (i := 0) (oi := _) (v := ?_) rfl (by kernel_rfl) (by kernel_rfl) (by kernel_rfl) (fun _ _ _ h => h) (Or.inl ⟨by first | kernel_rfl | rfl, ?_⟩) (by assumption) ?_
      rotate_left
      · (intro wS hSw; (try dsimp only at hSw); have z0 := cell_ext hSw c0; have z1 := cell_ext hSw c1; (try go_simp); (try with_reducible rfl))
      try simp only [Act.put, s1, s2, s3]
      refine wpAnyH_take (i := 1) (oi := _) (v := ?_) rfl (by kernel_rfl) (by kernel_rfl) (by kernel_rfl) (fun _ _ _ h => h) (Or.inl ⟨by first | kernel_rfl | rfl, ?_⟩) (by assumption) ?_
      rotate_left
      · (intro wS hSw; (try dsimp only at hSw); have z0 := cell_ext hSw c0; have z1 := cell_ext hSw c1; (try go_simp); (try with_reducible rfl))
      try simp only [Act.put, s1, s2, s3]
      refine wpAnyH_take (i := 2) (oi := _) (v := ?_) rfl (by kernel_rfl) (by kernel_rfl) (by kernel_rfl) (fun _ _ _ h => h) (Or.inl ⟨by first | kernel_rfl | rfl, ?_⟩) (by assumption) ?_
      rotate_left
      · (intro wS hSw; (try dsimp only at hSw); have z0 := cell_ext hSw c0; have z1 := cell_ext hSw c1; (try go_simp); (try with_reducible rfl))
      try simp only [Act.put, s1, s2, s3]
      refine wpAnyH_take (i := 3) (oi := _) (v := ?_) rfl (by kernel_rfl) (by kernel_rfl) (by kernel_rfl) (fun _ _ _ h => h) (Or.inl ⟨by first | kernel_rfl | rfl, ?_⟩) (by assumption) ?_
      rotate_left
      · (intro wS hSw; (try dsimp only at hSw); have z0 := cell_ext hSw c0; have z1 := cell_ext hSw c1; (try go_simp); (try with_reducible rfl))
      try simp only [Act.put, s1, s2, s3]
      refine wpAnyH_take (i := 4) (oi := _) (v := ?_) rfl (by kernel_rfl) (by kernel_rfl) (by kernel_rfl) (fun _ _ _ h => h) (Or.inl ⟨by first | kernel_rfl | rfl, ?_⟩) (by assumption) ?_
      rotate_left
      · (intro wS hSw; (try dsimp only at hSw); have z0 := cell_ext hSw c0; have z1 := cell_ext hSw c1; (try go_simp); (try with_reducible rfl))
      try simp only [Act.put, s1, s2, s3]
      refine wpAnyH_take (i := 5) (oi := _) (v := ?_) rfl (by kernel_rfl) (by kernel_rfl) (by kernel_rfl) (fun _ _ _ h => h) (Or.inl ⟨by first | kernel_rfl | rfl, ?_⟩) (by assumption) ?_
      rotate_left
      · (intro wS hSw; (try dsimp only at hSw); have z0 := cell_ext hSw c0; have z1 := cell_ext hSw c1; (try go_simp); (try with_reducible rfl))
      try simp only [Act.put, s1, s2, s3]
      refine wpAnyH_take (i := 6) (oi := _) (v := ?_) rfl (by kernel_rfl) (by kernel_rfl) (by kernel_rfl) (fun _ _ _ h => h) (Or.inl ⟨by first | kernel_rfl | rfl, ?_⟩) (by assumption) ?_
      rotate_left
      · (intro wS hSw; (try dsimp only at hSw); have z0 := cell_ext hSw c0; have z1 := cell_ext hSw c1; (try go_simp); (try with_reducible rfl))
      try simp only [Act.put, s1, s2, s3]
      refine wpAnyH_take (i := 7) (oi := _) (v := ?_) rfl (by kernel_rfl) (by kernel_rfl) (by kernel_rfl) (fun _ _ _ h => h) (Or.inl ⟨by first | kernel_rfl | rfl, ?_⟩) (by assumption) ?_
      rotate_left
      · (intro wS hSw; (try dsimp only at hSw); have z0 := cell_ext hSw c0; have z1 := cell_ext hSw c1; (try go_simp); (try with_reducible rfl))
      try simp only [Act.put, s1, s2, s3]
      refine wpAnyH_ready (rs := [8]) (by kernel_rfl) (by simp) ?_
      refine AllReadyH.cons rfl (fun KQ hKQ => ?_) AllReadyH.nil
      go_simp
      (refine (same_any B B2 s.length s.length d d2 s s _ (Lib.hid (HZ.out.ext (by repeat (first | exact Ext.refl _ | assumption | refine Ext.drew ?_ | refine Ext.drewN ?_ _ | refine Ext.alloc ?_ _)))) (Lib.hid (HZ2.out.ext (by repeat (first | exact Ext.refl _ | assumption | refine Ext.drew ?_ | refine Ext.drewN ?_ _ | refine Ext.alloc ?_ _)))) (by omega) (by omega)).mono ?_; rintro e8 w8 ⟨rfl, k8⟩; rw [show decide (s = s) = true from decide_eq_true rfl]; have kc : Ext wr w8 := Ext.trans (by repeat (first | exact Ext.refl _ | assumption | refine Ext.drew ?_ | refine Ext.drewN ?_ _ | refine Ext.alloc ?_ _)) k8)
      refine hKQ.out _ _ ?_ (fun hHeld => ?_)
      · (try dsimp only); repeat (first | exact Ext.refl _ | assumption | refine Ext.drew ?_ | refine Ext.drewN ?_ _ | refine Ext.alloc ?_ _)
      clear hKQ KQ
      try simp only [Act.put, s1, s2, s3]
      refine wpAnyH_ready (rs := [9]) (by kernel_rfl) (by simp) ?_
      refine AllReadyH.cons rfl (fun KQ hKQ => ?_) AllReadyH.nil
      go_simp
      refine hKQ.out _ _ ?_ (fun hHeld => ?_)
      · (try dsimp only); repeat (first | exact Ext.refl _ | assumption | refine Ext.drew ?_ | refine Ext.drewN ?_ _ | refine Ext.alloc ?_ _)
      clear hKQ KQ
      try simp only [Act.put, s1, s2, s3]
      refine wpAnyH_done (by kernel_rfl) ?_ _
      go_wp2
      go_roundw
      case rel => exact ⟨k + 1, by omega, by go_num, Lib.hid (hE.out.trans kc)⟩
      case measure => simp [intOf]; omega
    · have hkn : k = shs.length := by omega
      go_wp2
      go_ret
      exact ⟨rfl, hE.out⟩
theorem sameNone_any (w : World) : Calls Try.prog 35 #[.slice none 0 0, .slice none 0 0] w fun e w' => e = .returned (.bool true) ∧ Ext w w' :=
  sameRows_any none none 0 0 [] w (Lib.hid ⟨Nat.le_refl _, fun h => absurd h (by simp)⟩) (Lib.hid ⟨Nat.le_refl _, fun h => absurd h (by simp)⟩) (Lib.hid fun s h => by cases h) (by decide)
/-- Rows of whatever length. -/
structure SW (w : World) (A : Option Addr) (c : Nat) (shs : List (List Int)) : Prop where
  sx : SX w A c shs
/-- What short answers. -/
def ShPost (rows : List (List Int)) (nf nt : Nat) (m : Int) (w : World) (e : Ending) (w' : World) : Prop := ∃ b : Bool, e = .returned (.bool b) ∧ (b = true → rows.length ≤ 70 ∧ nf ≤ 70 ∧ nt ≤ 70 ∧ m ≤ 200 ∧ ∀ r ∈ rows, r.length ≤ 70) ∧ w' = w
set_option maxHeartbeats 2000000 in
theorem short_any (Ah A A' : Option Addr) (ch c c' nf nt : Nat) (rows : List (List Int)) (m : Int) (w : World) (hR : Hid (SX w Ah ch rows)) :
    Calls Try.prog 37 #[.slice Ah rows.length ch, .slice A nf c, .slice A' nt c', .int .i64 m] w fun e w' => ShPost rows nf nt m w e w' := by
  go_enter Try.func37, Try.ntmps37
  by_cases h1 : (70 : Int) < (rows.length : Int)
  · go_wp2
    go_ret
    exact ⟨false, rfl, (fun h => by cases h), rfl⟩
  by_cases h2 : (70 : Int) < (nf : Int)
  · go_wp2
    go_ret
    exact ⟨false, rfl, (fun h => by cases h), rfl⟩
  by_cases h3 : (70 : Int) < (nt : Int)
  · go_wp2
    go_ret
    exact ⟨false, rfl, (fun h => by cases h), rfl⟩
  by_cases h4 : (200 : Int) < m
  · go_wp2
    go_ret
    exact ⟨false, rfl, (fun h => by cases h), rfl⟩
  go_wp2_with fail
  go_loop [30] (fun i => ∃ k : Nat, k ≤ rows.length ∧ i = .int .i64 (k : Int) ∧ Hid (∀ j r, j < k → rows[j]? = some r → r.length ≤ 70)) (fun i => rows.length - (intOf i).toNat)
  case atStart => exact ⟨0, by omega, rfl, Lib.hid (fun j r h => absurd h (by omega))⟩
  case round =>
    obtain ⟨k, hk, rfl, hP⟩ := hrel
    by_cases hlt : k < rows.length
    · obtain ⟨s, hs⟩ : ∃ s, rows[k]? = some s := ⟨_, List.getElem?_eq_getElem hlt⟩
      obtain ⟨ad, rfl, hc⟩ := hR.out.cells (by omega)
      obtain ⟨B, d, c0, hz⟩ := hc k s hs
      have HS := Lib.hid hs
      have i0 : (0 : Int) ≤ (k : Int) := by omega
      have i1 : (k : Int) < (rows.length : Int) := by omega
      clear hs hc hz
      by_cases h5 : (70 : Int) < (s.length : Int)
      · go_wp2
        go_ret
        exact ⟨false, rfl, (fun h => by cases h), rfl⟩
      · have HP := Lib.hid (show ∀ j r, j < k + 1 → rows[j]? = some r → r.length ≤ 70 from fun j r hj hr => by
          rcases Nat.lt_or_ge j k with g | g
          · exact hP.out j r g hr
          · obtain rfl : j = k := by omega
            rw [HS.out] at hr
            injection hr with hr
            subst hr
            omega)
        go_wp2
        go_round
        case rel => exact ⟨k + 1, by omega, by go_num, HP⟩
        case measure => simp [intOf]; omega
    · have HF := Lib.hid (show ∀ r ∈ rows, r.length ≤ 70 from fun r hr => by
        obtain ⟨j, hj, e⟩ := List.getElem_of_mem hr
        exact hP.out j r (by omega) (by rw [List.getElem?_eq_getElem hj, e]))
      go_wp2
      go_ret
      exact ⟨true, rfl, fun _ => ⟨by omega, by omega, by omega, by omega, HF.out⟩, rfl⟩
end Go.Proofs.Ytdnjjpkajiehgaa
