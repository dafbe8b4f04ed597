/-
  Most of package interval: the greatest size of an end.
-/
import Derived.Test.YtjeipbahddhfgaaJMe
import Derived.Deep.QuietTactic
import Derived.Deep.RegionHeld3
namespace Go.Proofs.Ytjeipbahddhfgaa
open Go.RowKit
set_option linter.unusedVariables false
set_option maxRecDepth 100000

/-- Ends of which sums and signs pass no word. -/
def EndOk (v : Int) : Prop := -4611686018427387904 ≤ v ∧ v ≤ 4611686018427387904
theorem size_any (v : Int) (w : World) (h : EndOk v) : Calls Try.prog 42 #[.int .i64 v] w fun e w' => e = .returned (.int .i64 (max v (-v))) ∧ w' = w := by
  obtain ⟨h0, h1⟩ := h
  have h2 : ¬ v = -9223372036854775808 := by omega
  go_enter Try.func42, Try.ntmps42
  go_wp2
  go_ret
  exact ⟨by first | rfl | go_num, rfl⟩
/-- Spans, wherever they lie. -/
structure SpX (w : World) (A : Option Addr) (c : Nat) (l : List (Int × Int)) : Prop where
  room : l.length ≤ c
  cells : 0 < l.length → ∃ ad, A = some ad ∧ ∀ (j : Nat) (p : Int × Int), l[j]? = some p → w.cell? (ad.add (j * 2)) = some (.int .i64 p.1) ∧ w.cell? ⟨(ad.add (j * 2)).block, (ad.add (j * 2)).off + 1, none⟩ = some (.int .i64 p.2)
theorem SpX.ext {w w' : World} {A : Option Addr} {c : Nat} {l : List (Int × Int)} (h : SpX w A c l) (k : Ext w w') : SpX w' A c l :=
  ⟨h.room, fun hn => by
    obtain ⟨ad, e, hc⟩ := h.cells hn
    exact ⟨ad, e, fun j p hp => ⟨cell_ext k (hc j p hp).1, cell_ext k (hc j p hp).2⟩⟩⟩
/-- The greatest size of an end, and one so far. -/
def mostF : List (Int × Int) → Int → Int
  | [], m => m
  | p :: r, m => mostF r (max (max m (max p.1 (-p.1))) (max p.2 (-p.2)))
set_option maxHeartbeats 4000000 in
theorem most_any (A : Option Addr) (c : Nat) (l : List (Int × Int)) (w : World) (hX : Hid (SpX w A c l)) (hl : l.length ≤ 9223372036854775807) (ho : Hid (∀ p ∈ l, EndOk p.1 ∧ EndOk p.2)) :
    Calls Try.prog 25 #[.slice A l.length c] w fun e w' => e = .returned (.int .i64 (mostF l 0)) ∧ Ext w w' := by
  go_enter Try.func25, Try.ntmps25
  go_wp2_with fail
  go_loopw [3, 8] (fun m i wr => ∃ (k : Nat) (z : Int), k ≤ l.length ∧ i = .int .i64 (k : Int) ∧ m = .int .i64 z ∧ 0 ≤ z ∧ z ≤ 4611686018427387904 ∧ Hid (Ext w wr) ∧ Hid (mostF l 0 = mostF (l.drop k) z)) (fun _ i _ => l.length - (intOf i).toNat)
  case atStart => exact ⟨0, 0, by omega, rfl, rfl, by omega, by omega, Lib.hid (Ext.refl _), Lib.hid rfl⟩
  case round =>
    obtain ⟨k, z, hk, rfl, rfl, hz0, hz1, hE, hP⟩ := hrel
    by_cases hlt : k < l.length
    · obtain ⟨⟨lo, hv⟩, hp⟩ : ∃ p, l[k]? = some p := ⟨_, List.getElem?_eq_getElem hlt⟩
      obtain ⟨ad, rfl, hc⟩ := (hX.out.ext hE.out).cells (by omega)
      obtain ⟨c0, c1⟩ := hc k _ hp
      obtain ⟨ho1, ho2⟩ := ho.out _ (List.mem_of_getElem? hp)
      have HP := Lib.hid hp
      clear hc hp
      dsimp only at c0 c1 ho1 ho2
      have j0 : (0 : Int) ≤ (k : Int) := by omega
      have j1 : (k : Int) < (l.length : Int) := by omega
      have n0 : (wr.alloc (.cells #[.int .i64 lo, .int .i64 hv] 53)).cell? ⟨wr.heap.size, 0, none⟩ = some (.int .i64 lo) := by simp
      have n1 : (wr.alloc (.cells #[.int .i64 lo, .int .i64 hv] 53)).cell? ⟨wr.heap.size, 1, none⟩ = some (.int .i64 hv) := by simp
      have ka : Ext wr (wr.alloc (.cells #[.int .i64 lo, .int .i64 hv] 53)) := (Ext.refl wr).alloc _
      go_wp2_with fail
      generalize wr.alloc (.cells #[.int .i64 lo, .int .i64 hv] 53) = W at *
      refine wp_region_held_drew (S := (fun w' => Ext W w')) (by kernel_rfl) ?_ (fun hHeld => ?_)
      · (try dsimp only); repeat (first | exact Ext.refl _ | assumption | refine Ext.drew ?_ | refine Ext.drewN ?_ _ | refine Ext.alloc ?_ _)
      refine wpAnyH_take (i := 0) (oi := _) (v := ?_) rfl (by kernel_rfl) (by kernel_rfl) (by kernel_rfl) (fun _ _ _ h => h) (Or.inl ⟨by first | kernel_rfl | rfl, ?_⟩) (by assumption) ?_
      rotate_left
      · (intro wS hSw; (try dsimp only at hSw); have z0 := cell_ext hSw n0; have z1 := cell_ext hSw n1; (try go_simp); (try with_reducible rfl))
      try simp only [Act.put, s1, s2, s3]
      refine wpAnyH_take (i := 1) (oi := _) (v := ?_) rfl (by kernel_rfl) (by kernel_rfl) (by kernel_rfl) (fun _ _ _ h => h) (Or.inl ⟨by first | kernel_rfl | rfl, ?_⟩) (by assumption) ?_
      rotate_left
      · (intro wS hSw; (try dsimp only at hSw); have z0 := cell_ext hSw n0; have z1 := cell_ext hSw n1; (try go_simp); (try with_reducible rfl))
      try simp only [Act.put, s1, s2, s3]
      refine wpAnyH_take (i := 2) (oi := _) (v := ?_) rfl (by kernel_rfl) (by kernel_rfl) (by kernel_rfl) (fun _ _ _ h => h) (Or.inl ⟨by first | kernel_rfl | rfl, ?_⟩) (by assumption) ?_
      rotate_left
      · (intro wS hSw; (try dsimp only at hSw); have z0 := cell_ext hSw n0; have z1 := cell_ext hSw n1; (try go_simp); (try with_reducible rfl))
      try simp only [Act.put, s1, s2, s3]
      refine wpAnyH_take (i := 4) (oi := _) (v := ?_) rfl (by kernel_rfl) (by kernel_rfl) (by kernel_rfl) (fun _ _ _ h => h) (Or.inl ⟨by first | kernel_rfl | rfl, ?_⟩) (by assumption) ?_
      rotate_left
      · (intro wS hSw; (try dsimp only at hSw); have z0 := cell_ext hSw n0; have z1 := cell_ext hSw n1; (try go_simp); (try with_reducible rfl))
      try simp only [Act.put, s1, s2, s3]
      refine wpAnyH_take (i := 5) (oi := _) (v := ?_) rfl (by kernel_rfl) (by kernel_rfl) (by kernel_rfl) (fun _ _ _ h => h) (Or.inl ⟨by first | kernel_rfl | rfl, ?_⟩) (by assumption) ?_
      rotate_left
      · (intro wS hSw; (try dsimp only at hSw); have z0 := cell_ext hSw n0; have z1 := cell_ext hSw n1; (try go_simp); (try with_reducible rfl))
      try simp only [Act.put, s1, s2, s3]
      refine wpAnyH_ready (rs := [3]) (by kernel_rfl) (by simp) ?_
      refine AllReadyH.cons rfl (fun KQ hKQ => ?_) AllReadyH.nil
      go_simp
      (refine (size_any lo _ ho1).mono ?_; rintro e7 w7 ⟨rfl, rfl⟩)
      refine hKQ.out _ _ ?_ (fun hHeld => ?_)
      · (try dsimp only); repeat (first | exact Ext.refl _ | assumption | refine Ext.drew ?_ | refine Ext.drewN ?_ _ | refine Ext.alloc ?_ _)
      clear hKQ KQ
      try simp only [Act.put, s1, s2, s3]
      refine wpAnyH_ready (rs := [6]) (by kernel_rfl) (by simp) ?_
      refine AllReadyH.cons rfl (fun KQ hKQ => ?_) AllReadyH.nil
      go_simp
      (refine (size_any hv _ ho2).mono ?_; rintro e7 w7 ⟨rfl, rfl⟩)
      refine hKQ.out _ _ ?_ (fun hHeld => ?_)
      · (try dsimp only); repeat (first | exact Ext.refl _ | assumption | refine Ext.drew ?_ | refine Ext.drewN ?_ _ | refine Ext.alloc ?_ _)
      clear hKQ KQ
      try simp only [Act.put, s1, s2, s3]
      refine wpAnyH_ready (rs := [7]) (by kernel_rfl) (by simp) ?_
      refine AllReadyH.cons rfl (fun KQ hKQ => ?_) AllReadyH.nil
      go_simp
      refine hKQ.out _ _ ?_ (fun hHeld => ?_)
      · (try dsimp only); repeat (first | exact Ext.refl _ | assumption | refine Ext.drew ?_ | refine Ext.drewN ?_ _ | refine Ext.alloc ?_ _)
      clear hKQ KQ
      try simp only [Act.put, s1, s2, s3]
      refine wpAnyH_ready (rs := [8]) (by kernel_rfl) (by simp) ?_
      refine AllReadyH.cons rfl (fun KQ hKQ => ?_) AllReadyH.nil
      go_simp
      refine hKQ.out _ _ ?_ (fun hHeld => ?_)
      · (try dsimp only); repeat (first | exact Ext.refl _ | assumption | refine Ext.drew ?_ | refine Ext.drewN ?_ _ | refine Ext.alloc ?_ _)
      clear hKQ KQ
      try simp only [Act.put, s1, s2, s3]
      refine wpAnyH_done (by kernel_rfl) ?_ _
      go_wp2
      refine ⟨⟨k + 1, max (max z (max lo (-lo))) (max hv (-hv)), by omega, by go_num, ?_, by omega, ?_, Lib.hid (hE.out.trans (ka.trans (by repeat (first | exact Ext.refl _ | refine Ext.drew ?_ | refine Ext.drewN ?_ _)))), Lib.hid ?_⟩, by simp [intOf]; omega⟩
      · congr 1
        (repeat' split) <;> omega
      · obtain ⟨u0, u1⟩ := ho1
        obtain ⟨u2, u3⟩ := ho2
        omega
      · obtain ⟨hl2, e2⟩ := List.getElem?_eq_some_iff.1 HP.out
        rw [hP.out, List.drop_eq_getElem_cons hl2, e2, mostF]
    · have hkn : k = l.length := by omega
      have HR := Lib.hid (show mostF l 0 = z by rw [hP.out, List.drop_eq_nil_of_le (by omega)]; rfl)
      go_wp2
      go_ret
      exact ⟨by rw [HR.out]; rfl, hE.out⟩
end Go.Proofs.Ytjeipbahddhfgaa
