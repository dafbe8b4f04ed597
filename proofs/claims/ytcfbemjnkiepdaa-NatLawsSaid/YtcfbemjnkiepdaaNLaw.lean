/-
  Whether naturals are few words long; the law NatBack walked; and how a natural or a whole number that is handed in reads.
-/
import Derived.Test.YtcfbemjnkiepdaaNExt
import Derived.Carry
import Derived.ChangeSlices
import Derived.Lib.SmallJoins
import Derived.OpenShut
import Derived.Test.YtcfbemjnkiepdaaWMath3
namespace Go.Proofs.Ytcfbemjnkiepdaa
open Go.RowKit
set_option linter.unusedVariables false

theorem few_any (g K : Nat) (As : Nat → Option Addr) (Ns Cs : Nat → Nat) (w : World) (hK : K ≤ 10) (hc : ∀ j, j < K → w.cell? ⟨g, j, none⟩ = some (.slice (As j) (Ns j) (Cs j))) :
    Calls Try.prog 32 #[.slice (some ⟨g, 0, none⟩) K K] w fun e w' => e = .returned (.bool (decide (∀ j, j < K → Ns j ≤ 30))) ∧ w = w' := by
  have HC := Lib.hid hc
  clear hc
  go_enter Try.func32, Try.ntmps32
  go_wp2
  go_loop [7] (fun i => ∃ k : Nat, k ≤ K ∧ i = .int .i64 k ∧ Hid (∀ j, j < k → Ns j ≤ 30)) (fun i => K - (intOf i).toNat)
  case atStart => exact ⟨0, by omega, rfl, Lib.hid fun j hj => absurd hj (by omega)⟩
  case round =>
    obtain ⟨k, hk, rfl, hall⟩ := hrel
    by_cases hlt : k < K
    · have hck := HC.out k hlt
      obtain ⟨Ak, eA⟩ : ∃ a, As k = a := ⟨_, rfl⟩
      obtain ⟨Nk, eN⟩ : ∃ a, Ns k = a := ⟨_, rfl⟩
      obtain ⟨Ck, eC⟩ : ∃ a, Cs k = a := ⟨_, rfl⟩
      rw [eA, eN, eC] at hck
      have EN := Lib.hid eN
      clear eA eN eC
      by_cases h30 : Nk ≤ 30
      · have hd : decide ((30 : Int) < Nk) = false := by simp; omega
        go_wp2
        refine ⟨⟨k + 1, by omega, by go_num, Lib.hid fun j hj => ?_⟩, by simp [intOf]; omega⟩
        by_cases hjk : j = k
        · subst hjk; rw [EN.out]; exact h30
        · exact hall.out j (by omega)
      · have hd : decide ((30 : Int) < Nk) = true := by simp; omega
        have HE := Lib.hid (show decide (∀ j, j < K → Ns j ≤ 30) = false by
          simp only [decide_eq_false_iff_not]
          intro hh
          have := hh k hlt
          rw [EN.out] at this
          exact h30 this)
        go_wp2
        go_ret
        exact ⟨by rw [HE.out]; rfl, rfl⟩
    · have HE := Lib.hid (show decide (∀ j, j < K → Ns j ≤ 30) = true by
        simp only [decide_eq_true_eq]
        intro j hj
        exact hall.out j (by omega))
      go_wp2
      go_ret
      exact ⟨by rw [HE.out]; rfl, rfl⟩

/-- What few answers of two naturals. -/
theorem few2_any (w : World) (A A' : Option Addr) (n n' c c' : Nat) (t : TypeId) (g : Nat) (hg : g = w.heap.size) (b : Bool) (hb : decide (n ≤ 30 ∧ n' ≤ 30) = b) :
    Calls Try.prog 32 #[.slice (some ⟨g, 0, none⟩) 2 2] (w.alloc (.cells #[.slice A n c, .slice A' n' c'] t)) fun e w' => e = .returned (.bool b) ∧ Ext w w' := by
  subst hg
  refine (few_any w.heap.size 2 (fun j => if j = 0 then A else A') (fun j => if j = 0 then n else n') (fun j => if j = 0 then c else c') _ (by omega) (fun j hj => ?_)).mono ?_
  · match j, hj with
    | 0, _ => simp
    | 1, _ => simp
  · rintro e w' ⟨rfl, rfl⟩
    refine ⟨?_, (Ext.refl w).alloc _⟩
    rw [← hb]
    congr 2
    simp only [decide_eq_decide]
    constructor
    · intro h
      exact ⟨h 0 (by omega), h 1 (by omega)⟩
    · rintro ⟨h1, h2⟩ j hj
      match j, hj with
      | 0, _ => exact h1
      | 1, _ => exact h2

theorem bitLen_zero {n : Nat} (h : n = 0) : Go.bitLen n = 0 := by subst h; rfl
theorem bitLen_pos {n : Nat} (h : 0 < n) : 0 < Go.bitLen n := by
  obtain ⟨a, _⟩ := Go.bitLen_spec n
  rcases Nat.eq_zero_or_pos (Go.bitLen n) with h0 | h0
  · rw [h0] at a; omega
  · exact h0

set_option maxHeartbeats 2000000 in
theorem natBack_walk (A A' : Option Addr) (n n' c c' : Nat) (xs ys : List Nat) (w : World) (h : NX w A n c xs) (h' : NX w A' n' c' ys) :
    Calls Try.prog 12 #[.slice A n c, .slice A' n' c'] w fun e w' => e = .returned (.bool true) ∧ Ext w w' := by
  go_enter Try.func12, Try.ntmps12
  go_wp2_with fail
  refine (fixed2_any w).mono ?_
  rintro e w1 ⟨rfl, k1⟩
  by_cases hf : n ≤ 30 ∧ n' ≤ 30
  · go_wp2_with fail
    refine (few2_any w1 A A' n n' c c' _ w1.heap.size rfl true (by simpa using hf)).mono ?_
    rintro e w2 ⟨rfl, k2⟩
    obtain ⟨hn, hn'⟩ := hf
    have x2 := h.ext (k1.trans k2)
    have y2 := h'.ext (k1.trans k2)
    go_wp2_with fail
    refine (divX x2 y2 (by omega) (by omega)).mono ?_
    rintro e w3 (⟨hY, rfl, he3⟩ | ⟨hY, A3, n3, c3, A4, n4, c4, rfl, hn3, hn4, hx3, hx4, he3⟩)
    · have k3 : Ext w2 w3 := he3
      have hbz : ((Go.bitLen (nv ys) : Nat) : Int) = 0 := by rw [bitLen_zero hY]; rfl
      have HB := Lib.hid hbz
      clear hbz hY
      go_wp2_with fail
      refine (natBits_any A' n' c' _ ys w3 (y2.ext k3) (by omega)).mono ?_
      rw [HB.out]
      rintro e w' ⟨rfl, rfl⟩
      go_wp2
      go_ret
      exact ⟨rfl, k1.trans (k2.trans k3)⟩
    · have k3 : Ext w2 w3 := he3
      have hbz : (((Go.bitLen (nv ys) : Nat) : Int) == 0) = false := by
        have := bitLen_pos hY
        simp only [beq_eq_false_iff_ne]
        omega
      go_wp2_with fail
      refine (natBits_any A' n' c' _ ys w3 (y2.ext k3) (by omega)).mono ?_
      rintro e w' ⟨rfl, rfl⟩
      go_wp2_with fail
      refine (addX (x2.ext k3) (y2.ext k3) (by omega) (by omega)).mono ?_
      rintro e w4 ⟨A5, n5, c5, rfl, hn5, hx5, k4⟩
      go_wp2_with fail
      refine (subX hx5 (y2.ext (k3.trans k4)) (by omega) (by omega)).mono ?_
      rw [nv_nw]
      rintro e w5 (⟨hlt, _⟩ | ⟨_, A6, n6, c6, rfl, hn6, hx6, he5⟩)
      · omega
      have k5 : Ext w4 w5 := he5
      have D1 := Lib.hid (cmpS_lt (m := nv (nw (nv xs % nv ys))) (n := nv ys) (by rw [nv_nw]; exact Nat.mod_lt _ hY))
      go_wp2_with fail
      refine (cmpX (NX.ext hx4 (k4.trans k5)) (y2.ext (k3.trans (k4.trans k5))) (by omega) (by omega)).mono ?_
      rw [D1.out]
      rintro e w6 ⟨rfl, k6⟩
      go_wp2_with fail
      refine (mulX (NX.ext hx3 (k4.trans (k5.trans k6))) (y2.ext (k3.trans (k4.trans (k5.trans k6)))) (by omega) (by omega)).mono ?_
      rintro e w7 ⟨A7, n7, c7, rfl, hn7, hx7, k7⟩
      go_wp2_with fail
      refine (addX hx7 (NX.ext hx4 (k4.trans (k5.trans (k6.trans k7)))) (by omega) (by omega)).mono ?_
      rintro e w8 ⟨A8, n8, c8, rfl, hn8, hx8, k8⟩
      have D2 := Lib.hid (cmpS_eq (m := nv (nw (nv (nw (nv (nw (nv xs / nv ys)) * nv ys)) + nv (nw (nv xs % nv ys))))) (n := nv xs) (by
        rw [nv_nw, nv_nw, nv_nw, nv_nw, Nat.mul_comm]; exact Nat.div_add_mod _ _))
      go_wp2_with fail
      refine (cmpX hx8 (x2.ext (k3.trans (k4.trans (k5.trans (k6.trans (k7.trans k8)))))) (by omega) (by omega)).mono ?_
      rw [D2.out]
      rintro e w9 ⟨rfl, k9⟩
      have D3 := Lib.hid (cmpS_eq (m := nv (nw (nv xs + nv ys - nv ys))) (n := nv xs) (by rw [nv_nw]; omega))
      go_wp2_with fail
      refine (cmpX (NX.ext hx6 (k6.trans (k7.trans (k8.trans k9)))) (x2.ext (k3.trans (k4.trans (k5.trans (k6.trans (k7.trans (k8.trans k9))))))) (by omega) (by omega)).mono ?_
      rw [D3.out]
      rintro e w10 ⟨rfl, k10⟩
      go_wp2
      go_ret
      exact ⟨rfl, k1.trans (k2.trans (k3.trans (k4.trans (k5.trans (k6.trans (k7.trans (k8.trans (k9.trans k10))))))))⟩
  · go_wp2_with fail
    refine (few2_any w1 A A' n n' c c' _ w1.heap.size rfl false (by simpa using hf)).mono ?_
    rintro e w2 ⟨rfl, k2⟩
    go_wp2
    go_ret
    exact ⟨rfl, k1.trans k2⟩

section
variable {H : Type} {enc : TypeId × Value → H}
theorem cells_u64 : Try.prog.cellsOf 22 = 1 := by kernel_rfl
theorem cells_int : Try.prog.cellsOf 52 = 2 := by kernel_rfl
theorem laidOut : laidOutB Try.prog = true := by kernel_rfl
/-- A natural that is handed in reads as words. -/
theorem nat_cells {W : World} {fuel : Nat} {cs : List Value} {x : DataW H × List MemPlace} (h : DataW.trod enc Try.prog W 0 (fun _ => true) true fuel 37 cs = some x) :
    ∃ A n c xs, cs = [.slice A n c] ∧ NX W A n c xs := by
  rcases ChangeShapes.open_ints Try.underlying37 Try.underlying22 cells_u64 h with ⟨rfl, _⟩ | ⟨a, len, cap, zs, rfl, _, hl, hm, hz, _, hcell, hwz⟩
  · exact ⟨none, 0, 0, [], rfl, Rd.none_ _ _ _ _ _ _⟩
  · simp only [if_true] at hz
    refine ⟨some a, len, cap, (zs.take len).map Int.toNat, rfl, by simp; omega, hl, ?_, fun hn => ⟨a, rfl, ?_, fun j x hx => ?_⟩⟩
    · intro x hx
      obtain ⟨z, hz', rfl⟩ := List.mem_map.1 hx
      have := word_of (hwz z (List.mem_of_mem_take hz'))
      rw [W64_eq]
      omega
    · have := hcell 0 (by omega)
      exact World.block_lt_of_cell? W a (by simpa [Addr.add] using this)
    · rw [List.getElem?_map] at hx
      obtain ⟨z, hz1, rfl⟩ := Option.map_eq_some_iff.1 hx
      rw [List.getElem?_take] at hz1
      split at hz1
      · have hj := (List.getElem?_eq_some_iff.1 hz1).1
        have hw := word_of (hwz z (List.mem_of_getElem? hz1))
        rw [hcell j hj, show zs.getD j 0 = z by simp [List.getD, hz1], Int.toNat_of_nonneg hw.1]
      · cases hz1
end
end Go.Proofs.Ytcfbemjnkiepdaa
