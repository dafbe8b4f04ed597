/-
  Where the slots' values stand: placesOf; a batch in memory; Power; a nil batch.
-/
import Derived.Test.YtoimbommiheccaaDoorZ21
import Derived.Test.YtoimbommiheccaaDoorZ26
import Derived.Test.YtoimbommiheccaaDoorZ32
namespace Go.Proofs.YtoimbommiheccaaDoor
open Go.RowKit
set_option linter.unusedVariables false
set_option maxRecDepth 100000

theorem info_place : (Tryd.prog.info? 65).map (fun i => (i.zero, i.size, i.bytes)) = some (some (.agg #[.int .i64 0, .int .i64 0]), 2, 16) := by kernel_rfl
def newPlace (c : Nat) : Array Value := ((List.range (c * 2)).map fun _ => Value.int .i64 0).toArray
theorem newPlace_rw (w : World) (c : Nat) : RW (w.alloc (.cells (newPlace c) 65)) w.heap.size 65 (c * 2) (fun _ => .int .i64 0) := heap_alloc_new w _
theorem make_place (c : Nat) (hc : c ≤ 1000000) (w : World) :
    (Instr.makeSlice 54 (.int .i64 (c : Int)) (.int .i64 (c : Int))).run Tryd.prog w = .ok (.slice (some ⟨w.heap.size, 0, none⟩) c c) (w.alloc (.cells (newPlace c) 65)) := by
  obtain ⟨i0, hi, hz0, hz1, hz2⟩ := info_parts info_place
  have hr := run_make (P := Tryd.prog) w 54 65 i0 (.agg #[.int .i64 0, .int .i64 0]) Tryd.underlying54 hi hz0 .i64 .i64 (c : Int) (c : Int) (by omega) (by omega) (by rw [hz2]; omega) (by omega)
  rw [hz1] at hr
  simp only [Int.toNat_natCast] at hr
  rw [hr]
  have e : madeCells (Value.agg #[.int .i64 0, .int .i64 0]).cells (c * 2) = newPlace c := by
    apply Array.toList_inj.1
    unfold newPlace madeCells
    apply List.ext_getElem?
    intro j
    by_cases hj : j < c * 2
    · rcases (show j % 2 = 0 ∨ j % 2 = 1 by omega) with h | h <;> simp [hj, Value.cells, h]
    · simp [hj]
  rw [e]
/-- The cells of the places. -/
def plN (n i : Nat) : Nat := if i % 2 = 0 then atB n (i / 2) else n - 1 - atB n (i / 2)
def plF (n i : Nat) : Value := .int .i64 (plN n i : Int)
theorem placeAt_any (x : Nat) (w : World) (h1 : 1 ≤ x) (hx : x ≤ 100000) : Calls Tryd.prog 34 #[.int .i64 (x : Int)] w fun e w' => e = .returned (.int .i64 (((x - 1) / 2 : Nat) : Int)) ∧ w = w' := by
  have ht : ((x : Int) - 1).tdiv 2 = (((x - 1) / 2 : Nat) : Int) := by
    rw [Int.tdiv_eq_ediv_of_nonneg (by omega)]; omega
  go_enter Tryd.func34, Tryd.ntmps34
  go_wp2
  go_ret
  exact ⟨by first | rfl | (simp only [ht]) | (congr 2; omega) | (congr 2), rfl⟩
theorem powerAt_any (x : Nat) (w : World) (hx : x ≤ 100000) : Calls Tryd.prog 28 #[.int .i64 (x : Int)] w fun e w' => e = .returned (.int .i64 ((2 * x + 1 : Nat) : Int)) ∧ w = w' := by
  go_enter Tryd.func28, Tryd.ntmps28
  go_wp2
  go_ret
  exact ⟨by first | rfl | (congr 2; omega) | simp, rfl⟩
set_option maxHeartbeats 4000000 in
theorem placesOf_any (n : Nat) (w : World) (hn0 : 2 ≤ n) (hn : n ≤ 4096) (hev : n % 2 = 0) :
    Calls Tryd.prog 21 #[.int .i64 (n : Int)] w fun ee w' => ∃ g, ee = .returned (.slice (some ⟨g, 0, none⟩) (n / 2) (n / 2)) ∧ w.heap.size ≤ g ∧ RW w' g 65 (n / 2 * 2) (plF n) ∧ Ext w w' := by
  have hmk := make_place (n / 2) (by omega)
  have hq : ((n / 2 : Nat) : Int) = (n : Int) / 2 := by omega
  have hq2 : (n : Int).tdiv 2 = ((n / 2 : Nat) : Int) := by rw [Int.tdiv_eq_ediv_of_nonneg (by omega)]; omega
  obtain ⟨h, hh⟩ : ∃ h, h = n / 2 := ⟨_, rfl⟩
  rw [← hh] at hmk hq2 ⊢
  have hhe : (h : Int) = (n : Int) / 2 := by omega
  rw [hhe] at hmk
  have hle1 : 2 * h ≤ n := by omega
  have hle2 : n ≤ 2 * h := by omega
  clear hhe hq2 hh
  clear hq
  go_enter Tryd.func21, Tryd.ntmps21
  go_wp2
  clear hmk
  have hr0 := newPlace_rw w h
  have k0 : Ext w (w.alloc (.cells (newPlace h) 65)) := (Ext.refl w).alloc _
  have hp0 : pw3 n 0 = 1 := by unfold pw3; rw [Nat.pow_zero]; exact Nat.mod_eq_of_lt (by omega)
  go_loopw [4, 12] (fun p i wr => ∃ k : Nat, k ≤ h ∧ i = .int .i64 (k : Int) ∧ p = .int .i64 (pw3 n k : Int) ∧ RW wr w.heap.size 65 (h * 2) (fun i => if i < k * 2 then plF n i else .int .i64 0) ∧ Ext w wr) (fun _ i _ => h - (intOf i).toNat)
  case atStart => exact ⟨0, by omega, rfl, by rw [hp0]; rfl, hr0.congr fun i _ => by rw [if_neg (by omega)], k0⟩
  case round =>
    obtain ⟨k, hk, rfl, rfl, hr, kr⟩ := hrel
    clear hr0 k0 hp0
    by_cases hlt : k < h
    · have hpl : pw3 n k < 2 * n := Nat.mod_lt _ (by omega)
      have hpo : 2 * atB n k + 1 ≤ pw3 n k ∧ pw3 n k ≤ 2 * atB n k + 1 := by have := pw3_at n k; omega
      have hal := at_lt (n := n) (by omega) k
      have HNX := Lib.hid (pw3_next n k)
      have HA := Lib.hid (show (pw3 n k - 1) / 2 = atB n k from rfl)
      obtain ⟨hpo1, hpo2⟩ := hpo
      generalize hx : pw3 n k = x at *
      clear hx
      go_wp2_with fail
      refine (placeAt_any x wr (by omega) (by omega)).mono ?_
      rw [HA.out]
      rintro ee w2 ⟨rfl, rfl⟩
      generalize hat : atB n k = a at *
      have c0 := hr.cell (i := k * 2) (by omega)
      have c1 := hr.cell (i := k * 2 + 1) (by omega)
      have z0 := hr.frozen (k * 2)
      have z1 := hr.frozen (k * 2 + 1)
      have sz := hr.lt
      have i0 : (0 : Int) ≤ (k : Int) := by omega
      have i1 : (k : Int) < (h : Int) := by omega
      have hz : ((2 * (n : Int)) == 0) = false := by simp; omega
      have hz2 : ¬ (2 * (n : Int)) = 0 := by omega
      have m1 : ((x : Int) * 3).tmod (2 * (n : Int)) = ((x * 3 % (2 * n) : Nat) : Int) := by
        rw [Int.tmod_eq_emod_of_nonneg (by omega), show 2 * (n : Int) = ((2 * n : Nat) : Int) by omega, show (x : Int) * 3 = ((x * 3 : Nat) : Int) by omega, ← Int.natCast_emod]
      have m2 : ((x : Int) * 3) % (2 * (n : Int)) = ((x * 3 % (2 * n) : Nat) : Int) := by
        rw [show 2 * (n : Int) = ((2 * n : Nat) : Int) by omega, show (x : Int) * 3 = ((x * 3 : Nat) : Int) by omega, ← Int.natCast_emod]
      rw [← HNX.out] at m1 m2
      have hpn : pw3 n (k + 1) < 2 * n := Nat.mod_lt _ (by omega)
      go_wp2
      have hset := ((hr.set (show k * 2 < h * 2 by omega) (.int .i64 (a : Int))).set (show k * 2 + 1 < h * 2 by omega) (.int .i64 ((n : Int) - 1 - (a : Int)))).congr (G := fun i => if i < (k + 1) * 2 then plF n i else .int .i64 0) fun i hi => by
        by_cases h1 : i = k * 2 + 1
        · subst h1
          rw [if_pos rfl, if_pos (by omega), plF, plN, if_neg (by omega), show (k * 2 + 1) / 2 = k by omega, hat]
          congr 1; omega
        · rw [if_neg h1]
          by_cases h2 : i = k * 2
          · subst h2
            rw [if_pos rfl, if_pos (by omega), plF, plN, if_pos (by omega), show k * 2 / 2 = k by omega, hat]
          · rw [if_neg h2]
            by_cases h3 : i < k * 2
            · rw [if_pos h3, if_pos (by omega)]
            · rw [if_neg h3, if_neg (by omega)]
      have kz := (kr.set (p := ⟨w.heap.size, k * 2, none⟩) (Nat.le_refl _) (.int .i64 (a : Int))).set (p := ⟨w.heap.size, k * 2 + 1, none⟩) (Nat.le_refl _) (.int .i64 ((n : Int) - 1 - (a : Int)))
      exact ⟨⟨k + 1, by omega, by go_num, by first | rfl | (congr 1; omega) | simp, hset, kz⟩, by simp [intOf]; omega⟩
    · obtain rfl : k = h := by omega
      have hfin := hr.congr (G := plF n) fun i hi => by rw [if_pos hi]
      clear hr
      go_wp2
      go_ret
      exact ⟨_, rfl, Nat.le_refl _, hfin, kr⟩
theorem bits_mask (z : Int) (j : Nat) (hj : j ≤ 40) : bits .and .i64 z ((2 ^ j - 1 : Nat) : Int) = z % ((2 ^ j : Nat) : Int) := by
  have hp : 2 ^ j ≤ 2 ^ 40 := Nat.pow_le_pow_right (by omega) hj
  have hp0 := Nat.two_pow_pos j
  have h1 : (BitVec.ofInt 64 z).toNat = (z % 18446744073709551616).toNat := by rw [BitVec.toNat_ofInt]; rfl
  have h2 : (BitVec.ofInt 64 ((2 ^ j - 1 : Nat) : Int)).toNat = 2 ^ j - 1 := by
    rw [BitVec.ofInt_natCast, BitVec.toNat_ofNat]; exact Nat.mod_eq_of_lt (by omega)
  show IntKind.i64.wrap ((BitVec.ofInt 64 z &&& BitVec.ofInt 64 ((2 ^ j - 1 : Nat) : Int)).toNat : Int) = _
  rw [BitVec.toNat_and, h1, h2, Nat.and_two_pow_sub_one_eq_mod]
  have hd : ((2 ^ j : Nat) : Int) ∣ 18446744073709551616 := by
    refine ⟨((2 ^ (64 - j) : Nat) : Int), ?_⟩
    rw [← Int.natCast_mul, ← Nat.pow_add, show j + (64 - j) = 64 by omega]; rfl
  have h3 : (((z % 18446744073709551616).toNat % 2 ^ j : Nat) : Int) = z % ((2 ^ j : Nat) : Int) := by
    rw [Int.natCast_emod, Int.toNat_of_nonneg (Int.emod_nonneg _ (by omega)), Int.emod_emod_of_dvd _ hd]
  rw [h3, IntKind.wrap_i64]
  have h4 := Int.emod_nonneg z (show ((2 ^ j : Nat) : Int) ≠ 0 by omega)
  have h5 := Int.emod_lt_of_pos z (show 0 < ((2 ^ j : Nat) : Int) by omega)
  omega
/-- A batch in memory. -/
structure Bt (w : World) (p n T k r v : Nat) : Prop where
  ex : ∃ g t, w.cell? ⟨p, 0, none⟩ = some (.int .u64 (T : Int)) ∧ w.cell? ⟨p, 1, none⟩ = some (.slice (some ⟨g, 0, none⟩) (n / 2) (n / 2)) ∧ w.cell? ⟨p, 2, none⟩ = some (.func (.func 22) #[.pointer (some ⟨t, 0, none⟩)] #[]) ∧ w.cell? ⟨p, 3, none⟩ = some (.func (.func 23) #[.pointer (some ⟨t, 0, none⟩)] #[]) ∧ RW w g 65 (n / 2 * 2) (plF n) ∧ Table w t n T k r v
theorem Bt.ext {w w' : World} {p n T k r v : Nat} (h : Bt w p n T k r v) (e : Ext w w') : Bt w' p n T k r v := by
  obtain ⟨g, t, h0, h1, h2, h3, h4, h5⟩ := h.ex
  exact ⟨g, t, cell_ext e h0, cell_ext e h1, cell_ext e h2, cell_ext e h3, h4.ext e, h5.ext e⟩
theorem isNone_nil (w : World) : Calls Tryd.prog 24 #[.pointer none] w fun e w' => e = .returned (.bool true) ∧ w = w' := by
  go_enter Tryd.func24, Tryd.ntmps24
  go_wp2
  go_ret
  exact ⟨rfl, rfl⟩
theorem isNone_no (p n T k r v : Nat) (w : World) (hB : Bt w p n T k r v) (hn0 : 2 ≤ n) (hn : n ≤ 4096) : Calls Tryd.prog 24 #[.pointer (some ⟨p, 0, none⟩)] w fun e w' => e = .returned (.bool false) ∧ w = w' := by
  obtain ⟨g, t, h0, h1, _⟩ := hB.ex
  have e1 : (((n / 2 : Nat) : Int) == 0) = false := by simp; omega
  generalize n / 2 = m at *
  go_enter Tryd.func24, Tryd.ntmps24
  go_wp2
  go_ret
  exact ⟨by first | rfl | simp_all, rfl⟩
theorem powerNil_any (z : Int) (w : World) : Calls Tryd.prog 10 #[.pointer none, .int .i64 z] w fun e w' => e = .returned (.int .i64 0) ∧ Ext w w' := by
  go_enter Tryd.func10, Tryd.ntmps10
  go_wp2_with fail
  refine (isNone_nil w).mono ?_
  rintro e w' ⟨rfl, rfl⟩
  go_wp2
  go_ret
  exact ⟨rfl, Ext.refl _⟩
theorem packNil_any (A : Option Addr) (n c : Nat) (w : World) : Calls Tryd.prog 7 #[.pointer none, .slice A n c] w fun e w' => e = .returned (.tuple #[.slice none 0 0, .int .i64 1]) ∧ Ext w w' := by
  go_enter Tryd.func7, Tryd.ntmps7
  go_wp2_with fail
  refine (isNone_nil w).mono ?_
  rintro e w' ⟨rfl, rfl⟩
  go_wp2
  go_ret2
  exact ⟨rfl, Ext.refl _⟩
theorem unpackNil_any (A : Option Addr) (n c : Nat) (w : World) : Calls Tryd.prog 11 #[.pointer none, .slice A n c] w fun e w' => e = .returned (.tuple #[.slice none 0 0, .int .i64 1]) ∧ Ext w w' := by
  go_enter Tryd.func11, Tryd.ntmps11
  go_wp2_with fail
  refine (isNone_nil w).mono ?_
  rintro e w' ⟨rfl, rfl⟩
  go_wp2
  go_ret2
  exact ⟨rfl, Ext.refl _⟩
/-- The slot that a step moves to slot 0. -/
def stepM (n : Nat) (z : Int) : Nat := (z % ((n / 2 : Nat) : Int)).toNat
set_option maxHeartbeats 4000000 in
theorem power_any (p n T k r v : Nat) (z : Int) (w : World) (hB : Bt w p n T k r v) (hn : Sml n) :
    Calls Tryd.prog 10 #[.pointer (some ⟨p, 0, none⟩), .int .i64 z] w fun e w' => e = .returned (.int .i64 (pw3 n (stepM n z) : Int)) ∧ Ext w w' := by
  obtain ⟨j, hj, hj2⟩ : ∃ j, n / 2 = 2 ^ j ∧ j ≤ 5 := by
    rcases hn with rfl | rfl | rfl | rfl
    · exact ⟨2, by decide, by omega⟩
    · exact ⟨3, by decide, by omega⟩
    · exact ⟨4, by decide, by omega⟩
    · exact ⟨5, by decide, by omega⟩
  have hn2 : 8 ≤ n ∧ n ≤ 64 := by rcases hn with rfl | rfl | rfl | rfl <;> omega
  have hm := bits_mask z j (by omega)
  rw [← hj] at hm
  obtain ⟨h4, h5⟩ : 0 ≤ z % ((n / 2 : Nat) : Int) ∧ z % ((n / 2 : Nat) : Int) < ((n / 2 : Nat) : Int) := ⟨Int.emod_nonneg z (by omega), Int.emod_lt_of_pos z (by omega)⟩
  obtain ⟨s, hs⟩ := Int.eq_ofNat_of_zero_le h4
  have hsm : stepM n z = s := by unfold stepM; rw [hs]; rfl
  rw [hs] at hm h5
  rw [hsm]
  have hpw := pw3_at n s
  rw [hpw]
  have hal := at_lt (n := n) (by omega) s
  have HB := Lib.hid hB
  obtain ⟨g, t, h0, h1, _, _, hr, _⟩ := hB.ex
  have c0 := hr.cell (i := s * 2) (by omega)
  rw [plF, plN, if_pos (by omega), show s * 2 / 2 = s by omega] at c0
  rw [show ((n / 2 - 1 : Nat) : Int) = ((n / 2 : Nat) : Int) - 1 by omega] at hm
  have i0 : (0 : Int) ≤ (s : Int) := by omega
  have i1 : (s : Int) < ((n / 2 : Nat) : Int) := h5
  clear hB hr h4 hs hsm hj
  have hh4 : n / 2 ≤ 100 := by omega
  generalize hh : n / 2 = h at *
  generalize hat : atB n s = a at *
  clear hpw hat
  go_enter Tryd.func10, Tryd.ntmps10
  go_wp2_with fail
  refine (isNone_no p n T k r v w HB.out (by omega) (by omega)).mono ?_
  rintro e w' ⟨rfl, rfl⟩
  go_wp2_with fail
  refine (powerAt_any a w (by omega)).mono ?_
  rintro e w' ⟨rfl, rfl⟩
  go_wp2
  go_ret
  exact ⟨rfl, Ext.refl _⟩
end Go.Proofs.YtoimbommiheccaaDoor
