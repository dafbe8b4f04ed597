/-
  What the reference's parts answers: quotient and rest of digits.
-/
import Derived.Test.YtcfbemjnkiepdaaRPartsW
namespace Go.Proofs.Ytcfbemjnkiepdaa
open Go.RowKit
set_option linter.unusedVariables false

/-- What parts answers. -/
def PartsPost (w : World) (n n' X Y : Nat) (e : Ending) (w' : World) : Prop :=
  ∃ A m c A2 m2 c2, e = .returned (.tuple #[.slice A m c, .slice A2 m2 c2]) ∧ m ≤ n ∧ m2 ≤ n' ∧ DR w' w'.heap.size A m c (dg 65536 (X / Y)) ∧ DR w' w'.heap.size A2 m2 c2 (dg 65536 (X % Y)) ∧ Below w.heap.size w w'
theorem bit_int {d i : Nat} : ((d : Int) / 2 ^ i).tmod 2 = ((d / 2 ^ i % 2 : Nat) : Int) := by
  rw [two_pow_cast, ← Int.natCast_ediv, Int.tmod_eq_emod_of_nonneg (Int.natCast_nonneg _)]
  exact (Int.natCast_emod _ _).symm
theorem wrap_small {z : Nat} (h : z < 1000000) : wrap64 (z : Int) = z := by unfold wrap64; omega
theorem wrap_digit {dq v : Nat} (i : Nat) (h : v = dq + 2 ^ i) (hd : dq < 65536) (hp : (2 : Nat) ^ i ≤ 32768) : wrap64 ((dq : Int) + wrap64 (2 ^ i)) = (v : Int) := by
  subst h
  rw [two_pow_cast]
  generalize (2 : Nat) ^ i = pw at *
  rw [wrap_small (z := pw) (by omega), ← Int.natCast_add, wrap_small (by omega)]
theorem pow_le15 {i : Nat} (h : i < 16) : (2 : Nat) ^ i ≤ 32768 := Nat.le_trans (Nat.pow_le_pow_right (by omega) (show i ≤ 15 by omega)) (by decide)

set_option maxHeartbeats 4000000 in
theorem parts_any (A A' : Option Addr) (n n' c c' X Y : Nat) (w : World) (h : DR w w.heap.size A n c (dg 65536 X)) (h' : DR w w.heap.size A' n' c' (dg 65536 Y)) (hn : n ≤ 10000) (hn' : n' ≤ 10000) (hY : 0 < Y) :
    Calls Try.prog 75 #[.slice A n c, .slice A' n' c'] w (PartsPost w n n' X Y) := by
  have hmk := make_digits n (n : Int) rfl (by omega)
  have HV := Lib.hid (vl_dg d_two X)
  have HL := Lib.hid h.len
  have HL' := Lib.hid h'.len
  have HXL := Lib.hid h.lt
  generalize hxs : dg 65536 X = xs at *
  clear hxs
  go_enter Try.func75, Try.ntmps75
  go_wp2
  go_loopw [7, 8] (fun r i wr => ∃ (k : Nat) (hs : List Nat) (R : Nat) (A2 : Option Addr) (n2 c2 : Nat), k ≤ n ∧ i = .int .i64 ((k : Int) - 1) ∧ r = .slice A2 n2 c2 ∧ PInv w wr w.heap.size (List.replicate k 0 ++ hs) A2 n2 c2 R ∧ DivD xs Y n k hs R) (fun _ i _ => (intOf i + 1).toNat)
  case atStart =>
    refine ⟨n, [], 0, none, 0, 0, Nat.le_refl _, rfl, rfl, ⟨?_, (Below.refl _ _).alloc (Nat.le_refl _) _, ?_, fun ad e => by cases e⟩, divD_start hY HL.out⟩
    · rw [List.append_nil]
      exact heap_alloc_new w _
    · rw [dg_zero]; exact Rd.none_ _ _ _ _ _ _
  case round =>
    obtain ⟨k, hs, Rh, A2, n2, c2, hk, rfl, rfl, hP, hD⟩ := hrel
    by_cases hk0 : k = 0
    · subst hk0
      have HD := Lib.hid hD.done
      have hhl := hD.1
      have HLT := Lib.hid hD.2.1
      have hn2 : n2 ≤ n' := dg_len_mono (Nat.le_of_lt hD.2.2.1) hP.2.2.1.len HL'.out
      obtain ⟨p1, p2, p3, p4⟩ := hP
      have p1' : Dk wr w.heap.size hs := by simpa using p1
      have hrd := p1'.rd (n := n) HLT.out (by omega)
      have HR := Lib.hid p3
      clear p1 hhl p3
      go_wp2_with fail
      refine (trim_any _ _ _ _ hs _ hrd (by omega)).mono ?_
      rintro e w' ⟨m, c3, hm, rfl, rfl, hr3⟩
      go_wp2
      go_ret2
      refine ⟨_, m, c3, A2, n2, c2, rfl, hm, hn2, ?_, ?_, p2⟩
      · rw [HD.out.1, HV.out] at hr3; exact hr3
      · have := HR.out
        rw [HD.out.2, HV.out] at this; exact this
    · obtain ⟨k, rfl⟩ : ∃ k', k = k' + 1 := ⟨k - 1, by omega⟩
      rw [show (((k + 1 : Nat) : Int) - 1) = (k : Int) by omega]
      obtain ⟨ad, d, rfl, hbd, hdb, hd, hcd⟩ := h.at_ (show k < n by omega)
      have HDD := Lib.hid hd
      have HDV := Lib.hid hD
      have hRh := hD.2.2.1
      have hP0 : PInv w wr w.heap.size (List.replicate k 0 ++ [] ++ (0 * 2 ^ 16) :: hs) A2 n2 c2 Rh := by
        have : List.replicate (k + 1) 0 ++ hs = List.replicate k 0 ++ [] ++ (0 * 2 ^ 16) :: hs := by
          rw [List.replicate_succ', Nat.zero_mul]; simp
        rw [← this]; exact hP
      clear hd hcd hD hP
      go_wp2
      go_loopw [7, 9] (fun r i wr => ∃ (j q R : Nat) (A2 : Option Addr) (n2 c2 : Nat), j ≤ 16 ∧ i = .int .i64 ((j : Int) - 1) ∧ r = .slice A2 n2 c2 ∧ PInv w wr w.heap.size (List.replicate k 0 ++ [] ++ (q * 2 ^ j) :: hs) A2 n2 c2 R ∧ BitInv Y Rh d j q R) (fun _ i _ => (intOf i + 1).toNat)
      case atStart => exact ⟨16, 0, Rh, A2, n2, c2, by omega, rfl, rfl, hP0, bitInv_start hRh hdb⟩
      case round =>
        clear hP0
        obtain ⟨j, q, R, A3, n3, c3, hj, rfl, rfl, hP, hB⟩ := hrel
        by_cases hj0 : j = 0
        · subst hj0
          have HN := Lib.hid (HDV.out.step HDD.out hB)
          have hP2 : PInv w wr w.heap.size (List.replicate k 0 ++ q :: hs) A3 n3 c3 R := by simpa using hP
          go_wp2
          exact ⟨⟨k, _, R, A3, n3, c3, by omega, by go_num, rfl, hP2, HN.out⟩, by simp [intOf] <;> omega⟩
        · obtain ⟨i, rfl⟩ : ∃ i, j = i + 1 := ⟨j - 1, by omega⟩
          rw [show (((i + 1 : Nat) : Int) - 1) = (i : Int) by omega]
          have hRY := hB.1
          have hn3 : n3 ≤ n' := dg_len_mono (Nat.le_of_lt hRY) hP.2.2.1.len HL'.out
          have hr3 := hP.2.2.1
          have HB := Lib.hid hB
          clear hB
          go_wp2_with fail
          refine (plusF hr3 hr3 (by omega) (by omega)).mono ?_
          rintro e w1 ⟨A4, n4, c4, rfl, hn4, hr4, hb4, hf4⟩
          have hP4 := hP.next hb4 hr4 hf4
          have hcd := (h.below hP4.2.1).cell_ HDD.out
          have HBI := Lib.hid (bit_int (d := d) (i := i))
          have hbl : d / 2 ^ i % 2 < 2 := Nat.mod_lt _ (by omega)
          have e1 : (0 : Int) ≤ k := by omega
          have e2 : (k : Int) < n := by omega
          go_wp2_with fail
          refine (trim1 w1 w1.heap.size rfl _ (d / 2 ^ i % 2) HBI.out (by omega)).mono ?_
          rintro e w' ⟨m, c5, hm, rfl, rfl, hr5⟩
          have hP5 := hP4.alloc (.cells #[.int .i64 (((d : Int) / 2 ^ i).tmod 2)] 3)
          have HU := Lib.hid (fun hv => HB.out.up (show i < 16 by omega) hv)
          have HT := Lib.hid (fun hv => HB.out.stay (show i < 16 by omega) hv)
          have HBO := Lib.hid (HB.out.bound hj)
          have hp15 := pow_le15 (show i < 16 by omega)
          clear HB HBI hcd hP4 hP hr3 hr4
          generalize w1.alloc (.cells #[.int .i64 (((d : Int) / 2 ^ i).tmod 2)] 3) = w5 at *
          generalize d / 2 ^ i % 2 = b at *
          go_wp2_with fail
          refine (plusF hP5.2.2.1 hr5 (by omega) (by omega)).mono ?_
          rintro e w2 ⟨A6, n6, c6, rfl, hn6, hr6, hb6, hf6⟩
          have hP6 := hP5.next hb6 hr6 hf6
          have hr' := (h'.below hP6.2.1).more (show w.heap.size ≤ w2.heap.size by have := hP6.1.lt; omega)
          go_wp2_with fail
          refine (compare_any _ _ _ _ _ _ _ (R + R + b) Y w2 hr6 hr' (by omega) (by omega)).mono ?_
          rintro e w' ⟨rfl, q0, rfl⟩
          have hP7 := hP6.drewN q0
          have hr7' : DR (w2.drewN q0) (w2.drewN q0).heap.size A' n' c' (dg 65536 Y) := hr'.drewN q0
          clear hP6 hP5 hr' hr6 hr5
          generalize w2.drewN q0 = w7 at *
          by_cases hge : Y ≤ R + R + b
          · have hce : (0 : Int) ≤ cmpS (R + R + b) Y := by
              rcases Nat.lt_or_eq_of_le hge with g | g
              · rw [cmpS_gt g]; omega
              · rw [cmpS_eq g.symm]; omega
            have hcd : decide (cmpS (R + R + b) Y ≥ 0) = true := by simpa using hce
            have HN := Lib.hid (HU.out hge)
            clear HU HT
            go_wp2_with fail
            refine (lessF hP7.2.2.1 hr7' (by omega) hge).mono ?_
            rintro e w8 ⟨A8, n8, c8, rfl, hn8, hr8, hb8, hf8⟩
            have hP8 := hP7.next hb8 hr8 hf8
            have hkl : (List.replicate k 0).length = k := by simp
            have hcell := hP8.1.cell (get_mid (ns := []) (pre := List.replicate k 0) (p := q * 2 ^ (i + 1)) (post := hs) (i := k) (by simp))
            have hfz := hP8.1.frozen k
            have hq := HBO.out
            have hdu := dig_up q i
            have HP9 := Lib.hid (fun z hz => hP8.store hkl ((2 * q + 1) * 2 ^ i) z hz)
            have hqq : (2 * q + 1) * 2 ^ i = q * 2 ^ (i + 1) + 2 ^ i := by rw [hdu, Nat.add_mul, Nat.one_mul]
            have HQQ := Lib.hid hqq
            have HP2 := Lib.hid (two_pow_cast i)
            clear hqq hdu hP7 hr7' hP8 hr8
            generalize q * 2 ^ (i + 1) = dq at *
            have HZ := Lib.hid (wrap_digit i HQQ.out hq hp15)
            go_wp2
            exact ⟨⟨i, 2 * q + 1, _, A8, n8, c8, by omega, by go_num, rfl, HP9.out _ HZ.out, HN.out⟩, by simp [intOf] <;> omega⟩
          · have HE := Lib.hid (cmpS_lt (m := R + R + b) (n := Y) (by omega))
            rw [HE.out]
            have HN := Lib.hid (HT.out (by omega))
            have hP8 : PInv w w7 w.heap.size (List.replicate k 0 ++ [] ++ (2 * q * 2 ^ i) :: hs) A6 n6 c6 (R + R + b) := by rw [← dig_up]; exact hP7
            clear hP7
            go_wp2
            exact ⟨⟨i, 2 * q, _, A6, n6, c6, by omega, by go_num, rfl, hP8, HN.out⟩, by simp [intOf] <;> omega⟩
end Go.Proofs.Ytcfbemjnkiepdaa
