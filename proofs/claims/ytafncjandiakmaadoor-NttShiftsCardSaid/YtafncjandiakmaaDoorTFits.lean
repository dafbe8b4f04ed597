/-
  The moduli that the laws of layer 4 name: each passes the test, and has a number that is no square. What the inner calls of the laws answer.
-/
import Derived.Test.YtafncjandiakmaaDoorTNew
import Derived.Test.YtafncjandiakmaaDoorPStep
namespace Go.Proofs.YtafncjandiakmaaDoor
open Go.RowKit
set_option linter.unusedVariables false

/-- The test, by squares. -/
def strongP (n a : Nat) : Bool := (fun x => cond (Nat.beq x 1) true (hit n (tzS n) x)) (pm n a 64 (oddS n))
def isP (n : Nat) : Bool := cond (Nat.blt n 2) false (smallF n L12 (L12.all (strongP n)))
theorem isP_eq {n : Nat} (h0 : 2 ≤ n) (h : n < 18446744073709551616) : isS n = isP n := by
  have e : ∀ a, strongS n a = strongP n a := fun a => by
    unfold strongS strongP
    rw [pm_eq n a 64 (oddS n) (odd_tz h0 h).1]
  unfold isS isP
  rw [show strongS n = strongP n from funext e]
theorem noSq_pm {q x : Nat} (h : q < 18446744073709551616) (e : Nat.beq (pm q x 64 ((q - 1) / 2)) (q - 1) = true) : noSq q x = true := by
  unfold noSq
  rw [← pm_eq q x 64 ((q - 1) / 2) (by omega)]
  exact decide_eq_true (Nat.eq_of_beq_eq_true e)
theorem is5 : isS 5 = true := by decide +kernel
theorem isA : isS 12289 = true := by decide +kernel
theorem isB : isS 40961 = true := by decide +kernel
theorem isC : isS 1152921504606830593 = true := by rw [isP_eq (by omega) (by omega)]; decide +kernel
theorem sq5 : ∃ x, x < 5 ∧ noSq 5 x = true := ⟨2, by omega, noSq_pm (by omega) (by decide +kernel)⟩
theorem sqA : ∃ x, x < 12289 ∧ noSq 12289 x = true := ⟨11, by omega, noSq_pm (by omega) (by decide +kernel)⟩
theorem sqB : ∃ x, x < 40961 ∧ noSq 40961 x = true := ⟨3, by omega, noSq_pm (by omega) (by decide +kernel)⟩
theorem sqC : ∃ x, x < 1152921504606830593 ∧ noSq 1152921504606830593 x = true := ⟨5, by omega, noSq_pm (by omega) (by decide +kernel)⟩
theorem fit5 : Fit 2 5 1 := ⟨rfl, by omega, by omega, by omega, by decide +kernel, by decide, is5, sq5⟩
/-- The law's modulus. -/
def lawQ (k : Nat) : Nat := if k % 3 = 0 then 12289 else if k % 3 = 1 then 40961 else 1152921504606830593
theorem fit_law (k : Nat) : Fit (2 ^ (k % 9 + 1)) (lawQ k) (k % 9 + 1) := by
  have h : k % 9 < 9 := Nat.mod_lt _ (by omega)
  have h3 : k % 3 = k % 9 % 3 := by omega
  unfold lawQ
  rw [h3]
  rcases (show k % 9 = 0 ∨ k % 9 = 1 ∨ k % 9 = 2 ∨ k % 9 = 3 ∨ k % 9 = 4 ∨ k % 9 = 5 ∨ k % 9 = 6 ∨ k % 9 = 7 ∨ k % 9 = 8 by omega) with e | e | e | e | e | e | e | e | e <;> rw [e]
  · exact ⟨rfl, by omega, by omega, by decide, by decide +kernel, by decide, isA, sqA⟩
  · exact ⟨rfl, by omega, by omega, by decide, by decide +kernel, by decide, isB, sqB⟩
  · exact ⟨rfl, by omega, by omega, by decide, by decide +kernel, by decide, isC, sqC⟩
  · exact ⟨rfl, by omega, by omega, by decide, by decide +kernel, by decide, isA, sqA⟩
  · exact ⟨rfl, by omega, by omega, by decide, by decide +kernel, by decide, isB, sqB⟩
  · exact ⟨rfl, by omega, by omega, by decide, by decide +kernel, by decide, isC, sqC⟩
  · exact ⟨rfl, by omega, by omega, by decide, by decide +kernel, by decide, isA, sqA⟩
  · exact ⟨rfl, by omega, by omega, by decide, by decide +kernel, by decide, isB, sqB⟩
  · exact ⟨rfl, by omega, by omega, by decide, by decide +kernel, by decide, isC, sqC⟩
set_option maxHeartbeats 1000000 in
theorem same_any (A A' : Option Addr) (n c c' : Nat) (f f' : Nat → Nat) (w : World) (hX : FX w A n c f) (hX' : FX w A' n c' f') (hn : n ≤ 100000) (he : Hid (∀ i, i < n → f i = f' i)) :
    Calls Tryd.prog 15 #[.slice A n c, .slice A' n c'] w fun ee w' => ee = .returned (.bool true) ∧ Ext w w' := by
  go_enter Tryd.func15, Tryd.ntmps15
  go_wp2
  go_loopw [13] (fun i wr => ∃ m d : Nat, m ≤ n ∧ i = .int .i64 (m : Int) ∧ wr = w.drewN d) (fun i _ => n - (intOf i).toNat)
  case atStart => exact ⟨0, 0, by omega, rfl, rfl⟩
  case round =>
    obtain ⟨m, d, hm, rfl, rfl⟩ := hrel
    by_cases hlt : m < n
    · obtain ⟨ad, rfl, hc⟩ := hX.cells (by omega)
      obtain ⟨ad', rfl, hc'⟩ := hX'.cells (by omega)
      have h1 := hc m hlt
      have h2 := hc' m hlt
      rw [← he.out m hlt] at h2
      clear hc hc'
      generalize f m = x at *
      have i0 : (0 : Int) ≤ (m : Int) := by omega
      have i1 : (m : Int) < (n : Int) := by omega
      go_wp2
      go_quiet (fail)
      go_wp2
      exact ⟨⟨m + 1, _, by omega, by go_num, rfl⟩, by simp [intOf]; omega⟩
    · go_wp2
      go_ret
      exact ⟨rfl, (Ext.refl w).drewN d⟩
set_option maxHeartbeats 1000000 in
theorem cut_any (A : Option Addr) (m c n q : Nat) (f : Nat → Nat) (w : World) (hX : FX w A m c f) (hm : m ≤ 100000) (hn : n ≤ 100000) (hq0 : 0 < q) (hq : q < 18446744073709551616) (hf : Hid (∀ i, i < m → f i < 18446744073709551616)) :
    Calls Tryd.prog 20 #[.slice A m c, .int .i64 (n : Int), .int .u64 (q : Int)] w fun ee w' => ee = .returned (.slice (some ⟨w.heap.size, 0, none⟩) n n) ∧ UW w' w.heap.size n (fun i => if i < m then f i % q else 0) ∧ Ext w w' := by
  have hmk := make_u64 n (by omega)
  have hqz : ((q : Int) == 0) = false := by simp; omega
  have hqz2 : ¬ (q : Int) = 0 := by omega
  have hqz3 : ¬ q = 0 := by omega
  go_enter Tryd.func20, Tryd.ntmps20
  go_wp2
  clear hmk
  go_loopw [13] (fun i wr => ∃ j : Nat, j ≤ n ∧ i = .int .i64 (j : Int) ∧ UW wr w.heap.size n (fun i => if i < j then (if i < m then f i % q else 0) else 0) ∧ Ext w wr) (fun i _ => n - (intOf i).toNat)
  case atStart => exact ⟨0, by omega, rfl, (newU_uw w n).congr fun i _ => by rw [if_neg (by omega)], (Ext.refl w).alloc _⟩
  case round =>
    obtain ⟨j, hj, rfl, hu, kr⟩ := hrel
    have hsz := RW.lt hu
    by_cases hlt : j < n
    · by_cases hlm : j < m
      · obtain ⟨ad, rfl, hc⟩ := hX.cells (by omega)
        have h1 := cell_ext kr (hc j hlm)
        have hl := hf.out j hlm
        clear hc
        have f0 := RW.cell hu hlt
        have z0 := RW.frozen hu j
        have HS := Lib.hid (show ∀ i, i < n → (if i = j then f j % q else if i < j then (if i < m then f i % q else 0) else 0) = if i < j + 1 then (if i < m then f i % q else 0) else 0 from fun i _ => by
          by_cases h1 : i = j
          · subst h1; rw [if_pos rfl, if_pos (show i < i + 1 by omega), if_pos hlm]
          · rw [if_neg h1]
            by_cases h2 : i < j
            · rw [if_pos h2, if_pos (show i < j + 1 by omega)]
            · rw [if_neg h2, if_neg (show ¬ i < j + 1 by omega)])
        have hrm : (f j : Int) % (q : Int) = ((f j % q : Nat) : Int) := by rw [Int.natCast_emod]
        generalize hfj : f j % q = y at *
        generalize f j = x at *
        clear hfj
        go_wp2
        have hu2 := (hu.set hlt y).congr HS.out
        have kr2 := kr.set (p := ⟨w.heap.size, j, none⟩) (Nat.le_refl _) (.int .u64 (y : Int))
        exact ⟨⟨j + 1, by omega, by go_num, hu2, kr2⟩, by simp [intOf]; omega⟩
      · have hu2 := hu.congr (f' := fun i => if i < j + 1 then (if i < m then f i % q else 0) else 0) fun i _ => by
          by_cases h2 : i < j
          · rw [if_pos h2, if_pos (show i < j + 1 by omega)]
          · rw [if_neg h2]
            by_cases h3 : i < j + 1
            · rw [if_pos h3, if_neg (show ¬ i < m by omega)]
            · rw [if_neg h3]
        clear hu
        go_wp2
        exact ⟨⟨j + 1, by omega, by go_num, hu2, kr⟩, by simp [intOf]; omega⟩
    · have hu2 := hu.congr (f' := fun i => if i < m then f i % q else 0) fun i hi => by rw [if_pos (show i < j by omega)]
      clear hu
      go_wp2
      go_ret
      exact ⟨rfl, hu2, kr⟩
set_option maxHeartbeats 1000000 in
set_option maxRecDepth 100000 in
theorem chk_any (n q k : Nat) (w : World) (hF : Hid (Fit n q k)) :
    Calls Tryd.prog 12 #[.int .i64 (n : Int), .int .u64 (q : Int)] w fun ee w' => ∃ z : Int, ee = .returned (.int .i64 z) ∧ Ext w w' := by
  have hn2 := two_le hF.out.k0 hF.out.k9
  rw [← hF.out.nk] at hn2
  obtain ⟨hn0, hn1⟩ := hn2
  have hq1 := hF.out.q1
  have hone : ((q : Int) % (2 * (n : Int)) != 1) = false := by
    have := hF.out.one
    have e : (q : Int) % (2 * (n : Int)) = 1 := by
      rw [show 2 * (n : Int) = ((2 * n : Nat) : Int) by omega, ← Int.natCast_emod, this]; rfl
    rw [e]; rfl
  have hqd : decide (2305843009213693952 ≤ (q : Int)) = false := by simp; omega
  have hqd2 : (2305843009213693952 ≤ (q : Int)) = False := by simp; omega
  cases hs : stepS n
  · have HS := Lib.hid hs
    clear hs
    go_enter Tryd.func12, Tryd.ntmps12
    go_wp2_with fail
    refine (rstep_any n w (by omega)).mono ?_
    rw [HS.out]
    rintro ee w' ⟨rfl, rfl⟩
    go_wp2
    go_ret
    exact ⟨_, rfl, Ext.refl _⟩
  cases hi : isR q
  all_goals
    have HS := Lib.hid hs
    have HI := Lib.hid hi
    clear hs hi
    go_enter Tryd.func12, Tryd.ntmps12
    go_wp2_with fail
    refine (rstep_any n w (by omega)).mono ?_
    rw [HS.out]
    rintro ee w' ⟨rfl, rfl⟩
    go_wp2_with fail
    refine (ris_any q _ (by omega)).mono ?_
    rw [HI.out]
    rintro ee w2 ⟨rfl, k2⟩
    go_wp2
    go_ret
    exact ⟨_, rfl, k2⟩
end Go.Proofs.YtafncjandiakmaaDoor
