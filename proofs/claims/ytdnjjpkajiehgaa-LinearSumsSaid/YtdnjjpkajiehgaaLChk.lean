/-
  May diagonals be made of these: rows as long as there are places.
-/
import Derived.Test.YtdnjjpkajiehgaaLPla
import Derived.Test.YtdnjjpkajiehgaaJNd
namespace Go.Proofs.Ytdnjjpkajiehgaa
open Go.RowKit
set_option linter.unusedVariables false
set_option maxRecDepth 100000

/-- Are all rows so long? -/
def longB (rows : List (List Int)) (n : Nat) : Bool := rows.all fun r => decide (r.length = n)
/-- May diagonals be made? -/
def dgB (rows : List (List Int)) (fr tt : List Int) (m : Int) : Bool := decide (1 ≤ m) && decide (m ≤ 4096) && decide (rows.length = tt.length) && placesB fr m.toNat && placesB tt m.toNat && longB rows fr.length
def diagsR (rows : List (List Int)) (fr tt : List Int) (m : Int) : Except Nat (List (List Int)) := if dgB rows fr tt m = true then .ok (Dg.diags ⟨m.toNat, rows, fr, tt⟩) else .error 3
theorem clos_any (bx : Addr) (A B : Option Addr) (n c nb d : Nat) (w : World) (hb : w.cell? bx = some (.slice A n c)) :
    Calls Try.prog 62 #[.slice B nb d, .pointer (some bx)] w fun e w' => e = .returned (.bool (!decide (nb = n))) ∧ w' = w := by
  go_enter Try.func62, Try.ntmps62
  by_cases h : nb = n
  · subst h
    go_wp2
    go_ret
    exact ⟨by simp, rfl⟩
  · have i0 : ¬ (nb : Int) = (n : Int) := by omega
    rw [decide_eq_false h]
    go_wp2
    go_ret
    refine ⟨?_, rfl⟩
    show Ending.returned (.bool (_)) = _
    simp
    omega
theorem longB_drop {rows : List (List Int)} {n k : Nat} {r : List Int} (h : rows[k]? = some r) : longB (rows.drop k) n = (decide (r.length = n) && longB (rows.drop (k + 1)) n) := by
  obtain ⟨hl, e⟩ := List.getElem?_eq_some_iff.1 h
  rw [List.drop_eq_getElem_cons hl, e]
  rfl
set_option maxHeartbeats 1000000 in
theorem indexRows_any (bx : Addr) (A Ah : Option Addr) (n c ch : Nat) (rows : List (List Int)) (w : World) (hX : Hid (SX w Ah ch rows)) (hb : w.cell? bx = some (.slice A n c)) (hl : rows.length ≤ 100000) :
    Calls Try.prog 89 #[.slice Ah rows.length ch, .func (.func 62) #[] #[.pointer (some bx)]] w fun e w' => ∃ r : Int, e = .returned (.int .i64 r) ∧ (longB rows n = true → r < 0) ∧ (longB rows n = false → 0 ≤ r) ∧ r ≤ 100000 ∧ -1 ≤ r ∧ w' = w := by
  go_enter Try.func89, Try.ntmps89
  go_wp2
  go_loop [8] (fun i => ∃ k : Nat, k ≤ rows.length ∧ i = .int .i64 (k : Int) ∧ Hid (longB rows n = longB (rows.drop k) n)) (fun i => rows.length - (intOf i).toNat)
  case atStart => exact ⟨0, by omega, rfl, Lib.hid rfl⟩
  case round =>
    obtain ⟨k, hk, rfl, hF⟩ := hrel
    by_cases hlt : k < rows.length
    · obtain ⟨s, hs⟩ : ∃ s, rows[k]? = some s := ⟨_, List.getElem?_eq_getElem hlt⟩
      obtain ⟨ad, rfl, hc⟩ := hX.out.cells (by omega)
      obtain ⟨B, d, c0, hz⟩ := hc k s hs
      have hdr := Lib.hid (longB_drop (n := n) hs)
      have i0 : (0 : Int) ≤ (k : Int) := by omega
      have i1 : (k : Int) < (rows.length : Int) := by omega
      clear hs hc hz
      go_wp2_with fail
      refine (clos_any bx A B n c s.length d w hb).mono ?_
      rintro e w1 ⟨rfl, rfl⟩
      obtain ⟨b, hb'⟩ : ∃ b, decide (s.length = n) = b := ⟨_, rfl⟩
      have hR := Lib.hid (show longB rows n = (b && longB (rows.drop (k + 1)) n) by rw [hF.out, hdr.out, hb'])
      rw [hb']
      clear hb'
      cases b
      · go_wp2
        go_ret
        refine ⟨(k : Int), rfl, fun h => ?_, fun _ => by omega, by omega, by omega, rfl⟩
        rw [hR.out] at h
        cases h
      · go_wp2
        go_round
        case rel => exact ⟨k + 1, by omega, by go_num, Lib.hid (by rw [hR.out, Bool.true_and])⟩
        case measure => simp [intOf]; omega
    · have hk2 : rows.length = k := by omega
      have hR := Lib.hid (show longB rows n = true by rw [hF.out, List.drop_eq_nil_of_le (by omega)]; rfl)
      go_wp2
      go_ret
      refine ⟨-1, rfl, fun _ => by omega, fun h => ?_, by omega, by omega, rfl⟩
      rw [hR.out] at h
      cases h
theorem containsRows_any (bx : Addr) (A Ah : Option Addr) (n c ch : Nat) (rows : List (List Int)) (w : World) (hX : Hid (SX w Ah ch rows)) (hb : w.cell? bx = some (.slice A n c)) (hl : rows.length ≤ 100000) :
    Calls Try.prog 63 #[.slice Ah rows.length ch, .func (.func 62) #[] #[.pointer (some bx)]] w fun e w' => e = .returned (.bool (!longB rows n)) ∧ w' = w := by
  go_enter Try.func63, Try.ntmps63
  go_wp2_with fail
  refine (indexRows_any bx A Ah n c ch rows w hX hb hl).mono ?_
  rintro e w1 ⟨r, rfl, h1, h2, h3, h4, rfl⟩
  obtain ⟨b, hbb⟩ : ∃ b, longB rows n = b := ⟨_, rfl⟩
  rw [hbb] at h1 h2
  have HB := Lib.hid hbb
  clear hbb
  cases b
  · have h5 := h2 rfl
    clear h1 h2
    go_wp2
    go_ret
    exact ⟨by rw [HB.out]; rfl, rfl⟩
  · have h5 : ¬ (0 ≤ r) := by have := h1 rfl; omega
    clear h1 h2
    go_wp2
    go_ret
    exact ⟨by rw [HB.out]; show Ending.returned (.bool (decide (0 ≤ r))) = _; rw [decide_eq_false (by omega)]; rfl, rfl⟩
/-- What CheckDiagonals answers. -/
def ckN (b : Bool) : Int := if b = true then 0 else 3
set_option maxHeartbeats 2000000 in
theorem checkDg_any (Ah A A' : Option Addr) (ch c c' : Nat) (rows : List (List Int)) (fr tt : List Int) (m : Int) (w : World) (hR : Hid (SX w Ah ch rows)) (hF : Hid (ZX w A fr.length c fr)) (hT : Hid (ZX w A' tt.length c' tt)) (l0 : rows.length ≤ 100000) (l1 : fr.length ≤ 100000) (l2 : tt.length ≤ 100000) :
    Calls Try.prog 64 #[.slice Ah rows.length ch, .slice A fr.length c, .slice A' tt.length c', .int .i64 m] w fun e w' => e = .returned (.int .i64 (ckN (dgB rows fr tt m))) ∧ w' = w := by
  go_enter Try.func64, Try.ntmps64
  by_cases h1 : m < 1
  · have HE := Lib.hid (show dgB rows fr tt m = false by unfold dgB; rw [decide_eq_false (show ¬ 1 ≤ m by omega)]; rfl)
    go_wp2
    go_ret
    exact ⟨by rw [HE.out]; rfl, rfl⟩
  by_cases h2 : 4096 < m
  · have HE := Lib.hid (show dgB rows fr tt m = false by unfold dgB; rw [decide_eq_false (show ¬ m ≤ 4096 by omega), Bool.and_false]; rfl)
    go_wp2
    go_ret
    exact ⟨by rw [HE.out]; rfl, rfl⟩
  obtain ⟨N, rfl⟩ := Int.eq_ofNat_of_zero_le (show 0 ≤ m by omega)
  have HD := Lib.hid (show dgB rows fr tt (N : Int) = (decide (rows.length = tt.length) && placesB fr N && placesB tt N && longB rows fr.length) by
    unfold dgB
    rw [decide_eq_true (show 1 ≤ (N : Int) by omega), decide_eq_true (show (N : Int) ≤ 4096 by omega), Int.toNat_natCast]; rfl)
  by_cases h3 : rows.length = tt.length
  rotate_left
  · have i0 : ¬ (rows.length : Int) = (tt.length : Int) := by omega
    have HE := Lib.hid (show dgB rows fr tt (N : Int) = false by rw [HD.out, decide_eq_false h3]; rfl)
    go_wp2
    go_ret
    exact ⟨by rw [HE.out]; rfl, rfl⟩
  have i0 : (rows.length : Int) = (tt.length : Int) := by omega
  have H3 := Lib.hid h3
  clear h3
  go_wp2_with fail
  refine (places_any A fr.length c N fr w hF l1 (by omega)).mono ?_
  rintro e1 w1 ⟨rfl, rfl⟩
  obtain ⟨b, hb⟩ : ∃ b, placesB fr N = b := ⟨_, rfl⟩
  rw [hb]
  have HB := Lib.hid hb
  clear hb
  cases b
  · have HE := Lib.hid (show dgB rows fr tt (N : Int) = false by rw [HD.out, HB.out, Bool.and_false]; rfl)
    go_wp2
    go_ret
    exact ⟨by rw [HE.out]; rfl, rfl⟩
  go_wp2_with fail
  refine (places_any A' tt.length c' N tt w1 hT l2 (by omega)).mono ?_
  rintro e1 w1 ⟨rfl, rfl⟩
  obtain ⟨b, hb⟩ : ∃ b, placesB tt N = b := ⟨_, rfl⟩
  rw [hb]
  have HB2 := Lib.hid hb
  clear hb
  cases b
  · have HE := Lib.hid (show dgB rows fr tt (N : Int) = false by rw [HD.out, HB2.out, Bool.and_false]; rfl)
    go_wp2
    go_ret
    exact ⟨by rw [HE.out]; rfl, rfl⟩
  have HDD := Lib.hid (show dgB rows fr tt (N : Int) = longB rows fr.length by rw [HD.out, HB.out, HB2.out, decide_eq_true H3.out]; rfl)
  clear i0
  go_wp2_with fail
  go_loop [38] (fun i => ∃ k : Nat, k ≤ rows.length ∧ i = .int .i64 (k : Int) ∧ Hid (longB rows fr.length = longB (rows.drop k) fr.length)) (fun i => rows.length - (intOf i).toNat)
  case atStart => exact ⟨0, by omega, rfl, Lib.hid rfl⟩
  case round =>
    obtain ⟨k, hk, rfl, hL⟩ := hrel
    by_cases hlt : k < rows.length
    · obtain ⟨s, hs⟩ : ∃ s, rows[k]? = some s := ⟨_, List.getElem?_eq_getElem hlt⟩
      obtain ⟨ad, rfl, hc⟩ := hR.out.cells (by omega)
      obtain ⟨B, d, c0, hz⟩ := hc k s hs
      have hdr := Lib.hid (longB_drop (n := fr.length) hs)
      have i0 : (0 : Int) ≤ (k : Int) := by omega
      have i1 : (k : Int) < (rows.length : Int) := by omega
      clear hs hc hz
      by_cases hsl : s.length = fr.length
      · have i2 : (s.length : Int) = (fr.length : Int) := by omega
        have hRR := Lib.hid (show longB rows fr.length = longB (rows.drop (k + 1)) fr.length by rw [hL.out, hdr.out, decide_eq_true hsl, Bool.true_and])
        clear hsl
        go_wp2
        go_round
        case rel => exact ⟨k + 1, by omega, by go_num, hRR⟩
        case measure => simp [intOf]; omega
      · have i2 : ¬ (s.length : Int) = (fr.length : Int) := by omega
        have HE := Lib.hid (show dgB rows fr tt (N : Int) = false by rw [HDD.out, hL.out, hdr.out, decide_eq_false hsl]; rfl)
        clear hsl
        go_wp2
        go_ret
        exact ⟨by rw [HE.out]; rfl, rfl⟩
    · have hk2 : rows.length = k := by omega
      have HE := Lib.hid (show dgB rows fr tt (N : Int) = true by rw [HDD.out, hL.out, List.drop_eq_nil_of_le (by omega)]; rfl)
      go_wp2
      go_ret
      exact ⟨by rw [HE.out]; rfl, rfl⟩
end Go.Proofs.Ytdnjjpkajiehgaa
