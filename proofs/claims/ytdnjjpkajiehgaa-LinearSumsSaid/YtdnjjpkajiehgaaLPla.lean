/-
  Are they slots, each at most once: the program's answer and the document's.
-/
import Derived.Test.YtdnjjpkajiehgaaLMath
import Derived.Test.YtdnjjpkajiehgaaLMem
import Derived.Test.YtdnjjpkajiehgaaLOwn
namespace Go.Proofs.Ytdnjjpkajiehgaa
open Go.RowKit
set_option linter.unusedVariables false
set_option maxRecDepth 100000

theorem plcs_step {l : List Int} {N k : Nat} {z : Int} (h : Plcs (l.take k) N) (hz : l[k]? = some z) (h0 : 0 ≤ z) (h1 : z < (N : Int)) (hn : z ∉ l.take k) : Plcs (l.take (k + 1)) N := by
  have hk := (List.getElem?_eq_some_iff.1 hz).1
  have hat : ∀ (j : Nat) (y : Int), (l.take (k + 1))[j]? = some y → (j < k ∧ (l.take k)[j]? = some y) ∨ (j = k ∧ y = z) := fun j y hy => by
    rw [List.getElem?_take] at hy
    split at hy
    · rcases Nat.lt_or_ge j k with g | g
      · exact .inl ⟨g, by rw [List.getElem?_take, if_pos g]; exact hy⟩
      · obtain rfl : j = k := by omega
        rw [hz] at hy
        injection hy with hy
        exact .inr ⟨rfl, hy.symm⟩
    · cases hy
  refine ⟨fun j y hy => ?_, fun i j y hi hj => ?_⟩
  · rcases hat j y hy with ⟨_, g⟩ | ⟨_, rfl⟩
    · exact h.1 j y g
    · exact ⟨h0, h1⟩
  · rcases hat i y hi with ⟨_, g⟩ | ⟨e1, e2⟩ <;> rcases hat j y hj with ⟨_, g'⟩ | ⟨e3, e4⟩
    · exact h.2 i j y g g'
    · subst e4; exact absurd (List.mem_of_getElem? g) hn
    · subst e2; exact absurd (List.mem_of_getElem? g') hn
    · omega
theorem plcs_nil (N : Nat) (l : List Int) : Plcs (l.take 0) N := by
  rw [List.take_zero]
  exact ⟨fun j z h => by simp at h, fun j k z h => by simp at h⟩
theorem not_plcs_out {l : List Int} {N k : Nat} {z : Int} (hz : l[k]? = some z) (h : z < 0 ∨ (N : Int) ≤ z) : placesB l N = false := by
  cases hb : placesB l N
  · rfl
  · have := ((placesB_iff l).1 hb).1 k z hz
    omega
theorem not_plcs_two {l : List Int} {N k : Nat} {z : Int} (hz : l[k]? = some z) (h : z ∈ l.take k) : placesB l N = false := by
  cases hb : placesB l N
  · rfl
  · obtain ⟨j, hj⟩ := List.getElem?_of_mem h
    rw [List.getElem?_take] at hj
    split at hj
    · have := ((placesB_iff l).1 hb).2 j k z hj hz
      omega
    · cases hj
theorem mem_take_succ {l : List Int} {k : Nat} {z : Int} (hz : l[k]? = some z) (y : Int) : y ∈ l.take (k + 1) ↔ y = z ∨ y ∈ l.take k := by
  obtain ⟨hk, e⟩ := List.getElem?_eq_some_iff.1 hz
  rw [List.take_succ_eq_append_getElem hk, List.mem_append, e]
  simp
  exact or_comm
/-- Which slots are taken. -/
def takenB (l : List Int) (k j : Nat) : Bool := decide ((j : Int) ∈ l.take k)
set_option maxHeartbeats 4000000 in
theorem arePlaces_any (A : Option Addr) (n c N : Nat) (l : List Int) (w : World) (hX : Hid (ZX w A n c l)) (hn : n ≤ 100000) (hN : N ≤ 4096) :
    Calls Try.prog 61 #[.slice A n c, .int .i64 (N : Int)] w fun e w' => e = .returned (.bool (placesB l N)) ∧ Ext w w' := by
  have hlen := hX.out.len
  have hmk := make_boolL N (by omega) w
  have kM : Ext w (w.alloc (.cells ((List.range N).map fun _ => Value.bool false).toArray 4)) := (Ext.refl w).alloc _
  have hI : RL (w.alloc (.cells ((List.range N).map fun _ => Value.bool false).toArray 4)) w.heap.size 4 N (fun j => .bool (takenB l 0 j)) := (RL.new w 4 N _).congr fun j _ => by unfold takenB; simp
  go_enter Try.func61, Try.ntmps61
  go_wp2_with fail
  clear hmk
  have hXV := Lib.hid (hX.out.ext kM)
  generalize w.alloc (.cells ((List.range N).map fun _ => Value.bool false).toArray 4) = V at *
  obtain ⟨g, hg⟩ : ∃ g, w.heap.size = g := ⟨_, rfl⟩
  rw [hg] at hI ⊢
  have HG := Lib.hid hg
  have KM := Lib.hid kM
  clear hg kM
  go_loopw [12] (fun i wr => ∃ k : Nat, k ≤ n ∧ i = .int .i64 (k : Int) ∧ RL wr g 4 N (fun j => .bool (takenB l k j)) ∧ On g V wr ∧ Hid (Plcs (l.take k) N)) (fun i _ => n - (intOf i).toNat)
  case atStart => exact ⟨0, by omega, rfl, hI, On.refl _ _, Lib.hid (plcs_nil _ _)⟩
  case round =>
    obtain ⟨k, hk, rfl, hu, ho, hP⟩ := hrel
    have HE := Lib.hid (show Ext w wr from below_only KM.out ho KM.out.size (by rw [HG.out]; exact Nat.le_refl _))
    by_cases hlt : k < n
    · obtain ⟨ad, z, rfl, hz, hc⟩ := (hX.out.ext HE.out).at_ hlt
      have HZ := Lib.hid hz
      have HU := Lib.hid hu
      have HO := Lib.hid ho
      clear hz hu ho hI
      by_cases h1 : z < 0
      · have HR := Lib.hid (not_plcs_out (N := N) HZ.out (.inl h1))
        go_wp2
        go_ret
        exact ⟨by show Ending.returned (.bool false) = _; rw [HR.out], HE.out⟩
      by_cases h2 : (N : Int) ≤ z
      · have HR := Lib.hid (not_plcs_out (N := N) HZ.out (.inr h2))
        go_wp2
        go_ret
        exact ⟨by show Ending.returned (.bool false) = _; rw [HR.out], HE.out⟩
      obtain ⟨q, rfl⟩ := Int.eq_ofNat_of_zero_le (show 0 ≤ z by omega)
      have q0 : (0 : Int) ≤ (q : Int) := by omega
      have q1 : (q : Int) < (N : Int) := by omega
      have cl := RL.cell HU.out (show q < N by omega)
      have fz := RL.frozen HU.out q
      obtain ⟨b, hb⟩ : ∃ b, takenB l k q = b := ⟨_, rfl⟩
      rw [hb] at cl
      have HB := Lib.hid hb
      clear hb
      cases b
      · go_wp2
        refine ⟨⟨k + 1, by omega, by go_num, (RL.set HU.out (show q < N by omega) _).congr fun j _ => ?_, HO.out.set q _, Lib.hid (plcs_step hP.out HZ.out (by omega) (by omega) (of_decide_eq_false HB.out))⟩, by simp [intOf]; omega⟩
        show (if j = q then Value.bool true else Value.bool (takenB l k j)) = Value.bool (takenB l (k + 1) j)
        unfold takenB
        by_cases e : j = q
        · subst e
          rw [if_pos rfl, decide_eq_true ((mem_take_succ HZ.out _).2 (.inl rfl))]
        · rw [if_neg e]
          have : ((j : Int) ∈ l.take (k + 1)) = ((j : Int) ∈ l.take k) := propext ((mem_take_succ HZ.out _).trans ⟨fun h => h.resolve_left (by omega), .inr⟩)
          simp only [this]
      · have HR := Lib.hid (not_plcs_two (N := N) HZ.out (of_decide_eq_true HB.out))
        go_wp2
        go_ret
        exact ⟨by show Ending.returned (.bool false) = _; rw [HR.out], HE.out⟩
    · obtain rfl : n = k := by omega
      have HR := Lib.hid (show placesB l N = true from (placesB_iff l).2 (by have := hP.out; rw [List.take_of_length_le (by omega)] at this; exact this))
      go_wp2
      go_ret
      exact ⟨by show Ending.returned (.bool true) = _; rw [HR.out], HE.out⟩
set_option maxHeartbeats 4000000 in
theorem places_any (A : Option Addr) (n c N : Nat) (l : List Int) (w : World) (hX : Hid (ZX w A n c l)) (hn : n ≤ 100000) (hN : N ≤ 4096) :
    Calls Try.prog 90 #[.slice A n c, .int .i64 (N : Int)] w fun e w' => e = .returned (.bool (placesB l N)) ∧ w' = w := by
  have hlen := hX.out.len
  go_enter Try.func90, Try.ntmps90
  go_wp2_with fail
  go_loop [11] (fun i => ∃ k : Nat, k ≤ n ∧ i = .int .i64 (k : Int) ∧ Hid (Plcs (l.take k) N)) (fun i => n - (intOf i).toNat)
  case atStart => exact ⟨0, by omega, rfl, Lib.hid (plcs_nil _ _)⟩
  case round =>
    obtain ⟨k, hk, rfl, hP⟩ := hrel
    by_cases hlt : k < n
    · obtain ⟨ad, z, rfl, hz, hc⟩ := hX.out.at_ hlt
      have HZ := Lib.hid hz
      clear hz
      by_cases h1 : z < 0
      · have HR := Lib.hid (not_plcs_out (N := N) HZ.out (.inl h1))
        go_wp2
        go_ret
        exact ⟨by show Ending.returned (.bool false) = _; rw [HR.out], rfl⟩
      by_cases h2 : (N : Int) ≤ z
      · have HR := Lib.hid (not_plcs_out (N := N) HZ.out (.inr h2))
        go_wp2
        go_ret
        exact ⟨by show Ending.returned (.bool false) = _; rw [HR.out], rfl⟩
      have hroom := hX.out.room
      have i1 : ¬ (c : Int) < (k : Int) := by omega
      have i2 : (k : Int) ≤ (c : Int) := by omega
      have HC := Lib.hid hc
      have HX := Lib.hid hX.out
      go_wp2_with fail
      go_loop [27] (fun i => ∃ m : Nat, m ≤ k ∧ i = .int .i64 (m : Int) ∧ Hid (∀ j, j < m → l[j]? ≠ some z)) (fun i => k - (intOf i).toNat)
      case atStart => exact ⟨0, by omega, rfl, Lib.hid (fun j h => absurd h (by omega))⟩
      case round =>
        obtain ⟨m, hm, rfl, hF⟩ := hrel
        by_cases hmk : m < k
        · obtain ⟨ad', y, e2, hy, hcy⟩ := HX.out.at_ (show m < n by omega)
          injection e2 with e2
          subst e2
          have HY := Lib.hid hy
          clear hy
          by_cases hyz : y = z
          · subst hyz
            have HR := Lib.hid (not_plcs_two (N := N) HZ.out (List.mem_of_getElem? (i := m) (by rw [List.getElem?_take, if_pos hmk]; exact HY.out)))
            go_wp2
            go_ret
            exact ⟨by show Ending.returned (.bool false) = _; rw [HR.out], rfl⟩
          · go_wp2
            go_round
            case rel => exact ⟨m + 1, by omega, by go_num, Lib.hid (fun j hj e => by
              rcases Nat.lt_or_ge j m with g | g
              · exact hF.out j g e
              · obtain rfl : j = m := by omega
                rw [HY.out] at e
                injection e with e
                exact hyz e)⟩
            case measure => simp [intOf]; omega
        · obtain rfl : k = m := by omega
          have HPN := Lib.hid (plcs_step hP.out HZ.out (by omega) (by omega) (fun hmem => by
            obtain ⟨j, hj⟩ := List.getElem?_of_mem hmem
            rw [List.getElem?_take] at hj
            split at hj
            · exact hF.out j (by assumption) hj
            · cases hj))
          go_wp2
          go_round
          case rel => exact ⟨k + 1, by omega, by go_num, HPN⟩
          case measure => simp [intOf]; omega
    · obtain rfl : n = k := by omega
      have HR := Lib.hid (show placesB l N = true from (placesB_iff l).2 (by have := hP.out; rw [List.take_of_length_le (by omega)] at this; exact this))
      go_wp2
      go_ret
      exact ⟨by show Ending.returned (.bool true) = _; rw [HR.out], rfl⟩
end Go.Proofs.Ytdnjjpkajiehgaa
