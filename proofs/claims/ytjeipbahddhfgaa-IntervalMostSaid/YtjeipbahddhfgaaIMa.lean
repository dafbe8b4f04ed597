/-
  A power's numbers over a span lie between those that its span is asked of.
-/
import Derived.Test.YtjeipbahddhfgaaITk
namespace Go.Proofs.Ytjeipbahddhfgaa
open Go.RowKit
set_option linter.unusedVariables false
set_option maxRecDepth 100000

theorem minR_le : ∀ (l : List Int) (m : Int), minR l m ≤ m ∧ ∀ z ∈ l, minR l m ≤ z
  | [], m => ⟨Int.le_refl _, fun z h => by cases h⟩
  | y :: r, m => by
    obtain ⟨h1, h2⟩ := minR_le r (min m y)
    show minR r (min m y) ≤ m ∧ ∀ z ∈ y :: r, minR r (min m y) ≤ z
    refine ⟨by omega, fun z hz => ?_⟩
    rcases List.mem_cons.1 hz with rfl | g
    · omega
    · exact h2 z g
theorem maxR_le : ∀ (l : List Int) (m : Int), m ≤ maxR l m ∧ ∀ z ∈ l, z ≤ maxR l m
  | [], m => ⟨Int.le_refl _, fun z h => by cases h⟩
  | y :: r, m => by
    obtain ⟨h1, h2⟩ := maxR_le r (max m y)
    show m ≤ maxR r (max m y) ∧ ∀ z ∈ y :: r, z ≤ maxR r (max m y)
    refine ⟨by omega, fun z hz => ?_⟩
    rcases List.mem_cons.1 hz with rfl | g
    · omega
    · exact h2 z g
theorem around_in {l : List Int} {z : Int} (h : z ∈ l) : (aroundF l).1 ≤ z ∧ z ≤ (aroundF l).2 := ⟨(minR_le l _).2 z h, (maxR_le l _).2 z h⟩
theorem chain_up {g : Int → Int} {a : Int} (h : ∀ v, a ≤ v → g v ≤ g (v + 1)) : ∀ (n : Nat) (u : Int), a ≤ u → g u ≤ g (u + n)
  | 0, u, hu => by rw [show u + ((0 : Nat) : Int) = u by omega]; exact Int.le_refl _
  | n + 1, u, hu => by
    have h1 := chain_up h n u hu
    have h2 := h (u + n) (by omega)
    rw [show u + ((n + 1 : Nat) : Int) = u + n + 1 by omega]
    omega
theorem mono_up {g : Int → Int} {a u v : Int} (h : ∀ v, a ≤ v → g v ≤ g (v + 1)) (hu : a ≤ u) (huv : u ≤ v) : g u ≤ g v := by
  have := chain_up h (v - u).toNat u hu
  rwa [show u + ((v - u).toNat : Int) = v by omega] at this
theorem chain_dn {g : Int → Int} {a : Int} (h : ∀ v, v < a → g (v + 1) ≤ g v) : ∀ (n : Nat) (u : Int), u + n ≤ a → g (u + n) ≤ g u
  | 0, u, hu => by rw [show u + ((0 : Nat) : Int) = u by omega]; exact Int.le_refl _
  | n + 1, u, hu => by
    have h1 := chain_dn h n u (by omega)
    have h2 := h (u + n) (by omega)
    rw [show u + ((n + 1 : Nat) : Int) = u + n + 1 by omega]
    omega
theorem mono_dn {g : Int → Int} {a u v : Int} (h : ∀ v, v < a → g (v + 1) ≤ g v) (huv : u ≤ v) (hv : v ≤ a) : g v ≤ g u := by
  have := chain_dn h (v - u).toNat u (by omega)
  rwa [show u + ((v - u).toNat : Int) = v by omega] at this
/-- A quadratic's step. -/
theorem quad_step (c0 c1 c2 v : Int) : ((c2 * (v + 1) + c1) * (v + 1) + c0) - ((c2 * v + c1) * v + c0) = c2 * (2 * v + 1) + c1 := by
  simp only [Int.mul_add, Int.add_mul, Int.mul_one]
  have e1 : c2 * (2 * v) = c2 * v + c2 * v := by rw [show 2 * v = v + v by omega, Int.mul_add]
  rw [e1]
  generalize c2 * v * v = a
  generalize c2 * v = b
  generalize c1 * v = d
  omega
theorem turn_parts (c1 c2 : Int) (h : 0 < c2) : ∃ r, -(2 * c2) < r ∧ r < 2 * c2 ∧ ∀ v, c2 * (2 * v + 1) + c1 = c2 * (2 * (v - (-(c1.tdiv (2 * c2)))) + 1) + r := by
  have hm := Int.mul_tdiv_add_tmod c1 (2 * c2)
  refine ⟨c1.tmod (2 * c2), ?_, ?_, fun v => ?_⟩
  · have h3 := Int.natAbs_tmod c1 (2 * c2)
    have h4 := Nat.mod_lt c1.natAbs (y := (2 * c2).natAbs) (by omega)
    omega
  · have h3 := Int.natAbs_tmod c1 (2 * c2)
    have h4 := Nat.mod_lt c1.natAbs (y := (2 * c2).natAbs) (by omega)
    omega
  · rw [Int.mul_assoc] at hm
    generalize c1.tmod (2 * c2) = r at *
    generalize c1.tdiv (2 * c2) = q at *
    have e : c2 * (2 * (v - -q) + 1) = c2 * (2 * v + 1) + 2 * (c2 * q) := by
      rw [show 2 * (v - -q) + 1 = (2 * v + 1) + 2 * q by omega, Int.mul_add, show c2 * (2 * q) = 2 * (c2 * q) by rw [Int.mul_left_comm]]
    rw [e]
    omega
theorem mul_three {c m : Int} (h : 0 < c) (hm : 3 ≤ m) : 3 * c ≤ c * m := by
  have := Int.mul_le_mul_of_nonneg_left hm (Int.le_of_lt h)
  rw [Int.mul_comm c 3] at this
  exact this
theorem mul_three' {c m : Int} (h : 0 < c) (hm : m ≤ -3) : c * m ≤ -(3 * c) := by
  have := Int.mul_le_mul_of_nonneg_left hm (Int.le_of_lt h)
  rw [show c * -3 = -(3 * c) by rw [Int.mul_neg, Int.mul_comm]] at this
  exact this
/-- Beyond its turning a quadratic that opens upwards rises, ahead of it it falls. -/
theorem quad_up (c0 c1 c2 : Int) (h : 0 < c2) (v : Int) (hv : -(c1.tdiv (2 * c2)) + 1 ≤ v) : (c2 * v + c1) * v + c0 ≤ (c2 * (v + 1) + c1) * (v + 1) + c0 := by
  obtain ⟨r, h1, h2, he⟩ := turn_parts c1 c2 h
  have hs := quad_step c0 c1 c2 v
  rw [he v] at hs
  have := mul_three h (show 3 ≤ 2 * (v - -(c1.tdiv (2 * c2))) + 1 by omega)
  omega
theorem quad_dn (c0 c1 c2 : Int) (h : 0 < c2) (v : Int) (hv : v < -(c1.tdiv (2 * c2)) - 1) : (c2 * (v + 1) + c1) * (v + 1) + c0 ≤ (c2 * v + c1) * v + c0 := by
  obtain ⟨r, h1, h2, he⟩ := turn_parts c1 c2 h
  have hs := quad_step c0 c1 c2 v
  rw [he v] at hs
  have := mul_three' h (show 2 * (v - -(c1.tdiv (2 * c2))) + 1 ≤ -3 by omega)
  omega
theorem neg_quad (c0 c1 c2 v : Int) : (-c2 * v + -c1) * v + -c0 = -((c2 * v + c1) * v + c0) := by
  rw [show -c2 * v + -c1 = -(c2 * v + c1) by rw [Int.neg_mul, Int.neg_add], Int.neg_mul]
  omega
theorem neg_turn (c1 c2 : Int) : (-c1).tdiv (2 * -c2) = c1.tdiv (2 * c2) := by
  rw [show 2 * -c2 = -(2 * c2) by omega, Int.neg_tdiv, Int.tdiv_neg, Int.neg_neg]
/-- Between two places on one side of the turning, a quadratic's numbers lie between those at these places. -/
theorem quad_side (c0 c1 c2 : Int) (hc : c2 ≠ 0) (u v w : Int) (huv : u ≤ v) (hvw : v ≤ w) (hs : w ≤ -(c1.tdiv (2 * c2)) - 1 ∨ -(c1.tdiv (2 * c2)) + 1 ≤ u) :
    min ((c2 * u + c1) * u + c0) ((c2 * w + c1) * w + c0) ≤ (c2 * v + c1) * v + c0 ∧ (c2 * v + c1) * v + c0 ≤ max ((c2 * u + c1) * u + c0) ((c2 * w + c1) * w + c0) := by
  have pos : ∀ c0 c1 c2 : Int, 0 < c2 → (w ≤ -(c1.tdiv (2 * c2)) - 1 ∨ -(c1.tdiv (2 * c2)) + 1 ≤ u) → min ((c2 * u + c1) * u + c0) ((c2 * w + c1) * w + c0) ≤ (c2 * v + c1) * v + c0 ∧ (c2 * v + c1) * v + c0 ≤ max ((c2 * u + c1) * u + c0) ((c2 * w + c1) * w + c0) := by
    intro c0 c1 c2 h hs
    rcases hs with g | g
    · have a := mono_dn (g := fun v => (c2 * v + c1) * v + c0) (a := -(c1.tdiv (2 * c2)) - 1) (fun x hx => quad_dn c0 c1 c2 h x hx) huv (by omega)
      have b := mono_dn (g := fun v => (c2 * v + c1) * v + c0) (a := -(c1.tdiv (2 * c2)) - 1) (fun x hx => quad_dn c0 c1 c2 h x hx) hvw g
      omega
    · have a := mono_up (g := fun v => (c2 * v + c1) * v + c0) (a := -(c1.tdiv (2 * c2)) + 1) (fun x hx => quad_up c0 c1 c2 h x hx) g huv
      have b := mono_up (g := fun v => (c2 * v + c1) * v + c0) (a := -(c1.tdiv (2 * c2)) + 1) (fun x hx => quad_up c0 c1 c2 h x hx) (by omega) hvw
      omega
  rcases Int.lt_or_gt_of_ne hc with h | h
  · have := pos (-c0) (-c1) (-c2) (by omega) (by rw [neg_turn]; exact hs)
    rw [neg_quad, neg_quad, neg_quad] at this
    omega
  · exact pos c0 c1 c2 h hs
theorem line_between (c0 c1 u v w : Int) (huv : u ≤ v) (hvw : v ≤ w) : min ((0 * u + c1) * u + c0) ((0 * w + c1) * w + c0) ≤ (0 * v + c1) * v + c0 ∧ (0 * v + c1) * v + c0 ≤ max ((0 * u + c1) * u + c0) ((0 * w + c1) * w + c0) := by
  simp only [Int.zero_mul, Int.zero_add]
  rcases Int.le_total 0 c1 with h | h
  · have a := Int.mul_le_mul_of_nonneg_left huv h
    have b := Int.mul_le_mul_of_nonneg_left hvw h
    omega
  · have a := Int.mul_le_mul_of_nonpos_left h huv
    have b := Int.mul_le_mul_of_nonpos_left h hvw
    omega
theorem pws_mem (da : List Int) (v z : Int) (n : Nat) (h1 : v ≤ z) (h2 : z < v + n) : pwF da z ∈ pwsF da v n := by
  unfold pwsF
  refine List.mem_map.2 ⟨(z - v).toNat, List.mem_range.2 (by omega), ?_⟩
  rw [show v + ((z - v).toNat : Int) = z by omega]
/-- A power's numbers over a span lie within its span. -/
theorem bend_within {da : List Int} {c0 c1 c2 lo hi v : Int} (hd : da = [c0, c1, c2]) (h1 : lo ≤ v) (h2 : v ≤ hi) : (aroundF (bendsF da lo hi)).1 ≤ pwF da v ∧ pwF da v ≤ (aroundF (bendsF da lo hi)).2 := by
  have hp : ∀ z, pwF da z = (c2 * z + c1) * z + c0 := fun z => by rw [hd]; rfl
  have hlo : pwF da lo ∈ bendsF da lo hi := List.mem_append_left _ (by simp)
  have hhi : pwF da hi ∈ bendsF da lo hi := List.mem_append_left _ (by simp)
  have two : ∀ u w, pwF da u ∈ bendsF da lo hi → pwF da w ∈ bendsF da lo hi → (min (pwF da u) (pwF da w) ≤ pwF da v ∧ pwF da v ≤ max (pwF da u) (pwF da w)) → (aroundF (bendsF da lo hi)).1 ≤ pwF da v ∧ pwF da v ≤ (aroundF (bendsF da lo hi)).2 := fun u w hu hw h => by
    have a := around_in hu
    have b := around_in hw
    omega
  by_cases hc : c2 = 0
  · subst hc
    refine two lo hi hlo hhi ?_
    rw [hp, hp, hp]
    exact line_between c0 c1 lo v hi h1 h2
  · have ht : turnF da = -(c1.tdiv (2 * c2)) := by rw [hd]; show (-c1).tdiv (2 * c2) = _; rw [Int.neg_tdiv]
    have hin : ∀ z, lo ≤ z → z ≤ hi → turnF da - 1 ≤ z → z ≤ turnF da + 1 → pwF da z ∈ bendsF da lo hi := fun z a b c d => by
      unfold bendsF
      rw [if_neg (by rw [hd]; exact hc)]
      exact List.mem_append_right _ (pws_mem da _ z _ (by omega) (by omega))
    rcases Int.lt_or_le v (turnF da - 1) with g | g
    · rcases Int.le_total (turnF da - 1) hi with k | k
      · refine two lo (turnF da - 1) hlo (hin _ (by omega) k (by omega) (by omega)) ?_
        rw [hp, hp, hp]
        exact quad_side c0 c1 c2 hc lo v (turnF da - 1) h1 (by omega) (.inl (by rw [ht]; omega))
      · refine two lo hi hlo hhi ?_
        rw [hp, hp, hp]
        exact quad_side c0 c1 c2 hc lo v hi h1 h2 (.inl (by rw [← ht]; omega))
    · rcases Int.lt_or_le (turnF da + 1) v with k | k
      · rcases Int.le_total lo (turnF da + 1) with m | m
        · refine two (turnF da + 1) hi (hin _ m (by omega) (by omega) (by omega)) hhi ?_
          rw [hp, hp, hp]
          exact quad_side c0 c1 c2 hc (turnF da + 1) v hi (by omega) h2 (.inr (by rw [ht]; omega))
        · refine two lo hi hlo hhi ?_
          rw [hp, hp, hp]
          exact quad_side c0 c1 c2 hc lo v hi h1 h2 (.inr (by rw [← ht]; omega))
      · exact around_in (hin v h1 h2 g k)
end Go.Proofs.Ytjeipbahddhfgaa
