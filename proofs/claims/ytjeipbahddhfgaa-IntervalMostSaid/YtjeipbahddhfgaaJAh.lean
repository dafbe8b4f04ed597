/-
  Nodes ahead, kernels and shapes that may be: what the numbers say.
-/
import Derived.Test.YtjeipbahddhfgaaJCk
namespace Go.Proofs.Ytjeipbahddhfgaa
open Go.RowKit
set_option linter.unusedVariables false
set_option maxRecDepth 100000

theorem ahead_get {v : Int} {shs : List (List Int)} (h : ahB v shs.length = true) : ∃ i : Nat, v = (i : Int) ∧ ∃ s, shs[i]? = some s ∧ shs.getD v.toNat [] = s := by
  unfold ahB at h
  simp at h
  obtain ⟨h0, h1⟩ := h
  refine ⟨v.toNat, by omega, shs[v.toNat]'(by omega), ?_, ?_⟩
  · exact List.getElem?_eq_getElem (by omega)
  · simp [List.getD, show v.toNat < shs.length by omega]
theorem kernB_four {sh : List Int} {nd nb : Int} (h : kernB sh nd nb = true) : ∃ k0 k1 k2 k3, sh = [k0, k1, k2, k3] ∧ (1 ≤ k0 ∧ k0 ≤ 64) ∧ (1 ≤ k1 ∧ k1 ≤ 64) ∧ (1 ≤ k2 ∧ k2 ≤ 64) ∧ 1 ≤ k3 ∧ k3 ≤ 64 := by
  unfold kernB at h
  simp only [Bool.and_eq_true, decide_eq_true_eq] at h
  obtain ⟨⟨h4, hc⟩, _⟩ := h
  obtain ⟨a, b, c, d, rfl⟩ := four_list h4
  simp [cntB] at hc
  exact ⟨a, b, c, d, rfl, by omega, by omega, by omega, by omega⟩
theorem entN_one {a : Int} (h : 1 ≤ a) (h2 : a ≤ 64) : 0 < entN [a] := by
  unfold entN
  rw [if_neg (by simp)]
  unfold entF
  rw [if_neg (by omega)]
  show 0 < 1 * a
  omega
theorem entN_three {a b c : Int} : 0 < entN [a, b, c] ↔ 1 ≤ a ∧ 1 ≤ b ∧ 1 ≤ c ∧ a * b * c ≤ 64 := by
  unfold entN
  rw [if_neg (by simp)]
  simp only [entF, Int.one_mul]
  constructor
  · intro h
    split at h
    · omega
    · split at h
      · omega
      · split at h
        · omega
        · omega
  · rintro ⟨h1, h2, h3, h4⟩
    have e1 : 1 * 1 ≤ a * b := Int.mul_le_mul h1 h2 (by omega) (by omega)
    have e2 : a * b * 1 ≤ a * b * c := Int.mul_le_mul (Int.le_refl _) h3 (by omega) (by omega)
    have e3 : a * 1 ≤ a * b := Int.mul_le_mul (Int.le_refl _) h2 (by omega) (by omega)
    rw [if_neg (by omega), if_neg (by omega), if_neg (by omega)]
    omega
theorem pool_right {z : Int} {l s : List Int} (hz : 1 ≤ z) (hl : 0 < entN l) (h : poolO z l = some s) : 0 < entN s := by
  unfold poolO at h
  split at h
  · rename_i a0 a1 a2
    split at h
    · split at h
      · rename_i m1 m2
        injection h with h
        subst h
        obtain ⟨p0, p1, p2, p3⟩ := entN_three.1 hl
        have q1 : 1 ≤ a1 / z := by
          have := Int.emod_add_mul_ediv a1 z
          rcases Int.lt_or_le 0 (a1 / z) with g | g
          · exact g
          · have : z * (a1 / z) ≤ 0 := Int.mul_nonpos_of_nonneg_of_nonpos (by omega) g
            omega
        have q2 : 1 ≤ a2 / z := by
          have := Int.emod_add_mul_ediv a2 z
          rcases Int.lt_or_le 0 (a2 / z) with g | g
          · exact g
          · have : z * (a2 / z) ≤ 0 := Int.mul_nonpos_of_nonneg_of_nonpos (by omega) g
            omega
        have r1 : a1 / z ≤ a1 := Int.ediv_le_self _ (by omega)
        have r2 : a2 / z ≤ a2 := Int.ediv_le_self _ (by omega)
        have s1 : a0 * (a1 / z) ≤ a0 * a1 := Int.mul_le_mul (Int.le_refl _) r1 (by omega) (by omega)
        have s0 : 0 ≤ a0 * a1 := Int.mul_nonneg (by omega) (by omega)
        have s2 : a0 * (a1 / z) * (a2 / z) ≤ a0 * a1 * a2 := Int.mul_le_mul s1 r2 (by omega) s0
        exact entN_three.2 ⟨p0, q1, q2, by omega⟩
      · cases h
    · cases h
  · cases h
theorem conv_right {k l s : List Int} (h : convO k l = some s) : 0 < entN s := by
  unfold convO at h
  split at h
  · split at h
    · split at h
      · cases h
      · rename_i hne
        injection h with h
        subst h
        rename_i k0 k1 k2 k3 a0 a1 a2 _
        have := entN_le [k0, a1 - k2 + 1, a2 - k3 + 1]
        omega
    · cases h
  · cases h
theorem shape_right {x : Nd} {shs : List (List Int)} {s : List Int} (hr : Rights shs) (hf : formB x shs.length = true) (hs : shapeO x shs = some s) : 0 < entN s := by
  have ga : ahB x.a shs.length = true → 0 < entN (shs.getD x.a.toNat []) := fun h => by
    obtain ⟨i, _, t, ht, hg⟩ := ahead_get h
    rw [hg]
    exact hr t (List.mem_of_getElem? ht)
  unfold formB at hf
  by_cases k1 : x.k = 1
  · simp [k1, shapeO] at hs
    simp [k1, mayL, toldB] at hf
    subst hs
    exact hf.2.2
  by_cases k2 : x.k = 2
  · simp [k2, shapeO] at hs
    simp [k2, mayL, toldB] at hf
    subst hs
    exact hf.2.2.1
  by_cases k3 : x.k = 3
  · simp [k3, shapeO] at hs
    simp [k3, mayL, toldB] at hf
    obtain ⟨_, rfl⟩ := hs
    exact entN_one (by omega) (by omega)
  by_cases k4 : x.k = 4
  · simp [k4, shapeO] at hs
    exact conv_right hs
  by_cases k5 : x.k = 5
  · simp [k5, shapeO] at hs
    simp [k5, mayL, toldB, behB] at hf
    exact pool_right hf.2.2 (ga hf.2.1) (by simpa [List.getD] using hs)
  by_cases k6 : x.k = 6
  · simp [k6, shapeO] at hs
    simp [k6, mayL, toldB, behB] at hf
    obtain ⟨_, rfl⟩ := hs
    have := ga hf.2.1
    simpa [List.getD] using this
  by_cases k7 : x.k = 7
  · simp [k7, shapeO] at hs
    simp [k7, mayL, toldB, behB] at hf
    subst hs
    have := ga hf.2.1
    simpa [List.getD] using this
  by_cases k8 : x.k = 8
  · simp [k8, shapeO] at hs
    simp [k8, mayL, toldB, behB] at hf
    subst hs
    have := ga hf.2.1
    simpa [List.getD] using this
  by_cases k9 : x.k = 9
  · simp [k9, shapeO] at hs
    simp [k9, mayL, toldB, behB] at hf
    obtain ⟨_, rfl⟩ := hs
    exact hf.2.2
  · simp [k1, k2, k3, k4, k5, k6, k7, k8, k9, mayL] at hf
end Go.Proofs.Ytjeipbahddhfgaa
