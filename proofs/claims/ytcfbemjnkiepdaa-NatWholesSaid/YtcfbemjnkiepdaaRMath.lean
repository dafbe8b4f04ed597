/-
  Plain arithmetic of digits of sixteen bits: a word's digits, and words out of digits.
-/
import Derived.Test.YtcfbemjnkiepdaaNMath3
namespace Go.Proofs.Ytcfbemjnkiepdaa
open Go.RowKit
set_option linter.unusedVariables false

theorem W64_pow : W64 = 65536 ^ 4 := by rw [W64_eq]
theorem pow_16 (i : Nat) : (2 : Nat) ^ (16 * i) = 65536 ^ i := by rw [Nat.pow_mul]
/-- The digits of k words, and of i digits of the next word x. -/
def DigInv (xs : List Nat) (k i x : Nat) (zs : List Nat) : Prop := zs.length = 4 * k + i ∧ vl 65536 zs = nv (xs.take k) + 65536 ^ (4 * k) * (x % 65536 ^ i)
theorem digInv_zero {xs : List Nat} (x : Nat) : DigInv xs 0 0 x [] := ⟨rfl, by simp [vl_nil, Nat.mod_one]⟩
theorem DigInv.step {xs zs : List Nat} {k i x : Nat} (h : DigInv xs k i x zs) : DigInv xs k (i + 1) x (zs ++ [x / 65536 ^ i % 65536]) := by
  obtain ⟨h1, h2⟩ := h
  refine ⟨by simp [h1]; omega, ?_⟩
  rw [vl_snoc, h1, h2, Nat.pow_succ, Nat.mod_mul, Nat.mul_add, Nat.pow_add, Nat.mul_assoc]
  omega
theorem DigInv.word {xs zs : List Nat} {k x : Nat} (h : DigInv xs k 4 x zs) (hx : xs[k]? = some x) (hb : x < 18446744073709551616) (y : Nat) : DigInv xs (k + 1) 0 y zs := by
  obtain ⟨h1, h2⟩ := h
  refine ⟨by rw [h1]; omega, ?_⟩
  rw [h2, Nat.pow_zero, Nat.mod_one, Nat.mul_zero, Nat.add_zero]
  show vl W64 _ + _ = vl W64 _
  rw [vl_take_next, hx, Option.getD_some, Nat.mod_eq_of_lt (by rw [← W64_pow, W64_eq]; exact hb), Nat.pow_mul, ← W64_pow]
theorem DigInv.done {xs zs : List Nat} {k : Nat} {x : Nat} (h : DigInv xs k 0 x zs) (hk : xs.length ≤ k) : vl 65536 zs = nv xs := by
  obtain ⟨h1, h2⟩ := h
  rw [h2, List.take_of_length_le hk, Nat.pow_zero, Nat.mod_one, Nat.mul_zero, Nat.add_zero]

/-- A row of digits: the first one, and the others. -/
theorem vl_seg (b : Nat) (zs : List Nat) (j m : Nat) : vl b ((zs.drop j).take (m + 1)) = zs[j]?.getD 0 + b * vl b ((zs.drop (j + 1)).take m) := by
  rcases h : zs[j]? with _ | x
  · rw [List.drop_of_length_le (List.getElem?_eq_none_iff.1 h), List.drop_of_length_le (by have := List.getElem?_eq_none_iff.1 h; omega)]
    simp [vl_nil]
  · have hl := (List.getElem?_eq_some_iff.1 h).1
    have e := (List.getElem?_eq_some_iff.1 h).2
    rw [List.drop_eq_getElem_cons hl, List.take_succ_cons, vl_cons, e]
    rfl
theorem seg_lt {zs : List Nat} (h : ∀ x ∈ zs, x < 65536) (j m : Nat) : vl 65536 ((zs.drop j).take m) < 65536 ^ m := by
  have h1 := vl_lt (b := 65536) (xs := (zs.drop j).take m) (fun z hz => h z (List.mem_of_mem_drop (List.mem_of_mem_take hz)))
  have h2 : ((zs.drop j).take m).length ≤ m := by rw [List.length_take]; omega
  exact Nat.lt_of_lt_of_le h1 (Nat.pow_le_pow_right (by omega) h2)
/-- Words out of digits, four at a time. -/
def FromInv (zs : List Nat) (k : Nat) (ws : List Nat) : Prop := ws.length = k ∧ (∀ x ∈ ws, x < W64) ∧ nv ws = vl 65536 (zs.take (4 * k)) ∧ (∀ i, i < k → ws[i]? = some (vl 65536 ((zs.drop (4 * i)).take 4)))
theorem fromInv_zero {zs : List Nat} : FromInv zs 0 [] := ⟨rfl, by simp, by simp [vl_nil], fun i hi => absurd hi (by omega)⟩
theorem vl_cut (b : Nat) (zs : List Nat) (j m : Nat) (hj : j ≤ zs.length) : vl b (zs.take (j + m)) = vl b (zs.take j) + b ^ j * vl b ((zs.drop j).take m) := by
  rw [List.take_add, vl_append, List.length_take, Nat.min_eq_left hj]
theorem FromInv.step {zs ws : List Nat} {k : Nat} (h : FromInv zs k ws) (hk : 4 * k < zs.length) (hz : ∀ x ∈ zs, x < 65536) : FromInv zs (k + 1) (ws ++ [vl 65536 ((zs.drop (4 * k)).take 4)]) := by
  obtain ⟨h1, h2, h3, h4⟩ := h
  refine ⟨by simp [h1], snoc_lt h2 (by rw [W64_pow]; exact seg_lt hz _ _), ?_, fun i hi => ?_⟩
  · show vl W64 _ = _
    rw [vl_snoc, h1, show 4 * (k + 1) = 4 * k + 4 by omega, vl_cut _ _ _ _ (by omega), W64_pow, ← Nat.pow_mul]
    have h3' : vl W64 ws = vl 65536 (zs.take (4 * k)) := h3
    rw [W64_pow] at h3'
    rw [h3']
  · by_cases hik : i = k
    · subst hik
      rw [List.getElem?_append_right (by omega), h1]
      simp
    · rw [List.getElem?_append_left (by omega)]
      exact h4 i (by omega)
theorem vl_pos {b : Nat} {l : List Nat} {i x : Nat} (hb : 0 < b) (h : l[i]? = some x) (hx : 0 < x) : 0 < vl b l := by
  rw [vl_split b l h]
  have : 0 < b ^ i * x := Nat.mul_pos (Nat.pow_pos hb) hx
  omega
theorem FromInv.done {zs ws : List Nat} {k V : Nat} (h : FromInv zs k ws) (hk : zs.length ≤ 4 * k) (hk2 : k = 0 ∨ 4 * (k - 1) < zs.length) (hv : zs = dg 65536 V) : ws = nw V := by
  obtain ⟨h1, h2, h3, h4⟩ := h
  have e : nv ws = V := by rw [h3, List.take_of_length_le hk, hv, vl_dg (by omega)]
  have := dg_unique W64_two ws h2 (by
    rcases Nat.eq_zero_or_pos k with h0 | h0
    · left; omega
    · right
      rw [h1, h4 (k - 1) (by omega)]
      have hl : 4 * (k - 1) < zs.length := by omega
      have hV : 0 < V := by
        rcases Nat.eq_zero_or_pos V with hV | hV
        · subst hV; rw [dg_zero] at hv; rw [hv] at hl; simp at hl
        · exact hV
      -- the highest digit isn't 0
      have hlast : ∃ t, zs[zs.length - 1]? = some t ∧ 0 < t := by
        refine ⟨zs[zs.length - 1]'(by omega), List.getElem?_eq_getElem (by omega), ?_⟩
        have hh : zs[zs.length - 1]? = some (zs[zs.length - 1]'(by omega)) := List.getElem?_eq_getElem (by omega)
        rcases Nat.eq_zero_or_pos (zs[zs.length - 1]'(by omega)) with z0 | z0
        · exfalso
          rw [z0] at hh
          have e1 := vl_split 65536 zs hh
          rw [List.drop_of_length_le (by omega), vl_nil, Nat.mul_zero, Nat.mul_zero, Nat.add_zero] at e1
          have e2 := vl_lt (b := 65536) (xs := zs.take (zs.length - 1)) (fun z hz => by
            have := List.mem_of_mem_take hz
            rw [hv] at this
            exact dg_lt (by omega) V z this)
          rw [List.length_take, Nat.min_eq_left (by omega), ← e1] at e2
          have e3 := (dg_len (b := 65536) (by omega) V hV).2.1
          rw [← hv] at e3
          have e4 : vl 65536 zs = V := by rw [hv, vl_dg (by omega)]
          omega
        · exact z0
      obtain ⟨t, ht, ht0⟩ := hlast
      have hp : 0 < vl 65536 ((zs.drop (4 * (k - 1))).take 4) := vl_pos (i := zs.length - 1 - 4 * (k - 1)) (by omega) (by
        rw [List.getElem?_take, if_pos (by omega), List.getElem?_drop, show 4 * (k - 1) + (zs.length - 1 - 4 * (k - 1)) = zs.length - 1 by omega]
        exact ht) ht0
      simp
      omega)
  rw [show vl W64 ws = V from e] at this
  exact this
end Go.Proofs.Ytcfbemjnkiepdaa
