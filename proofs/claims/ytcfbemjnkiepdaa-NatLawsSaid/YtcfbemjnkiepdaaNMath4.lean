/-
  Plain arithmetic of words: long division, a word of the quotient at a time.
-/
import Derived.Test.YtcfbemjnkiepdaaNMath3
namespace Go.Proofs.Ytcfbemjnkiepdaa
open Go.RowKit
set_option linter.unusedVariables false

theorem W_pos (k : Nat) : 0 < W64 ^ k := Nat.pow_pos (by rw [W64_eq]; omega)
theorem dg_bound (n : Nat) : n < W64 ^ (nw n).length := by
  have := vl_lt (dg_lt W64_two n)
  rwa [vl_dg W64_two] at this
/-- The highest word of a number. -/
theorem top_bounds {Y t : Nat} (h : (nw Y)[(nw Y).length - 1]? = some t) : t * W64 ^ ((nw Y).length - 1) ≤ Y ∧ Y < (t + 1) * W64 ^ ((nw Y).length - 1) ∧ 0 < t := by
  have hl := (List.getElem?_eq_some_iff.1 h).1
  have e := vl_split W64 (nw Y) h
  rw [List.drop_of_length_le (by omega), vl_nil, Nat.mul_zero, Nat.add_zero, vl_dg W64_two] at e
  have h1 := vl_lt (b := W64) (xs := (nw Y).take ((nw Y).length - 1)) (fun z hz => dg_lt W64_two Y z (List.mem_of_mem_take hz))
  rw [List.length_take, Nat.min_eq_left (by omega)] at h1
  have hY : 0 < Y := by
    rcases Nat.eq_zero_or_pos Y with h0 | h0
    · subst h0; simp [dg_zero] at hl
    · exact h0
  obtain ⟨_, h2, _⟩ := dg_len W64_two Y hY
  have h2' : W64 ^ ((nw Y).length - 1) ≤ Y := h2
  generalize W64 ^ ((nw Y).length - 1) = K at *
  rw [Nat.mul_comm K] at e
  refine ⟨by omega, by rw [Nat.add_mul, Nat.one_mul]; omega, ?_⟩
  rcases Nat.eq_zero_or_pos t with h0 | h0
  · subst h0; rw [Nat.zero_mul] at e; omega
  · exact h0
/-- Shifted till its highest bit is 1 a number has as many words as before, and is great. -/
theorem norm_up {Y t s : Nat} (h : (nw Y)[(nw Y).length - 1]? = some t) (hs : s < 64) (ht0 : 9223372036854775808 ≤ t * 2 ^ s) (ht1 : t * 2 ^ s < 18446744073709551616) :
    (nw (Y * 2 ^ s)).length = (nw Y).length ∧ 9223372036854775808 * W64 ^ ((nw Y).length - 1) ≤ Y * 2 ^ s ∧ Y * 2 ^ s < W64 ^ (nw Y).length := by
  obtain ⟨h1, h2, h3⟩ := top_bounds h
  have hl := (List.getElem?_eq_some_iff.1 h).1
  have hp := pow_split s (by omega)
  have p1 := Nat.two_pow_pos s
  have ht : t < 2 ^ (64 - s) := by
    rw [← hp] at ht1
    exact Nat.lt_of_mul_lt_mul_right ht1
  have e : W64 ^ (nw Y).length = W64 ^ ((nw Y).length - 1) * W64 := by
    conv => lhs; rw [show (nw Y).length = ((nw Y).length - 1) + 1 by omega, Nat.pow_succ]
  have u : Y * 2 ^ s < W64 ^ (nw Y).length := by
    have a1 := Nat.mul_lt_mul_of_pos_right h2 p1
    rw [Nat.mul_right_comm (t + 1), Nat.mul_comm ((t + 1) * 2 ^ s)] at a1
    have a2 : (t + 1) * 2 ^ s ≤ 18446744073709551616 := by rw [← hp]; exact Nat.mul_le_mul_right _ ht
    have a3 := Nat.mul_le_mul_left (W64 ^ ((nw Y).length - 1)) a2
    rw [e]
    exact Nat.lt_of_lt_of_le a1 a3
  have l : 9223372036854775808 * W64 ^ ((nw Y).length - 1) ≤ Y * 2 ^ s := by
    have a1 := Nat.mul_le_mul_right (2 ^ s) h1
    have a2 := Nat.mul_le_mul_right (W64 ^ ((nw Y).length - 1)) ht0
    rw [Nat.mul_right_comm] at a1
    omega
  refine ⟨?_, l, u⟩
  have b1 := dg_len_le W64_two u
  have b2 := dg_bound (Y * 2 ^ s)
  rcases Nat.lt_or_ge (nw (Y * 2 ^ s)).length (nw Y).length with h0 | h0
  · exfalso
    have b3 : W64 ^ (nw (Y * 2 ^ s)).length ≤ W64 ^ ((nw Y).length - 1) := Nat.pow_le_pow_right (by rw [W64_eq]; omega) (by omega)
    omega
  · have : (nw (Y * 2 ^ s)).length ≤ (nw Y).length := b1
    omega
/-- Long division: rest and quotient so far; the quotient's first k words are still to be told. -/
def DivInv (V D la p k : Nat) (zs qs : List Nat) : Prop :=
  zs.length = la + 1 ∧ qs.length = p ∧ (∀ x ∈ zs, x < W64) ∧ (∀ x ∈ qs, x < W64) ∧ nv zs + D * nv qs = V ∧ nv zs < D * W64 ^ k ∧ (∀ (j x : Nat), j < k → qs[j]? = some x → x = 0)
theorem vl_set {b : Nat} {qs : List Nat} {j v : Nat} (hj : qs[j]? = some 0) : vl b (qs.set j v) = vl b qs + b ^ j * v := by
  have hl := (List.getElem?_eq_some_iff.1 hj).1
  have h2 : (qs.set j v)[j]? = some v := by simp [hl]
  rw [vl_split b qs hj, vl_split b (qs.set j v) h2, List.take_set_of_le (by omega), List.drop_set_of_lt (by omega)]
  omega
theorem seg_split (zs : List Nat) (o n : Nat) : zs = zs.take o ++ (zs.drop o).take n ++ zs.drop (o + n) := by
  conv => lhs; rw [← List.take_append_drop o zs, ← List.take_append_drop n (zs.drop o), List.drop_drop]
  rw [List.append_assoc]
theorem DivInv.part {V D la p k lb : Nat} {zs qs : List Nat} (h : DivInv V D la p (k + 1) zs qs) (hD : D < W64 ^ lb) (hk : k + lb + 1 ≤ la + 1) :
    ((zs.drop k).take (lb + 1)).length = lb + 1 ∧ (zs.take k).length = k ∧ (∀ x ∈ (zs.drop k).take (lb + 1), x < W64) ∧ nv ((zs.drop k).take (lb + 1)) < W64 * D ∧
    nv zs = nv (zs.take k) + W64 ^ k * nv ((zs.drop k).take (lb + 1)) ∧ nv (zs.drop (k + (lb + 1))) = 0 := by
  obtain ⟨h1, h2, h3, h4, h5, h6, h7⟩ := h
  have l1 : ((zs.drop k).take (lb + 1)).length = lb + 1 := by rw [List.length_take, List.length_drop]; omega
  have l2 : (zs.take k).length = k := by rw [List.length_take]; omega
  have e : nv zs = nv (zs.take k) + W64 ^ k * (nv ((zs.drop k).take (lb + 1)) + W64 ^ (lb + 1) * nv (zs.drop (k + (lb + 1)))) := by
    show vl W64 zs = _
    conv => lhs; rw [seg_split zs k (lb + 1), List.append_assoc, vl_append, l2, vl_append, l1]
  have hlt : ∀ x ∈ (zs.drop k).take (lb + 1), x < W64 := fun x hx => h3 x (List.mem_of_mem_drop (List.mem_of_mem_take hx))
  generalize nv ((zs.drop k).take (lb + 1)) = P at *
  generalize nv (zs.drop (k + (lb + 1))) = Z at *
  generalize nv (zs.take k) = F at *
  have hz : Z = 0 := by
    rcases Nat.eq_zero_or_pos Z with h0 | h0
    · exact h0
    · exfalso
      have a1 : W64 ^ (lb + 1) ≤ W64 ^ (lb + 1) * Z := Nat.le_mul_of_pos_right _ h0
      have a2 : W64 ^ k * W64 ^ (lb + 1) ≤ W64 ^ k * (P + W64 ^ (lb + 1) * Z) := Nat.mul_le_mul_left _ (by omega)
      have a3 : D * W64 ^ (k + 1) ≤ W64 ^ lb * W64 ^ (k + 1) := Nat.mul_le_mul_right _ (by omega)
      rw [← Nat.pow_add] at a2 a3
      rw [show k + (lb + 1) = lb + (k + 1) by omega] at a2
      omega
  subst hz
  rw [Nat.mul_zero, Nat.add_zero] at e
  refine ⟨l1, l2, hlt, ?_, e, rfl⟩
  have a1 : W64 ^ k * P < W64 ^ k * (W64 * D) := by
    rw [Nat.pow_succ] at h6
    rw [← Nat.mul_assoc, Nat.mul_comm _ D]
    omega
  exact Nat.lt_of_mul_lt_mul_left a1
theorem DivInv.step {V D la p k lb : Nat} {zs qs ns : List Nat} (h : DivInv V D la p (k + 1) zs qs) (hD : D < W64 ^ lb) (hk : k + lb + 1 ≤ la + 1) (hp : k < p) (hD0 : 0 < D)
    (hn : ns.length = lb + 1) (hns : ∀ x ∈ ns, x < W64) {q : Nat} (hq : q < W64) (eq : q = nv ((zs.drop k).take (lb + 1)) / D) (er : nv ns = nv ((zs.drop k).take (lb + 1)) % D) :
    DivInv V D la p k (zs.take k ++ ns ++ zs.drop (k + (lb + 1))) (qs.set k q) := by
  obtain ⟨l1, l2, l3, l4, l5, l6⟩ := h.part hD hk
  obtain ⟨h1, h2, h3, h4, h5, h6, h7⟩ := h
  have hq0 : qs[k]? = some 0 := by
    have hl : k < qs.length := by omega
    have := h7 k qs[k] (by omega) (List.getElem?_eq_getElem hl)
    rw [List.getElem?_eq_getElem hl, this]
  have eV : nv (zs.take k ++ ns ++ zs.drop (k + (lb + 1))) = nv (zs.take k) + W64 ^ k * nv ns := by
    show vl W64 _ = _
    rw [List.append_assoc, vl_append, l2, vl_append]
    have : vl W64 (zs.drop (k + (lb + 1))) = 0 := l6
    rw [this, Nat.mul_zero, Nat.add_zero]
  have eQ : nv (qs.set k q) = nv qs + W64 ^ k * q := vl_set hq0
  have hF := vl_lt (b := W64) (xs := zs.take k) (fun z hz => h3 z (List.mem_of_mem_take hz))
  rw [l2] at hF
  refine ⟨by simp only [List.length_append, l2, hn, List.length_drop]; omega, by simp [h2], ?_, ?_, ?_, ?_, ?_⟩
  · intro x hx
    rcases List.mem_append.1 hx with hx | hx
    · rcases List.mem_append.1 hx with hx | hx
      · exact h3 x (List.mem_of_mem_take hx)
      · exact hns x hx
    · exact h3 x (List.mem_of_mem_drop hx)
  · intro x hx
    rcases List.mem_or_eq_of_mem_set hx with hx | hx
    · exact h4 x hx
    · rw [hx]; exact hq
  · rw [eV, eQ]
    have hm := Nat.mod_add_div (nv ((zs.drop k).take (lb + 1))) D
    rw [← er, ← eq] at hm
    have a : W64 ^ k * (nv ns + D * q) = W64 ^ k * nv ((zs.drop k).take (lb + 1)) := by rw [hm]
    rw [Nat.mul_add, Nat.mul_left_comm] at a
    rw [Nat.mul_add]
    omega
  · rw [eV]
    have hm := Nat.mod_lt (nv ((zs.drop k).take (lb + 1))) hD0
    rw [← er] at hm
    have a := Nat.mul_le_mul_left (W64 ^ k) (show nv ns + 1 ≤ D by omega)
    rw [Nat.mul_add, Nat.mul_one, Nat.mul_comm _ D] at a
    have hF' : nv (zs.take k) < W64 ^ k := hF
    omega
  · intro j x hj hx
    rw [List.getElem?_set_ne (by omega)] at hx
    exact h7 j x (by omega) hx
theorem DivInv.done {X Y s la p : Nat} {zs qs : List Nat} (h : DivInv (X * 2 ^ s) (Y * 2 ^ s) la p 0 zs qs) (hY : 0 < Y) : nv qs = X / Y ∧ nv zs / 2 ^ s = X % Y := by
  obtain ⟨h1, h2, h3, h4, h5, h6, h7⟩ := h
  have p1 := Nat.two_pow_pos s
  have hD : 0 < Y * 2 ^ s := Nat.mul_pos hY p1
  rw [Nat.pow_zero, Nat.mul_one] at h6
  have e1 : X * 2 ^ s / (Y * 2 ^ s) = nv qs := by rw [← h5, Nat.add_mul_div_left _ _ hD, Nat.div_eq_of_lt h6, Nat.zero_add]
  have e2 : X * 2 ^ s % (Y * 2 ^ s) = nv zs := by rw [← h5, Nat.add_mul_mod_self_left, Nat.mod_eq_of_lt h6]
  rw [Nat.mul_div_mul_right _ _ p1] at e1
  rw [Nat.mul_mod_mul_right] at e2
  refine ⟨e1.symm, ?_⟩
  rw [← e2, Nat.mul_div_cancel _ p1]
theorem divInv_start {X D s la lb p : Nat} {zs : List Nat} (hX : X < W64 ^ la) (hs : s < 64) (hD : 9223372036854775808 * W64 ^ (lb - 1) ≤ D) (hlb : 0 < lb) (hp : p = la - lb + 1) (hle : lb ≤ la) (hz : zs.length = la + 1) (hzs : ∀ x ∈ zs, x < W64) (hv : nv zs = X * 2 ^ s) :
    DivInv (X * 2 ^ s) D la p p zs (List.replicate p 0) := by
  have h0 : nv (List.replicate p 0) = 0 := vl_zeros fun j x hx => by
    have := List.getElem?_replicate (n := p) (a := 0) (i := j)
    rw [hx] at this
    split at this
    · exact Option.some.inj this
    · cases this
  refine ⟨hz, by simp, hzs, ?_, ?_, ?_, ?_⟩
  · intro x hx
    rw [List.eq_of_mem_replicate hx, W64_eq]
    omega
  · rw [h0, hv, Nat.mul_zero, Nat.add_zero]
  · rw [hv]
    have a1 := Nat.mul_le_mul_right (W64 ^ p) hD
    rw [Nat.mul_assoc, ← Nat.pow_add, show lb - 1 + p = la by omega] at a1
    have a2 : 2 ^ s ≤ 9223372036854775808 := by
      have := Nat.pow_le_pow_right (show 0 < 2 by omega) (show s ≤ 63 by omega)
      omega
    have a3 : X * 2 ^ s < W64 ^ la * 2 ^ s := Nat.mul_lt_mul_of_pos_right hX (Nat.two_pow_pos s)
    have a4 := Nat.mul_le_mul_left (W64 ^ la) a2
    rw [Nat.mul_comm _ 9223372036854775808] at a4
    omega
  · intro j x hj hx
    have e : (List.replicate p 0)[j]? = some 0 := by simp [hj]
    rw [e] at hx
    exact (Option.some.inj hx).symm
end Go.Proofs.Ytcfbemjnkiepdaa
