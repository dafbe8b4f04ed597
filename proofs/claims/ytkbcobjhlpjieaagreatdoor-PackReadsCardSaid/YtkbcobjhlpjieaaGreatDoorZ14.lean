import Derived.Test.YtkbcobjhlpjieaaGreatDoorZ1
import Derived.Test.YtkbcobjhlpjieaaGreatDoorZNRead
import Derived.Test.YtkbcobjhlpjieaaGreatDoorZ4
namespace Go.Proofs.YtkbcobjhlpjieaaGreatDoor
open Go.RowKit
set_option linter.unusedVariables false
set_option maxRecDepth 100000
theorem pow_splitN (s : Nat) (h : s ≤ 64) : 2 ^ (64 - s) * 2 ^ s = 18446744073709551616 := by
 rw [← Nat.pow_add, show 64 - s + s = 64 by omega]
def shW (s x C : Nat) : Nat := x % 2 ^ (64 - s) * 2 ^ s + C
def shC (s x : Nat) : Nat := x / 2 ^ (64 - s)
theorem sh_eq {s x C : Nat} (hs : s < 64) (hx : x < 18446744073709551616) (hC : C < 2 ^ s) :
    shW s x C + 18446744073709551616 * shC s x = x * 2 ^ s + C ∧ shW s x C < 18446744073709551616 ∧ shC s x < 2 ^ s := by
 have hp := pow_splitN s (by omega)
 have p1 := Nat.two_pow_pos s
 have p2 := Nat.two_pow_pos (64 - s)
 unfold shW shC
 have h1 := Nat.mod_add_div x (2 ^ (64 - s))
 have h2 := Nat.mod_lt x p2
 refine ⟨?_, ?_, ?_⟩
 ·conv => rhs; rw [← h1, Nat.add_mul, Nat.mul_right_comm, hp]
  omega
 ·have := Nat.mul_le_mul_right (2 ^ s) (show x % 2 ^ (64 - s) + 1 ≤ 2 ^ (64 - s) by omega)
  rw [Nat.add_mul, hp] at this
  omega
 ·refine Nat.div_lt_of_lt_mul ?_
  rw [hp]; exact hx
def ShInv (s : Nat) (xs : List Nat) (k : Nat) (zs : List Nat) (C : Nat) : Prop :=
 zs.length = k ∧ (∀ x ∈ zs, x < W64) ∧ C < 2 ^ s ∧ nv zs + W64 ^ k * C = nv (xs.take k) * 2 ^ s
theorem ShInv.step {s : Nat} {xs zs : List Nat} {k C : Nat} (h : ShInv s xs k zs C) {x : Nat} (hx : xs[k]? = some x) (hs : s < 64) (hxb : x < 18446744073709551616) : ShInv s xs (k + 1) (zs ++ [shW s x C]) (shC s x) := by
 obtain ⟨h1, h2, h3, h4⟩ := h
 obtain ⟨e1, e2, e3⟩ := sh_eq hs hxb h3
 refine ⟨by simp [h1], snoc_lt h2 (by rw [W64_eq]; exact e2), e3, ?_⟩
 show vl W64 _ + _ = vl W64 _ * _
 rw [vl_snoc, h1, vl_take_next W64 xs, hx, Nat.pow_succ, Nat.mul_assoc, Option.getD_some, Nat.add_mul]
 have a : W64 ^ k * (shW s x C + W64 * shC s x) = W64 ^ k * (x * 2 ^ s + C) := by rw [W64_eq, e1]
 simp only [Nat.mul_add] at a
 rw [Nat.mul_assoc (W64 ^ k) x]
 have h4' : vl W64 zs + W64 ^ k * C = vl W64 (xs.take k) * 2 ^ s := h4
 omega
theorem ShInv.done {s : Nat} {xs zs : List Nat} {k C : Nat} (h : ShInv s xs k zs C) (hs : s < 64) (hk : xs.length = k) : nv (zs ++ [C]) = nv xs * 2 ^ s ∧ (∀ x ∈ zs ++ [C], x < W64) := by
 obtain ⟨h1, h2, h3, h4⟩ := h
 have hp := pow_splitN s (by omega)
 have p2 := Nat.two_pow_pos (64 - s)
 have : 2 ^ s ≤ 18446744073709551616 := by
  rw [← hp]; exact Nat.le_mul_of_pos_left _ p2
 refine ⟨?_, snoc_lt h2 (by rw [W64_eq]; omega)⟩
 show vl W64 _ = vl W64 _ * _
 rw [vl_snoc, h1]
 rwa [List.take_of_length_le (by omega)] at h4
def sdW (s x y : Nat) : Nat := x / 2 ^ s + y % 2 ^ s * 2 ^ (64 - s)
theorem sd_eq {s x y : Nat} (hs : s < 64) (hx : x < 18446744073709551616) : sdW s x y * 2 ^ s + x % 2 ^ s = x + 18446744073709551616 * (y % 2 ^ s) ∧ sdW s x y < 18446744073709551616 := by
 have hp := pow_splitN s (by omega)
 have p1 := Nat.two_pow_pos s
 have p2 := Nat.two_pow_pos (64 - s)
 unfold sdW
 have h1 := Nat.mod_add_div x (2 ^ s)
 have h2 : x / 2 ^ s < 2 ^ (64 - s) := Nat.div_lt_of_lt_mul (by rw [Nat.mul_comm, hp]; exact hx)
 have h3 := Nat.mul_le_mul_right (2 ^ (64 - s)) (show y % 2 ^ s + 1 ≤ 2 ^ s by have := Nat.mod_lt y p1; omega)
 rw [Nat.add_mul, Nat.mul_comm (2 ^ s), hp] at h3
 refine ⟨?_, by omega⟩
 rw [Nat.add_mul, Nat.mul_assoc, hp, Nat.mul_comm (x / 2 ^ s)]
 omega
def SdInv (s : Nat) (xs : List Nat) (k : Nat) (zs : List Nat) : Prop :=
 zs.length = k ∧ (∀ x ∈ zs, x < W64) ∧ nv zs * 2 ^ s + xs[0]?.getD 0 % 2 ^ s = nv (xs.take k) + W64 ^ k * (xs[k]?.getD 0 % 2 ^ s)
theorem SdInv.step {s : Nat} {xs zs : List Nat} {k : Nat} (h : SdInv s xs k zs) {x : Nat} (hx : xs[k]? = some x) (hs : s < 64) (hxb : x < 18446744073709551616) : SdInv s xs (k + 1) (zs ++ [sdW s x (xs[k + 1]?.getD 0)]) := by
 obtain ⟨h1, h2, h4⟩ := h
 obtain ⟨e1, e2⟩ := sd_eq (y := xs[k + 1]?.getD 0) hs hxb
 refine ⟨by simp [h1], snoc_lt h2 (by rw [W64_eq]; exact e2), ?_⟩
 show vl W64 _ * _ + _ = vl W64 _ + _
 rw [vl_snoc, h1, vl_take_next W64 xs, hx, Nat.pow_succ, Nat.mul_assoc, Option.getD_some, Nat.add_mul]
 rw [hx, Option.getD_some] at h4
 have h4' : vl W64 zs * 2 ^ s + xs[0]?.getD 0 % 2 ^ s = vl W64 (xs.take k) + W64 ^ k * (x % 2 ^ s) := h4
 have a : W64 ^ k * (sdW s x (xs[k + 1]?.getD 0) * 2 ^ s + x % 2 ^ s) = W64 ^ k * (x + W64 * (xs[k + 1]?.getD 0 % 2 ^ s)) := by rw [W64_eq, e1]
 simp only [Nat.mul_add] at a
 rw [Nat.mul_assoc (W64 ^ k)]
 omega
theorem SdInv.done {s : Nat} {xs zs : List Nat} {k : Nat} (h : SdInv s xs k zs) (hk : xs.length = k) : nv zs = nv xs / 2 ^ s ∧ (∀ x ∈ zs, x < W64) := by
 obtain ⟨h1, h2, h4⟩ := h
 rw [List.take_of_length_le (by omega), List.getElem?_eq_none (i := k) (by omega)] at h4
 simp at h4
 refine ⟨?_, h2⟩
 have := Nat.mod_lt (xs[0]?.getD 0) (Nat.two_pow_pos s)
 rw [← h4, Nat.mul_comm, Nat.mul_add_div (Nat.two_pow_pos s), Nat.div_eq_of_lt this, Nat.add_zero]
theorem top_bounds {Y t : Nat} (h : (nw Y)[(nw Y).length - 1]? = some t) : t * W64 ^ ((nw Y).length - 1) ≤ Y ∧ Y < (t + 1) * W64 ^ ((nw Y).length - 1) ∧ 0 < t := by
 have hl := (List.getElem?_eq_some_iff.1 h).1
 have e := vl_split W64 (nw Y) h
 rw [List.drop_of_length_le (by omega), vl_nil, Nat.mul_zero, Nat.add_zero, vl_dg W64_two] at e
 have h1 := vl_lt (b := W64) (xs := (nw Y).take ((nw Y).length - 1)) (fun z hz => dg_lt W64_two Y z (List.mem_of_mem_take hz))
 rw [List.length_take, Nat.min_eq_left (by omega)] at h1
 have hY : 0 < Y := by
  rcases Nat.eq_zero_or_pos Y with h0 | h0
  ·subst h0; simp [dg_zero] at hl
  ·exact h0
 obtain ⟨_, h2, _⟩ := dg_len W64_two Y hY
 have h2' : W64 ^ ((nw Y).length - 1) ≤ Y := h2
 generalize W64 ^ ((nw Y).length - 1) = K at *
 rw [Nat.mul_comm K] at e
 refine ⟨by omega, by rw [Nat.add_mul, Nat.one_mul]; omega, ?_⟩
 rcases Nat.eq_zero_or_pos t with h0 | h0
 ·subst h0; rw [Nat.zero_mul] at e; omega
 ·exact h0
def DivInv (V D la p k : Nat) (zs qs : List Nat) : Prop :=
 zs.length = la + 1 ∧ qs.length = p ∧ (∀ x ∈ zs, x < W64) ∧ (∀ x ∈ qs, x < W64) ∧ nv zs + D * nv qs = V ∧ nv zs < D * W64 ^ k ∧ (∀ (j x : Nat), j < k → qs[j]? = some x → x = 0)
theorem vl_set {b : Nat} {qs : List Nat} {j v : Nat} (hj : qs[j]? = some 0) : vl b (qs.set j v) = vl b qs + b ^ j * v := by
 have hl := (List.getElem?_eq_some_iff.1 hj).1
 have h2 : (qs.set j v)[j]? = some v := by simp [hl]
 rw [vl_split b qs hj, vl_split b (qs.set j v) h2, List.take_set_of_le (by omega), List.drop_set_of_lt (by omega)]
 omega
theorem seg_split (zs : List Nat) (o n : Nat) : zs = zs.take o ++ (zs.drop o).take n ++ zs.drop (o + n) := by
 conv => lhs; rw [← List.take_append_drop o zs, ← List.take_append_drop n (zs.drop o), List.drop_drop]
 rw [List.append_assoc]
theorem DivInv.part {V D la p k lb : Nat} {zs qs : List Nat} (h : DivInv V D la p (k + 1) zs qs) (hD : D < W64 ^ lb) (hk : k + lb + 1 ≤ la + 1) :
    ((zs.drop k).take (lb + 1)).length = lb + 1 ∧ (zs.take k).length = k ∧ (∀ x ∈ (zs.drop k).take (lb + 1), x < W64) ∧ nv ((zs.drop k).take (lb + 1)) < W64 * D ∧
    nv zs = nv (zs.take k) + W64 ^ k * nv ((zs.drop k).take (lb + 1)) ∧ nv (zs.drop (k + (lb + 1))) = 0 := by
 obtain ⟨h1, h2, h3, h4, h5, h6, h7⟩ := h
 have l1 : ((zs.drop k).take (lb + 1)).length = lb + 1 := by rw [List.length_take, List.length_drop]; omega
 have l2 : (zs.take k).length = k := by rw [List.length_take]; omega
 have e : nv zs = nv (zs.take k) + W64 ^ k * (nv ((zs.drop k).take (lb + 1)) + W64 ^ (lb + 1) * nv (zs.drop (k + (lb + 1)))) := by
  show vl W64 zs = _
  conv => lhs; rw [seg_split zs k (lb + 1), List.append_assoc, vl_append, l2, vl_append, l1]
 have hlt : ∀ x ∈ (zs.drop k).take (lb + 1), x < W64 := fun x hx => h3 x (List.mem_of_mem_drop (List.mem_of_mem_take hx))
 generalize nv ((zs.drop k).take (lb + 1)) = P at *
 generalize nv (zs.drop (k + (lb + 1))) = Z at *
 generalize nv (zs.take k) = F at *
 have hz : Z = 0 := by
  rcases Nat.eq_zero_or_pos Z with h0 | h0
  ·exact h0
  ·exfalso
   have a1 : W64 ^ (lb + 1) ≤ W64 ^ (lb + 1) * Z := Nat.le_mul_of_pos_right _ h0
   have a2 : W64 ^ k * W64 ^ (lb + 1) ≤ W64 ^ k * (P + W64 ^ (lb + 1) * Z) := Nat.mul_le_mul_left _ (by omega)
   have a3 : D * W64 ^ (k + 1) ≤ W64 ^ lb * W64 ^ (k + 1) := Nat.mul_le_mul_right _ (by omega)
   rw [← Nat.pow_add] at a2 a3
   rw [show k + (lb + 1) = lb + (k + 1) by omega] at a2
   omega
 subst hz
 rw [Nat.mul_zero, Nat.add_zero] at e
 refine ⟨l1, l2, hlt, ?_, e, rfl⟩
 have a1 : W64 ^ k * P < W64 ^ k * (W64 * D) := by
  rw [Nat.pow_succ] at h6
  rw [← Nat.mul_assoc, Nat.mul_comm _ D]
  omega
 exact Nat.lt_of_mul_lt_mul_left a1
theorem DivInv.step {V D la p k lb : Nat} {zs qs ns : List Nat} (h : DivInv V D la p (k + 1) zs qs) (hD : D < W64 ^ lb) (hk : k + lb + 1 ≤ la + 1) (hp : k < p) (hD0 : 0 < D)
    (hn : ns.length = lb + 1) (hns : ∀ x ∈ ns, x < W64) {q : Nat} (hq : q < W64) (eq : q = nv ((zs.drop k).take (lb + 1)) / D) (er : nv ns = nv ((zs.drop k).take (lb + 1)) % D) :
    DivInv V D la p k (zs.take k ++ ns ++ zs.drop (k + (lb + 1))) (qs.set k q) := by
 obtain ⟨l1, l2, l3, l4, l5, l6⟩ := h.part hD hk
 obtain ⟨h1, h2, h3, h4, h5, h6, h7⟩ := h
 have hq0 : qs[k]? = some 0 := by
  have hl : k < qs.length := by omega
  have := h7 k qs[k] (by omega) (List.getElem?_eq_getElem hl)
  rw [List.getElem?_eq_getElem hl, this]
 have eV : nv (zs.take k ++ ns ++ zs.drop (k + (lb + 1))) = nv (zs.take k) + W64 ^ k * nv ns := by
  show vl W64 _ = _
  rw [List.append_assoc, vl_append, l2, vl_append]
  have : vl W64 (zs.drop (k + (lb + 1))) = 0 := l6
  rw [this, Nat.mul_zero, Nat.add_zero]
 have eQ : nv (qs.set k q) = nv qs + W64 ^ k * q := vl_set hq0
 have hF := vl_lt (b := W64) (xs := zs.take k) (fun z hz => h3 z (List.mem_of_mem_take hz))
 rw [l2] at hF
 refine ⟨by simp only [List.length_append, l2, hn, List.length_drop]; omega, by simp [h2], ?_, ?_, ?_, ?_, ?_⟩
 ·intro x hx
  rcases List.mem_append.1 hx with hx | hx
  ·rcases List.mem_append.1 hx with hx | hx
   ·exact h3 x (List.mem_of_mem_take hx)
   ·exact hns x hx
  ·exact h3 x (List.mem_of_mem_drop hx)
 ·intro x hx
  rcases List.mem_or_eq_of_mem_set hx with hx | hx
  ·exact h4 x hx
  ·rw [hx]; exact hq
 ·rw [eV, eQ]
  have hm := Nat.mod_add_div (nv ((zs.drop k).take (lb + 1))) D
  rw [← er, ← eq] at hm
  have a : W64 ^ k * (nv ns + D * q) = W64 ^ k * nv ((zs.drop k).take (lb + 1)) := by rw [hm]
  rw [Nat.mul_add, Nat.mul_left_comm] at a
  rw [Nat.mul_add]
  omega
 ·rw [eV]
  have hm := Nat.mod_lt (nv ((zs.drop k).take (lb + 1))) hD0
  rw [← er] at hm
  have a := Nat.mul_le_mul_left (W64 ^ k) (show nv ns + 1 ≤ D by omega)
  rw [Nat.mul_add, Nat.mul_one, Nat.mul_comm _ D] at a
  have hF' : nv (zs.take k) < W64 ^ k := hF
  omega
 ·intro j x hj hx
  rw [List.getElem?_set_ne (by omega)] at hx
  exact h7 j x (by omega) hx
theorem DivInv.done {X Y s la p : Nat} {zs qs : List Nat} (h : DivInv (X * 2 ^ s) (Y * 2 ^ s) la p 0 zs qs) (hY : 0 < Y) : nv qs = X / Y ∧ nv zs / 2 ^ s = X % Y := by
 obtain ⟨h1, h2, h3, h4, h5, h6, h7⟩ := h
 have p1 := Nat.two_pow_pos s
 have hD : 0 < Y * 2 ^ s := Nat.mul_pos hY p1
 rw [Nat.pow_zero, Nat.mul_one] at h6
 have e1 : X * 2 ^ s / (Y * 2 ^ s) = nv qs := by rw [← h5, Nat.add_mul_div_left _ _ hD, Nat.div_eq_of_lt h6, Nat.zero_add]
 have e2 : X * 2 ^ s % (Y * 2 ^ s) = nv zs := by rw [← h5, Nat.add_mul_mod_self_left, Nat.mod_eq_of_lt h6]
 rw [Nat.mul_div_mul_right _ _ p1] at e1
 rw [Nat.mul_mod_mul_right] at e2
 refine ⟨e1.symm, ?_⟩
 rw [← e2, Nat.mul_div_cancel _ p1]
theorem W64_pow : W64 = 65536 ^ 4 := by rw [W64_eq]
theorem pow_16 (i : Nat) : (2 : Nat) ^ (16 * i) = 65536 ^ i := by rw [Nat.pow_mul]
def DigInv (xs : List Nat) (k i x : Nat) (zs : List Nat) : Prop := zs.length = 4 * k + i ∧ vl 65536 zs = nv (xs.take k) + 65536 ^ (4 * k) * (x % 65536 ^ i)
theorem digInv_zero {xs : List Nat} (x : Nat) : DigInv xs 0 0 x [] := ⟨rfl, by simp [vl_nil, Nat.mod_one]⟩
theorem DigInv.step {xs zs : List Nat} {k i x : Nat} (h : DigInv xs k i x zs) : DigInv xs k (i + 1) x (zs ++ [x / 65536 ^ i % 65536]) := by
 obtain ⟨h1, h2⟩ := h
 refine ⟨by simp [h1]; omega, ?_⟩
 rw [vl_snoc, h1, h2, Nat.pow_succ, Nat.mod_mul, Nat.mul_add, Nat.pow_add, Nat.mul_assoc]
 omega
theorem DigInv.word {xs zs : List Nat} {k x : Nat} (h : DigInv xs k 4 x zs) (hx : xs[k]? = some x) (hb : x < 18446744073709551616) (y : Nat) : DigInv xs (k + 1) 0 y zs := by
 obtain ⟨h1, h2⟩ := h
 refine ⟨by rw [h1]; omega, ?_⟩
 rw [h2, Nat.pow_zero, Nat.mod_one, Nat.mul_zero, Nat.add_zero]
 show vl W64 _ + _ = vl W64 _
 rw [vl_take_next, hx, Option.getD_some, Nat.mod_eq_of_lt (by rw [← W64_pow, W64_eq]; exact hb), Nat.pow_mul, ← W64_pow]
theorem DigInv.done {xs zs : List Nat} {k : Nat} {x : Nat} (h : DigInv xs k 0 x zs) (hk : xs.length ≤ k) : vl 65536 zs = nv xs := by
 obtain ⟨h1, h2⟩ := h
 rw [h2, List.take_of_length_le hk, Nat.pow_zero, Nat.mod_one, Nat.mul_zero, Nat.add_zero]
theorem vl_seg (b : Nat) (zs : List Nat) (j m : Nat) : vl b ((zs.drop j).take (m + 1)) = zs[j]?.getD 0 + b * vl b ((zs.drop (j + 1)).take m) := by
 rcases h : zs[j]? with _ | x
 ·rw [List.drop_of_length_le (List.getElem?_eq_none_iff.1 h), List.drop_of_length_le (by have := List.getElem?_eq_none_iff.1 h; omega)]
  simp [vl_nil]
 ·have hl := (List.getElem?_eq_some_iff.1 h).1
  have e := (List.getElem?_eq_some_iff.1 h).2
  rw [List.drop_eq_getElem_cons hl, List.take_succ_cons, vl_cons, e]
  rfl
theorem seg_lt {zs : List Nat} (h : ∀ x ∈ zs, x < 65536) (j m : Nat) : vl 65536 ((zs.drop j).take m) < 65536 ^ m := by
 have h1 := vl_lt (b := 65536) (xs := (zs.drop j).take m) (fun z hz => h z (List.mem_of_mem_drop (List.mem_of_mem_take hz)))
 have h2 : ((zs.drop j).take m).length ≤ m := by rw [List.length_take]; omega
 exact Nat.lt_of_lt_of_le h1 (Nat.pow_le_pow_right (by omega) h2)
def FromInv (zs : List Nat) (k : Nat) (ws : List Nat) : Prop := ws.length = k ∧ (∀ x ∈ ws, x < W64) ∧ nv ws = vl 65536 (zs.take (4 * k)) ∧ (∀ i, i < k → ws[i]? = some (vl 65536 ((zs.drop (4 * i)).take 4)))
theorem fromInv_zero {zs : List Nat} : FromInv zs 0 [] := ⟨rfl, by simp, by simp [vl_nil], fun i hi => absurd hi (by omega)⟩
theorem vl_cut (b : Nat) (zs : List Nat) (j m : Nat) (hj : j ≤ zs.length) : vl b (zs.take (j + m)) = vl b (zs.take j) + b ^ j * vl b ((zs.drop j).take m) := by
 rw [List.take_add, vl_append, List.length_take, Nat.min_eq_left hj]
theorem FromInv.step {zs ws : List Nat} {k : Nat} (h : FromInv zs k ws) (hk : 4 * k < zs.length) (hz : ∀ x ∈ zs, x < 65536) : FromInv zs (k + 1) (ws ++ [vl 65536 ((zs.drop (4 * k)).take 4)]) := by
 obtain ⟨h1, h2, h3, h4⟩ := h
 refine ⟨by simp [h1], snoc_lt h2 (by rw [W64_pow]; exact seg_lt hz _ _), ?_, fun i hi => ?_⟩
 ·show vl W64 _ = _
  rw [vl_snoc, h1, show 4 * (k + 1) = 4 * k + 4 by omega, vl_cut _ _ _ _ (by omega), W64_pow, ← Nat.pow_mul]
  have h3' : vl W64 ws = vl 65536 (zs.take (4 * k)) := h3
  rw [W64_pow] at h3'
  rw [h3']
 ·by_cases hik : i = k
  ·subst hik
   rw [List.getElem?_append_right (by omega), h1]
   simp
  ·rw [List.getElem?_append_left (by omega)]
   exact h4 i (by omega)
theorem vl_pos {b : Nat} {l : List Nat} {i x : Nat} (hb : 0 < b) (h : l[i]? = some x) (hx : 0 < x) : 0 < vl b l := by
 rw [vl_split b l h]
 have : 0 < b ^ i * x := Nat.mul_pos (Nat.pow_pos hb) hx
 omega
theorem FromInv.done {zs ws : List Nat} {k V : Nat} (h : FromInv zs k ws) (hk : zs.length ≤ 4 * k) (hk2 : k = 0 ∨ 4 * (k - 1) < zs.length) (hv : zs = dg 65536 V) : ws = nw V := by
 obtain ⟨h1, h2, h3, h4⟩ := h
 have e : nv ws = V := by rw [h3, List.take_of_length_le hk, hv, vl_dg (by omega)]
 have := dg_unique W64_two ws h2 (by
  rcases Nat.eq_zero_or_pos k with h0 | h0
  ·left; omega
  ·right
   rw [h1, h4 (k - 1) (by omega)]
   have hl : 4 * (k - 1) < zs.length := by omega
   have hV : 0 < V := by
    rcases Nat.eq_zero_or_pos V with hV | hV
    ·subst hV; rw [dg_zero] at hv; rw [hv] at hl; simp at hl
    ·exact hV
   -- the highest digit isn't 0
   have hlast : ∃ t, zs[zs.length - 1]? = some t ∧ 0 < t := by
    refine ⟨zs[zs.length - 1]'(by omega), List.getElem?_eq_getElem (by omega), ?_⟩
    have hh : zs[zs.length - 1]? = some (zs[zs.length - 1]'(by omega)) := List.getElem?_eq_getElem (by omega)
    rcases Nat.eq_zero_or_pos (zs[zs.length - 1]'(by omega)) with z0 | z0
    ·exfalso
     rw [z0] at hh
     have e1 := vl_split 65536 zs hh
     rw [List.drop_of_length_le (by omega), vl_nil, Nat.mul_zero, Nat.mul_zero, Nat.add_zero] at e1
     have e2 := vl_lt (b := 65536) (xs := zs.take (zs.length - 1)) (fun z hz => by
      have := List.mem_of_mem_take hz
      rw [hv] at this
      exact dg_lt (by omega) V z this)
     rw [List.length_take, Nat.min_eq_left (by omega), ← e1] at e2
     have e3 := (dg_len (b := 65536) (by omega) V hV).2.1
     rw [← hv] at e3
     have e4 : vl 65536 zs = V := by rw [hv, vl_dg (by omega)]
     omega
    ·exact z0
   obtain ⟨t, ht, ht0⟩ := hlast
   have hp : 0 < vl 65536 ((zs.drop (4 * (k - 1))).take 4) := vl_pos (i := zs.length - 1 - 4 * (k - 1)) (by omega) (by
    rw [List.getElem?_take, if_pos (by omega), List.getElem?_drop, show 4 * (k - 1) + (zs.length - 1 - 4 * (k - 1)) = zs.length - 1 by omega]
    exact ht) ht0
   simp
   omega)
 rw [show vl W64 ws = V from e] at this
 exact this
end Go.Proofs.YtkbcobjhlpjieaaGreatDoor
