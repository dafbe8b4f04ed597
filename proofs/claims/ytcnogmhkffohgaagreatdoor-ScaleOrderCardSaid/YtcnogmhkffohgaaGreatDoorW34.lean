/-
  Numbers for the reference's parts: a quotient bit by bit, digit by digit.
-/
import Derived.Test.YtcnogmhkffohgaaGreatDoorW33
namespace Go.Proofs.YtcnogmhkffohgaaGreatDoor
open Go.RowKit
set_option linter.unusedVariables false
set_option maxRecDepth 100000

theorem bit_step (d i : Nat) : d / 2 ^ i = 2 * (d / 2 ^ (i + 1)) + d / 2 ^ i % 2 := by
  rw [Nat.pow_succ, ← Nat.div_div_eq_div_mul]
  omega
/-- A digit's quotient so far: of the bits from j on. -/
def BitInv (Y Rh d j q R : Nat) : Prop := R < Y ∧ q < 2 ^ (16 - j) ∧ Y * q + R = Rh * 2 ^ (16 - j) + d / 2 ^ j
theorem bitInv_start {Y Rh d : Nat} (h : Rh < Y) (hd : d < 65536) : BitInv Y Rh d 16 0 Rh := by
  refine ⟨h, by decide, ?_⟩
  rw [show (2 : Nat) ^ 16 = 65536 by decide, Nat.div_eq_of_lt hd]
  simp
theorem BitInv.up {Y Rh d i q R : Nat} (h : BitInv Y Rh d (i + 1) q R) (hi : i < 16) (hv : Y ≤ R + R + d / 2 ^ i % 2) : BitInv Y Rh d i (2 * q + 1) (R + R + d / 2 ^ i % 2 - Y) := by
  obtain ⟨h1, h2, h3⟩ := h
  have e := bit_step d i
  have ep : (2 : Nat) ^ (16 - i) = 2 * 2 ^ (16 - (i + 1)) := by rw [show 16 - i = (16 - (i + 1)) + 1 by omega, Nat.pow_succ, Nat.mul_comm]
  have hm : d / 2 ^ i % 2 < 2 := Nat.mod_lt _ (by omega)
  refine ⟨by omega, by omega, ?_⟩
  rw [ep, Nat.mul_left_comm, Nat.mul_add, Nat.mul_one, Nat.mul_left_comm]
  generalize Y * q = u at *
  generalize Rh * 2 ^ (16 - (i + 1)) = v at *
  omega
theorem BitInv.stay {Y Rh d i q R : Nat} (h : BitInv Y Rh d (i + 1) q R) (hi : i < 16) (hv : R + R + d / 2 ^ i % 2 < Y) : BitInv Y Rh d i (2 * q) (R + R + d / 2 ^ i % 2) := by
  obtain ⟨h1, h2, h3⟩ := h
  have e := bit_step d i
  have ep : (2 : Nat) ^ (16 - i) = 2 * 2 ^ (16 - (i + 1)) := by rw [show 16 - i = (16 - (i + 1)) + 1 by omega, Nat.pow_succ, Nat.mul_comm]
  refine ⟨hv, by omega, ?_⟩
  rw [ep, Nat.mul_left_comm Rh, Nat.mul_left_comm Y]
  generalize Y * q = u at *
  generalize Rh * 2 ^ (16 - (i + 1)) = v at *
  omega
theorem BitInv.bound {Y Rh d j q R : Nat} (h : BitInv Y Rh d j q R) (hj : j ≤ 16) : q * 2 ^ j < 65536 := by
  have h2 := h.2.1
  have e : (2 : Nat) ^ (16 - j) * 2 ^ j = 65536 := by rw [← Nat.pow_add, show 16 - j + j = 16 by omega]
  have p : 0 < (2 : Nat) ^ j := Nat.pow_pos (by omega)
  have := (Nat.mul_lt_mul_right p).2 h2
  omega
theorem dig_up (q i : Nat) : q * 2 ^ (i + 1) = 2 * q * 2 ^ i := by rw [Nat.pow_succ, Nat.mul_comm 2 q, Nat.mul_assoc, Nat.mul_comm 2]
/-- A quotient so far: of the digits from k on. -/
def DivD (xs : List Nat) (Y n k : Nat) (hs : List Nat) (R : Nat) : Prop := hs.length + k = n ∧ (∀ x ∈ hs, x < 65536) ∧ R < Y ∧ vl 65536 (xs.drop k) = Y * vl 65536 hs + R
theorem divD_start {xs : List Nat} {Y n : Nat} (hY : 0 < Y) (hx : xs.length = n) : DivD xs Y n n [] 0 := by
  refine ⟨by simp, by simp, hY, ?_⟩
  rw [List.drop_of_length_le (by omega), vl_nil]
  simp
theorem DivD.step {xs hs : List Nat} {Y n k Rh d q R : Nat} (h : DivD xs Y n (k + 1) hs Rh) (hx : xs[k]? = some d) (t : BitInv Y Rh d 0 q R) : DivD xs Y n k (q :: hs) R := by
  obtain ⟨h1, h2, h3, h4⟩ := h
  have hb := t.bound (by omega)
  rw [Nat.pow_zero, Nat.mul_one] at hb
  obtain ⟨t1, t2, t3⟩ := t
  have hl := (List.getElem?_eq_some_iff.1 hx).1
  have e := (List.getElem?_eq_some_iff.1 hx).2
  refine ⟨by simp; omega, fun z hz => ?_, t1, ?_⟩
  · rcases List.mem_cons.1 hz with rfl | hz
    · exact hb
    · exact h2 z hz
  · rw [List.drop_eq_getElem_cons hl, e, vl_cons, vl_cons, h4, Nat.mul_add, Nat.mul_add, Nat.mul_left_comm]
    rw [show 16 - 0 = 16 by omega, show (2 : Nat) ^ 16 = 65536 by decide, Nat.pow_zero, Nat.div_one] at t3
    omega
theorem DivD.done {xs hs : List Nat} {Y n R : Nat} (h : DivD xs Y n 0 hs R) : vl 65536 hs = vl 65536 xs / Y ∧ R = vl 65536 xs % Y := by
  obtain ⟨h1, h2, h3, h4⟩ := h
  rw [List.drop_zero] at h4
  rw [h4]
  refine ⟨?_, ?_⟩
  · rw [Nat.mul_add_div (by omega), Nat.div_eq_of_lt h3, Nat.add_zero]
  · rw [Nat.mul_add_mod, Nat.mod_eq_of_lt h3]
end Go.Proofs.YtcnogmhkffohgaaGreatDoor

/-
  The reference's parts walked.
-/
namespace Go.Proofs.YtcnogmhkffohgaaGreatDoor
open Go.RowKit
set_option linter.unusedVariables false
set_option maxRecDepth 100000

theorem dg_len_mono {m n a b : Nat} (h : a ≤ b) (h1 : (dg 65536 a).length = m) (h2 : (dg 65536 b).length = n) : m ≤ n := by
  rcases Nat.lt_or_ge n m with hh | hh
  · have := dg_len_lt (b := 65536) d_two (n := b) (m := a) (by omega)
    omega
  · exact hh
theorem DR.one (w : World) (g : Nat) (hg : g = w.heap.size) (z : Int) (x : Nat) (hz : z = x) (hx : x < 65536) : DR (w.alloc (.cells #[.int .i64 z] 3)) (w.alloc (.cells #[.int .i64 z] 3)).heap.size (some ⟨g, 0, none⟩) 1 1 [x] := by
  subst hz hg
  refine ⟨rfl, Nat.le_refl _, fun z hz => by rw [List.mem_singleton.1 hz]; exact hx, fun _ => ⟨_, rfl, by simp, fun j z hz => ?_⟩⟩
  match j, hz with
  | 0, hz => simp at hz; subst hz; simp [Addr.add]
theorem vl_single (x : Nat) : vl 65536 [x] = x := by simp [vl]
theorem trim1 (w : World) (g : Nat) (hg : g = w.heap.size) (z : Int) (x : Nat) (hz : z = x) (hx : x < 65536) :
    Calls Tryz.prog 58 #[.slice (some ⟨g, 0, none⟩) 1 1] (w.alloc (.cells #[.int .i64 z] 3)) fun e w' => ∃ m c, m ≤ 1 ∧ e = .returned (.slice (some ⟨g, 0, none⟩) m c) ∧ (w.alloc (.cells #[.int .i64 z] 3)) = w' ∧ DR w' w'.heap.size (some ⟨g, 0, none⟩) m c (dg 65536 x) := by
  refine (trim_any _ _ _ _ [x] _ (DR.one w g hg z x hz hx) (by omega)).mono ?_
  rintro e w' ⟨m, c, hm, rfl, rfl, hr⟩
  rw [vl_single] at hr
  exact ⟨m, c, hm, rfl, rfl, hr⟩
/-- What stands between two steps: the quotient's row, and the rest, in other blocks. -/
def PInv (w wr : World) (G : Nat) (lst : List Nat) (A : Option Addr) (n c R : Nat) : Prop :=
  Dk wr G lst ∧ Below G w wr ∧ DR wr wr.heap.size A n c (dg 65536 R) ∧ (∀ ad, A = some ad → G < ad.block)
theorem PInv.next {w wr w' : World} {G : Nat} {lst : List Nat} {A A2 : Option Addr} {n c R n2 c2 R2 : Nat} (h : PInv w wr G lst A n c R) (hb : Below wr.heap.size wr w') (hr : DR w' w'.heap.size A2 n2 c2 (dg 65536 R2)) (hf : ∀ ad, A2 = some ad → wr.heap.size ≤ ad.block) : PInv w w' G lst A2 n2 c2 R2 := by
  obtain ⟨h1, h2, h3, h4⟩ := h
  have hlt := h1.lt
  exact ⟨h1.keep (hb.block G hlt), h2.trans (hb.mono (Nat.le_of_lt hlt)), hr, fun ad e => by have := hf ad e; omega⟩
theorem PInv.store {w wr : World} {G : Nat} {pre hs : List Nat} {p : Nat} {A : Option Addr} {n c R : Nat} (h : PInv w wr G (pre ++ [] ++ p :: hs) A n c R) {k : Nat} (hk : pre.length = k) (v : Nat) (z : Int) (hz : z = v) : PInv w (wr.setCell ⟨G, k, none⟩ (.int .i64 z)) G (pre ++ [] ++ v :: hs) A n c R := by
  subst hz
  obtain ⟨h1, h2, h3, h4⟩ := h
  have hlt := h1.lt
  have e := h1.set_ (i := k) (by simp; omega) v
  rw [set_mid (ns := []) (by simp; omega)] at e
  refine ⟨by simpa using e, below_set h2 (Nat.le_refl _) (Nat.le_of_lt hlt) _, ?_, h4⟩
  have := h3.only (only_set (w := wr) (g := G) (i := k) (.int .i64 (v : Int))) (Nat.le_refl _) (fun _ ad e => by have := h4 ad e; omega)
  exact this.more (by simp [World.setCell])
theorem PInv.drewN {w wr : World} {G : Nat} {lst : List Nat} {A : Option Addr} {n c R : Nat} (h : PInv w wr G lst A n c R) (m : Nat) : PInv w (wr.drewN m) G lst A n c R :=
  ⟨h.1, below_drewNN h.2.1 m, h.2.2.1.drewN m, h.2.2.2⟩
theorem PInv.alloc {w wr : World} {G : Nat} {lst : List Nat} {A : Option Addr} {n c R : Nat} (h : PInv w wr G lst A n c R) (o : Obj) : PInv w (wr.alloc o) G lst A n c R := by
  have hb : Below wr.heap.size wr (wr.alloc o) := (Below.refl _ _).alloc (Nat.le_refl _) o
  obtain ⟨h1, h2, h3, h4⟩ := h
  have hlt := h1.lt
  exact ⟨h1.keep (hb.block G hlt), h2.trans (hb.mono (Nat.le_of_lt hlt)), (h3.below hb).more hb.size, h4⟩
end Go.Proofs.YtcnogmhkffohgaaGreatDoor

/-
  What the reference's parts answers: quotient and rest of digits.
-/
namespace Go.Proofs.YtcnogmhkffohgaaGreatDoor
open Go.RowKit
set_option linter.unusedVariables false
set_option maxRecDepth 100000

/-- What parts answers. -/
def PartsPost (w : World) (n n' X Y : Nat) (e : Ending) (w' : World) : Prop :=
  ∃ A m c A2 m2 c2, e = .returned (.tuple #[.slice A m c, .slice A2 m2 c2]) ∧ m ≤ n ∧ m2 ≤ n' ∧ DR w' w'.heap.size A m c (dg 65536 (X / Y)) ∧ DR w' w'.heap.size A2 m2 c2 (dg 65536 (X % Y)) ∧ Below w.heap.size w w'
theorem bit_int {d i : Nat} : ((d : Int) / 2 ^ i).tmod 2 = ((d / 2 ^ i % 2 : Nat) : Int) := by
  rw [two_pow_cast, ← Int.natCast_ediv, Int.tmod_eq_emod_of_nonneg (Int.natCast_nonneg _)]
  exact (Int.natCast_emod _ _).symm
theorem wrap_small {z : Nat} (h : z < 1000000) : wrap64 (z : Int) = z := by unfold wrap64; omega
theorem wrap_digit {dq v : Nat} (i : Nat) (h : v = dq + 2 ^ i) (hd : dq < 65536) (hp : (2 : Nat) ^ i ≤ 32768) : wrap64 ((dq : Int) + wrap64 (2 ^ i)) = (v : Int) := by
  subst h
  rw [two_pow_cast]
  generalize (2 : Nat) ^ i = pw at *
  rw [wrap_small (z := pw) (by omega), ← Int.natCast_add, wrap_small (by omega)]
theorem pow_le15 {i : Nat} (h : i < 16) : (2 : Nat) ^ i ≤ 32768 := Nat.le_trans (Nat.pow_le_pow_right (by omega) (show i ≤ 15 by omega)) (by decide)

end Go.Proofs.YtcnogmhkffohgaaGreatDoor

/-
  What Mul, Div, Mod and Bits of the reference of layer 2 answer.
-/
namespace Go.Proofs.YtcnogmhkffohgaaGreatDoor
open Go.RowKit
set_option linter.unusedVariables false
set_option maxRecDepth 100000

theorem rtimesX {A A' : Option Addr} {n n' c c' : Nat} {xs ys : List Nat} {w : World} (h : DX w A n c xs) (h' : DX w A' n' c' ys) (hn : n ≤ 10000) (hn' : n' ≤ 10000) :
    Calls Tryz.prog 60 #[.slice A n c, .slice A' n' c'] w fun e w' => ∃ A2 n2 c2, e = .returned (.slice A2 n2 c2) ∧ n2 ≤ n + n' + 1 ∧ DX w' A2 n2 c2 (dg 65536 (vl 65536 xs * vl 65536 ys)) ∧ ExtN w w' := (times_dg_any A A' n n' c c' xs ys w h h' hn hn').mono fun e w' ⟨A2, n2, c2, a1, a2, a3, a4, _⟩ => ⟨A2, n2, c2, a1, a2, a3, a4⟩
theorem rmulX {A A' : Option Addr} {n n' c c' : Nat} {xs ys : List Nat} {w : World} (h : NXN w A n c xs) (h' : NXN w A' n' c' ys) (hn : n ≤ 2000) (hn' : n' ≤ 2000) :
    Calls Tryz.prog 35 #[.slice A n c, .slice A' n' c'] w fun e w' => ∃ A2 n2 c2, e = .returned (.slice A2 n2 c2) ∧ n2 ≤ 4 * n + 4 * n' + 1 ∧ NXN w' A2 n2 c2 (nw (nv xs * nv ys)) ∧ ExtN w w' := by
  have HV := Lib.hid (show vl 65536 (dg 65536 (vl 65536 (dg 65536 (nv xs)) * vl 65536 (dg 65536 (nv ys)))) = nv xs * nv ys by rw [vl_dg d_two, vl_dg d_two, vl_dg d_two])
  go_enter Tryz.func35, Tryz.ntmps35
  go_wp2_with fail
  refine (digX h (by omega)).mono ?_
  rintro e w1 ⟨A1, n1, c1, rfl, hn1, d1, k1⟩
  go_wp2_with fail
  refine (digX (h'.ext k1) (by omega)).mono ?_
  rintro e w2 ⟨A2, n2, c2, rfl, hn2, d2, k2⟩
  go_wp2_with fail
  refine (rtimesX (d1.ext k2) d2 (by omega) (by omega)).mono ?_
  rintro e w3 ⟨A3, n3, c3, rfl, hn3, d3, k3⟩
  go_wp2_with fail
  refine (fromX d3 (by omega)).mono ?_
  rw [HV.out]
  rintro e w4 ⟨A4, n4, c4, rfl, hn4, d4, k4⟩
  go_wp2
  go_ret
  exact ⟨A4, n4, c4, rfl, by omega, d4, k1.trans (k2.trans (k3.trans k4))⟩
theorem dg_pos_len {V : Nat} (h : 0 < V) : 0 < (dg 65536 V).length := by
  rcases Nat.eq_zero_or_pos (dg 65536 V).length with h0 | h0
  · have := dg_nil d_two (List.eq_nil_of_length_eq_zero h0)
    omega
  · exact h0
theorem nw_head {V : Nat} (h : V < 18446744073709551616) : (nw V)[0]?.getD 0 = V := by
  rcases Nat.eq_zero_or_pos V with h0 | h0
  · subst h0
    rw [show nw 0 = [] from dg_zero _]; rfl
  · rw [nw_one h0 h]; rfl
end Go.Proofs.YtcnogmhkffohgaaGreatDoor
