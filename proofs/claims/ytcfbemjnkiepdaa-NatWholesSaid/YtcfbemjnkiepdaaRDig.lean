/-
  What the small calls of the reference of layer 2 on digits answer: trim, at, compare, Digits.
-/
import Derived.Test.YtcfbemjnkiepdaaNExt
namespace Go.Proofs.Ytcfbemjnkiepdaa
open Go.RowKit
set_option linter.unusedVariables false

def i64s (zs : List Nat) : List Value := zs.map fun (z : Nat) => Value.int .i64 (z : Int)
theorem i64s_snoc (zs : List Nat) (z : Nat) : i64s zs ++ [Value.int .i64 (z : Int)] = i64s (zs ++ [z]) := by simp [i64s]
theorem info_int : (Try.prog.info? 3).map (fun i => (i.zero, i.size, i.bytes)) = some (some (.int .i64 0), 1, 8) := by kernel_rfl
/-- A row of digits that a call is making, from block B on. -/
def IRow (B : Nat) (w0 w : World) (v : Value) (n : Nat) (zs : List Nat) : Prop := w.ownsRow B 3 1 v n (i64s zs) ∧ Below B w0 w ∧ (∀ x ∈ zs, x < 65536)
theorem IRow.nil (w : World) : IRow w.heap.size w w (.slice none 0 0) 0 [] := ⟨World.ownsRow_nil _ _ _ _, Below.refl _ _, by simp⟩
theorem IRow.len {B : Nat} {w0 w : World} {v : Value} {n : Nat} {zs : List Nat} (h : IRow B w0 w v n zs) : zs.length = n := by
  have := h.1.1
  simpa [i64s] using this
theorem IRow.push {B : Nat} {w0 w w1 : World} {v v' : Value} {n : Nat} {zs : List Nat} {z : Nat} {o : Obj} (h : IRow B w0 w v n zs) (hB : B ≤ w.heap.size) (hz : z < 65536)
    (h1 : w1.ownsRow B 3 1 v' (n + 1) (i64s zs ++ [Value.int .i64 (z : Int)])) (hg : (w.alloc o).grownBy w1 v.ownBlock) : IRow B w0 w1 v' (n + 1) (zs ++ [z]) := by
  rw [i64s_snoc] at h1
  exact ⟨h1, (h.2.1.alloc hB o).grown hg (by simp; omega) (fun k e => (h.1.lt k e).1), snoc_lt h.2.2 hz⟩
theorem IRow.rd {B : Nat} {w0 w : World} {v : Value} {n : Nat} {zs : List Nat} (h : IRow B w0 w v n zs) : ∃ A c, v = .slice A n c ∧ DR w w.heap.size A n c zs ∧ (∀ ad, A = some ad → B ≤ ad.block) := by
  have hlen := h.len
  rcases h.1.2 with ⟨rfl, rfl⟩ | ⟨g, cap, cur, rfl, hg, hh, hle, _⟩
  · exact ⟨none, 0, rfl, ⟨hlen, Nat.le_refl _, h.2.2, fun h => absurd h (by omega)⟩, fun ad e => by cases e⟩
  · refine ⟨_, cap, rfl, ⟨hlen, hle, h.2.2, fun _ => ⟨⟨g, 0, none⟩, rfl, (Array.getElem?_eq_some_iff.1 hh).1, fun j x hx => ?_⟩⟩, fun ad e => ?_⟩
    · exact h.1.cells (g := g) rfl j _ (by simp [i64s, hx])
    · injection e with e; subst e; exact hg
theorem d_two : 2 ≤ 65536 := by omega
/-- What a call answers that makes digits. -/
def DigPost (w : World) (N : Nat) (ys : List Nat) (e : Ending) (w' : World) : Prop :=
  ∃ A n c, e = .returned (.slice A n c) ∧ n ≤ N ∧ DR w' w'.heap.size A n c ys ∧ Below w.heap.size w w' ∧ (∀ ad, A = some ad → w.heap.size ≤ ad.block)
def DTrimPost (A : Option Addr) (n B : Nat) (xs : List Nat) (w : World) (e : Ending) (w' : World) : Prop := ∃ m c, m ≤ n ∧ e = .returned (.slice A m c) ∧ w = w' ∧ DR w B A m c (dg 65536 (vl 65536 xs))

theorem dtrim_is {A : Option Addr} {n c B m : Nat} {xs : List Nat} {w : World} (h : DR w B A n c xs) (hm : m ≤ n) (hz : ∀ (j x : Nat), m ≤ j → xs[j]? = some x → x = 0) (hl : m = 0 ∨ xs[m - 1]? ≠ some 0) : DR w B A m c (dg 65536 (vl 65536 xs)) := by
  have e := take_dg d_two xs m h.lt (by rw [h.len]; exact hm) hz hl
  rw [← e]
  have := h.take_ hm
  exact ⟨this.len, Nat.le_trans hm h.room, this.lt, this.cells⟩
/-- A slice's length. -/
def lenOf : Value → Nat | .slice _ m _ => m | _ => 0
theorem trim_any (A : Option Addr) (n c B : Nat) (xs : List Nat) (w : World) (h : DR w B A n c xs) (hn : n ≤ 1000000) :
    Calls Try.prog 84 #[.slice A n c] w (DTrimPost A n B xs w) := by
  have hroom := h.room
  go_enter Try.func84, Try.ntmps84
  go_wp2
  go_loop [0] (fun s => ∃ m : Nat, m ≤ n ∧ s = .slice A m c ∧ Hid (∀ (j x : Nat), m ≤ j → xs[j]? = some x → x = 0)) (fun s => lenOf s)
  case atStart => exact ⟨n, Nat.le_refl _, rfl, Lib.hid (fun j x hj hx => by have := (List.getElem?_eq_some_iff.1 hx).1; have := h.len; omega)⟩
  case round =>
    obtain ⟨m, hm, rfl, hz⟩ := hrel
    by_cases hm0 : m = 0
    · subst hm0
      go_wp2
      go_ret
      exact ⟨0, c, hm, rfl, rfl, dtrim_is h hm hz.out (.inl rfl)⟩
    · obtain ⟨ad, x, rfl, hb, hxb, hx, hc⟩ := h.at_ (show m - 1 < n by omega)
      have HX := Lib.hid hx
      clear hx
      by_cases hx0 : x = 0
      · subst hx0
        go_wp2
        refine ⟨⟨m - 1, by omega, by go_num, Lib.hid fun j x hj hx => ?_⟩, by simp [lenOf]; omega⟩
        by_cases hjm : j = m - 1
        · subst hjm; rw [HX.out] at hx; exact (Option.some.inj hx).symm
        · exact hz.out j x (by omega) hx
      · have hxb : ((x : Int) == 0) = false := by simpa using hx0
        go_wp2
        go_ret
        exact ⟨m, c, hm, rfl, rfl, dtrim_is h hm hz.out (.inr (by rw [HX.out]; simpa using hx0))⟩

theorem at_any (A : Option Addr) (n c B i : Nat) (xs : List Nat) (w : World) (h : DR w B A n c xs) (hn : n ≤ 1000000) (hi : i ≤ 1000001) :
    Calls Try.prog 85 #[.slice A n c, .int .i64 (i : Int)] w fun e w' => e = .returned (.int .i64 ((xs[i]?.getD 0 : Nat) : Int)) ∧ w = w' := by
  by_cases hlt : i < n
  · obtain ⟨ad, x, rfl, hb, hxb, hx, hc⟩ := h.at_ hlt
    have HX := Lib.hid hx
    clear hx
    go_enter Try.func85, Try.ntmps85
    go_wp2
    go_ret
    exact ⟨congrArg Ending.returned (i64_eq (by rw [HX.out]; rfl)), rfl⟩
  · have H := Lib.hid (List.getElem?_eq_none (l := xs) (i := i) (by rw [h.len]; omega))
    go_enter Try.func85, Try.ntmps85
    go_wp2
    go_ret
    exact ⟨congrArg Ending.returned (i64_eq (by rw [H.out]; rfl)), rfl⟩

set_option maxHeartbeats 1000000 in
theorem compare_any (A A' : Option Addr) (n n' c c' B X Y : Nat) (w : World) (h : DR w B A n c (dg 65536 X)) (h' : DR w B A' n' c' (dg 65536 Y)) (hn : n ≤ 1000000) (hn' : n' ≤ 1000000) :
    Calls Try.prog 70 #[.slice A n c, .slice A' n' c'] w (Qt (.int .i64 (cmpS X Y)) w) := by
  have hl := h.len
  have hl' := h'.len
  by_cases hs : n = n'
  · subst hs
    have HL := Lib.hid hl
    have HL' := Lib.hid hl'
    clear hl hl'
    go_enter Try.func70, Try.ntmps70
    go_wp2
    go_loopw [5] (fun i wr => ∃ k q : Nat, k ≤ n ∧ i = .int .i64 ((k : Int) - 1) ∧ wr = w.drewN q ∧ Hid (∀ i, k ≤ i → (dg 65536 X)[i]? = (dg 65536 Y)[i]?)) (fun i _ => (intOf i + 1).toNat)
    case atStart => exact ⟨n, 0, Nat.le_refl _, rfl, rfl, Lib.hid fun i hi => by rw [List.getElem?_eq_none (by rw [HL.out]; exact hi), List.getElem?_eq_none (by rw [HL'.out]; exact hi)]⟩
    case round =>
      obtain ⟨k, q, hk, rfl, rfl, hup⟩ := hrel
      by_cases hk0 : k = 0
      · subst hk0
        have HE := Lib.hid (cmpS_eq (m := X) (n := Y) (by rw [← vl_dg d_two X, ← vl_dg d_two Y, eq_of_up hup.out]))
        go_wp2
        go_ret
        exact Qt.eqN (i64_eq HE.out.symm)
      · obtain ⟨j, rfl⟩ : ∃ j, k = j + 1 := ⟨k - 1, by omega⟩
        obtain ⟨ad, x, rfl, hb, hxb, hx, hc⟩ := h.at_ (show j < n by omega)
        obtain ⟨ad', y, rfl, hb', hyb, hy, hc'⟩ := h'.at_ (show j < n by omega)
        rw [show (((j + 1 : Nat) : Int) - 1) = (j : Int) by omega]
        have HX := Lib.hid hx
        have HY := Lib.hid hy
        have lt1 := Lib.hid h.lt
        have lt2 := Lib.hid h'.lt
        clear hx hy
        have e1 : (0 : Int) ≤ j := by omega
        have e2 : (j : Int) < n := by omega
        rcases Nat.lt_trichotomy x y with hlt | hxy | hlt
        · have hd : decide ((x : Int) < y) = true := by simp; omega
          have HE := Lib.hid (cmpS_lt (m := X) (n := Y) (by rw [← vl_dg d_two X, ← vl_dg d_two Y]; exact cmp_at HX.out HY.out lt1.out (fun i hi => hup.out i hi) hlt))
          go_wp2
          go_quiet (fail)
          go_wp2
          go_ret
          first | exact Qt.eqN (i64_eq HE.out.symm) | (rw [HE.out]; exact Qt.mk2 _ _ _ _)
        · subst hxy
          go_wp2
          go_quiet (fail)
          go_wp2
          go_quiet (fail)
          go_wp2
          refine ⟨⟨j, _, by omega, rfl, rfl, Lib.hid fun i hi => ?_⟩, by simp [intOf]⟩
          by_cases hij : i = j
          · subst hij; rw [HX.out, HY.out]
          · exact hup.out i (by omega)
        · have hd : decide ((x : Int) < y) = false := by simp; omega
          have hd2 : decide ((y : Int) < x) = true := by simp; omega
          have HE := Lib.hid (cmpS_gt (m := X) (n := Y) (by rw [← vl_dg d_two X, ← vl_dg d_two Y]; exact cmp_at HY.out HX.out lt2.out (fun i hi => (hup.out i hi).symm) hlt))
          go_wp2
          go_quiet (fail)
          go_wp2
          go_quiet (fail)
          go_wp2
          go_ret
          first | exact Qt.eqN (i64_eq HE.out.symm) | exact Qt.eqN3 (i64_eq HE.out.symm)
  · have hne : ((n : Int) != n') = true := by simp; omega
    by_cases hlt : n < n'
    · have hd : decide ((n : Int) < n') = true := by simp; omega
      have HE := Lib.hid (cmpS_lt (m := X) (n := Y) (dg_len_lt d_two (by rw [hl, hl']; exact hlt)))
      clear hl hl'
      go_enter Try.func70, Try.ntmps70
      go_wp2
      go_ret
      exact Qt.eq0 (i64_eq HE.out.symm)
    · have hd : decide ((n : Int) < n') = false := by simp; omega
      have HE := Lib.hid (cmpS_gt (m := X) (n := Y) (dg_len_lt d_two (by rw [hl, hl']; omega)))
      clear hl hl'
      go_enter Try.func70, Try.ntmps70
      go_wp2
      go_ret
      exact Qt.eq0 (i64_eq HE.out.symm)
end Go.Proofs.Ytcfbemjnkiepdaa
