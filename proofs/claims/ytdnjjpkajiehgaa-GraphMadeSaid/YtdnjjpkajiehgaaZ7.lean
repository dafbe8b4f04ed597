/-
  Worlds that only grow: what was there reads as it did.
-/
import Derived.Test.YtdnjjpkajiehgaaZNRow
import Derived.Test.YtdnjjpkajiehgaaZ6
namespace Go.Proofs.Ytdnjjpkajiehgaa
open Go.RowKit
set_option linter.unusedVariables false
set_option maxRecDepth 100000

theorem below_drewN {B : Nat} {a w : World} (h : Below B a w) (n : Nat) : Below B a (w.drewN n) := ⟨h.os, h.tape, h.output, h.size, h.block⟩
/-- From a to b memory has only grown. -/
def Ext (a b : World) : Prop := Below a.heap.size a b
theorem Ext.refl (a : World) : Ext a a := Below.refl _ _
theorem Ext.trans {a b c : World} (h : Ext a b) (k : Ext b c) : Ext a c := Below.trans h (Below.mono k h.size)
theorem Ext.alloc {a b : World} (h : Ext a b) (o : Obj) : Ext a (b.alloc o) := h.trans (Below.alloc (Below.refl _ _) (Nat.le_refl _) o)
theorem Ext.drewN {a b : World} (h : Ext a b) (n : Nat) : Ext a (b.drewN n) := below_drewN h n
theorem Ext.drew {a b : World} (h : Ext a b) : Ext a b.drew := Below.drew h
theorem Ext.set {a b : World} (h : Ext a b) {p : Addr} (hp : a.heap.size ≤ p.block) (v : Value) : Ext a (b.setCell p v) := Below.setCell h hp v
/-- A cell of a block that was there stays. -/
theorem kept_cell {W W' : World} {g o : Nat} {v : Value} (hb : Ext W W') (hg : g < W.heap.size) (h : W.cell? ⟨g, o, none⟩ = some v) : W'.cell? ⟨g, o, none⟩ = some v := (hb.cell (p := ⟨g, o, none⟩) hg).trans h
theorem kept_free {W W' : World} {g o : Nat} (hb : Ext W W') (hg : g < W.heap.size) (h : W.frozen? ⟨g, o, none⟩ = false) : W'.frozen? ⟨g, o, none⟩ = false := (hb.frozen (p := ⟨g, o, none⟩) hg).trans h
theorem cell_ext {a b : World} (k : Ext a b) {p : Addr} {v : Value} (h : a.cell? p = some v) : b.cell? p = some v := (Below.cell k (World.block_lt_of_cell? _ _ h)).trans h
/-- A list of words, wherever it lies. -/
def NX (w : World) (A : Option Addr) (n c : Nat) (xs : List Nat) : Prop := NR w w.heap.size A n c xs
theorem NX.ext {a b : World} {A : Option Addr} {n c : Nat} {xs : List Nat} (h : NX a A n c xs) (k : Ext a b) : NX b A n c xs := (Rd.below h k).more k.size
theorem set_far {w : World} {p q : Addr} {u : Value} (h : p ≠ q) : (w.setCell p u).cell? q = w.cell? q := World.cell?_setCell_other _ _ _ _ h
end Go.Proofs.Ytdnjjpkajiehgaa

/-
  How many entries a shape has: package graph's answer and the document's.
-/
namespace Go.Proofs.Ytdnjjpkajiehgaa
open Go.RowKit
set_option linter.unusedVariables false
set_option maxRecDepth 100000

/-- A list of numbers, wherever it lies. -/
structure ZX (w : World) (A : Option Addr) (n c : Nat) (zs : List Int) : Prop where
  len : zs.length = n
  room : n ≤ c
  cells : 0 < n → ∃ ad, A = some ad ∧ ∀ (j : Nat) (z : Int), zs[j]? = some z → w.cell? (ad.add j) = some (.int .i64 z)
theorem ZX.ext {w w' : World} {A : Option Addr} {n c : Nat} {zs : List Int} (h : ZX w A n c zs) (k : Ext w w') : ZX w' A n c zs :=
  ⟨h.len, h.room, fun hn => by
    obtain ⟨ad, e, hc⟩ := h.cells hn
    exact ⟨ad, e, fun j z hz => cell_ext k (hc j z hz)⟩⟩
theorem ZX.at_ {w : World} {A : Option Addr} {n c : Nat} {zs : List Int} (h : ZX w A n c zs) {k : Nat} (hk : k < n) : ∃ ad z, A = some ad ∧ zs[k]? = some z ∧ w.cell? (ad.add k) = some (.int .i64 z) := by
  obtain ⟨ad, e, hc⟩ := h.cells (by omega)
  have hl : k < zs.length := by have := h.len; omega
  exact ⟨ad, zs[k], e, List.getElem?_eq_getElem hl, hc k _ (List.getElem?_eq_getElem hl)⟩
theorem ZX.none_ (w : World) (A : Option Addr) (c : Nat) : ZX w A 0 c [] := ⟨rfl, Nat.zero_le _, fun h => absurd h (by omega)⟩
/-- The entries, with a product so far. -/
def entF : List Int → Int → Int
  | [], a => a
  | d :: r, a => if d < 1 ∨ 64 < a * d then 0 else entF r (a * d)
/-- The entries of a shape; 0 if it is none. -/
def entN (l : List Int) : Int := if l.length = 0 ∨ 3 < l.length then 0 else entF l 1
theorem drop_at {l : List Int} {k : Nat} {d : Int} (h : l[k]? = some d) : l.drop k = d :: l.drop (k + 1) := by
  obtain ⟨hl, e⟩ := List.getElem?_eq_some_iff.1 h
  rw [List.drop_eq_getElem_cons hl, e]
theorem entF_le : ∀ (l : List Int) (a : Int), 1 ≤ a → a ≤ 64 → 0 ≤ entF l a ∧ entF l a ≤ 64
  | [], a, h, h' => ⟨by show 0 ≤ a; omega, h'⟩
  | d :: r, a, h, h' => by
    unfold entF
    by_cases hc : d < 1 ∨ 64 < a * d
    · rw [if_pos hc]; omega
    · rw [if_neg hc]
      have h1 : 1 * 1 ≤ a * d := Int.mul_le_mul h (by omega) (by omega) (by omega)
      exact entF_le r _ (by omega) (by omega)
theorem entN_le (l : List Int) : 0 ≤ entN l ∧ entN l ≤ 64 := by
  unfold entN
  by_cases hc : l.length = 0 ∨ 3 < l.length
  · rw [if_pos hc]; omega
  · rw [if_neg hc]; exact entF_le l 1 (by omega) (by omega)
set_option maxHeartbeats 1000000 in
theorem ent_any (A : Option Addr) (n c : Nat) (l : List Int) (w : World) (hX : Hid (ZX w A n c l)) :
    Calls Try.prog 41 #[.slice A n c] w fun e w' => e = .returned (.int .i64 (entN l)) ∧ w' = w := by
  have hlen := hX.out.len
  go_enter Try.func41, Try.ntmps41
  by_cases h0 : n = 0
  · subst h0
    go_wp2
    go_ret
    exact ⟨by show Ending.returned (.int .i64 0) = _; rw [entN, if_pos (.inl hlen)], rfl⟩
  by_cases h3 : 3 < n
  · have b0 : (3 : Int) < (n : Int) := by omega
    go_wp2
    go_ret
    exact ⟨by show Ending.returned (.int .i64 0) = _; rw [entN, if_pos (.inr (by omega))], rfl⟩
  have b0 : ¬ (3 : Int) < (n : Int) := by omega
  have b1 : ¬ (n : Int) = 0 := by omega
  have hE := Lib.hid (show entN l = entF l 1 by rw [entN, if_neg (by omega)])
  go_wp2
  go_loop [3, 16] (fun m i => ∃ (k : Nat) (a : Int), k ≤ n ∧ 1 ≤ a ∧ a ≤ 64 ∧ i = .int .i64 (k : Int) ∧ m = .int .i64 a ∧ Hid (entF l 1 = entF (l.drop k) a)) (fun _ i => n - (intOf i).toNat)
  case atStart => exact ⟨0, 1, by omega, by omega, by omega, rfl, rfl, Lib.hid rfl⟩
  case round =>
    obtain ⟨k, a, hk, ha1, ha2, rfl, rfl, hF⟩ := hrel
    by_cases hlt : k < n
    · obtain ⟨ad, d, rfl, hd, hc⟩ := hX.out.at_ hlt
      have hdr := Lib.hid (drop_at hd)
      clear hd
      by_cases h1 : d < 1
      · go_wp2
        go_ret
        exact ⟨by show Ending.returned (.int .i64 0) = _; rw [hE.out, hF.out, hdr.out, entF, if_pos (.inl h1)], rfl⟩
      · have hm1 : 1 * 1 ≤ a * d := Int.mul_le_mul ha1 (by omega) (by omega) (by omega)
        have ha0 : ¬ a = 0 := by omega
        by_cases h2 : 64 < a * d
        · have b2 : 64 / a < d := by exact (Int.ediv_lt_iff_lt_mul (by omega)).2 (by rw [Int.mul_comm]; exact h2)
          have hR := Lib.hid (show entN l = 0 by rw [hE.out, hF.out, hdr.out, entF, if_pos (.inr h2)])
          clear hm1 h2
          go_wp2
          go_ret
          exact ⟨by show Ending.returned (.int .i64 0) = _; rw [hR.out], rfl⟩
        · have b2 : ¬ 64 / a < d := by
            intro h
            have := (Int.ediv_lt_iff_lt_mul (by omega)).1 h
            rw [Int.mul_comm] at this
            exact h2 this
          have hR := Lib.hid (show entF l 1 = entF (l.drop (k + 1)) (a * d) by rw [hF.out, hdr.out, entF, if_neg (by omega)])
          go_wp2
          all_goals
            go_round
            case rel => exact ⟨k + 1, a * d, by omega, by omega, by omega, by go_num, by first | rfl | go_num, hR⟩
            case measure => simp [intOf]; omega
    · obtain rfl : k = n := by omega
      have hR := Lib.hid (show entF l 1 = a by rw [hF.out, List.drop_eq_nil_of_le (by omega)]; rfl)
      go_wp2
      go_ret
      exact ⟨by show Ending.returned (.int .i64 a) = _; rw [hE.out, hR.out], rfl⟩
set_option maxHeartbeats 1000000 in
theorem rent_any (A : Option Addr) (n c : Nat) (l : List Int) (w : World) (hX : Hid (ZX w A n c l)) :
    Calls Try.prog 40 #[.slice A n c] w fun e w' => e = .returned (.int .i64 (entN l)) ∧ w' = w := by
  have hlen := hX.out.len
  go_enter Try.func40, Try.ntmps40
  by_cases h0 : n = 0
  · subst h0
    go_wp2
    go_ret
    exact ⟨by show Ending.returned (.int .i64 0) = _; rw [entN, if_pos (.inl hlen)], rfl⟩
  have b1 : ¬ (n : Int) < 1 := by omega
  by_cases h3 : 3 < n
  · have b0 : (3 : Int) < (n : Int) := by omega
    go_wp2
    go_ret
    exact ⟨by show Ending.returned (.int .i64 0) = _; rw [entN, if_pos (.inr (by omega))], rfl⟩
  have b0 : ¬ (3 : Int) < (n : Int) := by omega
  have hE := Lib.hid (show entN l = entF l 1 by rw [entN, if_neg (by omega)])
  go_wp2
  go_loop [3, 16] (fun m i => ∃ (k : Nat) (a : Int), k ≤ n ∧ 1 ≤ a ∧ a ≤ 64 ∧ i = .int .i64 (k : Int) ∧ m = .int .i64 a ∧ Hid (entF l 1 = entF (l.drop k) a)) (fun _ i => n - (intOf i).toNat)
  case atStart => exact ⟨0, 1, by omega, by omega, by omega, rfl, rfl, Lib.hid rfl⟩
  case round =>
    obtain ⟨k, a, hk, ha1, ha2, rfl, rfl, hF⟩ := hrel
    by_cases hlt : k < n
    · obtain ⟨ad, d, rfl, hd, hc⟩ := hX.out.at_ hlt
      have hdr := Lib.hid (drop_at hd)
      clear hd
      by_cases h1 : d < 1
      · go_wp2
        go_ret
        exact ⟨by show Ending.returned (.int .i64 0) = _; rw [hE.out, hF.out, hdr.out, entF, if_pos (.inl h1)], rfl⟩
      · have hm1 : 1 * d ≤ a * d := Int.mul_le_mul ha1 (Int.le_refl _) (by omega) (by omega)
        by_cases h4 : 64 < d
        · have hR := Lib.hid (show entN l = 0 by rw [hE.out, hF.out, hdr.out, entF, if_pos (.inr (by omega))])
          go_wp2
          go_ret
          exact ⟨by show Ending.returned (.int .i64 0) = _; rw [hR.out], rfl⟩
        · have hm2 : a * d ≤ 64 * 64 := Int.mul_le_mul ha2 (by omega) (by omega) (by omega)
          by_cases h2 : 64 < a * d
          · have hR := Lib.hid (show entN l = 0 by rw [hE.out, hF.out, hdr.out, entF, if_pos (.inr h2)])
            go_wp2
            go_ret
            exact ⟨by show Ending.returned (.int .i64 0) = _; rw [hR.out], rfl⟩
          · have hR := Lib.hid (show entF l 1 = entF (l.drop (k + 1)) (a * d) by rw [hF.out, hdr.out, entF, if_neg (by omega)])
            go_wp2
            all_goals
              go_round
              case rel => exact ⟨k + 1, a * d, by omega, by omega, by omega, by go_num, by first | rfl | go_num, hR⟩
              case measure => simp [intOf]; omega
    · obtain rfl : k = n := by omega
      have hR := Lib.hid (show entF l 1 = a by rw [hF.out, List.drop_eq_nil_of_le (by omega)]; rfl)
      go_wp2
      go_ret
      exact ⟨by show Ending.returned (.int .i64 a) = _; rw [hE.out, hR.out], rfl⟩
end Go.Proofs.Ytdnjjpkajiehgaa
