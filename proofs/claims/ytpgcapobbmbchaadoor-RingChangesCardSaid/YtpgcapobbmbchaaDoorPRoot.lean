/-
  What Root of package prime answers.
-/
import Derived.Test.YtpgcapobbmbchaaDoorPFind
import Derived.Deep.RegionHeld3
namespace Go.Proofs.YtpgcapobbmbchaaDoor
open Go.RowKit
set_option linter.unusedVariables false

/-- Whether x is no square modulo q, as Euler asks. -/
def noSq (q x : Nat) : Bool := decide (x ^ ((q - 1) / 2) % q = q - 1)
/-- x is the first that is no square; 0, if there is none. -/
def First (q x : Nat) : Prop := (x < q ∧ noSq q x = true ∧ ∀ y, y < x → noSq q y = false) ∨ (x = 0 ∧ ∀ y, y < q → noSq q y = false)
/-- The least of a root's odd powers. -/
def lr (q sq : Nat) : Nat → Nat → Nat → Nat
  | 0, _, l => l
  | k + 1, r, l => lr q sq k (r * sq % q) (min l (r * sq % q))

theorem powE {dz : Int} (a d n : Nat) (w : World) (he : Hid (dz = (d : Int))) (hn : 0 < n) (a1 : a < 18446744073709551616) (d1 : d < 18446744073709551616) (n1 : n < 18446744073709551616) :
    Calls Tryd.prog 134 #[.int .u64 (a : Int), .int .u64 dz, .int .u64 (n : Int)] w fun e w' => e = .returned (.int .u64 ((a ^ d % n : Nat) : Int)) ∧ Ext w w' := by
  rw [he.out]; exact powN a d n w hn a1 d1 n1
set_option maxHeartbeats 1000000 in
theorem noSquare_any (q x : Nat) (w : World) (hq0 : 2 ≤ q) (hq : q < 18446744073709551616) (hx : x < 18446744073709551616) :
    Calls Tryd.prog 136 #[.agg #[.int .u64 (q : Int)], .int .u64 (x : Int)] w fun e w' => e = .returned (.bool (noSq q x)) ∧ Ext w w' := by
  have e1 : ((q : Int) - 1) / 2 = (((q - 1) / 2 : Nat) : Int) := by omega
  obtain ⟨d, hd⟩ : ∃ d, d = (q - 1) / 2 := ⟨_, rfl⟩
  rw [← hd] at e1
  have hdb : d < 18446744073709551616 := by omega
  have HN := Lib.hid (show noSq q x = decide (x ^ d % q = q - 1) by rw [noSq, hd])
  have hw1 : IntKind.u64.wrap ((q : Int) - 1) = (q : Int) - 1 := by rw [IntKind.wrap_u64]; omega
  have hw2 : IntKind.u64.wrap (((q : Int) - 1).tdiv 2) = (d : Int) := by
    rw [Int.tdiv_eq_ediv_of_nonneg (by omega), e1, IntKind.wrap_u64]; omega
  clear hd e1
  go_enter Tryd.func136, Tryd.ntmps136
  go_wp2_with fail
  have kV : Ext w (w.alloc (Obj.cells #[Value.int IntKind.u64 (q : Int)] 169)) := (Ext.refl w).alloc _
  have cV : (w.alloc (Obj.cells #[Value.int IntKind.u64 (q : Int)] 169)).cell? ⟨w.heap.size, 0, none⟩ = some (.int .u64 (q : Int)) := by simp
  generalize w.alloc (Obj.cells #[Value.int IntKind.u64 (q : Int)] 169) = V at *
  have hV : w.heap.size < V.heap.size := World.block_lt_of_cell? _ _ cV
  go_region_held3 (fun w' => w'.cell? ⟨w.heap.size, 0, none⟩ = some (.int .u64 (q : Int))) (go_keep)
    (first
      | (go_at_call 134; refine (powN x d q V.drew (by omega) hx hdb hq).mono ?_; rintro e w1 ⟨rfl, k1⟩; have k1' : Ext V w1 := (Ext.refl V).drew.trans k1; have c1 := kept_cell k1' hV cV)
      | fail)
  have hlt := Nat.mod_lt (x ^ d) (show 0 < q by omega)
  have HE := Lib.hid (show ((x : Int) ^ d % (q : Int) == (q : Int) - 1) = decide (x ^ d % q = q - 1) by
    rw [show (q : Int) - 1 = ((q - 1 : Nat) : Int) by omega, show (x : Int) ^ d % (q : Int) = ((x ^ d % q : Nat) : Int) by rw [Int.natCast_emod, Int.natCast_pow]]; exact eq_dec _ _)
  go_wp2
  go_ret
  exact ⟨congrArg Ending.returned (congrArg Value.bool (by rw [HN.out]; exact HE.out)), kV.trans k1'⟩
set_option maxHeartbeats 1000000 in
theorem firstBelow_any (q : Nat) (w : World) (hq0 : 2 ≤ q) (hq : q < 18446744073709551616) :
    Calls Tryd.prog 135 #[.int .u64 (q : Int), .func (.func 136) #[.agg #[.int .u64 (q : Int)]] #[]] w fun e w' => ∃ x, First q x ∧ e = .returned (.int .u64 (x : Int)) ∧ Ext w w' := by
  go_enter Tryd.func135, Tryd.ntmps135
  go_wp2
  go_loopw [7] (fun i wr => ∃ k : Nat, k ≤ q ∧ i = .int .u64 (k : Int) ∧ Ext w wr ∧ Hid (∀ y, y < k → noSq q y = false)) (fun i _ => q - (intOf i).toNat)
  case atStart => exact ⟨0, by omega, rfl, Ext.refl _, Lib.hid fun y hy => by omega⟩
  case round =>
    obtain ⟨k, hk, rfl, kr, hi⟩ := hrel
    by_cases hlt : k < q
    · go_wp2_with fail
      refine (noSquare_any q k _ hq0 hq (by omega)).mono ?_
      rintro e w2 ⟨rfl, k2⟩
      cases hp : noSq q k
      · have HI := Lib.hid (show ∀ y, y < k + 1 → noSq q y = false from fun y hy => by
          rcases Nat.lt_or_eq_of_le (Nat.le_of_lt_succ hy) with h | h
          · exact hi.out y h
          · rw [h]; exact hp)
        go_wp2
        exact ⟨⟨k + 1, by omega, by go_num, kr.trans k2, HI⟩, by simp [intOf] <;> omega⟩
      · have HF := Lib.hid (show First q k from .inl ⟨hlt, hp, hi.out⟩)
        go_wp2
        go_ret
        exact ⟨k, HF.out, rfl, kr.trans k2⟩
    · have HF := Lib.hid (show First q 0 from .inr ⟨rfl, fun y hy => hi.out y (by omega)⟩)
      go_wp2
      go_ret
      exact ⟨0, HF.out, rfl, kr⟩
set_option maxHeartbeats 1000000 in
theorem leastRoot_any (q r n : Nat) (w : World) (hq0 : 2 ≤ q) (hq : q < 18446744073709551616) (hr : r < q) (hn0 : 2 ≤ n) (hn : n ≤ 8192) :
    Calls Tryd.prog 137 #[.agg #[.int .u64 (q : Int)], .int .u64 (r : Int), .int .u64 (n : Int)] w fun e w' => e = .returned (.int .u64 ((lr q (r * r % q) (n / 2 - 1) r r : Nat) : Int)) ∧ Ext w w' := by
  go_enter Tryd.func137, Tryd.ntmps137
  go_wp2_with fail
  refine (mulN r r q _ (by omega) (by omega) (by omega) hq).mono ?_
  rintro e w1 ⟨rfl, k1⟩
  have kw : Ext w w1 := ((Ext.refl w).alloc _).trans k1
  have c0 : w1.cell? ⟨w.heap.size, 0, none⟩ = some (.int .u64 (q : Int)) := kept_cell k1 (by simp) (by simp)
  have hsz : w.heap.size < w1.heap.size := World.block_lt_of_cell? _ _ c0
  have hsl := Nat.mod_lt (r * r) (show 0 < q by omega)
  clear k1
  obtain ⟨sq, hsq⟩ : ∃ sq, sq = r * r % q := ⟨_, rfl⟩
  rw [← hsq] at hsl ⊢
  have HSQ := Lib.hid hsq
  clear hsq
  have hn2 : ((n : Int) / 2 - 1) = ((n / 2 - 1 : Nat) : Int) := by omega
  obtain ⟨M, hM⟩ : ∃ M, M = n / 2 - 1 := ⟨_, rfl⟩
  rw [← hM] at hn2
  have hMb : M ≤ 4095 := by omega
  have HM := Lib.hid hM
  have HR := Lib.hid (show lr q sq (n / 2 - 1) r r = lr q sq (M - 0) r r by rw [hM, Nat.sub_zero])
  clear hM
  go_wp2
  try rw [hn2]
  clear hn2
  go_loopw [1, 8, 18] (fun rv lv iv wr => ∃ k R L : Nat, k ≤ M ∧ R < q ∧ L < q ∧ rv = .int .u64 (R : Int) ∧ lv = .int .u64 (L : Int) ∧ iv = .int .u64 (k : Int) ∧ Ext w1 wr ∧ Hid (lr q sq (n / 2 - 1) r r = lr q sq (M - k) R L)) (fun _ _ iv _ => M - (intOf iv).toNat)
  case atStart => exact ⟨0, r, r, by omega, hr, hr, rfl, rfl, rfl, Ext.refl _, HR⟩
  case round =>
    obtain ⟨k, R, L, hk, hR, hL, rfl, rfl, rfl, kr, hi⟩ := hrel
    by_cases hlt : k < M
    · have c0' := kept_cell kr hsz c0
      go_wp2_with fail
      refine (mulN R sq q _ (by omega) (by omega) (by omega) hq).mono ?_
      rintro e w2 ⟨rfl, k2⟩
      have hl2 := Nat.mod_lt (R * sq) (show 0 < q by omega)
      have HI := Lib.hid (show lr q sq (n / 2 - 1) r r = lr q sq (M - (k + 1)) (R * sq % q) (min L (R * sq % q)) by rw [hi.out, show M - k = (M - (k + 1)) + 1 by omega, lr])
      generalize R * sq % q = R2 at *
      go_wp2
      exact ⟨⟨k + 1, R2, min L R2, by omega, hl2, by omega, rfl, u64_eq (by omega), by go_num, kr.trans k2, HI⟩, by simp [intOf] <;> omega⟩
    · have HE := Lib.hid (show lr q sq (n / 2 - 1) r r = L by rw [hi.out, show M - k = 0 by omega, lr])
      go_wp2
      go_ret
      exact ⟨by rw [← HSQ.out, HE.out]; rfl, kw.trans kr⟩
/-- What Root answers. -/
def RootPost (q n : Nat) (w : World) (e : Ending) (w' : World) : Prop :=
  ((stepS n = false ∨ q % n ≠ 1 ∨ isS q = false) ∧ e = .returned (.tuple #[.int .u64 0, .int .i64 1]) ∧ Ext w w') ∨
  (stepS n = true ∧ q % n = 1 ∧ isS q = true ∧ ∃ x, First q x ∧ e = .returned (.tuple #[.int .u64 ((lr q (x ^ ((q - 1) / n) % q * (x ^ ((q - 1) / n) % q) % q) (n / 2 - 1) (x ^ ((q - 1) / n) % q) (x ^ ((q - 1) / n) % q) : Nat) : Int), .int .i64 0]) ∧ Ext w w')
theorem isS_ge {q : Nat} (h : isS q = true) : 2 ≤ q := by
  rcases Nat.lt_or_ge q 2 with g | g
  · rw [isS_one g] at h; cases h
  · exact g
theorem First.lt {q x : Nat} (h : First q x) (hq : 2 ≤ q) : x < q := by
  rcases h with h | h
  · exact h.1
  · rw [h.1]; omega
set_option maxHeartbeats 1000000 in
theorem root_any (q n : Nat) (w : World) (hq : q < 18446744073709551616) (hn : n < 18446744073709551616) (hT : Tabs w) :
    Calls Tryd.prog 105 #[.int .u64 (q : Int), .int .u64 (n : Int)] w (RootPost q n w) := by
  have HT := Lib.hid hT
  clear hT
  cases h1 : stepS n
  · go_enter Tryd.func105, Tryd.ntmps105
    go_wp2_with fail
    refine (order_any n w hn).mono ?_
    rw [h1]
    rintro e w' ⟨rfl, rfl⟩
    go_wp2
    go_ret2
    exact .inl ⟨.inl h1, rfl, Ext.refl _⟩
  obtain ⟨hn0, hn1⟩ := stepS_range h1
  by_cases h2 : q % n = 1
  · have g2 : ((q : Int) % (n : Int) != 1) = false := by simp; omega
    go_enter Tryd.func105, Tryd.ntmps105
    go_wp2_with fail
    refine (order_any n w hn).mono ?_
    rw [h1]
    rintro e w' ⟨rfl, rfl⟩
    go_wp2_with fail
    refine (is_any q w hq HT.out).mono ?_
    rintro e w1 ⟨rfl, k1⟩
    cases h3 : isS q
    · go_wp2
      go_ret2
      exact .inl ⟨.inr (.inr h3), rfl, k1⟩
    · have hq0 := isS_ge h3
      have hdv : ((q : Int) - 1) / (n : Int) = (((q - 1) / n : Nat) : Int) := by rw [Int.natCast_ediv]; congr 1; omega
      obtain ⟨d, hd⟩ : ∃ d, d = (q - 1) / n := ⟨_, rfl⟩
      rw [← hd] at hdv
      have hdb : d < 18446744073709551616 := by
        rw [hd]; exact Nat.lt_of_le_of_lt (Nat.div_le_self _ _) (by omega)
      have HD := Lib.hid hd
      clear hd
      have hw1 : IntKind.u64.wrap ((q : Int) - 1) = (q : Int) - 1 := by rw [IntKind.wrap_u64]; omega
      have hw2 : IntKind.u64.wrap (((q : Int) - 1).tdiv (n : Int)) = (d : Int) := by
        rw [Int.tdiv_eq_ediv_of_nonneg (by omega), hdv, IntKind.wrap_u64]; omega
      have hnz : ((n : Int) == 0) = false := by simp; omega
      have hnz2 : ¬ ((n : Int) = 0) := by omega
      have hnz3 : ¬ (n = 0) := by omega
      clear hdv
      go_wp2_with fail
      have kV : Ext w1 (w1.alloc (Obj.cells #[Value.int IntKind.u64 (q : Int)] 169)) := (Ext.refl w1).alloc _
      have cV : (w1.alloc (Obj.cells #[Value.int IntKind.u64 (q : Int)] 169)).cell? ⟨w1.heap.size, 0, none⟩ = some (.int .u64 (q : Int)) := by simp
      generalize w1.alloc (Obj.cells #[Value.int IntKind.u64 (q : Int)] 169) = V at *
      have hV : w1.heap.size < V.heap.size := World.block_lt_of_cell? _ _ cV
      go_region_held3 (fun w' => w'.cell? ⟨w1.heap.size, 0, none⟩ = some (.int .u64 (q : Int))) (go_keep)
        (first
          | (go_at_call 134; refine (powN x d q _ (by omega) (by have := hFx.lt hq0; omega) hdb hq).mono ?_; rintro e w3 ⟨rfl, k3⟩; have k3' : Ext V w3 := k2'.trans k3; have c3 := kept_cell k3' hV cV)
          | (go_at_call 135; refine (firstBelow_any q _ hq0 hq).mono ?_; rintro e w2 ⟨x, hFx, rfl, k2⟩; have k2' : Ext V w2 := (Ext.refl V).drew.trans k2; have c2 := kept_cell k2' hV cV)
          | fail)
      have hlt := Nat.mod_lt (x ^ d) (show 0 < q by omega)
      obtain ⟨r, hr⟩ : ∃ r, r = x ^ d % q := ⟨_, rfl⟩
      rw [← hr] at hlt
      have hrz : (x : Int) ^ d % (q : Int) = (r : Int) := by rw [hr, Int.natCast_emod, Int.natCast_pow]
      rw [hrz]
      have HR := Lib.hid hr
      clear hr hrz
      go_wp2_with fail
      refine (leastRoot_any q r n _ hq0 hq hlt hn0 hn1).mono ?_
      rintro e w4 ⟨rfl, k4⟩
      have HG := Lib.hid (show ∀ e w', e = .returned (.tuple #[.int .u64 ((lr q (r * r % q) (n / 2 - 1) r r : Nat) : Int), .int .i64 0]) → Ext w w' → RootPost q n w e w' from fun e w' he hw => by
        refine .inr ⟨h1, h2, h3, x, hFx, ?_, hw⟩
        rw [← HD.out, ← HR.out]; exact he)
      generalize lr q (r * r % q) (n / 2 - 1) r r = z at *
      go_wp2
      go_ret2
      exact HG.out _ _ rfl (k1.trans (kV.trans (k3'.trans k4)))
  · have g2 : ((q : Int) % (n : Int) != 1) = true := by simp; omega
    go_enter Tryd.func105, Tryd.ntmps105
    go_wp2_with fail
    refine (order_any n w hn).mono ?_
    rw [h1]
    rintro e w' ⟨rfl, rfl⟩
    go_wp2
    go_ret2
    exact .inl ⟨.inr (.inl h2), rfl, Ext.refl _⟩
end Go.Proofs.YtpgcapobbmbchaaDoor
