/-
  How polynomials and rows of numbers that are handed in read.
-/
import Derived.Test.YtcnogmhkffohgaaGreatDoorW28
import Derived.Test.YtcnogmhkffohgaaGreatDoorWTOpen
import Derived.Deep.Matrix
namespace Go.Proofs.YtcnogmhkffohgaaGreatDoor
open Go.ChangeShapes Go.WideShapes Go.ChangeAt Go.RowKit Go.Joins
set_option linter.unusedVariables false
set_option maxRecDepth 100000

section
variable {H : Type} {enc : TypeId × Value → H}
/-- A polynomial that is handed in. -/
structure PW (W : World) (A : Option Addr) (L c : Nat) (As : Nat → Option Addr) (ns cs : Nat → Nat) (f : Nat → Nat → Nat) : Prop where
  px : PX W A L c As ns cs f
  len : L ≤ maxLen
  lens : ∀ j, j < L → ns j ≤ maxLen
  words : ∀ j, j < L → ∀ i, i < ns j → f j i < 18446744073709551616
theorem c_us : Tryz.prog.cellsOf 23 = 1 := by kernel_rfl
theorem c_poly : Tryz.prog.cellsOf 36 = 1 := by kernel_rfl
theorem rows_cells {W : World} {fuel : Nat} {cs : List Value} {x : DataW H × List MemPlace} (h : DataW.trod enc Tryz.prog W 0 (fun _ => true) true fuel 34 cs = some x) :
    ∃ A L c As ns ds f, cs = [.slice A L c] ∧ PW W A L c As ns ds f := by
  rcases Deep.open_int_rows Tryz.underlying34 Tryz.underlying23 Tryz.underlying22 c_us c_u64 h with ⟨rfl, _⟩ | ⟨a, len, cap, A, L, C, Z, rfl, _, hl, hm, _, hr⟩
  · exact ⟨none, 0, 0, fun _ => none, fun _ => 0, fun _ => 0, fun _ _ => 0, rfl, ⟨⟨Nat.le_refl _, fun h => absurd h (by omega), fun j hj => absurd hj (by omega)⟩, Nat.zero_le _, fun j hj => absurd hj (by omega), fun j hj => absurd hj (by omega)⟩⟩
  · have hw : ∀ r, r < len → ∀ j, j < L r → ∃ z : Int, (Z r)[j]? = some z ∧ 0 ≤ z ∧ z < 18446744073709551616 := fun r hr' j hj => by
      obtain ⟨_, h1, _, h3, h4, _⟩ := hr r (by omega)
      have hl2 : j < (Z r).length := by omega
      exact ⟨(Z r)[j], List.getElem?_eq_getElem hl2, word_of (h4 _ (List.getElem_mem hl2))⟩
    refine ⟨some a, len, cap, A, L, C, fun r j => ((Z r).getD j 0).toNat, rfl, ⟨⟨hl, fun _ => ⟨a, rfl, fun j hj => (hr j (by omega)).1⟩, fun j hj => ?_⟩, by omega, fun j hj => ?_, fun j hj i hi => ?_⟩⟩
    · obtain ⟨_, h1, h2, h3, h4, h5, h6⟩ := hr j (by omega)
      refine ⟨h1, fun hn => ?_⟩
      cases hA : A j with
      | none => have := h5 hA; omega
      | some a' =>
        refine ⟨a', rfl, fun i hi => ?_⟩
        obtain ⟨z, hz1, hz2, hz3⟩ := hw j hj i hi
        have e : (Z j).getD i 0 = z := by rw [List.getD_eq_getElem?_getD, hz1, Option.getD_some]
        have hc := (h6 a' hA).2 i (by omega)
        show W.cell? (a'.add i) = some (.int .u64 (((Z j).getD i 0).toNat : Int))
        rw [e] at hc ⊢
        rw [Int.toNat_of_nonneg hz2]
        exact hc
    · obtain ⟨_, h1, h2, _⟩ := hr j (by omega)
      omega
    · obtain ⟨z, hz1, hz2, hz3⟩ := hw j hj i hi
      show ((Z j).getD i 0).toNat < _
      rw [List.getD_eq_getElem?_getD, hz1, Option.getD_some]
      omega
theorem poly_open {W : World} {r : Reach} {b0 : Nat} {v : Value} {d : DataW H} {p : List MemPlace} (hv : Value.okWide Tryz.prog W r b0 36 v) (h : DataW.Trod enc Tryz.prog W 0 (fun _ => true) true 36 v d p) :
    ∃ A L c As ns ds f, v = .agg #[.slice A L c] ∧ PW W A L c As ns ds f := by
  obtain ⟨cs, rfl, hsz⟩ := okWide_struct Tryz.underlying36 hv
  obtain ⟨fuel, hf⟩ := h
  obtain ⟨xs, n, _, _, hl, hlen, hx⟩ := DataW.trod_struct Tryz.underlying36 hf
  have hs := hsz.trans c_poly
  obtain ⟨c0, rfl⟩ : ∃ c0, cs = #[c0] := by
    match cs, hs with
    | ⟨[c0]⟩, _ => exact ⟨c0, rfl⟩
  match xs, hlen with
  | [y0], _ =>
    have h0 : DataW.trod enc Tryz.prog W 0 (fun _ => true) true n 34 [c0] = some y0 := by
      have h1 := hx 0 _ rfl
      have e : Tryz.prog.cellsOf 34 = 1 := by kernel_rfl
      simpa [Value.cells, e] using h1
    obtain ⟨A, L, c, As, ns, ds, f, e0, hp⟩ := rows_cells h0
    simp at e0
    subst e0
    exact ⟨A, L, c, As, ns, ds, f, rfl, hp⟩
theorem c_i64 : Tryz.prog.cellsOf 2 = 1 := by kernel_rfl
/-- Numbers that are handed in. -/
theorem longs_open {W : World} {v : Value} {d : DataW H} {p : List MemPlace} (h : DataW.Trod enc Tryz.prog W 0 (fun _ => true) true 44 v d p) :
    ∃ A n c z, v.cells.toList = [.slice A n c] ∧ VX W A n c z ∧ n ≤ maxLen ∧ ∀ i, i < n → -9223372036854775808 ≤ z i ∧ z i < 9223372036854775808 := by
  obtain ⟨fuel, hf⟩ := h
  rcases ChangeShapes.open_ints Tryz.underlying44 Tryz.underlying2 c_i64 hf with ⟨e, _⟩ | ⟨a, len, cap, zs, e, _, hl, hm, hz, _, hcell, hwz⟩
  · exact ⟨none, 0, 0, fun _ => 0, e, ⟨Nat.le_refl _, fun h => absurd h (by omega)⟩, Nat.zero_le _, fun i hi => absurd hi (by omega)⟩
  · simp only [if_true] at hz
    refine ⟨some a, len, cap, fun j => zs.getD j 0, e, ⟨hl, fun hn => ⟨a, rfl, fun j hj => hcell j (by omega)⟩⟩, by omega, fun j hj => ?_⟩
    have hl2 : j < zs.length := by omega
    have h1 := long_of (hwz _ (List.getElem_mem hl2))
    show -9223372036854775808 ≤ zs.getD j 0 ∧ zs.getD j 0 < 9223372036854775808
    rw [List.getD_eq_getElem?_getD, List.getElem?_eq_getElem hl2, Option.getD_some]
    omega
end
end Go.Proofs.YtcnogmhkffohgaaGreatDoor
