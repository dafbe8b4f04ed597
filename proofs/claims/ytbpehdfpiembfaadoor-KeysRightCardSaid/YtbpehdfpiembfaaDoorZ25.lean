/-
  What turned of package ring makes of a list.
-/
import Derived.Test.YtbpehdfpiembfaaDoorZ24
import Derived.Deep.RegionHeld3
namespace Go.Proofs.YtbpehdfpiembfaaDoor
open Go.RowKit
set_option linter.unusedVariables false
set_option maxRecDepth 100000

theorem i64_mask (k : Nat) (hk : k < 60) (n : Int) : bits .and .i64 n ((2 ^ k - 1 : Nat) : Int) = n % (2 ^ k : Nat) := by
  have h2 : 2 ^ k ≤ 2 ^ 60 := Nat.pow_le_pow_right (by omega) (by omega)
  have h0 := Nat.two_pow_pos k
  show IntKind.i64.wrap ((BitVec.ofInt 64 n &&& BitVec.ofInt 64 ((2 ^ k - 1 : Nat) : Int)).toNat : Nat) = _
  rw [BitVec.toNat_and, BitVec.toNat_ofInt, BitVec.toNat_ofInt]
  rw [show (((2 ^ k - 1 : Nat) : Int) % ((2 ^ 64 : Nat) : Int)).toNat = 2 ^ k - 1 by omega]
  rw [Nat.and_two_pow_sub_one_eq_mod]
  have e : (((n % ((2 ^ 64 : Nat) : Int)).toNat % 2 ^ k : Nat) : Int) = n % (2 ^ k : Nat) := by
    rw [Int.natCast_emod, Int.toNat_of_nonneg (Int.emod_nonneg _ (by omega))]
    rw [Int.emod_emod_of_dvd]
    exact Int.natCast_dvd_natCast.2 (Nat.pow_dvd_pow 2 (by omega))
  rw [e]
  have h3 := Int.emod_nonneg n (show ((2 ^ k : Nat) : Int) ≠ 0 by omega)
  have h4 := Int.emod_lt_of_pos n (show (0 : Int) < ((2 ^ k : Nat) : Int) by omega)
  rw [IntKind.wrap_i64]
  omega
theorem mask_n {n : Nat} (h : ∃ k, 1 ≤ k ∧ k ≤ 9 ∧ n = 2 ^ k) (z : Int) : bits .and .i64 z (2 * (n : Int) - 1) = z % (2 * (n : Int)) := by
  obtain ⟨k, h0, h1, rfl⟩ := h
  have h2 := Nat.two_pow_pos k
  have e := i64_mask (k + 1) (by omega) z
  rw [Nat.pow_succ] at e
  rw [show ((2 ^ k * 2 - 1 : Nat) : Int) = 2 * ((2 ^ k : Nat) : Int) - 1 by omega, show ((2 ^ k * 2 : Nat) : Int) = 2 * ((2 ^ k : Nat) : Int) by omega] at e
  exact e
/-- A list while it is turned: m coefficients have come to their places. -/
def turnUp (q n K : Nat) (f : Nat → Nat) : Nat → Nat → Nat
  | 0, _ => 0
  | m + 1, j => if m * K % (2 * n) < n then (if j = m * K % (2 * n) then f m else turnUp q n K f m j) else (if j = m * K % (2 * n) - n then dif 0 (f m) q else turnUp q n K f m j)
/-- k modulo 2n. -/
def kM (k : Int) (n : Nat) : Nat := (k % (2 * (n : Int))).toNat
theorem kM_eq {k : Int} {n : Nat} (hn : 0 < n) : k % (2 * (n : Int)) = (kM k n : Int) ∧ kM k n < 2 * n := by
  have := Int.emod_nonneg k (show 2 * (n : Int) ≠ 0 by omega)
  have := Int.emod_lt_of_pos k (show 0 < 2 * (n : Int) by omega)
  unfold kM; omega
end Go.Proofs.YtbpehdfpiembfaaDoor

/-
  What Neg and Turn of package ring answer.
-/
namespace Go.Proofs.YtbpehdfpiembfaaDoor
open Go.RowKit
set_option linter.unusedVariables false
set_option maxRecDepth 100000

theorem tmod2 (k : Int) : k.tmod 2 = 0 ↔ k % 2 = 0 := by
  rw [← Int.dvd_iff_tmod_eq_zero, ← Int.dvd_iff_emod_eq_zero]
theorem el_cell {w : World} {A : Option Addr} {L c n M : Nat} {q : Nat → Nat} {As : Nat → Option Addr} {ns cs : Nat → Nat} {f : Nat → Nat → Nat} (hP : PX w A L c As ns cs f) (hE : El n M q L ns f) {j : Nat} (hj : j < L) : (∃ ad, A = some ad ∧ w.cell? (ad.add j) = some (.slice (As j) n (cs j))) ∧ FX w (As j) n (cs j) (f j) ∧ ∀ i, i < n → f j i < q j := by
  obtain ⟨ad, e, hc⟩ := hP.cells (by omega)
  obtain ⟨h1, h2⟩ := hE.2.2 j hj
  have h3 := hc j hj
  have h4 := hP.rows j hj
  rw [h1] at h3 h4 h2
  exact ⟨⟨ad, e, h3⟩, h4, h2⟩
end Go.Proofs.YtbpehdfpiembfaaDoor

/-
  What Add, Sub and Mul of package ring answer.
-/
namespace Go.Proofs.YtbpehdfpiembfaaDoor
open Go.RowKit
set_option linter.unusedVariables false
set_option maxRecDepth 100000

end Go.Proofs.YtbpehdfpiembfaaDoor

/-
  What Add, Sub and Mul of package ring answer.
-/
namespace Go.Proofs.YtbpehdfpiembfaaDoor
open Go.RowKit
set_option linter.unusedVariables false
set_option maxRecDepth 100000

theorem two_at0 (w : World) (v u : Value) (t : TypeId) : (w.alloc (.cells #[v, u] t)).cell? ⟨w.heap.size, 0, none⟩ = some v := by simp
theorem two_at1 (w : World) (v u : Value) (t : TypeId) : (w.alloc (.cells #[v, u] t)).cell? ⟨w.heap.size, 1, none⟩ = some u := by simp
end Go.Proofs.YtbpehdfpiembfaaDoor

/-
  What Add, Sub and Mul of package ring answer.
-/
namespace Go.Proofs.YtbpehdfpiembfaaDoor
open Go.RowKit
set_option linter.unusedVariables false
set_option maxRecDepth 100000

end Go.Proofs.YtbpehdfpiembfaaDoor

/-
  That two elements which are the same are told to be; the level; the calls of layer 5 whose answers the document fixes.
-/
namespace Go.Proofs.YtbpehdfpiembfaaDoor
open Go.RowKit
set_option linter.unusedVariables false
set_option maxRecDepth 100000

theorem Level_nil (A : Option Addr) (L c : Nat) (w : World) :
    Calls Tryd.prog 14 #[.pointer none, .agg #[.slice A L c]] w fun ee w' => ee = .returned (.tuple #[.int .i64 0, .int .i64 1]) ∧ Ext w w' := by
  go_enter Tryd.func14, Tryd.ntmps14
  go_wp2_with fail
  refine (rcheck_nil _ _ _ _).mono ?_
  rintro ee w' ⟨rfl, rfl⟩
  go_wp2
  go_ret2
  exact ⟨rfl, ((Ext.refl w).alloc _).alloc _⟩
set_option maxHeartbeats 2000000 in
theorem Level_any (r n M : Nat) (q p : Nat → Nat) (a e : Nat → Nat → Nat) (A : Option Addr) (L c : Nat) (As : Nat → Option Addr) (ns cs : Nat → Nat) (f : Nat → Nat → Nat) (w : World) (hR : Rg w r n M q p a e) (hP : Hid (PB w A L c As ns cs f)) :
    Calls Tryd.prog 14 #[.pointer (some ⟨r, 0, none⟩), .agg #[.slice A L c]] w fun ee w' => ((El n M q L ns f ∧ ee = .returned (.tuple #[.int .i64 ((L : Int) - 1), .int .i64 0])) ∨ (¬ El n M q L ns f ∧ ee = .returned (.tuple #[.int .i64 0, .int .i64 3]))) ∧ Ext w w' := by
  have HR := Lib.hid hR
  clear hR
  go_enter Tryd.func14, Tryd.ntmps14
  go_wp2_with fail
  obtain ⟨V, hV⟩ : ∃ V, V = w.alloc (.cells #[.slice A L c] 34) := ⟨_, rfl⟩
  rw [← hV]
  have kV : Ext w V := by rw [hV]; exact (Ext.refl w).alloc _
  have h4 : V.cell? ⟨w.heap.size, 0, none⟩ = some (.slice A L c) := by rw [hV]; exact one_at w _ _
  have hsV : V.heap.size = w.heap.size + 1 := by rw [hV]; simp
  clear hV
  have kX : Ext V (V.alloc (.cells #[.slice A L c] 34)) := (Ext.refl V).alloc _
  have hx : (V.alloc (.cells #[.slice A L c] 34)).cell? ⟨w.heap.size + 1, 0, none⟩ = some (.slice A L c) := by rw [← hsV]; exact one_at _ _ _
  refine (rcheck1 r n M q p a e A L c As ns cs f _ (w.heap.size + 1) hx (HR.out.ext (kV.trans kX)) (Lib.hid (hP.out.ext (kV.trans kX)))).mono ?_
  rintro ee w2 (⟨hE, rfl, k2⟩ | ⟨hE, rfl, k2⟩)
  · have HE := Lib.hid hE
    have y4 := cell_ext (kX.trans k2) h4
    have hLb := hP.out.2.1
    clear hE
    go_wp2_with fail
    refine (levelOf_any A L c w2 hLb).mono ?_
    rintro ee w3 ⟨rfl, k3⟩
    go_wp2
    go_ret2
    exact ⟨.inl ⟨HE.out, rfl⟩, kV.trans (kX.trans (k2.trans k3))⟩
  · have HE := Lib.hid hE
    clear hE
    go_wp2
    go_ret2
    exact ⟨.inr ⟨HE.out, rfl⟩, kV.trans (kX.trans k2)⟩
end Go.Proofs.YtbpehdfpiembfaaDoor
