import Derived.Test.YtjikdbcjabopnaaGreatDoorJ33
import Derived.Test.YtjikdbcjabopnaaGreatDoorJVTape
namespace Go.Proofs.YtjikdbcjabopnaaGreatDoor
open Go.RowKit
set_option linter.unusedVariables false
set_option linter.unusedSimpArgs false
set_option maxRecDepth 100000
def NV (w : World) (v : Value) (X M : Nat) : Prop := ∃ A n c xs, v = .slice A n c ∧ n ≤ M ∧ nv xs = X ∧ NX w A n c xs
theorem NV.ext {w w' : World} {v : Value} {X M : Nat} (h : NV w v X M) (k : Ext w w') : NV w' v X M := by
 obtain ⟨A, n, c, xs, h1, h2, h3, h4⟩ := h
 exact ⟨A, n, c, xs, h1, h2, h3, h4.ext k⟩
def SB (w : World) (p X M : Nat) : Prop := ∃ A n c, w.heap[p]? = some (.cells #[.slice A n c] 203 (0, 0)) ∧ n ≤ M ∧ NX w A n c (nw X)
theorem SB.ext {w w' : World} {p X M : Nat} (h : SB w p X M) (k : Ext w w') : SB w' p X M := by
 obtain ⟨A, n, c, h1, h2, h3⟩ := h
 exact ⟨A, n, c, (k.block p (Array.getElem?_eq_some_iff.1 h1).1).trans h1, h2, h3.ext k⟩
theorem SB.lt {w : World} {p X M : Nat} (h : SB w p X M) : p < w.heap.size := by
 obtain ⟨A, n, c, h1, h2, h3⟩ := h
 exact (Array.getElem?_eq_some_iff.1 h1).1
def StC (w : World) (g : Nat) (n T Wd : Nat) (R : Value) (S : Value) : Prop := w.cell? ⟨g, 0, none⟩ = some (.int .u64 (n : Int)) ∧ w.cell? ⟨g, 1, none⟩ = some (.int .u64 (T : Int)) ∧ w.cell? ⟨g, 2, none⟩ = some (.int .u64 (Wd : Int)) ∧ w.cell? ⟨g, 3, none⟩ = some R ∧ w.cell? ⟨g, 4, none⟩ = some S
theorem StC.ext {w w' : World} {g n T Wd : Nat} {R S : Value} (h : StC w g n T Wd R S) (k : Ext w w') : StC w' g n T Wd R S :=
 ⟨cell_ext k h.1, cell_ext k h.2.1, cell_ext k h.2.2.1, cell_ext k h.2.2.2.1, cell_ext k h.2.2.2.2⟩
def ErrL (P : Prop) (lo l : Int) (L E : Nat) : Prop := (¬ P ∧ E = 8) ∨ (P ∧ ¬ (lo ≤ l ∧ l < (L : Int)) ∧ E = 10) ∨ (P ∧ (lo ≤ l ∧ l < (L : Int)) ∧ E = 0)
structure ParK (n T W0 L : Nat) (f : Nat → Nat) : Prop where
 n8 : 8 ≤ n
 n4 : n ≤ 4096
 two : n % 2 = 0
 t2 : 2 ≤ T
 t30 : T < 1073741824
 w1 : 1 ≤ W0
 w16 : W0 ≤ 16
 l1 : 1 ≤ L
 l8 : L ≤ 8
 q50 : ∀ j, j < L → f j < 1125899906842624
 q2 : ∀ j, j < L → 2 ≤ f j
theorem par_k {N : Int} {T L : Nat} {f : Nat → Nat} {W : Int} (h : ParP N T L f W) : ∃ n W0 : Nat, N = (n : Int) ∧ W = (W0 : Int) ∧ ParK n T W0 L f := by
 have h0 : SizeP N := h 0 (by omega)
 obtain ⟨n, rfl, hn0, hn1⟩ := size_nat h0
 have h1 : 1 ≤ W ∧ W ≤ 16 := h 1 (by omega)
 obtain ⟨W0, rfl⟩ := Int.eq_ofNat_of_zero_le (show 0 ≤ W by omega)
 have h2 : PlainP n T := h 2 (by omega)
 have h3 : CountP L := h 3 (by omega)
 have h4 : PrsP n T L f := h 4 (by omega)
 exact ⟨n, W0, rfl, rfl, ⟨hn0, hn1, stepS_even h0.2.2, h.T2, h2.1, by omega, by omega, h3.1, h3.2, fun j hj => (h4 j hj).1, fun j hj => isS_ge (h4 j hj).2.2.2.2⟩⟩
def LvPost (w : World) (E : Nat) (N : Int) (T : Nat) (A : Option Addr) (L c : Nat) (f : Nat → Nat) (W l : Int) (ee : Ending) (w' : World) : Prop :=
 (E ≠ 0 ∧ ee = .returned (.tuple #[.agg #[.int .u64 0, .int .u64 0, .int .u64 0, .slice none 0 0, .slice none 0 0], .int .i64 (E : Int)]) ∧ Ext w w') ∨
 (E = 0 ∧ ∃ (n W0 m : Nat) (A2 : Option Addr) (n2 c2 : Nat), N = (n : Int) ∧ W = (W0 : Int) ∧ l = (m : Int) ∧ m < L ∧ Hid (ParK n T W0 L f) ∧ ee = .returned (.tuple #[.agg #[.int .u64 (n : Int), .int .u64 (T : Int), .int .u64 (W0 : Int), .slice A (m + 1) c, .slice A2 n2 c2], .int .i64 0]) ∧ n2 ≤ 1 ∧ Hid (NX w' A2 n2 c2 (nw (prodF f (m + 1) % T))) ∧ Ext w w')
def BdPost (w : World) (E X : Nat) (ee : Ending) (w' : World) : Prop :=
 (E ≠ 0 ∧ ee = .returned (.tuple #[.slice none 0 0, .int .i64 (E : Int)]) ∧ Ext w w') ∨
 (E = 0 ∧ ∃ A n c, ee = .returned (.tuple #[.slice A n c, .int .i64 0]) ∧ n ≤ 600 ∧ Hid (NX w' A n c (nw X)) ∧ Ext w w')
theorem ErrL.no {P : Prop} {lo l : Int} {L E : Nat} (h : ErrL P lo l L E) (h0 : E ≠ 0) : (E = 8 ∨ E = 10) := by
 rcases h with ⟨_, e⟩ | ⟨_, _, e⟩ | ⟨_, _, e⟩
 ·exact .inl e
 ·exact .inr e
 ·exact absurd e h0
def LvOne (w : World) (E : Nat) (N : Int) (T : Nat) (A : Option Addr) (L c : Nat) (f : Nat → Nat) (W l : Int) (ee : Ending) (w' : World) : Prop :=
 ∃ (u0 u1 u2 : Nat) (A3 : Option Addr) (n3 c3 : Nat) (A4 : Option Addr) (n4 c4 : Nat), ee = .returned (.tuple #[.agg #[.int .u64 (u0 : Int), .int .u64 (u1 : Int), .int .u64 (u2 : Int), .slice A3 n3 c3, .slice A4 n4 c4], .int .i64 (E : Int)]) ∧ Hid (E = 0 → ParK u0 T u2 L f ∧ N = (u0 : Int) ∧ W = (u2 : Int)) ∧ Ext w w'
theorem LvPost.one {w : World} {E : Nat} {N : Int} {T : Nat} {A : Option Addr} {L c : Nat} {f : Nat → Nat} {W l : Int} {ee : Ending} {w' : World} (h : LvPost w E N T A L c f W l ee w') : LvOne w E N T A L c f W l ee w' := by
 obtain ⟨h0, rfl, k1⟩ | ⟨rfl, n, W0, m, A2, n2, c2, rfl, rfl, rfl, hm, HK, rfl, hn2, HR, k1⟩ := h
 ·exact ⟨0, 0, 0, none, 0, 0, none, 0, 0, rfl, Lib.hid (fun h => absurd h h0), k1⟩
 ·exact ⟨n, T, W0, _, _, _, _, _, _, rfl, Lib.hid (fun _ => ⟨HK.out, rfl, rfl⟩), k1⟩
theorem row_ext {w w' : World} {i : Nat} {o : Obj} (h : w.heap[i]? = some o) (k : Ext w w') : w'.heap[i]? = some o := (k.block _ (Array.getElem?_eq_some_iff.1 h).1).trans h
theorem row_z {w : World} {i : Nat} {xs : Array Value} {t : TypeId} (h : w.heap[i]? = some (.cells xs t (0, 0))) (j : Nat) : w.frozen? ⟨i, j, none⟩ = false := by simp [World.frozen?, h]
theorem BdPost.yes {w : World} {X : Nat} {ee : Ending} {w' : World} (h : BdPost w 0 X ee w') : ∃ A n c, ee = .returned (.tuple #[.slice A n c, .int .i64 0]) ∧ n ≤ 600 ∧ Hid (NX w' A n c (nw X)) ∧ Ext w w' := by
 rcases h with ⟨h, _⟩ | ⟨_, h⟩
 ·exact absurd rfl h
 ·exact h
theorem W64_pos : 1 ≤ W64 := by rw [W64_eq]; omega
theorem NV.lt {w : World} {v : Value} {X M : Nat} (h : NV w v X M) : X < W64 ^ M := by
 obtain ⟨A, n, c, xs, rfl, hn, rfl, hx⟩ := h
 have h1 : nv xs < W64 ^ xs.length := vl_lt hx.lt
 rw [hx.len] at h1
 exact Nat.lt_of_lt_of_le h1 (Nat.pow_le_pow_right W64_pos hn)
theorem two_vals (w : World) (u0 u1 : Value) (t : TypeId) : (w.alloc (.cells #[u0, u1] t)).cell? ⟨w.heap.size, 0, none⟩ = some u0 ∧ (w.alloc (.cells #[u0, u1] t)).cell? ⟨w.heap.size, 1, none⟩ = some u1 := by simp
end Go.Proofs.YtjikdbcjabopnaaGreatDoor
