import Derived.Test.YtjikdbcjabopnaaGreatDoorJ25
import Derived.Test.YtjikdbcjabopnaaGreatDoorJ29
import Derived.Lib.AppendZerosOnto
import Derived.Lib.SliceRun
import Derived.Test.YtjikdbcjabopnaaGreatDoorJGOpen
namespace Go.Proofs.YtjikdbcjabopnaaGreatDoor
open Go.RowKit
set_option linter.unusedVariables false
set_option maxRecDepth 100000
def QR (B : Nat) (w : World) (v : Value) (k : Nat) (S : Nat → Value) : Prop := w.ownsRow B 73 1 v k ((List.range k).map S)
theorem QR.ext {B : Nat} {w w' : World} {v : Value} {k : Nat} {S : Nat → Value} (h : QR B w v k S) (hb : Ext w w') : QR B w' v k S := by
 refine ⟨h.1, ?_⟩
 rcases h.2 with h0 | ⟨g, cap, cur, e, hg, hh, h1⟩
 ·exact .inl h0
 ·exact .inr ⟨g, cap, cur, e, hg, (hb.block g (Array.getElem?_eq_some_iff.1 hh).1).trans hh, h1⟩
theorem QR.congr {B : Nat} {w : World} {v : Value} {k : Nat} {S S' : Nat → Value} (h : QR B w v k S) (e : ∀ j, j < k → S j = S' j) : QR B w v k S' := by
 unfold QR at h ⊢
 rwa [List.map_congr_left (fun j hj => e j (List.mem_range.1 hj))] at h
structure QX (w : World) (A : Option Addr) (n c : Nat) (S : Nat → Value) : Prop where
 room : n ≤ c
 cells : 0 < n → ∃ ad, A = some ad ∧ ∀ j, j < n → w.cell? (ad.add j) = some (S j)
theorem QX.ext {a b : World} {A : Option Addr} {n c : Nat} {S : Nat → Value} (h : QX a A n c S) (k : Ext a b) : QX b A n c S :=
 ⟨h.room, fun hn => by
  obtain ⟨ad, e, hc⟩ := h.cells hn
  exact ⟨ad, e, fun j hj => cell_ext k (hc j hj)⟩⟩
theorem QR.qx {B : Nat} {w : World} {v : Value} {k : Nat} {S : Nat → Value} (h : QR B w v k S) : ∃ A c, v = .slice A k c ∧ QX w A k c S := by
 have h0 := h
 rcases h.2 with ⟨rfl, rfl⟩ | ⟨g, cap, cur, rfl, _, hh, hle, _⟩
 ·exact ⟨none, 0, rfl, Nat.le_refl _, fun h => absurd h (by omega)⟩
 ·refine ⟨_, cap, rfl, hle, fun _ => ⟨_, rfl, fun j hj => ?_⟩⟩
  exact World.ownsRow.cells (g := g) h0 rfl j _ (by rw [List.getElem?_map, List.getElem?_range hj]; rfl)
structure QP (w : World) (A : Option Addr) (n c : Nat) (Aj : Nat → Option Addr) (Lj cj : Nat → Nat) (Bs : Nat → Nat → Option Addr) (ns cs : Nat → Nat → Nat) (f : Nat → Nat → Nat → Nat) : Prop where
 qx : QX w A n c (fun j => .slice (Aj j) (Lj j) (cj j))
 els : ∀ j, j < n → PB w (Aj j) (Lj j) (cj j) (Bs j) (ns j) (cs j) (f j)
theorem QP.ext {w w' : World} {A : Option Addr} {n c : Nat} {Aj : Nat → Option Addr} {Lj cj : Nat → Nat} {Bs : Nat → Nat → Option Addr} {ns cs : Nat → Nat → Nat} {f : Nat → Nat → Nat → Nat} (h : QP w A n c Aj Lj cj Bs ns cs f) (k : Ext w w') : QP w' A n c Aj Lj cj Bs ns cs f :=
 ⟨h.qx.ext k, fun j hj => (h.els j hj).ext k⟩
open Go.ChangeShapes Go.WideShapes Go.ChangeAt Go.RowKit Go.Joins
section
variable {H : Type} {enc : TypeId × Value → H}
structure QW (W : World) (A : Option Addr) (m c : Nat) (Aj : Nat → Option Addr) (Lj cj : Nat → Nat) (Bs : Nat → Nat → Option Addr) (ns cs : Nat → Nat → Nat) (f : Nat → Nat → Nat → Nat) : Prop where
 qx : QX W A m c (fun j => .slice (Aj j) (Lj j) (cj j))
 len : m ≤ maxLen
 els : ∀ j, j < m → PW W (Aj j) (Lj j) (cj j) (Bs j) (ns j) (cs j) (f j)
theorem c_ss : Tryz.prog.cellsOf 71 = 1 := by kernel_rfl
theorem poly_cells {W : World} {fuel : Nat} {v : Value} {x : DataW H × List MemPlace} (h : DataW.trod enc Tryz.prog W 0 (fun _ => true) true fuel 73 [v] = some x) :
    ∃ A L c As ns ds f, v = .slice A L c ∧ PW W A L c As ns ds f := by
 obtain ⟨xs, n, _, _, hl, hlen, hx⟩ := DataW.trod_struct Tryz.underlying73 h
 match xs, hlen with
 | [y0], _ =>
  have h0 : DataW.trod enc Tryz.prog W 0 (fun _ => true) true n 71 [v] = some y0 := by
   have h1 := hx 0 _ rfl
   simpa [c_ss] using h1
  obtain ⟨A, L, c, As, ns, ds, f, e0, hp⟩ := rows_cells h0
  simp at e0
  subst e0
  exact ⟨A, L, c, As, ns, ds, f, rfl, hp⟩
theorem choose7 {n : Nat} {R : Nat → Option Addr → Nat → Nat → (Nat → Option Addr) → (Nat → Nat) → (Nat → Nat) → (Nat → Nat → Nat) → Prop} (h : ∀ i, i < n → ∃ A L c As ns ds f, R i A L c As ns ds f) :
    ∃ (A : Nat → Option Addr) (L c : Nat → Nat) (As : Nat → Nat → Option Addr) (ns ds : Nat → Nat → Nat) (f : Nat → Nat → Nat → Nat), ∀ i, i < n → R i (A i) (L i) (c i) (As i) (ns i) (ds i) (f i) := by
 have h' : ∀ i, ∃ y : Option Addr × Nat × Nat × (Nat → Option Addr) × (Nat → Nat) × (Nat → Nat) × (Nat → Nat → Nat), i < n → R i y.1 y.2.1 y.2.2.1 y.2.2.2.1 y.2.2.2.2.1 y.2.2.2.2.2.1 y.2.2.2.2.2.2 := fun i => by
  by_cases hi : i < n
  ·obtain ⟨A, L, c, As, ns, ds, f, hr⟩ := h i hi
   exact ⟨(A, L, c, As, ns, ds, f), fun _ => hr⟩
  ·exact ⟨(none, 0, 0, fun _ => none, fun _ => 0, fun _ => 0, fun _ _ => 0), fun h => absurd h hi⟩
 obtain ⟨y, hy⟩ := Classical.axiomOfChoice h'
 exact ⟨fun i => (y i).1, fun i => (y i).2.1, fun i => (y i).2.2.1, fun i => (y i).2.2.2.1, fun i => (y i).2.2.2.2.1, fun i => (y i).2.2.2.2.2.1, fun i => (y i).2.2.2.2.2.2, hy⟩
theorem polys_cells {W : World} {fuel : Nat} {cs : List Value} {x : DataW H × List MemPlace} (h : DataW.trod enc Tryz.prog W 0 (fun _ => true) true fuel 26 cs = some x) :
    ∃ A m c Aj Lj cj Bs ns ds f, cs = [.slice A m c] ∧ QW W A m c Aj Lj cj Bs ns ds f := by
 rcases Deep.open_slice1 Tryz.underlying26 c_poly h with ⟨rfl, _⟩ | ⟨a, len, cap, m, n, V, D, Pl, rfl, _, hl, hm, hmm, _, hx⟩
 ·exact ⟨none, 0, 0, fun _ => none, fun _ => 0, fun _ => 0, fun _ _ => none, fun _ _ => 0, fun _ _ => 0, fun _ _ _ => 0, rfl, ⟨⟨Nat.le_refl _, fun h => absurd h (by omega)⟩, Nat.zero_le _, fun j hj => absurd hj (by omega)⟩⟩
 ·simp only [if_true] at hmm
  subst hmm
  obtain ⟨Aj, Lj, cj, Bs, ns, ds, f, hall⟩ := choose7 (n := len) (R := fun i A L c As ns ds f => V i = .slice A L c ∧ PW W A L c As ns ds f) (fun i hi => poly_cells (hx i (by omega)).2)
  refine ⟨some a, len, m, Aj, Lj, cj, Bs, ns, ds, f, rfl, ⟨⟨hl, fun _ => ⟨a, rfl, fun j hj => ?_⟩⟩, by omega, fun j hj => (hall j hj).2⟩⟩
  have := (hx j (by omega)).1
  rw [(hall j hj).1] at this
  exact this
theorem c_polys : Tryz.prog.cellsOf 26 = 1 := by kernel_rfl
theorem c_sw : Tryz.prog.cellsOf 45 = 2 := by kernel_rfl
theorem switch_open {W : World} {r : Reach} {b0 : Nat} {v : Value} {d : DataW H} {p : List MemPlace} (hv : Value.okWide Tryz.prog W r b0 45 v) (h : DataW.Trod enc Tryz.prog W 0 (fun _ => true) true 45 v d p) :
    ∃ Ab nb cb Bj Lb xb Bb nsb csb fb Aa na ca Aj La xa Ba nsa csa fa, v = .agg #[.slice Ab nb cb, .slice Aa na ca] ∧ QW W Ab nb cb Bj Lb xb Bb nsb csb fb ∧ QW W Aa na ca Aj La xa Ba nsa csa fa := by
 obtain ⟨cs, rfl, hsz⟩ := okWide_struct Tryz.underlying45 hv
 obtain ⟨fuel, hf⟩ := h
 obtain ⟨xs, n, _, _, hl, hlen, hx⟩ := DataW.trod_struct Tryz.underlying45 hf
 have hs := hsz.trans c_sw
 obtain ⟨c0, c1, rfl⟩ : ∃ c0 c1, cs = #[c0, c1] := by
  match cs, hs with
  | ⟨[c0, c1]⟩, _ => exact ⟨c0, c1, rfl⟩
 match xs, hlen with
 | [y0, y1], _ =>
  have h0 : DataW.trod enc Tryz.prog W 0 (fun _ => true) true n 26 [c0] = some y0 := by
   have h1 := hx 0 _ rfl
   simpa [Value.cells, c_polys] using h1
  have h1 : DataW.trod enc Tryz.prog W 0 (fun _ => true) true n 26 [c1] = some y1 := by
   have h1 := hx 1 _ rfl
   simpa [Value.cells, c_polys] using h1
  obtain ⟨Ab, nb, cb, Bj, Lb, xb, Bb, nsb, csb, fb, e0, hb⟩ := polys_cells h0
  obtain ⟨Aa, na, ca, Aj, La, xa, Ba, nsa, csa, fa, e1, ha⟩ := polys_cells h1
  simp at e0 e1
  subst e0 e1
  exact ⟨Ab, nb, cb, Bj, Lb, xb, Bb, nsb, csb, fb, Aa, na, ca, Aj, La, xa, Ba, nsa, csa, fa, rfl, hb, ha⟩
end
section
variable {H : Type} {enc : TypeId × Value → H}
theorem c_ci : Tryz.prog.cellsOf 28 = 1 := by kernel_rfl
theorem cipher_open {W : World} {r : Reach} {b0 : Nat} {v : Value} {d : DataW H} {p : List MemPlace} (hv : Value.okWide Tryz.prog W r b0 28 v) (h : DataW.Trod enc Tryz.prog W 0 (fun _ => true) true 28 v d p) :
    ∃ A m c Aj Lj cj Bs ns ds f, v = .agg #[.slice A m c] ∧ QW W A m c Aj Lj cj Bs ns ds f := by
 obtain ⟨cs, rfl, hsz⟩ := okWide_struct Tryz.underlying28 hv
 obtain ⟨fuel, hf⟩ := h
 obtain ⟨xs, n, _, _, hl, hlen, hx⟩ := DataW.trod_struct Tryz.underlying28 hf
 have hs := hsz.trans c_ci
 obtain ⟨c0, rfl⟩ : ∃ c0, cs = #[c0] := by
  match cs, hs with
  | ⟨[c0]⟩, _ => exact ⟨c0, rfl⟩
 match xs, hlen with
 | [y0], _ =>
  have h0 : DataW.trod enc Tryz.prog W 0 (fun _ => true) true n 26 [c0] = some y0 := by
   have h1 := hx 0 _ rfl
   simpa [Value.cells, c_polys] using h1
  obtain ⟨A, m, c, Aj, Lj, cj, Bs, ns, ds, f, e0, hb⟩ := polys_cells h0
  simp at e0
  subst e0
  exact ⟨A, m, c, Aj, Lj, cj, Bs, ns, ds, f, rfl, hb⟩
end
end Go.Proofs.YtjikdbcjabopnaaGreatDoor
