/-
  How graphs that are handed in read.
-/
import Derived.Test.YtmmninjiklgebaaJOpen
import Derived.Test.YtmmninjiklgebaaJLw
import Derived.Deep.Slices
namespace Go.Proofs.Ytmmninjiklgebaa
open Go.ChangeShapes Go.WideShapes Go.ChangeAt Go.RowKit Go.Joins
set_option linter.unusedVariables false
set_option maxRecDepth 100000

section
variable {H : Type} {enc : TypeId × Value → H}
theorem c_nodeJ : Try.prog.cellsOf 43 = 9 := by kernel_rfl
theorem c_graphJ : Try.prog.cellsOf 24 = 2 := by kernel_rfl
theorem node_cellsJ {W : World} {fuel : Nat} {cs : List Value} {y : DataW H × List MemPlace} (h : DataW.trod enc Try.prog W 0 (fun _ => true) true fuel 43 cs = some y) :
    ∃ (x : Nd) (As Ad Ab : Option Addr) (ns nd nb : Nat), cs = [.int .i64 x.k, .int .i64 x.a, .int .i64 x.b, .slice As x.sh.length ns, .int .i64 x.lo, .int .i64 x.hi, .int .i64 x.sz, .slice Ad x.da.length nd, .slice Ab x.bi.length nb] ∧ ZX W As x.sh.length ns x.sh ∧ ZX W Ad x.da.length nd x.da ∧ ZX W Ab x.bi.length nb x.bi := by
  obtain ⟨xs, n, _, _, hl, hlen, hx⟩ := DataW.trod_struct Try.underlying43 h
  have hs := hl.trans c_nodeJ
  obtain ⟨c0, c1, c2, c3, c4, c5, c6, c7, c8, rfl⟩ : ∃ c0 c1 c2 c3 c4 c5 c6 c7 c8, cs = [c0, c1, c2, c3, c4, c5, c6, c7, c8] := by
    match cs, hs with
    | [c0, c1, c2, c3, c4, c5, c6, c7, c8], _ => exact ⟨c0, c1, c2, c3, c4, c5, c6, c7, c8, rfl⟩
  have ei : Try.prog.cellsOf 3 = 1 := by kernel_rfl
  have es : Try.prog.cellsOf 32 = 1 := by kernel_rfl
  match xs, hlen with
  | [y0, y1, y2, y3, y4, y5, y6, y7, y8], _ =>
    have h0 : DataW.trod enc Try.prog W 0 (fun _ => true) true n 3 [c0] = some y0 := by
      have h1 := hx 0 _ rfl
      simpa [ei, es] using h1
    have h1 : DataW.trod enc Try.prog W 0 (fun _ => true) true n 3 [c1] = some y1 := by
      have h1 := hx 1 _ rfl
      simpa [ei, es] using h1
    have h2 : DataW.trod enc Try.prog W 0 (fun _ => true) true n 3 [c2] = some y2 := by
      have h1 := hx 2 _ rfl
      simpa [ei, es] using h1
    have h3 : DataW.trod enc Try.prog W 0 (fun _ => true) true n 32 [c3] = some y3 := by
      have h1 := hx 3 _ rfl
      simpa [ei, es] using h1
    have h4 : DataW.trod enc Try.prog W 0 (fun _ => true) true n 3 [c4] = some y4 := by
      have h1 := hx 4 _ rfl
      simpa [ei, es] using h1
    have h5 : DataW.trod enc Try.prog W 0 (fun _ => true) true n 3 [c5] = some y5 := by
      have h1 := hx 5 _ rfl
      simpa [ei, es] using h1
    have h6 : DataW.trod enc Try.prog W 0 (fun _ => true) true n 3 [c6] = some y6 := by
      have h1 := hx 6 _ rfl
      simpa [ei, es] using h1
    have h7 : DataW.trod enc Try.prog W 0 (fun _ => true) true n 32 [c7] = some y7 := by
      have h1 := hx 7 _ rfl
      simpa [ei, es] using h1
    have h8 : DataW.trod enc Try.prog W 0 (fun _ => true) true n 32 [c8] = some y8 := by
      have h1 := hx 8 _ rfl
      simpa [ei, es] using h1
    obtain ⟨v0, e0, _, _⟩ := DataW.trod_int Try.underlying3 h0
    obtain ⟨v1, e1, _, _⟩ := DataW.trod_int Try.underlying3 h1
    obtain ⟨v2, e2, _, _⟩ := DataW.trod_int Try.underlying3 h2
    obtain ⟨A3, n3, m3, v3, e3, z3, _, _, _⟩ := ints_cellsJ h3
    obtain rfl := z3.len
    obtain ⟨v4, e4, _, _⟩ := DataW.trod_int Try.underlying3 h4
    obtain ⟨v5, e5, _, _⟩ := DataW.trod_int Try.underlying3 h5
    obtain ⟨v6, e6, _, _⟩ := DataW.trod_int Try.underlying3 h6
    obtain ⟨A7, n7, m7, v7, e7, z7, _, _, _⟩ := ints_cellsJ h7
    obtain rfl := z7.len
    obtain ⟨A8, n8, m8, v8, e8, z8, _, _, _⟩ := ints_cellsJ h8
    obtain rfl := z8.len
    simp at e0 e1 e2 e3 e4 e5 e6 e7 e8
    subst e0 e1 e2 e3 e4 e5 e6 e7 e8
    exact ⟨⟨v0, v1, v2, v3, v4, v5, v6, v7, v8⟩, A3, A7, A8, m3, m7, m8, rfl, z3, z7, z8⟩
theorem nodes_cellsJ {W : World} {fuel : Nat} {cs : List Value} {y : DataW H × List MemPlace} (h : DataW.trod enc Try.prog W 0 (fun _ => true) true fuel 22 cs = some y) :
    ∃ (A : Option Addr) (c : Nat) (nodes : List Nd), cs = [.slice A nodes.length c] ∧ GW W A c nodes := by
  rcases Deep.open_slice Try.underlying22 h with ⟨rfl, _⟩ | ⟨a, len, cap, m, n, D, Pl, rfl, hb, hl, hm, hmm, _, hx⟩
  · exact ⟨none, 0, [], rfl, ⟨Nat.le_refl _, fun h => absurd h (by simp)⟩⟩
  · simp only [if_true] at hmm
    subst hmm
    have hall : ∀ i, i < len → ∃ x : Nd, ∃ As Ad Ab ns nd nb, (ZX W As x.sh.length ns x.sh ∧ ZX W Ad x.da.length nd x.da ∧ ZX W Ab x.bi.length nb x.bi) ∧
        (∀ (f : Nat) (v : Value), [Value.int .i64 x.k, .int .i64 x.a, .int .i64 x.b, .slice As x.sh.length ns, .int .i64 x.lo, .int .i64 x.hi, .int .i64 x.sz, .slice Ad x.da.length nd, .slice Ab x.bi.length nb][f]? = some v → W.cell? ((a.add (i * 9)).add f) = some v) := fun i hi => by
      obtain ⟨cs', h1, h2⟩ := hx i (by omega)
      rw [c_nodeJ] at h1
      obtain ⟨x, As, Ad, Ab, ns, nd, nb, rfl, z1, z2, z3⟩ := node_cellsJ h2
      obtain ⟨_, _, hc⟩ := World.cells?_some h1
      exact ⟨x, As, Ad, Ab, ns, nd, nb, ⟨z1, z2, z3⟩, fun f v hv => by
        have hf := (List.getElem?_eq_some_iff.1 hv).1
        have := hc f (by simpa using hf)
        rw [hv] at this
        exact this⟩
    have hinh : Inhabited Nd := ⟨⟨0, 0, 0, [], 0, 0, 0, [], []⟩⟩
    obtain ⟨X, hX⟩ := Deep.choose_lt hall
    refine ⟨some a, m, (List.range len).map X, by simp, ⟨by simp; omega, fun hn => ⟨a, rfl, fun j x hj => ?_⟩⟩⟩
    have hjl : j < len := by
      have := (List.getElem?_eq_some_iff.1 hj).1
      simpa using this
    rw [List.getElem?_map, List.getElem?_range hjl] at hj
    injection hj with hj
    subst hj
    exact hX j hjl
theorem graph_openJ {W : World} {r : Reach} {b0 : Nat} {v : Value} {d : DataW H} {p : List MemPlace} (hv : Value.okWide Try.prog W r b0 24 v) (h : DataW.Trod enc Try.prog W 0 (fun _ => true) true 24 v d p) :
    ∃ (A : Option Addr) (c : Nat) (nodes : List Nd) (out : Int), v = .agg #[.slice A nodes.length c, .int .i64 out] ∧ GW W A c nodes := by
  obtain ⟨cs, rfl, hsz⟩ := okWide_struct Try.underlying24 hv
  obtain ⟨fuel, hf⟩ := h
  obtain ⟨xs, n, _, _, hl, hlen, hx⟩ := DataW.trod_struct Try.underlying24 hf
  have hs := hsz.trans c_graphJ
  obtain ⟨c0, c1, rfl⟩ : ∃ c0 c1, cs = #[c0, c1] := by
    match cs, hs with
    | ⟨[c0, c1]⟩, _ => exact ⟨c0, c1, rfl⟩
  have ei : Try.prog.cellsOf 3 = 1 := by kernel_rfl
  have en : Try.prog.cellsOf 22 = 1 := by kernel_rfl
  match xs, hlen with
  | [y0, y1], _ =>
    have h0 : DataW.trod enc Try.prog W 0 (fun _ => true) true n 22 [c0] = some y0 := by
      have h1 := hx 0 _ rfl
      simpa [Value.cells, ei, en] using h1
    have h1 : DataW.trod enc Try.prog W 0 (fun _ => true) true n 3 [c1] = some y1 := by
      have h1 := hx 1 _ rfl
      simpa [Value.cells, ei, en] using h1
    obtain ⟨A, c, nodes, e0, hg⟩ := nodes_cellsJ h0
    obtain ⟨out, e1, _, _⟩ := DataW.trod_int Try.underlying3 h1
    simp at e0 e1
    subst e0 e1
    exact ⟨A, c, nodes, out, rfl, hg⟩
end
end Go.Proofs.Ytmmninjiklgebaa
