/-
  What slices.Grow and slices.Concat make of lists of elements.
-/
import Derived.Test.YtcnogmhkffohgaaGreatDoorW28
import Derived.Test.YtcnogmhkffohgaaGreatDoorW32
import Derived.Lib.AppendZerosOnto
import Derived.Lib.SliceRun
import Derived.Test.YtcnogmhkffohgaaGreatDoorWGOpen
namespace Go.Proofs.YtcnogmhkffohgaaGreatDoor
open Go.RowKit
set_option linter.unusedVariables false
set_option maxRecDepth 100000

theorem info_poly : (Tryz.prog.info? 36).map (fun i => (i.zero, i.size, i.bytes)) = some (some (.agg #[.slice none 0 0]), 1, 24) := by kernel_rfl
/-- A list of elements that is being made, from block B on. -/
def QR (B : Nat) (w : World) (v : Value) (k : Nat) (S : Nat → Value) : Prop := w.ownsRow B 36 1 v k ((List.range k).map S)
theorem QR.ext {B : Nat} {w w' : World} {v : Value} {k : Nat} {S : Nat → Value} (h : QR B w v k S) (hb : Ext w w') : QR B w' v k S := by
  refine ⟨h.1, ?_⟩
  rcases h.2 with h0 | ⟨g, cap, cur, e, hg, hh, h1⟩
  · exact .inl h0
  · exact .inr ⟨g, cap, cur, e, hg, (hb.block g (Array.getElem?_eq_some_iff.1 hh).1).trans hh, h1⟩
theorem QR.congr {B : Nat} {w : World} {v : Value} {k : Nat} {S S' : Nat → Value} (h : QR B w v k S) (e : ∀ j, j < k → S j = S' j) : QR B w v k S' := by
  unfold QR at h ⊢
  rwa [List.map_congr_left (fun j hj => e j (List.mem_range.1 hj))] at h
/-- A list of slices, wherever it lies. -/
structure QX (w : World) (A : Option Addr) (n c : Nat) (S : Nat → Value) : Prop where
  room : n ≤ c
  cells : 0 < n → ∃ ad, A = some ad ∧ ∀ j, j < n → w.cell? (ad.add j) = some (S j)
theorem QX.ext {a b : World} {A : Option Addr} {n c : Nat} {S : Nat → Value} (h : QX a A n c S) (k : Ext a b) : QX b A n c S :=
  ⟨h.room, fun hn => by
    obtain ⟨ad, e, hc⟩ := h.cells hn
    exact ⟨ad, e, fun j hj => cell_ext k (hc j hj)⟩⟩
theorem QR.qx {B : Nat} {w : World} {v : Value} {k : Nat} {S : Nat → Value} (h : QR B w v k S) : ∃ A c, v = .slice A k c ∧ QX w A k c S := by
  have h0 := h
  rcases h.2 with ⟨rfl, rfl⟩ | ⟨g, cap, cur, rfl, _, hh, hle, _⟩
  · exact ⟨none, 0, rfl, Nat.le_refl _, fun h => absurd h (by omega)⟩
  · refine ⟨_, cap, rfl, hle, fun _ => ⟨_, rfl, fun j hj => ?_⟩⟩
    exact World.ownsRow.cells (g := g) h0 rfl j _ (by rw [List.getElem?_map, List.getElem?_range hj]; rfl)
theorem wpList_growP {w0 : World} {ops : Array Oper} {rest : List Oper} {o : Oper} {a : Act} {Q : Exit → Act → World → Prop} (hgd : o.guard = none) (s x : Operand)
    (ho : o.op = .call { callee := .builtin .append, args := #[s, x], argTypes := #[26, 3] })
    (n : Nat) (h0 : 0 < n) (hn : n ≤ 1000) (hs : a.eval s = .slice none 0 0) (hx : a.eval x = .int .i64 (n : Int))
    (h : ∀ cap cur, n ≤ cap → cap ≤ maxLen → cur.size = cap → wpList Tryz.prog ops Q rest (a.put o.dst (.slice (some ⟨w0.heap.size, 0, none⟩) n cap)) (w0.drew.alloc (.cells cur 36))) : wpList Tryz.prog ops Q (o :: rest) a w0 := by
  obtain ⟨i0, hi, hz0, hz1, hz2⟩ := info_parts info_poly
  refine wpList_plain hgd fun K hK => ?_
  have hnc : Builtin.nextslicecap (0 + n) 0 ≤ 2 * (0 + n) := nextslicecap_le (by omega)
  have hrun := Lib.run_append_grow_zeros (P := Tryz.prog) w0 26 3 o.type 36 i0 _ .i64 .i64 Tryz.underlying26 Tryz.underlying3 hi hz0 none 0 0 [] (by
      rfl) n h0 (by omega) (by omega) (by omega) (by rw [hz2]; omega) (by rw [hz2]; omega)
  have hge := grownCap_ge w0 (0 + n) 0 36
  have hcm := grownCap_le_maxLen w0 (0 + n) 0 36 (by unfold maxLen; omega)
  have hz' : ((.agg #[.slice none 0 0] : Value).cells.size) = 1 := rfl
  unfold Oper.wp
  simp only [execOp, ho, resolve, invoke, builtin, hs, hx, hrun, Sem.run_bind, Sem.run_pure, Result.andThen_ok, List.map_toArray, List.map_cons, List.map_nil]
  rw [Nat.zero_add] at *
  refine hK _ _ (h _ _ hge hcm ?_)
  simp only [Array.size_append, List.size_toArray, List.length_nil, size_zeroCells, hz', Nat.mul_one]
  omega
theorem own_upto {w : World} {g cap B : Nat} {cur : Array Value} (hB : B ≤ g) (hh : w.heap[g]? = some (.cells cur 36)) (hm : cap ≤ maxLen) (hc : cur.size = cap) (S : Nat → Value) : QR B w (.slice (some ⟨g, 0, none⟩) 0 cap) 0 S :=
  ⟨rfl, .inr ⟨g, cap, cur, rfl, hB, hh, Nat.zero_le _, hm, by rw [hc, Nat.mul_one], rfl⟩⟩
set_option maxHeartbeats 2000000 in
theorem growP_any (n : Nat) (S : Nat → Value) (w : World) (hn : n ≤ 1000) :
    Calls Tryz.prog 45 #[.slice none 0 0, .int .i64 (n : Int)] w fun ee w' => ∃ v, ee = .returned v ∧ QR w.heap.size w' v 0 S ∧ Ext w w' := by
  rcases Nat.eq_zero_or_pos n with rfl | h0
  · go_enter Tryz.func45, Tryz.ntmps45
    go_wp2
    go_ret
    exact ⟨_, rfl, World.ownsRow_nil _ _ _ _, Ext.refl w⟩
  · have b0 : ¬ ((n : Int) < 0) := by omega
    have b1 : (n : Int) > 0 := by omega
    go_enter Tryz.func45, Tryz.ntmps45
    go_wp2_with (at_builtin; go_loud (refine wpList_growP rfl _ _ rfl n h0 hn rfl rfl ?_; intro cap cur hc1 hc2 hc3))
    go_ret
    exact ⟨_, rfl, own_upto (Nat.le_refl _) (heap_alloc_new w _) hc2 hc3 S, ((Ext.refl w).drew).alloc _⟩
/-- Appending a list of elements to one's own. -/
theorem wpList_appP {w0 w : World} {ops : Array Oper} {rest : List Oper} {o : Oper} {a : Act} {Q : Exit → Act → World → Prop} (hgd : o.guard = none) (s x : Operand)
    (ho : o.op = .call { callee := .builtin .append, args := #[s, x], argTypes := #[26, 26] })
    (hE : Ext w0 w) (v : Value) (k : Nat) (T : Nat → Value) (hs : a.eval s = v) (own : QR w0.heap.size w v k T) (A : Option Addr) (n c : Nat) (S : Nat → Value) (hx : a.eval x = .slice A n c) (hX : QX w A n c S)
    (h1 : ∀ i, i < n → (S i).oneCell' = true) (hk : k ≤ 1000) (hn : n ≤ 1000)
    (h : ∀ v' w', QR w0.heap.size w' v' (k + n) (fun i => if i < k then T i else S (i - k)) → Ext w0 w' → wpList Tryz.prog ops Q rest (a.put o.dst v') w') : wpList Tryz.prog ops Q (o :: rest) a w := by
  obtain ⟨i0, hi, hz0, hz1, hz2⟩ := info_parts info_poly
  have hrow : (List.range k).map T ++ (List.range n).map S = (List.range (k + n)).map (fun i => if i < k then T i else S (i - k)) := by
    rw [List.range_add, List.map_append, List.map_map]
    congr 1
    · exact List.map_congr_left fun i hi => by rw [if_pos (List.mem_range.1 hi)]
    · exact List.map_congr_left fun i hi => by
        show S i = if k + i < k then T (k + i) else S (k + i - k)
        rw [if_neg (by omega), Nat.add_sub_cancel_left]
  rcases A with _ | ad
  · have hn0 : n = 0 := by
      rcases Nat.eq_zero_or_pos n with h0 | h0
      · exact h0
      · obtain ⟨ad, e, _⟩ := hX.cells h0
        cases e
    subst hn0
    obtain ⟨A', c', hv, hQ⟩ := own.qx
    subst hv
    refine wpList_plain hgd fun K hK => ?_
    have hrun := run_append_nothing (P := Tryz.prog) w 26 26 o.type 36 i0 Tryz.underlying26 hi A' k c' hQ.room (.slice none 0 c) (Src.ofNil _ Tryz.underlying26 c)
    unfold Oper.wp
    simp [execOp, ho, resolve, invoke, builtin, hs, hx, hrun, Result.andThen]
    exact hK _ _ (h _ _ (own.congr fun j hj => by rw [if_pos hj]) hE)
  · refine wpList_append_own _ hgd s x 26 ho w0.heap.size 36 i0 _ 1 24 Tryz.underlying26 hi hz0 hz1 hz2 rfl (by decide) _ _ _ hs own ad n c ((List.range n).map S) hx (by simp) (fun j u hu => ?_) (fun u hu => ?_) (by unfold maxLen; omega) (by omega) hE.size ?_
    · by_cases hj : j < n
      · rw [List.getElem?_map, List.getElem?_range hj] at hu
        simp only [Option.map_some, Option.some.injEq] at hu
        obtain ⟨ad', e, hc⟩ := hX.cells (by omega)
        injection e with e
        subst e
        rw [← hu]
        exact hc j hj
      · rw [List.getElem?_eq_none (by simp; omega)] at hu
        cases hu
    · obtain ⟨j, hj, rfl⟩ := List.mem_map.1 hu
      exact h1 j (List.mem_range.1 hj)
    · intro v2 w2 hown2 hgrow2 _
      refine h v2 w2 ?_ (Below.grown hE hgrow2 hE.size (fun k e => (own.lt k e).1))
      unfold QR
      rw [← hrow]
      exact hown2
set_option maxHeartbeats 4000000 in
theorem concatP_any (g n c n' c' : Nat) (A A' : Option Addr) (S S' : Nat → Value) (w : World) (h0 : w.cell? ⟨g, 0, none⟩ = some (.slice A n c)) (h1 : w.cell? ⟨g, 1, none⟩ = some (.slice A' n' c')) (hX : QX w A n c S) (hX' : QX w A' n' c' S') (hn : n ≤ 400) (hn' : n' ≤ 400)
    (hS : Hid (∀ i, i < n → (S i).oneCell' = true)) (hS' : Hid (∀ i, i < n' → (S' i).oneCell' = true)) :
    Calls Tryz.prog 23 #[.slice (some ⟨g, 0, none⟩) 2 2] w fun ee w' => ∃ A2 c2, ee = .returned (.slice A2 (n + n') c2) ∧ QX w' A2 (n + n') c2 (fun i => if i < n then S i else S' (i - n)) ∧ Ext w w' := by
  have HX := Lib.hid hX
  have HX' := Lib.hid hX'
  clear hX hX'
  go_enter Tryz.func23, Tryz.ntmps23
  go_wp2
  go_loop [3, 11] (fun s i => ∃ k : Nat, k ≤ 2 ∧ i = .int .i64 (k : Int) ∧ s = .int .i64 ((if k = 0 then 0 else if k = 1 then n else n + n' : Nat) : Int)) (fun _ i => 2 - (intOf i).toNat)
  case atStart => exact ⟨0, by omega, rfl, rfl⟩
  case round =>
    obtain ⟨k, hk, rfl, rfl⟩ := hrel
    rcases (show k = 0 ∨ k = 1 ∨ k = 2 by omega) with rfl | rfl | rfl
    · have p0 : ¬ ((n : Int) < 0) := by omega
      go_wp2
      go_round
      case rel => exact ⟨1, by omega, by go_num, by first | rfl | go_num⟩
      case measure => simp [intOf]
    · have p0 : ¬ ((n : Int) + (n' : Int) < 0) := by omega
      go_wp2
      go_round
      case rel => exact ⟨2, by omega, by go_num, by first | rfl | go_num⟩
      case measure => simp [intOf]
    · go_wp2_with fail
      refine (growP_any (n + n') (fun i => if i < n then S i else S' (i - n)) w (by omega)).mono ?_
      rintro ee w1 ⟨v, rfl, hq, k1⟩
      have y0 := h0
      have y1 := h1
      have z0 := cell_ext k1 h0
      have z1 := cell_ext k1 h1
      have HQ := Lib.hid hq
      clear hq h0 h1
      go_wp2
      go_loopw [6, 27] (fun v i wr => ∃ k : Nat, k ≤ 2 ∧ i = .int .i64 (k : Int) ∧ QR w.heap.size wr v (if k = 0 then 0 else if k = 1 then n else n + n') (fun i => if i < n then S i else S' (i - n)) ∧ Ext w wr) (fun _ i _ => 2 - (intOf i).toNat)
      case atStart => exact ⟨0, by omega, rfl, HQ.out, k1⟩
      case round =>
        obtain ⟨k, hk, rfl, hqr, kr⟩ := hrel
        have HQR := Lib.hid hqr
        clear hqr HQ k1
        rcases (show k = 0 ∨ k = 1 ∨ k = 2 by omega) with rfl | rfl | rfl
        · have c0 := cell_ext kr y0
          go_wp2_with (at_builtin; go_loud (refine wpList_appP rfl _ _ rfl kr _ 0 _ rfl HQR.out A n c S rfl (HX.out.ext kr) hS.out (by omega) (by omega) ?_; intro v2 w2 hq2 k2))
          go_roundw
          case rel => exact ⟨1, by omega, by go_num, by
            rw [Nat.zero_add] at hq2
            exact hq2.congr fun i hi => by rw [if_neg (by omega), if_pos (by omega)]; rfl, k2⟩
          case measure => simp [intOf]
        · have c1 := cell_ext kr y1
          go_wp2_with (at_builtin; go_loud (refine wpList_appP rfl _ _ rfl kr _ n _ rfl HQR.out A' n' c' S' rfl (HX'.out.ext kr) hS'.out (by omega) (by omega) ?_; intro v2 w2 hq2 k2))
          go_roundw
          case rel => exact ⟨2, by omega, by go_num, by
            exact hq2.congr fun i hi => by
              by_cases e : i < n
              · rw [if_pos e, if_pos e]
              · rw [if_neg e, if_neg e], k2⟩
          case measure => simp [intOf]
        · obtain ⟨A2, c2, rfl, hx2⟩ := HQR.out.qx
          go_wp2
          go_ret
          exact ⟨A2, c2, rfl, hx2, kr⟩
end Go.Proofs.YtcnogmhkffohgaaGreatDoor

/-
  Lists of elements, one behind the other.
-/
namespace Go.Proofs.YtcnogmhkffohgaaGreatDoor
open Go.RowKit
set_option linter.unusedVariables false
set_option maxRecDepth 100000

/-- The first n by one function, what is behind by another. -/
def catF {α : Type} (n : Nat) (x y : Nat → α) (i : Nat) : α := if i < n then x i else y (i - n)
/-- A list of lists of lists, wherever it lies. -/
structure QP (w : World) (A : Option Addr) (n c : Nat) (Aj : Nat → Option Addr) (Lj cj : Nat → Nat) (Bs : Nat → Nat → Option Addr) (ns cs : Nat → Nat → Nat) (f : Nat → Nat → Nat → Nat) : Prop where
  qx : QX w A n c (fun j => .slice (Aj j) (Lj j) (cj j))
  els : ∀ j, j < n → PB w (Aj j) (Lj j) (cj j) (Bs j) (ns j) (cs j) (f j)
theorem QP.ext {w w' : World} {A : Option Addr} {n c : Nat} {Aj : Nat → Option Addr} {Lj cj : Nat → Nat} {Bs : Nat → Nat → Option Addr} {ns cs : Nat → Nat → Nat} {f : Nat → Nat → Nat → Nat} (h : QP w A n c Aj Lj cj Bs ns cs f) (k : Ext w w') : QP w' A n c Aj Lj cj Bs ns cs f :=
  ⟨h.qx.ext k, fun j hj => (h.els j hj).ext k⟩
theorem QP.cat {w : World} {A A' A2 : Option Addr} {n c n' c' c2 : Nat} {Aj Aj' : Nat → Option Addr} {Lj cj Lj' cj' : Nat → Nat} {Bs Bs' : Nat → Nat → Option Addr} {ns cs ns' cs' : Nat → Nat → Nat} {f f' : Nat → Nat → Nat → Nat}
    (h : QP w A n c Aj Lj cj Bs ns cs f) (h' : QP w A' n' c' Aj' Lj' cj' Bs' ns' cs' f')
    (hX : QX w A2 (n + n') c2 (fun i => if i < n then .slice (Aj i) (Lj i) (cj i) else .slice (Aj' (i - n)) (Lj' (i - n)) (cj' (i - n)))) :
    QP w A2 (n + n') c2 (catF n Aj Aj') (catF n Lj Lj') (catF n cj cj') (catF n Bs Bs') (catF n ns ns') (catF n cs cs') (catF n f f') := by
  refine ⟨⟨hX.room, fun h0 => ?_⟩, fun j hj => ?_⟩
  · obtain ⟨ad, e, hc⟩ := hX.cells h0
    refine ⟨ad, e, fun j hj => ?_⟩
    rw [hc j hj]
    unfold catF
    by_cases g : j < n
    · simp only [if_pos g]
    · simp only [if_neg g]
  · unfold catF
    by_cases g : j < n
    · simp only [if_pos g]; exact h.els j g
    · simp only [if_neg g]; exact h'.els (j - n) (by omega)
theorem concatQ_any (g n c n' c' : Nat) (A A' : Option Addr) (Aj Aj' : Nat → Option Addr) (Lj cj Lj' cj' : Nat → Nat) (Bs Bs' : Nat → Nat → Option Addr) (ns cs ns' cs' : Nat → Nat → Nat) (f f' : Nat → Nat → Nat → Nat) (w : World) (h0 : w.cell? ⟨g, 0, none⟩ = some (.slice A n c)) (h1 : w.cell? ⟨g, 1, none⟩ = some (.slice A' n' c'))
    (h : QP w A n c Aj Lj cj Bs ns cs f) (h' : QP w A' n' c' Aj' Lj' cj' Bs' ns' cs' f') (hn : n ≤ 400) (hn' : n' ≤ 400) :
    Calls Tryz.prog 23 #[.slice (some ⟨g, 0, none⟩) 2 2] w fun ee w' => ∃ A2 c2, ee = .returned (.slice A2 (n + n') c2) ∧ QP w' A2 (n + n') c2 (catF n Aj Aj') (catF n Lj Lj') (catF n cj cj') (catF n Bs Bs') (catF n ns ns') (catF n cs cs') (catF n f f') ∧ Ext w w' :=
  (concatP_any g n c n' c' A A' _ _ w h0 h1 h.qx h'.qx hn hn' (Lib.hid fun _ _ => rfl) (Lib.hid fun _ _ => rfl)).mono fun ee w' ⟨A2, c2, he, hX, k⟩ => ⟨A2, c2, he, QP.cat (h.ext k) (h'.ext k) hX, k⟩
end Go.Proofs.YtcnogmhkffohgaaGreatDoor

/-
  How lists of elements, and switches, that are handed in read.
-/
namespace Go.Proofs.YtcnogmhkffohgaaGreatDoor
open Go.ChangeShapes Go.WideShapes Go.ChangeAt Go.RowKit Go.Joins
set_option linter.unusedVariables false
set_option maxRecDepth 100000

section
variable {H : Type} {enc : TypeId × Value → H}
/-- A list of elements that is handed in. -/
structure QW (W : World) (A : Option Addr) (m c : Nat) (Aj : Nat → Option Addr) (Lj cj : Nat → Nat) (Bs : Nat → Nat → Option Addr) (ns cs : Nat → Nat → Nat) (f : Nat → Nat → Nat → Nat) : Prop where
  qx : QX W A m c (fun j => .slice (Aj j) (Lj j) (cj j))
  len : m ≤ maxLen
  els : ∀ j, j < m → PW W (Aj j) (Lj j) (cj j) (Bs j) (ns j) (cs j) (f j)
theorem c_ss : Tryz.prog.cellsOf 34 = 1 := by kernel_rfl
theorem poly_cells {W : World} {fuel : Nat} {v : Value} {x : DataW H × List MemPlace} (h : DataW.trod enc Tryz.prog W 0 (fun _ => true) true fuel 36 [v] = some x) :
    ∃ A L c As ns ds f, v = .slice A L c ∧ PW W A L c As ns ds f := by
  obtain ⟨xs, n, _, _, hl, hlen, hx⟩ := DataW.trod_struct Tryz.underlying36 h
  match xs, hlen with
  | [y0], _ =>
    have h0 : DataW.trod enc Tryz.prog W 0 (fun _ => true) true n 34 [v] = some y0 := by
      have h1 := hx 0 _ rfl
      simpa [c_ss] using h1
    obtain ⟨A, L, c, As, ns, ds, f, e0, hp⟩ := rows_cells h0
    simp at e0
    subst e0
    exact ⟨A, L, c, As, ns, ds, f, rfl, hp⟩
theorem choose7 {n : Nat} {R : Nat → Option Addr → Nat → Nat → (Nat → Option Addr) → (Nat → Nat) → (Nat → Nat) → (Nat → Nat → Nat) → Prop} (h : ∀ i, i < n → ∃ A L c As ns ds f, R i A L c As ns ds f) :
    ∃ (A : Nat → Option Addr) (L c : Nat → Nat) (As : Nat → Nat → Option Addr) (ns ds : Nat → Nat → Nat) (f : Nat → Nat → Nat → Nat), ∀ i, i < n → R i (A i) (L i) (c i) (As i) (ns i) (ds i) (f i) := by
  have h' : ∀ i, ∃ y : Option Addr × Nat × Nat × (Nat → Option Addr) × (Nat → Nat) × (Nat → Nat) × (Nat → Nat → Nat), i < n → R i y.1 y.2.1 y.2.2.1 y.2.2.2.1 y.2.2.2.2.1 y.2.2.2.2.2.1 y.2.2.2.2.2.2 := fun i => by
    by_cases hi : i < n
    · obtain ⟨A, L, c, As, ns, ds, f, hr⟩ := h i hi
      exact ⟨(A, L, c, As, ns, ds, f), fun _ => hr⟩
    · exact ⟨(none, 0, 0, fun _ => none, fun _ => 0, fun _ => 0, fun _ _ => 0), fun h => absurd h hi⟩
  obtain ⟨y, hy⟩ := Classical.axiomOfChoice h'
  exact ⟨fun i => (y i).1, fun i => (y i).2.1, fun i => (y i).2.2.1, fun i => (y i).2.2.2.1, fun i => (y i).2.2.2.2.1, fun i => (y i).2.2.2.2.2.1, fun i => (y i).2.2.2.2.2.2, hy⟩
theorem polys_cells {W : World} {fuel : Nat} {cs : List Value} {x : DataW H × List MemPlace} (h : DataW.trod enc Tryz.prog W 0 (fun _ => true) true fuel 26 cs = some x) :
    ∃ A m c Aj Lj cj Bs ns ds f, cs = [.slice A m c] ∧ QW W A m c Aj Lj cj Bs ns ds f := by
  rcases Deep.open_slice1 Tryz.underlying26 c_poly h with ⟨rfl, _⟩ | ⟨a, len, cap, m, n, V, D, Pl, rfl, _, hl, hm, hmm, _, hx⟩
  · exact ⟨none, 0, 0, fun _ => none, fun _ => 0, fun _ => 0, fun _ _ => none, fun _ _ => 0, fun _ _ => 0, fun _ _ _ => 0, rfl, ⟨⟨Nat.le_refl _, fun h => absurd h (by omega)⟩, Nat.zero_le _, fun j hj => absurd hj (by omega)⟩⟩
  · simp only [if_true] at hmm
    subst hmm
    obtain ⟨Aj, Lj, cj, Bs, ns, ds, f, hall⟩ := choose7 (n := len) (R := fun i A L c As ns ds f => V i = .slice A L c ∧ PW W A L c As ns ds f) (fun i hi => poly_cells (hx i (by omega)).2)
    refine ⟨some a, len, m, Aj, Lj, cj, Bs, ns, ds, f, rfl, ⟨⟨hl, fun _ => ⟨a, rfl, fun j hj => ?_⟩⟩, by omega, fun j hj => (hall j hj).2⟩⟩
    have := (hx j (by omega)).1
    rw [(hall j hj).1] at this
    exact this
theorem c_polys : Tryz.prog.cellsOf 26 = 1 := by kernel_rfl
theorem polys_open {W : World} {v : Value} {d : DataW H} {p : List MemPlace} (h : DataW.Trod enc Tryz.prog W 0 (fun _ => true) true 26 v d p) :
    ∃ A m c Aj Lj cj Bs ns ds f, v.cells.toList = [.slice A m c] ∧ QW W A m c Aj Lj cj Bs ns ds f := by
  obtain ⟨fuel, hf⟩ := h
  exact polys_cells hf
end
end Go.Proofs.YtcnogmhkffohgaaGreatDoor

/-
  What slices.Min and slices.Max tell of numbers.
-/
namespace Go.Proofs.YtcnogmhkffohgaaGreatDoor
open Go.RowKit
set_option linter.unusedVariables false
set_option maxRecDepth 100000

theorem info_intS : (Tryz.prog.info? 3).map (fun i => (i.zero, i.size, i.bytes)) = some (some (.int .i64 0), 1, 8) := by kernel_rfl
def newIS (c : Nat) : Array Value := ((List.range c).map fun _ => Value.int .i64 0).toArray
/-- A row of numbers. -/
def IWS (w : World) (g n : Nat) (z : Nat → Int) : Prop := RW w g 3 n (fun i => .int .i64 (z i))
theorem newIS_rw (w : World) (c : Nat) : IWS (w.alloc (.cells (newIS c) 3)) w.heap.size c (fun _ => 0) := heap_alloc_new w _
theorem make_intS (c : Nat) (hc : c ≤ 1000000) (w : World) :
    (Instr.makeSlice 83 (.int .i64 (c : Int)) (.int .i64 (c : Int))).run Tryz.prog w = .ok (.slice (some ⟨w.heap.size, 0, none⟩) c c) (w.alloc (.cells (newIS c) 3)) := by
  obtain ⟨i0, hi, hz0, hz1, hz2⟩ := info_parts info_intS
  have hr := run_make (P := Tryz.prog) w 83 3 i0 (.int .i64 0) Tryz.underlying83 hi hz0 .i64 .i64 (c : Int) (c : Int) (by omega) (by omega) (by rw [hz2]; omega) (by omega)
  rw [hz1] at hr
  simp only [Int.toNat_natCast] at hr
  rw [hr]
  have e : madeCells (Value.int .i64 0).cells (c * 1) = newIS c := by
    apply Array.toList_inj.1
    unfold newIS madeCells
    apply List.ext_getElem?
    intro j
    by_cases hj : j < c
    · simp [hj, Value.cells, Nat.mod_one]
    · simp [hj]
  rw [e]
def minF (z : Nat → Int) : Nat → Int
  | 0 => z 0
  | k + 1 => min (minF z k) (z (k + 1))
def maxF (z : Nat → Int) : Nat → Int
  | 0 => z 0
  | k + 1 => max (maxF z k) (z (k + 1))
theorem min_le (z : Nat → Int) : ∀ k i, i ≤ k → minF z k ≤ z i
  | 0, i, h => by have : i = 0 := by omega
                  subst this; exact Int.le_refl _
  | k + 1, i, h => by
    show min (minF z k) (z (k + 1)) ≤ z i
    rcases Nat.lt_or_ge i (k + 1) with g | g
    · have := min_le z k i (by omega); omega
    · have : i = k + 1 := by omega
      subst this; omega
theorem max_ge (z : Nat → Int) : ∀ k i, i ≤ k → z i ≤ maxF z k
  | 0, i, h => by have : i = 0 := by omega
                  subst this; exact Int.le_refl _
  | k + 1, i, h => by
    show z i ≤ max (maxF z k) (z (k + 1))
    rcases Nat.lt_or_ge i (k + 1) with g | g
    · have := max_ge z k i (by omega); omega
    · have : i = k + 1 := by omega
      subst this; omega
theorem min_is (z : Nat → Int) : ∀ k, ∃ i, i ≤ k ∧ minF z k = z i
  | 0 => ⟨0, Nat.le_refl _, rfl⟩
  | k + 1 => by
    obtain ⟨i, hi, e⟩ := min_is z k
    show ∃ i, i ≤ k + 1 ∧ min (minF z k) (z (k + 1)) = z i
    rcases Int.lt_or_le (minF z k) (z (k + 1)) with g | g
    · exact ⟨i, by omega, by omega⟩
    · exact ⟨k + 1, by omega, by omega⟩
theorem max_is (z : Nat → Int) : ∀ k, ∃ i, i ≤ k ∧ maxF z k = z i
  | 0 => ⟨0, Nat.le_refl _, rfl⟩
  | k + 1 => by
    obtain ⟨i, hi, e⟩ := max_is z k
    show ∃ i, i ≤ k + 1 ∧ max (maxF z k) (z (k + 1)) = z i
    rcases Int.lt_or_le (z (k + 1)) (maxF z k) with g | g
    · exact ⟨i, by omega, by omega⟩
    · exact ⟨k + 1, by omega, by omega⟩
theorem all_same (z : Nat → Int) (k : Nat) : minF z k = maxF z k ↔ ∀ i, i ≤ k → z i = z 0 := by
  constructor
  · intro h i hi
    have := min_le z k i hi
    have := max_ge z k i hi
    have := min_le z k 0 (by omega)
    have := max_ge z k 0 (by omega)
    omega
  · intro h
    obtain ⟨i, hi, e⟩ := min_is z k
    obtain ⟨j, hj, e'⟩ := max_is z k
    rw [e, e', h i hi, h j hj]
set_option maxHeartbeats 1000000 in
theorem minI_any (g n : Nat) (z : Nat → Int) (w : World) (hX : IWS w g (n + 1) z) (hn : n ≤ 1000) (hz : Hid (∀ i, i ≤ n → -1000000 ≤ z i ∧ z i ≤ 1000000)) :
    Calls Tryz.prog 43 #[.slice (some ⟨g, 0, none⟩) (n + 1) (n + 1)] w fun ee w' => ee = .returned (.int .i64 (minF z n)) ∧ w = w' := by
  have c0 := RW.cell hX (i := 0) (by omega)
  have b0 : ¬ (((n + 1 : Nat) : Int) < 1) := by omega
  go_enter Tryz.func43, Tryz.ntmps43
  go_wp2
  go_loop [3, 4] (fun m i => ∃ k : Nat, k ≤ n ∧ i = .int .i64 ((k + 1 : Nat) : Int) ∧ m = .int .i64 (minF z k)) (fun _ i => n + 1 - (intOf i).toNat)
  case atStart => exact ⟨0, by omega, rfl, rfl⟩
  case round =>
    obtain ⟨k, hk, rfl, rfl⟩ := hrel
    by_cases hlt : k < n
    · have c1 := RW.cell hX (i := k + 1) (by omega)
      have hz1 := hz.out (k + 1) (by omega)
      go_wp2
      all_goals
        go_round
        case rel => exact ⟨k + 1, by omega, by go_num, by show _ = Value.int .i64 (min (minF z k) (z (k + 1))); first | rfl | go_num | (congr 1; omega)⟩
        case measure => simp [intOf]; omega
    · obtain rfl : k = n := by omega
      go_wp2
      go_ret
      exact ⟨rfl, rfl⟩
set_option maxHeartbeats 1000000 in
theorem maxI_any (g n : Nat) (z : Nat → Int) (w : World) (hX : IWS w g (n + 1) z) (hn : n ≤ 1000) (hz : Hid (∀ i, i ≤ n → -1000000 ≤ z i ∧ z i ≤ 1000000)) :
    Calls Tryz.prog 44 #[.slice (some ⟨g, 0, none⟩) (n + 1) (n + 1)] w fun ee w' => ee = .returned (.int .i64 (maxF z n)) ∧ w = w' := by
  have c0 := RW.cell hX (i := 0) (by omega)
  have b0 : ¬ (((n + 1 : Nat) : Int) < 1) := by omega
  go_enter Tryz.func44, Tryz.ntmps44
  go_wp2
  go_loop [3, 4] (fun m i => ∃ k : Nat, k ≤ n ∧ i = .int .i64 ((k + 1 : Nat) : Int) ∧ m = .int .i64 (maxF z k)) (fun _ i => n + 1 - (intOf i).toNat)
  case atStart => exact ⟨0, by omega, rfl, rfl⟩
  case round =>
    obtain ⟨k, hk, rfl, rfl⟩ := hrel
    by_cases hlt : k < n
    · have c1 := RW.cell hX (i := k + 1) (by omega)
      have hz1 := hz.out (k + 1) (by omega)
      go_wp2
      all_goals
        go_round
        case rel => exact ⟨k + 1, by omega, by go_num, by show _ = Value.int .i64 (max (maxF z k) (z (k + 1))); first | rfl | go_num | (congr 1; omega)⟩
        case measure => simp [intOf]; omega
    · obtain rfl : k = n := by omega
      go_wp2
      go_ret
      exact ⟨rfl, rfl⟩
end Go.Proofs.YtcnogmhkffohgaaGreatDoor
