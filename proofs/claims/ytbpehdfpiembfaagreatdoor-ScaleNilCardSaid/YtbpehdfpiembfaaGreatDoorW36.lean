/-
  What Cmp, Add, Sub and Of of the reference of layer 2 answer.
-/
import Derived.Test.YtbpehdfpiembfaaGreatDoorW35
import Derived.Deep.QuietTactic
import Derived.BigQuiet
namespace Go.Proofs.YtbpehdfpiembfaaGreatDoor
open Go.RowKit
set_option linter.unusedVariables false
set_option maxRecDepth 100000

/-- Digits, wherever they lie. -/
def DX (w : World) (A : Option Addr) (n c : Nat) (zs : List Nat) : Prop := DR w w.heap.size A n c zs
theorem DX.ext {a b : World} {A : Option Addr} {n c : Nat} {xs : List Nat} (h : DX a A n c xs) (k : ExtN a b) : DX b A n c xs := (Rd.below h k).more k.size
theorem digX {A : Option Addr} {n c : Nat} {xs : List Nat} {w : World} (h : NXN w A n c xs) (hn : n ≤ 10000) :
    Calls Tryz.prog 82 #[.slice A n c] w fun e w' => ∃ A2 n2 c2, e = .returned (.slice A2 n2 c2) ∧ n2 ≤ 4 * n ∧ DX w' A2 n2 c2 (dg 65536 (nv xs)) ∧ ExtN w w' := (digits_any A n c xs w h hn).mono fun e w' ⟨A2, n2, c2, a1, a2, a3, a4, _⟩ => ⟨A2, n2, c2, a1, a2, a3, a4⟩
theorem fromX {A : Option Addr} {n c : Nat} {zs : List Nat} {w : World} (h : DX w A n c zs) (hn : n ≤ 100000) :
    Calls Tryz.prog 83 #[.slice A n c] w fun e w' => ∃ A2 n2 c2, e = .returned (.slice A2 n2 c2) ∧ n2 ≤ n ∧ NXN w' A2 n2 c2 (nw (vl 65536 zs)) ∧ ExtN w w' := from_any A n c zs w h hn
theorem plusX {A A' : Option Addr} {n n' c c' : Nat} {xs ys : List Nat} {w : World} (h : DX w A n c xs) (h' : DX w A' n' c' ys) (hn : n ≤ 100000) (hn' : n' ≤ 100000) :
    Calls Tryz.prog 130 #[.slice A n c, .slice A' n' c'] w fun e w' => ∃ A2 n2 c2, e = .returned (.slice A2 n2 c2) ∧ n2 ≤ n + n' + 1 ∧ DX w' A2 n2 c2 (dg 65536 (vl 65536 xs + vl 65536 ys)) ∧ ExtN w w' := (plus_anyN A A' n n' c c' xs ys w h h' hn hn').mono fun e w' ⟨A2, n2, c2, a1, a2, a3, a4, _⟩ => ⟨A2, n2, c2, a1, a2, a3, a4⟩
theorem lessX {A A' : Option Addr} {n n' c c' X Y : Nat} {w : World} (h : DX w A n c (dg 65536 X)) (h' : DX w A' n' c' (dg 65536 Y)) (hn : n ≤ 100000) (hv : Y ≤ X) :
    Calls Tryz.prog 85 #[.slice A n c, .slice A' n' c'] w fun e w' => ∃ A2 n2 c2, e = .returned (.slice A2 n2 c2) ∧ n2 ≤ n ∧ DX w' A2 n2 c2 (dg 65536 (X - Y)) ∧ ExtN w w' := by
  have hl : n' ≤ n := by
    rcases Nat.lt_or_ge n n' with hh | hh
    · have := dg_len_lt (b := 65536) d_two (n := X) (m := Y) (by rw [h.len, h'.len]; exact hh)
      omega
    · exact hh
  have := rless_any A A' n n' c c' _ _ w h h' hn hl (by rw [vl_dg d_two, vl_dg d_two]; exact hv)
  rw [vl_dg d_two, vl_dg d_two] at this
  exact this.mono fun e w' ⟨A2, n2, c2, a1, a2, a3, a4, _⟩ => ⟨A2, n2, c2, a1, a2, a3, a4⟩
theorem compareX {A A' : Option Addr} {n n' c c' X Y : Nat} {w : World} (h : DX w A n c (dg 65536 X)) (h' : DX w A' n' c' (dg 65536 Y)) (hn : n ≤ 1000000) (hn' : n' ≤ 1000000) :
    Calls Tryz.prog 81 #[.slice A n c, .slice A' n' c'] w fun e w' => e = .returned (.int .i64 (cmpS X Y)) ∧ ExtN w w' := (compare_any A A' n n' c c' _ X Y w h h' hn hn').mono fun e w' ⟨he, q, hw⟩ => ⟨he, by rw [hw]; exact (ExtN.refl w).drewN q⟩

theorem rcmpX {A A' : Option Addr} {n n' c c' : Nat} {xs ys : List Nat} {w : World} (h : NXN w A n c xs) (h' : NXN w A' n' c' ys) (hn : n ≤ 10000) (hn' : n' ≤ 10000) :
    Calls Tryz.prog 28 #[.slice A n c, .slice A' n' c'] w fun e w' => e = .returned (.int .i64 (cmpS (nv xs) (nv ys))) ∧ ExtN w w' := by
  go_enter Tryz.func28, Tryz.ntmps28
  go_wp2_with fail
  refine (digX h hn).mono ?_
  rintro e w1 ⟨A1, n1, c1, rfl, hn1, d1, k1⟩
  go_wp2_with fail
  refine (digX (h'.ext k1) hn').mono ?_
  rintro e w2 ⟨A2, n2, c2, rfl, hn2, d2, k2⟩
  go_wp2_with fail
  refine (compareX (d1.ext k2) d2 (by omega) (by omega)).mono ?_
  rintro e w3 ⟨rfl, k3⟩
  go_wp2
  go_ret
  exact ⟨rfl, k1.trans (k2.trans k3)⟩
theorem raddX {A A' : Option Addr} {n n' c c' : Nat} {xs ys : List Nat} {w : World} (h : NXN w A n c xs) (h' : NXN w A' n' c' ys) (hn : n ≤ 10000) (hn' : n' ≤ 10000) :
    Calls Tryz.prog 80 #[.slice A n c, .slice A' n' c'] w fun e w' => ∃ A2 n2 c2, e = .returned (.slice A2 n2 c2) ∧ n2 ≤ 4 * n + 4 * n' + 1 ∧ NXN w' A2 n2 c2 (nw (nv xs + nv ys)) ∧ ExtN w w' := by
  have HV := Lib.hid (show vl 65536 (dg 65536 (vl 65536 (dg 65536 (nv xs)) + vl 65536 (dg 65536 (nv ys)))) = nv xs + nv ys by rw [vl_dg d_two, vl_dg d_two, vl_dg d_two])
  go_enter Tryz.func80, Tryz.ntmps80
  go_wp2_with fail
  refine (digX h hn).mono ?_
  rintro e w1 ⟨A1, n1, c1, rfl, hn1, d1, k1⟩
  go_wp2_with fail
  refine (digX (h'.ext k1) hn').mono ?_
  rintro e w2 ⟨A2, n2, c2, rfl, hn2, d2, k2⟩
  go_wp2_with fail
  refine (plusX (d1.ext k2) d2 (by omega) (by omega)).mono ?_
  rintro e w3 ⟨A3, n3, c3, rfl, hn3, d3, k3⟩
  go_wp2_with fail
  refine (fromX d3 (by omega)).mono ?_
  rw [HV.out]
  rintro e w4 ⟨A4, n4, c4, rfl, hn4, d4, k4⟩
  go_wp2
  go_ret
  exact ⟨A4, n4, c4, rfl, by omega, d4, k1.trans (k2.trans (k3.trans k4))⟩
theorem rsubX {A A' : Option Addr} {n n' c c' : Nat} {xs ys : List Nat} {w : World} (h : NXN w A n c xs) (h' : NXN w A' n' c' ys) (hn : n ≤ 10000) (hn' : n' ≤ 10000) :
    Calls Tryz.prog 30 #[.slice A n c, .slice A' n' c'] w (SubPost w (4 * n) (nv xs) (nv ys)) := by
  go_enter Tryz.func30, Tryz.ntmps30
  go_wp2_with fail
  refine (rcmpX h h' hn hn').mono ?_
  rintro e w0 ⟨rfl, k0⟩
  by_cases hlt : nv xs < nv ys
  · have HE := Lib.hid (cmpS_lt hlt)
    rw [HE.out]
    go_wp2
    go_ret2
    exact .inl ⟨hlt, rfl, k0⟩
  · have hd : decide (cmpS (nv xs) (nv ys) < 0) = false := by
      unfold cmpS; rw [if_neg hlt]; split <;> decide
    go_wp2_with fail
    refine (digX (h.ext k0) hn).mono ?_
    rintro e w1 ⟨A1, n1, c1, rfl, hn1, d1, k1⟩
    go_wp2_with fail
    refine (digX (h'.ext (k0.trans k1)) hn').mono ?_
    rintro e w2 ⟨A2, n2, c2, rfl, hn2, d2, k2⟩
    go_wp2_with fail
    refine (lessX (d1.ext k2) d2 (by omega) (by omega)).mono ?_
    rintro e w3 ⟨A3, n3, c3, rfl, hn3, d3, k3⟩
    have HV := Lib.hid (vl_dg d_two (nv xs - nv ys))
    go_wp2_with fail
    refine (fromX d3 (by omega)).mono ?_
    rw [HV.out]
    rintro e w4 ⟨A4, n4, c4, rfl, hn4, d4, k4⟩
    go_wp2
    go_ret2
    exact .inr ⟨by omega, A4, n4, c4, rfl, by omega, d4, k0.trans (k1.trans (k2.trans (k3.trans k4)))⟩
end Go.Proofs.YtbpehdfpiembfaaGreatDoor

/-
  What times of the reference of layer 2 answers: products of digits.
-/
namespace Go.Proofs.YtbpehdfpiembfaaGreatDoor
open Go.RowKit
set_option linter.unusedVariables false
set_option maxRecDepth 100000

/-- Block g holds the digits zs, and nothing else; none of it is frozen. -/
def Dk (w : World) (g : Nat) (zs : List Nat) : Prop := w.heap[g]? = some (.cells (i64s zs).toArray 3 (0, 0))
theorem Dk.lt {w : World} {g : Nat} {zs : List Nat} (h : Dk w g zs) : g < w.heap.size := (Array.getElem?_eq_some_iff.1 h).1
theorem Dk.frozen {w : World} {g : Nat} {zs : List Nat} (h : Dk w g zs) (i : Nat) : w.frozen? ⟨g, i, none⟩ = false := by
  unfold Dk at h
  simp [World.frozen?, h]
theorem Dk.cell {w : World} {g : Nat} {zs : List Nat} (h : Dk w g zs) {i x : Nat} (hx : zs[i]? = some x) : w.cell? ⟨g, i, none⟩ = some (.int .i64 (x : Int)) := by
  have hl := (List.getElem?_eq_some_iff.1 hx).1
  rw [cell_of_row w g i _ 3 (0, 0) h]
  have e := (List.getElem?_eq_some_iff.1 hx).2
  simp [i64s, hl, e]
theorem Dk.set_ {w : World} {g : Nat} {zs : List Nat} (h : Dk w g zs) {i : Nat} (hi : i < zs.length) (v : Nat) : Dk (w.setCell ⟨g, i, none⟩ (.int .i64 (v : Int))) g (zs.set i v) := by
  unfold Dk at h ⊢
  simp [World.setCell, Array.getElem?_modify, h]
  simp [i64s, List.map_set]
theorem Dk.keep {w w' : World} {g : Nat} {zs : List Nat} (h : Dk w g zs) (hg : w'.heap[g]? = w.heap[g]?) : Dk w' g zs := hg.trans h
theorem Dk.rd {w : World} {g n : Nat} {zs : List Nat} (h : Dk w g zs) (hlt : ∀ x ∈ zs, x < 65536) (hn : zs.length = n) : DR w w.heap.size (some ⟨g, 0, none⟩) n n zs := by
  refine ⟨hn, Nat.le_refl _, hlt, fun _ => ⟨_, rfl, h.lt, fun j x hx => ?_⟩⟩
  rw [Addr.add_lit, Nat.zero_add]
  exact h.cell hx
theorem made_i64 (n : Nat) : (madeCells (Value.int .i64 0).cells (n * 1)).toList = i64s (List.replicate n 0) := by
  rw [Nat.mul_one]
  refine (toList_madeCells_one (Value.int .i64 0) n).trans ?_
  simp [i64s]
theorem make_digits (n : Nat) (z : Int) (hz : z = n) (hc : n ≤ 1000000) (w : World) :
    (Instr.makeSlice 93 (.int .i64 z) (.int .i64 z)).run Tryz.prog w = .ok (.slice (some ⟨w.heap.size, 0, none⟩) n n) (w.alloc (.cells (i64s (List.replicate n 0)).toArray 3)) := by
  subst hz
  obtain ⟨i0, hi, hz0, hz1, hz2⟩ := info_parts info_int
  have hr := run_make (P := Tryz.prog) w 93 3 i0 (.int .i64 0) Tryz.underlying93 hi hz0 .i64 .i64 (n : Int) (n : Int) (by omega) (by omega) (by rw [hz2]; omega) (by omega)
  rw [hz1] at hr
  simp only [Int.toNat_natCast] at hr
  rw [hr]
  have e : madeCells (Value.int .i64 0).cells (n * 1) = (i64s (List.replicate n 0)).toArray := by
    apply Array.toList_inj.1
    rw [made_i64]
  rw [e]
theorem vl_rep (b n : Nat) : vl b (List.replicate n 0) = 0 := vl_zeros fun j x hx => by
  by_cases hj : j < n
  · have e : (List.replicate n 0)[j]? = some 0 := by simp [hj]
    rw [e] at hx
    exact (Option.some.inj hx).symm
  · rw [List.getElem?_eq_none (by simp; omega)] at hx
    cases hx

/-- A product so far: the first k digits of xs times Y, and as many noughts behind it as are still to come. -/
def MulD (xs : List Nat) (Y lb k : Nat) (ps : List Nat) : Prop := ps.length = lb + k ∧ (∀ x ∈ ps, x < 65536) ∧ vl 65536 ps = vl 65536 (xs.take k) * Y
theorem mulD_zero {xs : List Nat} {Y lb : Nat} : MulD xs Y lb 0 (List.replicate lb 0) := by
  refine ⟨by simp, fun x hx => by rw [List.eq_of_mem_replicate hx]; omega, ?_⟩
  rw [vl_rep, List.take_zero, vl_nil, Nat.zero_mul]
theorem MulD.step {xs ps ns ys : List Nat} {lb k j x : Nat} (h : MulD xs (vl 65536 ys) lb k ps) (hx : xs[k]? = some x) (hy : ys.length = lb) (t : TimesInv 65536 (ps.drop k ++ [0]) ys x j ns 0) (hj : lb ≤ j) (hj2 : j ≤ lb + 1) :
    MulD xs (vl 65536 ys) lb (k + 1) (ps.take k ++ (ns ++ (ps.drop k ++ [0]).drop j)) := by
  obtain ⟨h1, h2, h3⟩ := h
  obtain ⟨t1, t2, _, t4⟩ := t
  have l : (ps.take k).length = k := by rw [List.length_take]; omega
  have lq : (ps.drop k ++ [0]).length = lb + 1 := by simp; omega
  have hq : ∀ z ∈ ps.drop k ++ [0], z < 65536 := snoc_lt (fun z hz => h2 z (List.mem_of_mem_drop hz)) (by omega)
  have vq : vl 65536 (ps.drop k ++ [0]) = vl 65536 (ps.drop k) := by rw [vl_snoc, Nat.mul_zero, Nat.add_zero]
  rw [Nat.mul_zero, Nat.add_zero, List.take_of_length_le (l := ys) (by omega)] at t4
  refine ⟨by rw [List.length_append, l, List.length_append, t1, List.length_drop, lq]; omega, fun z hz => ?_, ?_⟩
  · rcases List.mem_append.1 hz with hz | hz
    · exact h2 z (List.mem_of_mem_take hz)
    · rcases List.mem_append.1 hz with hz | hz
      · exact t2 z hz
      · exact hq z (List.mem_of_mem_drop hz)
  · have e0 : vl 65536 ps = vl 65536 (ps.take k) + 65536 ^ k * vl 65536 (ps.drop k) := by
      conv => lhs; rw [← List.take_append_drop k ps, vl_append, l]
    have e1 : vl 65536 (ps.drop k ++ [0]) = vl 65536 ((ps.drop k ++ [0]).take j) + 65536 ^ j * vl 65536 ((ps.drop k ++ [0]).drop j) := by
      conv => lhs; rw [← List.take_append_drop j (ps.drop k ++ [0]), vl_append, List.length_take, lq, Nat.min_eq_left hj2]
    have e2 : vl 65536 (ns ++ (ps.drop k ++ [0]).drop j) = vl 65536 (ps.drop k) + x * vl 65536 ys := by
      rw [vl_append, t1, t4, ← vq, e1]; omega
    rw [vl_append, l, e2, Nat.mul_add, ← Nat.add_assoc, ← e0, h3, vl_take_next, hx, Option.getD_some, Nat.add_mul, Nat.mul_assoc]
end Go.Proofs.YtbpehdfpiembfaaGreatDoor

/-
  The reference's times walked.
-/
namespace Go.Proofs.YtbpehdfpiembfaaGreatDoor
open Go.RowKit
set_option linter.unusedVariables false
set_option maxRecDepth 100000

theorem Rd.cell_ {k : IntKind} {b : Nat} {w : World} {B : Nat} {ad : Addr} {n c : Nat} {xs : List Nat} (h : Rd k b w B (some ad) n c xs) {i x : Nat} (hx : xs[i]? = some x) : w.cell? (ad.add i) = some (.int k (x : Int)) := by
  have hl := (List.getElem?_eq_some_iff.1 hx).1
  obtain ⟨ad', e, _, hc⟩ := h.cells (by have := h.len; omega)
  injection e with e
  subst e
  exact hc i x hx
theorem below_set {B : Nat} {w0 w : World} {g i : Nat} (h : Below B w0 w) (hg : B ≤ g) (hB : B ≤ w.heap.size) (v : Value) : Below B w0 (w.setCell ⟨g, i, none⟩ v) := below_only h (only_set v) hB hg

set_option maxHeartbeats 4000000 in
theorem times_dg_any (A A' : Option Addr) (n n' c c' : Nat) (xs ys : List Nat) (w : World) (h : DR w w.heap.size A n c xs) (h' : DR w w.heap.size A' n' c' ys) (hn : n ≤ 10000) (hn' : n' ≤ 10000) :
    Calls Tryz.prog 84 #[.slice A n c, .slice A' n' c'] w (DigPost w (n + n' + 1) (dg 65536 (vl 65536 xs * vl 65536 ys))) := by
  have hmk := make_digits (n + n' + 1) ((n : Int) + n' + 1) (by omega) (by omega)
  go_enter Tryz.func84, Tryz.ntmps84
  go_wp2
  go_loopw [18] (fun i wr => ∃ (k : Nat) (ps : List Nat), k ≤ n ∧ i = .int .i64 k ∧ Dk wr w.heap.size (ps ++ List.replicate (n - k + 1) 0) ∧ Below w.heap.size w wr ∧ MulD xs (vl 65536 ys) n' k ps) (fun i _ => n - (intOf i).toNat)
  case atStart =>
    refine ⟨0, List.replicate n' 0, by omega, rfl, ?_, (Below.refl _ _).alloc (Nat.le_refl _) _, mulD_zero⟩
    rw [List.replicate_append_replicate, show n' + (n - 0 + 1) = n + n' + 1 by omega]
    exact heap_alloc_new w _
  case round =>
    obtain ⟨k, ps, hk, rfl, hb, hbl, hinv⟩ := hrel
    by_cases hlt : k < n
    · obtain ⟨ad, x, rfl, hbk, hxb, hx, hc⟩ := (h.below hbl).at_ hlt
      have HX := Lib.hid hx
      have HP := Lib.hid hinv.1
      have HPL := Lib.hid hinv.2.1
      obtain ⟨qs, hqs⟩ : ∃ qs, qs = ps.drop k ++ [0] := ⟨_, rfl⟩
      have hql : qs.length = n' + 1 := by rw [hqs]; simp; have := HP.out; omega
      have hqb : ∀ z ∈ qs, z < 65536 := by rw [hqs]; exact snoc_lt (fun z hz => HPL.out z (List.mem_of_mem_drop hz)) (by omega)
      have hb0 : Dk wr w.heap.size (ps.take k ++ [] ++ qs.drop 0 ++ List.replicate (n - k) 0) := by
        have : ps ++ List.replicate (n - k + 1) 0 = ps.take k ++ [] ++ qs.drop 0 ++ List.replicate (n - k) 0 := by
          rw [hqs, List.drop_zero, List.append_nil, ← List.append_assoc, List.take_append_drop, List.append_assoc, List.replicate_succ]
          rfl
        rw [← this]; exact hb
      have HQ := Lib.hid hqs
      have HQL := Lib.hid hql
      have HTL := Lib.hid (show (ps.take k).length = k by rw [List.length_take]; have := HP.out; omega)
      clear hqs hql hx hb hc
      go_wp2
      go_loopw [7, 8] (fun q i wr => ∃ (j Q : Nat) (ns : List Nat), (j ≤ n' ∨ (j = n' + 1 ∧ Q = 0)) ∧ i = .int .i64 j ∧ q = .int .i64 (Q : Int) ∧ Dk wr w.heap.size (ps.take k ++ ns ++ qs.drop j ++ List.replicate (n - k) 0) ∧ Below w.heap.size w wr ∧ TimesInv 65536 qs ys x j ns Q) (fun _ i _ => n' + 1 - (intOf i).toNat)
      case atStart => exact ⟨0, 0, [], .inl (by omega), rfl, rfl, hb0, hbl, timesInv_zero (by omega)⟩
      case round =>
        obtain ⟨j, Q, ns, hj, rfl, rfl, hb, hbl, hti⟩ := hrel
        have hQ := hti.2.2.1
        by_cases hgo : j < n' ∨ 0 < Q
        · have hj2 : j ≤ n' := by omega
          have hc := (h.below hbl).cell_ HX.out
          have hr' := h'.below hbl
          obtain ⟨p, hp1, hp2⟩ := drop_next (show j < qs.length by rw [HQL.out]; omega)
          have hpb := hqb p (List.mem_of_getElem? hp1)
          rw [hp2] at hb
          have hb' : Dk wr w.heap.size (ps.take k ++ ns ++ p :: (qs.drop (j + 1) ++ List.replicate (n - k) 0)) := by simpa using hb
          have hlen : k + j = (ps.take k).length + ns.length := by rw [HTL.out, hti.1]
          have hcell := hb'.cell (get_mid (p := p) (post := qs.drop (j + 1) ++ List.replicate (n - k) 0) hlen)
          have hfz := hb'.frozen (k + j)
          have hset : ∀ (v : Nat) (m : Nat), Dk ((wr.drewN m).setCell ⟨w.heap.size, k + j, none⟩ (.int .i64 (v : Int))) w.heap.size (ps.take k ++ (ns ++ [v]) ++ qs.drop (j + 1) ++ List.replicate (n - k) 0) := fun v m => by
            have := Dk.set_ (w := wr.drewN m) hb' (i := k + j) (by simp only [List.length_append, List.length_cons]; omega) v
            rw [set_mid hlen] at this
            simpa using this
          have hgs : ∀ (m : Nat) (v : Value), Below w.heap.size w ((wr.drewN m).setCell ⟨w.heap.size, k + j, none⟩ v) := fun m v => below_set (below_drewNN hbl m) (Nat.le_refl _) hbl.size v
          have HS := Lib.hid hset
          have HG := Lib.hid hgs
          clear hlen hset hgs hb hb' hp2
          have hy := getD_lt (b := 65536) (by omega) h'.lt j
          have hxy : x * ys[j]?.getD 0 ≤ 65535 * 65535 := Nat.mul_le_mul (by omega) (by omega)
          have z2 : j < n' ∨ ys[j]?.getD 0 = 0 := by
            by_cases g : j < n'
            · exact .inl g
            · exact .inr (by rw [List.getElem?_eq_none (by rw [h'.len]; omega)]; rfl)
          have z3 : j < n' ∨ p = 0 := by
            by_cases g : j < n'
            · exact .inl g
            · refine .inr ?_
              have hjn : j = n' := by omega
              rw [HQ.out, List.getElem?_append_right (by rw [List.length_drop, HP.out]; omega), List.length_drop, HP.out, show j - (n' + k - k) = 0 by omega] at hp1
              exact (Option.some.inj hp1).symm
          have HN := Lib.hid (fun z Q' => hti.step (z := z) (Q' := Q'))
          have P1 := Lib.hid hp1
          clear hp1
          have hn2 : n' ≤ 1000000 := by omega
          have hk2 : j ≤ 1000001 := by omega
          have hP : ys[j]?.getD 0 * x = x * ys[j]?.getD 0 := Nat.mul_comm _ _
          have HY := Lib.hid (show ∀ z Q' : Nat, z + 65536 * Q' = Q + p + x * ys[j]?.getD 0 → z < 65536 → Q' < 65536 → TimesInv 65536 qs ys x (j + 1) (ns ++ [z]) Q' from fun z Q' e1 e2 e3 => HN.out z Q' (by rw [P1.out, Option.getD_some, hP]; omega) e2 e3)
          have hm : ((x : Int) * ((ys[j]?.getD 0 : Nat) : Int)) = ((x * ys[j]?.getD 0 : Nat) : Int) := (Int.natCast_mul _ _).symm
          have hm0 : (0 : Int) ≤ (x : Int) * ((ys[j]?.getD 0 : Nat) : Int) := by rw [hm]; omega
          have hm1 : (x : Int) * ((ys[j]?.getD 0 : Nat) : Int) ≤ 4294836225 := by rw [hm]; omega
          have HM := Lib.hid hm
          have z4 : j < n' ∨ x * ys[j]?.getD 0 = 0 := by
            rcases z2 with g | g
            · exact .inl g
            · exact .inr (by rw [g, Nat.mul_zero])
          clear hm hP HN P1 z2
          have e1 : (0 : Int) ≤ (k : Int) + j := by omega
          have e2 : (k : Int) + j < (n : Int) + n' + 1 := by omega
          have e3 : (0 : Int) ≤ k := by omega
          have e4 : (k : Int) < n := by omega
          rcases (show j < n' ∨ (¬ j < n' ∧ 0 < Q) by omega) with g | ⟨g, g2⟩
          all_goals
            go_wp2_with fail
            go_quiet ((go_at_call 132; exact at_q _ _ _ _ j ys _ _ hr' hn2 hk2))
            rw [HM.out]
            clear hm0 hm1 HM
            generalize x * ys[j]?.getD 0 = t at *
            obtain ⟨s, hs⟩ : ∃ s, s = Q + p + t := ⟨_, rfl⟩
            rw [show ((Q : Int) + p + (t : Nat)) = (s : Int) by omega]
            have HF := Lib.hid (HY.out (s % 65536) (s / 65536) (by omega) (by omega) (by omega))
            have hfin : j + 1 ≤ n' ∨ (j + 1 = n' + 1 ∧ s / 65536 = 0) := by omega
            have hsb : s ≤ 5000000000 := by omega
            have HFIN := Lib.hid hfin
            clear hs hfin
            go_wp2
            exact ⟨⟨j + 1, s / 65536, _, HFIN.out, by go_num, by go_num, HS.out _ _, HG.out _ _, HF.out⟩, by simp [intOf] <;> omega⟩
        · have hQ0 : Q = 0 := by omega
          subst hQ0
          have hdj : n' ≤ j := by omega
          have HI := Lib.hid (hinv.step HX.out h'.len (by rw [← HQ.out]; exact hti) hdj (by omega))
          have hbe : Dk wr w.heap.size (ps.take k ++ (ns ++ (ps.drop k ++ [0]).drop j) ++ List.replicate (n - (k + 1) + 1) 0) := by
            rw [show n - (k + 1) + 1 = n - k by omega, ← HQ.out]
            simpa using hb
          go_wp2
          exact ⟨⟨k + 1, _, by omega, by go_num, hbe, hbl, HI.out⟩, by simp [intOf] <;> omega⟩
    · obtain rfl : k = n := by omega
      have hv := hinv.2.2
      rw [List.take_of_length_le (by rw [h.len]; exact Nat.le_refl _)] at hv
      have hz : vl 65536 (ps ++ List.replicate (k - k + 1) 0) = vl 65536 xs * vl 65536 ys := by rw [vl_append, vl_rep, Nat.mul_zero, Nat.add_zero, hv]
      have HZ := Lib.hid hz
      have hl2 : (ps ++ List.replicate (k - k + 1) 0).length = k + n' + 1 := by simp [hinv.1]; omega
      have hrd := hb.rd (n := k + n' + 1) (fun z hz => by
        rcases List.mem_append.1 hz with hz | hz
        · exact hinv.2.1 z hz
        · rw [List.eq_of_mem_replicate hz]; omega) hl2
      clear hv hz hl2
      go_wp2_with fail
      refine (trim_any _ _ _ _ _ _ hrd (by omega)).mono ?_
      rintro e w' ⟨m, c3, hm, rfl, rfl, hr3⟩
      rw [HZ.out] at hr3
      go_wp2
      go_ret
      exact ⟨_, m, c3, rfl, by omega, hr3, hbl, fun ad e => by injection e with e; subst e; exact Nat.le_refl _⟩
end Go.Proofs.YtbpehdfpiembfaaGreatDoor

/-
  Numbers for the reference's parts: a quotient bit by bit, digit by digit.
-/
namespace Go.Proofs.YtbpehdfpiembfaaGreatDoor
open Go.RowKit
set_option linter.unusedVariables false
set_option maxRecDepth 100000

theorem bit_step (d i : Nat) : d / 2 ^ i = 2 * (d / 2 ^ (i + 1)) + d / 2 ^ i % 2 := by
  rw [Nat.pow_succ, ← Nat.div_div_eq_div_mul]
  omega
/-- A digit's quotient so far: of the bits from j on. -/
def BitInv (Y Rh d j q R : Nat) : Prop := R < Y ∧ q < 2 ^ (16 - j) ∧ Y * q + R = Rh * 2 ^ (16 - j) + d / 2 ^ j
theorem bitInv_start {Y Rh d : Nat} (h : Rh < Y) (hd : d < 65536) : BitInv Y Rh d 16 0 Rh := by
  refine ⟨h, by decide, ?_⟩
  rw [show (2 : Nat) ^ 16 = 65536 by decide, Nat.div_eq_of_lt hd]
  simp
theorem BitInv.up {Y Rh d i q R : Nat} (h : BitInv Y Rh d (i + 1) q R) (hi : i < 16) (hv : Y ≤ R + R + d / 2 ^ i % 2) : BitInv Y Rh d i (2 * q + 1) (R + R + d / 2 ^ i % 2 - Y) := by
  obtain ⟨h1, h2, h3⟩ := h
  have e := bit_step d i
  have ep : (2 : Nat) ^ (16 - i) = 2 * 2 ^ (16 - (i + 1)) := by rw [show 16 - i = (16 - (i + 1)) + 1 by omega, Nat.pow_succ, Nat.mul_comm]
  have hm : d / 2 ^ i % 2 < 2 := Nat.mod_lt _ (by omega)
  refine ⟨by omega, by omega, ?_⟩
  rw [ep, Nat.mul_left_comm, Nat.mul_add, Nat.mul_one, Nat.mul_left_comm]
  generalize Y * q = u at *
  generalize Rh * 2 ^ (16 - (i + 1)) = v at *
  omega
theorem BitInv.stay {Y Rh d i q R : Nat} (h : BitInv Y Rh d (i + 1) q R) (hi : i < 16) (hv : R + R + d / 2 ^ i % 2 < Y) : BitInv Y Rh d i (2 * q) (R + R + d / 2 ^ i % 2) := by
  obtain ⟨h1, h2, h3⟩ := h
  have e := bit_step d i
  have ep : (2 : Nat) ^ (16 - i) = 2 * 2 ^ (16 - (i + 1)) := by rw [show 16 - i = (16 - (i + 1)) + 1 by omega, Nat.pow_succ, Nat.mul_comm]
  refine ⟨hv, by omega, ?_⟩
  rw [ep, Nat.mul_left_comm Rh, Nat.mul_left_comm Y]
  generalize Y * q = u at *
  generalize Rh * 2 ^ (16 - (i + 1)) = v at *
  omega
theorem BitInv.bound {Y Rh d j q R : Nat} (h : BitInv Y Rh d j q R) (hj : j ≤ 16) : q * 2 ^ j < 65536 := by
  have h2 := h.2.1
  have e : (2 : Nat) ^ (16 - j) * 2 ^ j = 65536 := by rw [← Nat.pow_add, show 16 - j + j = 16 by omega]
  have p : 0 < (2 : Nat) ^ j := Nat.pow_pos (by omega)
  have := (Nat.mul_lt_mul_right p).2 h2
  omega
theorem dig_up (q i : Nat) : q * 2 ^ (i + 1) = 2 * q * 2 ^ i := by rw [Nat.pow_succ, Nat.mul_comm 2 q, Nat.mul_assoc, Nat.mul_comm 2]
/-- A quotient so far: of the digits from k on. -/
def DivD (xs : List Nat) (Y n k : Nat) (hs : List Nat) (R : Nat) : Prop := hs.length + k = n ∧ (∀ x ∈ hs, x < 65536) ∧ R < Y ∧ vl 65536 (xs.drop k) = Y * vl 65536 hs + R
theorem divD_start {xs : List Nat} {Y n : Nat} (hY : 0 < Y) (hx : xs.length = n) : DivD xs Y n n [] 0 := by
  refine ⟨by simp, by simp, hY, ?_⟩
  rw [List.drop_of_length_le (by omega), vl_nil]
  simp
theorem DivD.step {xs hs : List Nat} {Y n k Rh d q R : Nat} (h : DivD xs Y n (k + 1) hs Rh) (hx : xs[k]? = some d) (t : BitInv Y Rh d 0 q R) : DivD xs Y n k (q :: hs) R := by
  obtain ⟨h1, h2, h3, h4⟩ := h
  have hb := t.bound (by omega)
  rw [Nat.pow_zero, Nat.mul_one] at hb
  obtain ⟨t1, t2, t3⟩ := t
  have hl := (List.getElem?_eq_some_iff.1 hx).1
  have e := (List.getElem?_eq_some_iff.1 hx).2
  refine ⟨by simp; omega, fun z hz => ?_, t1, ?_⟩
  · rcases List.mem_cons.1 hz with rfl | hz
    · exact hb
    · exact h2 z hz
  · rw [List.drop_eq_getElem_cons hl, e, vl_cons, vl_cons, h4, Nat.mul_add, Nat.mul_add, Nat.mul_left_comm]
    rw [show 16 - 0 = 16 by omega, show (2 : Nat) ^ 16 = 65536 by decide, Nat.pow_zero, Nat.div_one] at t3
    omega
theorem DivD.done {xs hs : List Nat} {Y n R : Nat} (h : DivD xs Y n 0 hs R) : vl 65536 hs = vl 65536 xs / Y ∧ R = vl 65536 xs % Y := by
  obtain ⟨h1, h2, h3, h4⟩ := h
  rw [List.drop_zero] at h4
  rw [h4]
  refine ⟨?_, ?_⟩
  · rw [Nat.mul_add_div (by omega), Nat.div_eq_of_lt h3, Nat.add_zero]
  · rw [Nat.mul_add_mod, Nat.mod_eq_of_lt h3]
end Go.Proofs.YtbpehdfpiembfaaGreatDoor

/-
  The reference's parts walked.
-/
namespace Go.Proofs.YtbpehdfpiembfaaGreatDoor
open Go.RowKit
set_option linter.unusedVariables false
set_option maxRecDepth 100000

theorem dg_len_mono {m n a b : Nat} (h : a ≤ b) (h1 : (dg 65536 a).length = m) (h2 : (dg 65536 b).length = n) : m ≤ n := by
  rcases Nat.lt_or_ge n m with hh | hh
  · have := dg_len_lt (b := 65536) d_two (n := b) (m := a) (by omega)
    omega
  · exact hh
theorem lessF {A A' : Option Addr} {n n' c c' X Y : Nat} {w : World} (h : DR w w.heap.size A n c (dg 65536 X)) (h' : DR w w.heap.size A' n' c' (dg 65536 Y)) (hn : n ≤ 100000) (hv : Y ≤ X) :
    Calls Tryz.prog 85 #[.slice A n c, .slice A' n' c'] w (DigPost w n (dg 65536 (X - Y))) := by
  have := rless_any A A' n n' c c' _ _ w h h' hn (dg_len_mono hv h'.len h.len) (by rw [vl_dg d_two, vl_dg d_two]; exact hv)
  rw [vl_dg d_two, vl_dg d_two] at this
  exact this
theorem plusF {A A' : Option Addr} {n n' c c' X Y : Nat} {w : World} (h : DR w w.heap.size A n c (dg 65536 X)) (h' : DR w w.heap.size A' n' c' (dg 65536 Y)) (hn : n ≤ 100000) (hn' : n' ≤ 100000) :
    Calls Tryz.prog 130 #[.slice A n c, .slice A' n' c'] w (DigPost w (n + n' + 1) (dg 65536 (X + Y))) := by
  have := plus_anyN A A' n n' c c' _ _ w h h' hn hn'
  rw [vl_dg d_two, vl_dg d_two] at this
  exact this
theorem DR.one (w : World) (g : Nat) (hg : g = w.heap.size) (z : Int) (x : Nat) (hz : z = x) (hx : x < 65536) : DR (w.alloc (.cells #[.int .i64 z] 3)) (w.alloc (.cells #[.int .i64 z] 3)).heap.size (some ⟨g, 0, none⟩) 1 1 [x] := by
  subst hz hg
  refine ⟨rfl, Nat.le_refl _, fun z hz => by rw [List.mem_singleton.1 hz]; exact hx, fun _ => ⟨_, rfl, by simp, fun j z hz => ?_⟩⟩
  match j, hz with
  | 0, hz => simp at hz; subst hz; simp [Addr.add]
theorem vl_single (x : Nat) : vl 65536 [x] = x := by simp [vl]
theorem trim1 (w : World) (g : Nat) (hg : g = w.heap.size) (z : Int) (x : Nat) (hz : z = x) (hx : x < 65536) :
    Calls Tryz.prog 131 #[.slice (some ⟨g, 0, none⟩) 1 1] (w.alloc (.cells #[.int .i64 z] 3)) fun e w' => ∃ m c, m ≤ 1 ∧ e = .returned (.slice (some ⟨g, 0, none⟩) m c) ∧ (w.alloc (.cells #[.int .i64 z] 3)) = w' ∧ DR w' w'.heap.size (some ⟨g, 0, none⟩) m c (dg 65536 x) := by
  refine (trim_any _ _ _ _ [x] _ (DR.one w g hg z x hz hx) (by omega)).mono ?_
  rintro e w' ⟨m, c, hm, rfl, rfl, hr⟩
  rw [vl_single] at hr
  exact ⟨m, c, hm, rfl, rfl, hr⟩
/-- What stands between two steps: the quotient's row, and the rest, in other blocks. -/
def PInv (w wr : World) (G : Nat) (lst : List Nat) (A : Option Addr) (n c R : Nat) : Prop :=
  Dk wr G lst ∧ Below G w wr ∧ DR wr wr.heap.size A n c (dg 65536 R) ∧ (∀ ad, A = some ad → G < ad.block)
theorem PInv.next {w wr w' : World} {G : Nat} {lst : List Nat} {A A2 : Option Addr} {n c R n2 c2 R2 : Nat} (h : PInv w wr G lst A n c R) (hb : Below wr.heap.size wr w') (hr : DR w' w'.heap.size A2 n2 c2 (dg 65536 R2)) (hf : ∀ ad, A2 = some ad → wr.heap.size ≤ ad.block) : PInv w w' G lst A2 n2 c2 R2 := by
  obtain ⟨h1, h2, h3, h4⟩ := h
  have hlt := h1.lt
  exact ⟨h1.keep (hb.block G hlt), h2.trans (hb.mono (Nat.le_of_lt hlt)), hr, fun ad e => by have := hf ad e; omega⟩
theorem PInv.store {w wr : World} {G : Nat} {pre hs : List Nat} {p : Nat} {A : Option Addr} {n c R : Nat} (h : PInv w wr G (pre ++ [] ++ p :: hs) A n c R) {k : Nat} (hk : pre.length = k) (v : Nat) (z : Int) (hz : z = v) : PInv w (wr.setCell ⟨G, k, none⟩ (.int .i64 z)) G (pre ++ [] ++ v :: hs) A n c R := by
  subst hz
  obtain ⟨h1, h2, h3, h4⟩ := h
  have hlt := h1.lt
  have e := h1.set_ (i := k) (by simp; omega) v
  rw [set_mid (ns := []) (by simp; omega)] at e
  refine ⟨by simpa using e, below_set h2 (Nat.le_refl _) (Nat.le_of_lt hlt) _, ?_, h4⟩
  have := h3.only (only_set (w := wr) (g := G) (i := k) (.int .i64 (v : Int))) (Nat.le_refl _) (fun _ ad e => by have := h4 ad e; omega)
  exact this.more (by simp [World.setCell])
theorem PInv.drewN {w wr : World} {G : Nat} {lst : List Nat} {A : Option Addr} {n c R : Nat} (h : PInv w wr G lst A n c R) (m : Nat) : PInv w (wr.drewN m) G lst A n c R :=
  ⟨h.1, below_drewNN h.2.1 m, h.2.2.1.drewN m, h.2.2.2⟩
theorem PInv.alloc {w wr : World} {G : Nat} {lst : List Nat} {A : Option Addr} {n c R : Nat} (h : PInv w wr G lst A n c R) (o : Obj) : PInv w (wr.alloc o) G lst A n c R := by
  have hb : Below wr.heap.size wr (wr.alloc o) := (Below.refl _ _).alloc (Nat.le_refl _) o
  obtain ⟨h1, h2, h3, h4⟩ := h
  have hlt := h1.lt
  exact ⟨h1.keep (hb.block G hlt), h2.trans (hb.mono (Nat.le_of_lt hlt)), (h3.below hb).more hb.size, h4⟩
end Go.Proofs.YtbpehdfpiembfaaGreatDoor

/-
  What the reference's parts answers: quotient and rest of digits.
-/
namespace Go.Proofs.YtbpehdfpiembfaaGreatDoor
open Go.RowKit
set_option linter.unusedVariables false
set_option maxRecDepth 100000

/-- What parts answers. -/
def PartsPost (w : World) (n n' X Y : Nat) (e : Ending) (w' : World) : Prop :=
  ∃ A m c A2 m2 c2, e = .returned (.tuple #[.slice A m c, .slice A2 m2 c2]) ∧ m ≤ n ∧ m2 ≤ n' ∧ DR w' w'.heap.size A m c (dg 65536 (X / Y)) ∧ DR w' w'.heap.size A2 m2 c2 (dg 65536 (X % Y)) ∧ Below w.heap.size w w'
theorem bit_int {d i : Nat} : ((d : Int) / 2 ^ i).tmod 2 = ((d / 2 ^ i % 2 : Nat) : Int) := by
  rw [two_pow_cast, ← Int.natCast_ediv, Int.tmod_eq_emod_of_nonneg (Int.natCast_nonneg _)]
  exact (Int.natCast_emod _ _).symm
theorem wrap_small {z : Nat} (h : z < 1000000) : wrap64 (z : Int) = z := by unfold wrap64; omega
theorem wrap_digit {dq v : Nat} (i : Nat) (h : v = dq + 2 ^ i) (hd : dq < 65536) (hp : (2 : Nat) ^ i ≤ 32768) : wrap64 ((dq : Int) + wrap64 (2 ^ i)) = (v : Int) := by
  subst h
  rw [two_pow_cast]
  generalize (2 : Nat) ^ i = pw at *
  rw [wrap_small (z := pw) (by omega), ← Int.natCast_add, wrap_small (by omega)]
theorem pow_le15 {i : Nat} (h : i < 16) : (2 : Nat) ^ i ≤ 32768 := Nat.le_trans (Nat.pow_le_pow_right (by omega) (show i ≤ 15 by omega)) (by decide)

set_option maxHeartbeats 4000000 in
theorem parts_any (A A' : Option Addr) (n n' c c' X Y : Nat) (w : World) (h : DR w w.heap.size A n c (dg 65536 X)) (h' : DR w w.heap.size A' n' c' (dg 65536 Y)) (hn : n ≤ 10000) (hn' : n' ≤ 10000) (hY : 0 < Y) :
    Calls Tryz.prog 184 #[.slice A n c, .slice A' n' c'] w (PartsPost w n n' X Y) := by
  have hmk := make_digits n (n : Int) rfl (by omega)
  have HV := Lib.hid (vl_dg d_two X)
  have HL := Lib.hid h.len
  have HL' := Lib.hid h'.len
  have HXL := Lib.hid h.lt
  generalize hxs : dg 65536 X = xs at *
  clear hxs
  go_enter Tryz.func184, Tryz.ntmps184
  go_wp2
  go_loopw [7, 8] (fun r i wr => ∃ (k : Nat) (hs : List Nat) (R : Nat) (A2 : Option Addr) (n2 c2 : Nat), k ≤ n ∧ i = .int .i64 ((k : Int) - 1) ∧ r = .slice A2 n2 c2 ∧ PInv w wr w.heap.size (List.replicate k 0 ++ hs) A2 n2 c2 R ∧ DivD xs Y n k hs R) (fun _ i _ => (intOf i + 1).toNat)
  case atStart =>
    refine ⟨n, [], 0, none, 0, 0, Nat.le_refl _, rfl, rfl, ⟨?_, (Below.refl _ _).alloc (Nat.le_refl _) _, ?_, fun ad e => by cases e⟩, divD_start hY HL.out⟩
    · rw [List.append_nil]
      exact heap_alloc_new w _
    · rw [dg_zero]; exact Rd.none_ _ _ _ _ _ _
  case round =>
    obtain ⟨k, hs, Rh, A2, n2, c2, hk, rfl, rfl, hP, hD⟩ := hrel
    by_cases hk0 : k = 0
    · subst hk0
      have HD := Lib.hid hD.done
      have hhl := hD.1
      have HLT := Lib.hid hD.2.1
      have hn2 : n2 ≤ n' := dg_len_mono (Nat.le_of_lt hD.2.2.1) hP.2.2.1.len HL'.out
      obtain ⟨p1, p2, p3, p4⟩ := hP
      have p1' : Dk wr w.heap.size hs := by simpa using p1
      have hrd := p1'.rd (n := n) HLT.out (by omega)
      have HR := Lib.hid p3
      clear p1 hhl p3
      go_wp2_with fail
      refine (trim_any _ _ _ _ hs _ hrd (by omega)).mono ?_
      rintro e w' ⟨m, c3, hm, rfl, rfl, hr3⟩
      go_wp2
      go_ret2
      refine ⟨_, m, c3, A2, n2, c2, rfl, hm, hn2, ?_, ?_, p2⟩
      · rw [HD.out.1, HV.out] at hr3; exact hr3
      · have := HR.out
        rw [HD.out.2, HV.out] at this; exact this
    · obtain ⟨k, rfl⟩ : ∃ k', k = k' + 1 := ⟨k - 1, by omega⟩
      rw [show (((k + 1 : Nat) : Int) - 1) = (k : Int) by omega]
      obtain ⟨ad, d, rfl, hbd, hdb, hd, hcd⟩ := h.at_ (show k < n by omega)
      have HDD := Lib.hid hd
      have HDV := Lib.hid hD
      have hRh := hD.2.2.1
      have hP0 : PInv w wr w.heap.size (List.replicate k 0 ++ [] ++ (0 * 2 ^ 16) :: hs) A2 n2 c2 Rh := by
        have : List.replicate (k + 1) 0 ++ hs = List.replicate k 0 ++ [] ++ (0 * 2 ^ 16) :: hs := by
          rw [List.replicate_succ', Nat.zero_mul]; simp
        rw [← this]; exact hP
      clear hd hcd hD hP
      go_wp2
      go_loopw [7, 9] (fun r i wr => ∃ (j q R : Nat) (A2 : Option Addr) (n2 c2 : Nat), j ≤ 16 ∧ i = .int .i64 ((j : Int) - 1) ∧ r = .slice A2 n2 c2 ∧ PInv w wr w.heap.size (List.replicate k 0 ++ [] ++ (q * 2 ^ j) :: hs) A2 n2 c2 R ∧ BitInv Y Rh d j q R) (fun _ i _ => (intOf i + 1).toNat)
      case atStart => exact ⟨16, 0, Rh, A2, n2, c2, by omega, rfl, rfl, hP0, bitInv_start hRh hdb⟩
      case round =>
        clear hP0
        obtain ⟨j, q, R, A3, n3, c3, hj, rfl, rfl, hP, hB⟩ := hrel
        by_cases hj0 : j = 0
        · subst hj0
          have HN := Lib.hid (HDV.out.step HDD.out hB)
          have hP2 : PInv w wr w.heap.size (List.replicate k 0 ++ q :: hs) A3 n3 c3 R := by simpa using hP
          go_wp2
          exact ⟨⟨k, _, R, A3, n3, c3, by omega, by go_num, rfl, hP2, HN.out⟩, by simp [intOf] <;> omega⟩
        · obtain ⟨i, rfl⟩ : ∃ i, j = i + 1 := ⟨j - 1, by omega⟩
          rw [show (((i + 1 : Nat) : Int) - 1) = (i : Int) by omega]
          have hRY := hB.1
          have hn3 : n3 ≤ n' := dg_len_mono (Nat.le_of_lt hRY) hP.2.2.1.len HL'.out
          have hr3 := hP.2.2.1
          have HB := Lib.hid hB
          clear hB
          go_wp2_with fail
          refine (plusF hr3 hr3 (by omega) (by omega)).mono ?_
          rintro e w1 ⟨A4, n4, c4, rfl, hn4, hr4, hb4, hf4⟩
          have hP4 := hP.next hb4 hr4 hf4
          have hcd := (h.below hP4.2.1).cell_ HDD.out
          have HBI := Lib.hid (bit_int (d := d) (i := i))
          have hbl : d / 2 ^ i % 2 < 2 := Nat.mod_lt _ (by omega)
          have e1 : (0 : Int) ≤ k := by omega
          have e2 : (k : Int) < n := by omega
          go_wp2_with fail
          refine (trim1 w1 w1.heap.size rfl _ (d / 2 ^ i % 2) HBI.out (by omega)).mono ?_
          rintro e w' ⟨m, c5, hm, rfl, rfl, hr5⟩
          have hP5 := hP4.alloc (.cells #[.int .i64 (((d : Int) / 2 ^ i).tmod 2)] 3)
          have HU := Lib.hid (fun hv => HB.out.up (show i < 16 by omega) hv)
          have HT := Lib.hid (fun hv => HB.out.stay (show i < 16 by omega) hv)
          have HBO := Lib.hid (HB.out.bound hj)
          have hp15 := pow_le15 (show i < 16 by omega)
          clear HB HBI hcd hP4 hP hr3 hr4
          generalize w1.alloc (.cells #[.int .i64 (((d : Int) / 2 ^ i).tmod 2)] 3) = w5 at *
          generalize d / 2 ^ i % 2 = b at *
          go_wp2_with fail
          refine (plusF hP5.2.2.1 hr5 (by omega) (by omega)).mono ?_
          rintro e w2 ⟨A6, n6, c6, rfl, hn6, hr6, hb6, hf6⟩
          have hP6 := hP5.next hb6 hr6 hf6
          have hr' := (h'.below hP6.2.1).more (show w.heap.size ≤ w2.heap.size by have := hP6.1.lt; omega)
          go_wp2_with fail
          refine (compare_any _ _ _ _ _ _ _ (R + R + b) Y w2 hr6 hr' (by omega) (by omega)).mono ?_
          rintro e w' ⟨rfl, q0, rfl⟩
          have hP7 := hP6.drewN q0
          have hr7' : DR (w2.drewN q0) (w2.drewN q0).heap.size A' n' c' (dg 65536 Y) := hr'.drewN q0
          clear hP6 hP5 hr' hr6 hr5
          generalize w2.drewN q0 = w7 at *
          by_cases hge : Y ≤ R + R + b
          · have hce : (0 : Int) ≤ cmpS (R + R + b) Y := by
              rcases Nat.lt_or_eq_of_le hge with g | g
              · rw [cmpS_gt g]; omega
              · rw [cmpS_eq g.symm]; omega
            have hcd : decide (cmpS (R + R + b) Y ≥ 0) = true := by simpa using hce
            have HN := Lib.hid (HU.out hge)
            clear HU HT
            go_wp2_with fail
            refine (lessF hP7.2.2.1 hr7' (by omega) hge).mono ?_
            rintro e w8 ⟨A8, n8, c8, rfl, hn8, hr8, hb8, hf8⟩
            have hP8 := hP7.next hb8 hr8 hf8
            have hkl : (List.replicate k 0).length = k := by simp
            have hcell := hP8.1.cell (get_mid (ns := []) (pre := List.replicate k 0) (p := q * 2 ^ (i + 1)) (post := hs) (i := k) (by simp))
            have hfz := hP8.1.frozen k
            have hq := HBO.out
            have hdu := dig_up q i
            have HP9 := Lib.hid (fun z hz => hP8.store hkl ((2 * q + 1) * 2 ^ i) z hz)
            have hqq : (2 * q + 1) * 2 ^ i = q * 2 ^ (i + 1) + 2 ^ i := by rw [hdu, Nat.add_mul, Nat.one_mul]
            have HQQ := Lib.hid hqq
            have HP2 := Lib.hid (two_pow_cast i)
            clear hqq hdu hP7 hr7' hP8 hr8
            generalize q * 2 ^ (i + 1) = dq at *
            have HZ := Lib.hid (wrap_digit i HQQ.out hq hp15)
            go_wp2
            exact ⟨⟨i, 2 * q + 1, _, A8, n8, c8, by omega, by go_num, rfl, HP9.out _ HZ.out, HN.out⟩, by simp [intOf] <;> omega⟩
          · have HE := Lib.hid (cmpS_lt (m := R + R + b) (n := Y) (by omega))
            rw [HE.out]
            have HN := Lib.hid (HT.out (by omega))
            have hP8 : PInv w w7 w.heap.size (List.replicate k 0 ++ [] ++ (2 * q * 2 ^ i) :: hs) A6 n6 c6 (R + R + b) := by rw [← dig_up]; exact hP7
            clear hP7
            go_wp2
            exact ⟨⟨i, 2 * q, _, A6, n6, c6, by omega, by go_num, rfl, hP8, HN.out⟩, by simp [intOf] <;> omega⟩
end Go.Proofs.YtbpehdfpiembfaaGreatDoor

/-
  What Mul, Div, Mod and Bits of the reference of layer 2 answer.
-/
namespace Go.Proofs.YtbpehdfpiembfaaGreatDoor
open Go.RowKit
set_option linter.unusedVariables false
set_option maxRecDepth 100000

theorem rtimesX {A A' : Option Addr} {n n' c c' : Nat} {xs ys : List Nat} {w : World} (h : DX w A n c xs) (h' : DX w A' n' c' ys) (hn : n ≤ 10000) (hn' : n' ≤ 10000) :
    Calls Tryz.prog 84 #[.slice A n c, .slice A' n' c'] w fun e w' => ∃ A2 n2 c2, e = .returned (.slice A2 n2 c2) ∧ n2 ≤ n + n' + 1 ∧ DX w' A2 n2 c2 (dg 65536 (vl 65536 xs * vl 65536 ys)) ∧ ExtN w w' := (times_dg_any A A' n n' c c' xs ys w h h' hn hn').mono fun e w' ⟨A2, n2, c2, a1, a2, a3, a4, _⟩ => ⟨A2, n2, c2, a1, a2, a3, a4⟩
theorem rmulX {A A' : Option Addr} {n n' c c' : Nat} {xs ys : List Nat} {w : World} (h : NXN w A n c xs) (h' : NXN w A' n' c' ys) (hn : n ≤ 2000) (hn' : n' ≤ 2000) :
    Calls Tryz.prog 29 #[.slice A n c, .slice A' n' c'] w fun e w' => ∃ A2 n2 c2, e = .returned (.slice A2 n2 c2) ∧ n2 ≤ 4 * n + 4 * n' + 1 ∧ NXN w' A2 n2 c2 (nw (nv xs * nv ys)) ∧ ExtN w w' := by
  have HV := Lib.hid (show vl 65536 (dg 65536 (vl 65536 (dg 65536 (nv xs)) * vl 65536 (dg 65536 (nv ys)))) = nv xs * nv ys by rw [vl_dg d_two, vl_dg d_two, vl_dg d_two])
  go_enter Tryz.func29, Tryz.ntmps29
  go_wp2_with fail
  refine (digX h (by omega)).mono ?_
  rintro e w1 ⟨A1, n1, c1, rfl, hn1, d1, k1⟩
  go_wp2_with fail
  refine (digX (h'.ext k1) (by omega)).mono ?_
  rintro e w2 ⟨A2, n2, c2, rfl, hn2, d2, k2⟩
  go_wp2_with fail
  refine (rtimesX (d1.ext k2) d2 (by omega) (by omega)).mono ?_
  rintro e w3 ⟨A3, n3, c3, rfl, hn3, d3, k3⟩
  go_wp2_with fail
  refine (fromX d3 (by omega)).mono ?_
  rw [HV.out]
  rintro e w4 ⟨A4, n4, c4, rfl, hn4, d4, k4⟩
  go_wp2
  go_ret
  exact ⟨A4, n4, c4, rfl, by omega, d4, k1.trans (k2.trans (k3.trans k4))⟩
theorem partsX {A A' : Option Addr} {n n' c c' X Y : Nat} {w : World} (h : DX w A n c (dg 65536 X)) (h' : DX w A' n' c' (dg 65536 Y)) (hn : n ≤ 10000) (hn' : n' ≤ 10000) (hY : 0 < Y) :
    Calls Tryz.prog 184 #[.slice A n c, .slice A' n' c'] w fun e w' => ∃ A m c A2 m2 c2, e = .returned (.tuple #[.slice A m c, .slice A2 m2 c2]) ∧ m ≤ n ∧ m2 ≤ n' ∧ DX w' A m c (dg 65536 (X / Y)) ∧ DX w' A2 m2 c2 (dg 65536 (X % Y)) ∧ ExtN w w' := parts_any A A' n n' c c' X Y w h h' hn hn' hY
theorem dg_pos_len {V : Nat} (h : 0 < V) : 0 < (dg 65536 V).length := by
  rcases Nat.eq_zero_or_pos (dg 65536 V).length with h0 | h0
  · have := dg_nil d_two (List.eq_nil_of_length_eq_zero h0)
    omega
  · exact h0
theorem rdivX {A A' : Option Addr} {n n' c c' : Nat} {xs ys : List Nat} {w : World} (h : NXN w A n c xs) (h' : NXN w A' n' c' ys) (hn : n ≤ 2000) (hn' : n' ≤ 2000) :
    Calls Tryz.prog 120 #[.slice A n c, .slice A' n' c'] w (DivPostN w (4 * n + 4 * n') (nv xs) (nv ys)) := by
  go_enter Tryz.func120, Tryz.ntmps120
  go_wp2_with fail
  refine (digX h' (by omega)).mono ?_
  rintro e w1 ⟨A1, n1, c1, rfl, hn1, d1, k1⟩
  by_cases hY : nv ys = 0
  · have hl := d1.len
    rw [hY, dg_zero] at hl
    obtain rfl : n1 = 0 := hl.symm
    go_wp2
    go_ret3
    exact .inl ⟨hY, rfl, k1⟩
  · have hl := d1.len
    have hp := dg_pos_len (V := nv ys) (by omega)
    have hnb : ((n1 : Int) == 0) = false := by simp; omega
    clear hl hp
    go_wp2_with fail
    refine (digX (h.ext k1) (by omega)).mono ?_
    rintro e w2 ⟨A2, n2, c2, rfl, hn2, d2, k2⟩
    go_wp2_with fail
    refine (partsX d2 (d1.ext k2) (by omega) (by omega) (by omega)).mono ?_
    rintro e w3 ⟨A3, n3, c3, A4, n4, c4, rfl, hn3, hn4, d3, d4, k3⟩
    have HV := Lib.hid (vl_dg d_two (nv xs / nv ys))
    have HV2 := Lib.hid (vl_dg d_two (nv xs % nv ys))
    go_wp2_with fail
    refine (fromX d3 (by omega)).mono ?_
    rw [HV.out]
    rintro e w4 ⟨A5, n5, c5, rfl, hn5, d5, k4⟩
    go_wp2_with fail
    refine (fromX (d4.ext k4) (by omega)).mono ?_
    rw [HV2.out]
    rintro e w5 ⟨A6, n6, c6, rfl, hn6, d6, k5⟩
    go_wp2
    go_ret3
    exact .inr ⟨by omega, A5, n5, c5, A6, n6, c6, rfl, by omega, by omega, d5.ext k5, d6, k1.trans (k2.trans (k3.trans (k4.trans k5)))⟩
theorem nw_head {V : Nat} (h : V < 18446744073709551616) : (nw V)[0]?.getD 0 = V := by
  rcases Nat.eq_zero_or_pos V with h0 | h0
  · subst h0
    rw [show nw 0 = [] from dg_zero _]; rfl
  · rw [nw_one h0 h]; rfl
theorem rmodX {A : Option Addr} {n c : Nat} {xs : List Nat} {w : World} (d : Nat) (h : NXN w A n c xs) (hn : n ≤ 2000) (hd : d < 18446744073709551616) :
    Calls Tryz.prog 185 #[.slice A n c, .int .u64 (d : Int)] w fun e w' => e = .returned (.int .u64 ((if d = 0 then 0 else nv xs % d : Nat) : Int)) ∧ ExtN w w' := by
  by_cases hd0 : d = 0
  · subst hd0
    go_enter Tryz.func185, Tryz.ntmps185
    go_wp2
    go_ret
    exact ⟨rfl, ExtN.refl _⟩
  · have hdb : ((d : Int) == 0) = false := by simpa using hd0
    rw [if_neg hd0]
    have E := Lib.hid (nv_one d)
    go_enter Tryz.func185, Tryz.ntmps185
    go_wp2_with fail
    refine (rdivX (h.ext ((ExtN.refl w).alloc _)) (NXN.one w w.heap.size rfl d d rfl hd) (by omega) (by omega)).mono ?_
    rw [E.out]
    rintro e w2 (⟨h0, _⟩ | ⟨_, A2, n2, c2, A3, n3, c3, rfl, hn2, hn3, hx2, hx3, he2⟩)
    · omega
    have k2 : ExtN w w2 := ((ExtN.refl w).alloc _).trans he2
    have hlt := Nat.mod_lt (nv xs) (show 0 < d by omega)
    have HH := Lib.hid (nw_head (V := nv xs % d) (by omega))
    by_cases hn0 : n3 = 0
    · subst hn0
      have H0 := hx3.len
      have HR := Lib.hid (dg_nil W64_two (hx3.eq_nil rfl))
      clear H0
      go_wp2
      go_ret
      exact ⟨congrArg Ending.returned (u64_eq (by rw [HR.out]; rfl)), k2⟩
    · have hnb : ((n3 : Int) == 0) = false := by simpa using hn0
      obtain ⟨ad, x, rfl, hb, hxb, hx, hc⟩ := hx3.at_ (show 0 < n3 by omega)
      have HX := Lib.hid hx
      have hc0 : w2.cell? ad = some (.int .u64 (x : Int)) := hc
      clear hx
      go_wp2
      go_ret
      refine ⟨congrArg Ending.returned (u64_eq ?_), k2⟩
      have := HH.out
      rw [HX.out, Option.getD_some] at this
      rw [this]
end Go.Proofs.YtbpehdfpiembfaaGreatDoor
