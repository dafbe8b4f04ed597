/-
  Whether naturals are few words long; the law NatBack walked; and how a natural or a whole number that is handed in reads.
-/
import Derived.Test.YtpgcapobbmbchaaDoorZ31
import Derived.Carry
import Derived.ChangeSlices
import Derived.Lib.SmallJoins
import Derived.OpenShut
import Derived.Test.YtpgcapobbmbchaaDoorZ4
import Derived.Test.YtpgcapobbmbchaaDoorZ32
namespace Go.Proofs.YtpgcapobbmbchaaDoor
open Go.RowKit
set_option linter.unusedVariables false
set_option maxRecDepth 100000

theorem bitLen_zero {n : Nat} (h : n = 0) : Go.bitLen n = 0 := by subst h; rfl
theorem bitLen_pos {n : Nat} (h : 0 < n) : 0 < Go.bitLen n := by
  obtain ⟨a, _⟩ := Go.bitLen_spec n
  rcases Nat.eq_zero_or_pos (Go.bitLen n) with h0 | h0
  · rw [h0] at a; omega
  · exact h0

section
variable {H : Type} {enc : TypeId × Value → H}
theorem cells_u64 : Tryd.prog.cellsOf 79 = 1 := by kernel_rfl
theorem cells_int : Tryd.prog.cellsOf 59 = 2 := by kernel_rfl
theorem laidOutN : laidOutB Tryd.prog = true := by kernel_rfl
/-- A natural that is handed in reads as words. -/
theorem nat_cells {W : World} {fuel : Nat} {cs : List Value} {x : DataW H × List MemPlace} (h : DataW.trod enc Tryd.prog W 0 (fun _ => true) true fuel 57 cs = some x) :
    ∃ A n c xs, cs = [.slice A n c] ∧ NXN W A n c xs := by
  rcases ChangeShapes.open_ints Tryd.underlying57 Tryd.underlying79 cells_u64 h with ⟨rfl, _⟩ | ⟨a, len, cap, zs, rfl, _, hl, hm, hz, _, hcell, hwz⟩
  · exact ⟨none, 0, 0, [], rfl, Rd.none_ _ _ _ _ _ _⟩
  · simp only [if_true] at hz
    refine ⟨some a, len, cap, (zs.take len).map Int.toNat, rfl, by simp; omega, hl, ?_, fun hn => ⟨a, rfl, ?_, fun j x hx => ?_⟩⟩
    · intro x hx
      obtain ⟨z, hz', rfl⟩ := List.mem_map.1 hx
      have := word_of (hwz z (List.mem_of_mem_take hz'))
      rw [W64_eq]
      omega
    · have := hcell 0 (by omega)
      exact World.block_lt_of_cell? W a (by simpa [Addr.add] using this)
    · rw [List.getElem?_map] at hx
      obtain ⟨z, hz1, rfl⟩ := Option.map_eq_some_iff.1 hx
      rw [List.getElem?_take] at hz1
      split at hz1
      · have hj := (List.getElem?_eq_some_iff.1 hz1).1
        have hw := word_of (hwz z (List.mem_of_getElem? hz1))
        rw [hcell j hj, show zs.getD j 0 = z by simp [List.getD, hz1], Int.toNat_of_nonneg hw.1]
      · cases hz1
end
end Go.Proofs.YtpgcapobbmbchaaDoor

/-
  Whole numbers that read as numbers; the calls of layer 2 over them.
-/
namespace Go.Proofs.YtpgcapobbmbchaaDoor
open Go.RowKit
set_option linter.unusedVariables false
set_option maxRecDepth 100000

/-- A whole number that reads as z. -/
def IX (w : World) (b : Bool) (A : Option Addr) (n c : Nat) (z : Int) : Prop := ∃ xs, NXN w A n c xs ∧ iv b (nv xs) = z
theorem IX.ext {a b : World} {f : Bool} {A : Option Addr} {n c : Nat} {z : Int} (h : IX a f A n c z) (k : ExtN a b) : IX b f A n c z := by
  obtain ⟨xs, hx, e⟩ := h
  exact ⟨xs, hx.ext k, e⟩
theorem iv_back (z : Int) : iv (decide (z < 0)) z.natAbs = z := by
  unfold iv
  by_cases h : z < 0
  · rw [decide_eq_true h, if_pos rfl]; omega
  · rw [decide_eq_false h, if_neg (by simp)]; omega
theorem IX.of {w : World} {A : Option Addr} {n c : Nat} {z : Int} (h : NXN w A n c (nw z.natAbs)) : IX w (decide (z < 0)) A n c z := ⟨_, h, by rw [nv_nw]; exact iv_back z⟩
/-- What a call answers that makes the whole number z. -/
def ZX (w : World) (N : Nat) (z : Int) (e : Ending) (w' : World) : Prop := ∃ A n c, e = .returned (.agg #[.bool (decide (z < 0)), .slice A n c]) ∧ n ≤ N ∧ NXN w' A n c (nw z.natAbs) ∧ ExtN w w'
theorem sameZ {A A' : Option Addr} {n n' c c' : Nat} {z z' : Int} {w : World} (h : NXN w A n c (nw z.natAbs)) (h' : NXN w A' n' c' (nw z'.natAbs)) (e : z = z') (hn : n ≤ 100000) (hn' : n' ≤ 100000) :
    Calls Tryd.prog 41 #[.agg #[.bool (decide (z < 0)), .slice A n c], .agg #[.bool (decide (z' < 0)), .slice A' n' c']] w fun e w' => e = .returned (.bool true) ∧ ExtN w w' := by
  subst e
  have := sameIntX (b := decide (z < 0)) (b' := decide (z < 0)) h h' hn hn'
  rwa [show decide (decide (z < 0) = decide (z < 0) ∧ nw z.natAbs = nw z.natAbs) = true by simp] at this
end Go.Proofs.YtpgcapobbmbchaaDoor

/-
  What Whole, Times and Sum of the reference of layer 2 answer.
-/
namespace Go.Proofs.YtpgcapobbmbchaaDoor
open Go.RowKit
set_option linter.unusedVariables false
set_option maxRecDepth 100000

theorem ExtN.drew {a b : World} (h : ExtN a b) : ExtN a b.drew := Below.drew h
theorem box_next {a b : World} {t : TypeId} (k : ExtN (a.alloc (.cells #[.bool false, .slice none 0 0] t)) b) :
    b.cell? ⟨a.heap.size, 0, none⟩ = some (.bool false) ∧ b.cell? ⟨a.heap.size, 1, none⟩ = some (.slice none 0 0) ∧ b.frozen? ⟨a.heap.size, 0, none⟩ = false ∧ b.frozen? ⟨a.heap.size, 1, none⟩ = false :=
  ⟨kept_cellN k (by simp) (by simp), kept_cellN k (by simp) (by simp), kept_freeN k (by simp) (by simp), kept_freeN k (by simp) (by simp)⟩

theorem rwholeX {A : Option Addr} {n c : Nat} {b : Bool} {xs : List Nat} {w : World} (h : NXN w A n c xs) (hn : n ≤ 10000) :
    Calls Tryd.prog 56 #[.bool b, .slice A n c] w (ZX w (4 * n) (iv b (nv xs))) := by
  have HV := Lib.hid (vl_dg d_two (nv xs))
  obtain ⟨i1, i2⟩ := iv_flag (b := b) (V := nv xs)
  have I1 := Lib.hid i1
  have I2 := Lib.hid i2
  clear i1 i2
  go_enter Tryd.func56, Tryd.ntmps56
  go_wp2_with fail
  refine (digX (h.ext ((ExtN.refl w).alloc _)) hn).mono ?_
  rintro e w1 ⟨A1, n1, c1, rfl, hn1, d1, k1⟩
  go_wp2_with fail
  refine (fromX d1 (by omega)).mono ?_
  rw [HV.out]
  rintro e w2 ⟨A2, n2, c2, rfl, hn2, d2, k2⟩
  obtain ⟨r0, r1, f0, f1⟩ := box_next (k1.trans k2)
  have HK := Lib.hid (((ExtN.refl w).alloc _).trans (k1.trans k2))
  have HP := Lib.hid (pos_words d2)
  clear k1 k2
  cases b
  · obtain ⟨z0, z1⟩ := ans_cells r0 r1 (.bool false) (.slice A2 n2 c2)
    go_wp2
    refine bodyPost_ret (v := .agg #[.bool false, .slice A2 n2 c2]) (by simp [results, Tryd.results56, go_sem, z0, z1]) rfl ?_
    exact ⟨A2, n2, c2, by rw [← I1.out]; rfl, by omega, by rw [← I2.out]; exact rd_answer d2 r0 r1, (Below.setCell HK.out (by simp) _).setCell (by simp) _⟩
  · by_cases hn0 : 0 < n2
    · obtain ⟨z0, z1⟩ := ans_cells r0 r1 (.bool true) (.slice A2 n2 c2)
      go_wp2
      refine bodyPost_ret (v := .agg #[.bool true, .slice A2 n2 c2]) (by simp [results, Tryd.results56, go_sem, z0, z1]) rfl ?_
      exact ⟨A2, n2, c2, by rw [← I1.out, ← HP.out, decide_eq_true hn0]; rfl, by omega, by rw [← I2.out]; exact rd_answer d2 r0 r1, (Below.setCell HK.out (by simp) _).setCell (by simp) _⟩
    · obtain ⟨z0, z1⟩ := ans_cells r0 r1 (.bool false) (.slice A2 n2 c2)
      go_wp2
      refine bodyPost_ret (v := .agg #[.bool false, .slice A2 n2 c2]) (by simp [results, Tryd.results56, go_sem, z0, z1]) rfl ?_
      exact ⟨A2, n2, c2, by rw [← I1.out, ← HP.out, decide_eq_false hn0]; rfl, by omega, by rw [← I2.out]; exact rd_answer d2 r0 r1, (Below.setCell HK.out (by simp) _).setCell (by simp) _⟩
theorem rwholeZ {A : Option Addr} {n c : Nat} {b : Bool} {z : Int} {xs : List Nat} {w : World} (h : NXN w A n c xs) (hn : n ≤ 10000) (hz : Hid (iv b (nv xs) = z)) :
    Calls Tryd.prog 56 #[.bool b, .slice A n c] w (ZX w (4 * n) z) := by
  rw [← hz.out]; exact rwholeX h hn
theorem iv_times {b b' : Bool} {X Y : Nat} : iv (!(b == b')) (X * Y) = iv b X * iv b' Y := by
  cases b <;> cases b' <;> simp [iv, Int.neg_mul, Int.mul_neg]

set_option maxHeartbeats 1000000 in
theorem rtimes_any (A A' : Option Addr) (n n' c c' : Nat) (b b' : Bool) (xs ys : List Nat) (z : Int) (w : World) (h : NXN w A n c xs) (h' : NXN w A' n' c' ys) (hn : n ≤ 1000) (hn' : n' ≤ 1000) (hz : Hid (iv b (nv xs) * iv b' (nv ys) = z)) :
    Calls Tryd.prog 58 #[.agg #[.bool b, .slice A n c], .agg #[.bool b', .slice A' n' c']] w (ZX w (4 * (4 * n + 4 * n' + 1)) z) := by
  have HZ := Lib.hid (show iv (!(b == b')) (nv (nw (nv xs * nv ys))) = z by rw [nv_nw, iv_times]; exact hz.out)
  have hx := box3 w b b' (.slice A n c) (.slice A' n' c') (.bool false) (.slice none 0 0) 59
  have HX := Lib.hid hx
  clear hx
  go_enter Tryd.func58, Tryd.ntmps58
  go_wp2
  generalize ((w.alloc (Obj.cells #[Value.bool b, Value.slice A n c] 59)).alloc (Obj.cells #[Value.bool b', Value.slice A' n' c'] 59)).alloc (Obj.cells #[Value.bool false, Value.slice none 0 0] 59) = W at *
  have HB := HX.out.toBox2
  obtain ⟨⟨xb, xs0, a0, a1, b0, b1, fr⟩, x3, r0, r1, f0, f1⟩ := HX.out
  have X3 := Lib.hid x3
  have hR := (h.below xb).more (show w.heap.size ≤ W.heap.size by omega)
  have hR' := (h'.below xb).more (show w.heap.size ≤ W.heap.size by omega)
  have hz3 : w.heap.size + 3 ≤ W.heap.size := by omega
  have ne1 : ¬ (w.heap.size + 1 + 1 = w.heap.size) := by omega
  have ne2 : ¬ (w.heap.size = w.heap.size + 1 + 1) := by omega
  clear x3
  go_region_held3 (fun w' => w'.cell? ⟨w.heap.size, 0, none⟩ = some (.bool b) ∧ w'.cell? ⟨w.heap.size + 1, 0, none⟩ = some (.bool b') ∧ w'.cell? ⟨w.heap.size, 1, none⟩ = some (.slice A n c) ∧ w'.cell? ⟨w.heap.size + 1, 1, none⟩ = some (.slice A' n' c')) (go_keep)
    (first
      | (go_at_call 54; refine (rmulX hR.drew hR'.drew (by omega) (by omega)).mono ?_; rintro e w1 ⟨A2, n2, c2, rfl, hn2, hr2, hb2⟩; obtain ⟨_, _, _, _, _, _, _⟩ := HB.drew.keep hb2; have hs2 : W.heap.size ≤ w1.heap.size := hb2.size)
      | (go_at_call 56; refine (rwholeZ hr2 (by omega) HZ).mono ?_; rintro e w2 ⟨A3, n3, c3, rfl, hn3, hr3, hb3⟩; obtain ⟨_, _, _, _, _, _, _⟩ := (HB.drew.keep hb2).keep hb3; have hs3 := hb3.size; have r0' := kept_cellN hb3 (by omega) (kept_cellN hb2 (show w.heap.size + 2 < W.heap.size by omega) r0); have r1' := kept_cellN hb3 (by omega) (kept_cellN hb2 (show w.heap.size + 2 < W.heap.size by omega) r1); have f0' := kept_freeN hb3 (by omega) (kept_freeN hb2 (show w.heap.size + 2 < W.heap.size by omega) f0); have f1' := kept_freeN hb3 (by omega) (kept_freeN hb2 (show w.heap.size + 2 < W.heap.size by omega) f1)))
  go_wp2
  have r0'' : w2.cell? ⟨w.heap.size + 1 + 1, 0, none⟩ = some (.bool false) := r0'
  have r1'' : w2.cell? ⟨w.heap.size + 1 + 1, 1, none⟩ = some (.slice none 0 0) := r1'
  obtain ⟨z0, z1⟩ := ans_cells r0'' r1'' (.bool (decide (z < 0))) (.slice A3 n3 c3)
  refine bodyPost_ret (v := .agg #[.bool (decide (z < 0)), .slice A3 n3 c3]) (by simp [results, Tryd.results58, go_sem, z0, z1]) rfl ?_
  refine ⟨A3, n3, c3, rfl, by omega, rd_answer hr3 r0' r1', ?_⟩
  exact ((xb.trans ((Below.drew (Below.refl _ W)).trans (hb2.mono (show W.heap.size ≤ W.drew.heap.size from Nat.le_refl _)) |>.mono (by omega))).trans (hb3.mono (by omega))).setCell (by simp; omega) _ |>.setCell (by simp; omega) _
theorem iv_sum_same {b : Bool} {X Y : Nat} : iv b (X + Y) = iv b X + iv b Y := by cases b <;> simp [iv]; omega
theorem iv_sum_ge {b b' : Bool} {X Y : Nat} (hb : b ≠ b') (h : Y ≤ X) : iv b (X - Y) = iv b X + iv b' Y := by
  cases b <;> cases b' <;> simp [iv] at hb ⊢ <;> omega
theorem iv_sum_lt {b b' : Bool} {X Y : Nat} (hb : b ≠ b') (h : X < Y) : iv b' (Y - X) = iv b X + iv b' Y := by
  cases b <;> cases b' <;> simp [iv] at hb ⊢ <;> omega
set_option maxHeartbeats 2000000 in
theorem rsum_any (A A' : Option Addr) (n n' c c' : Nat) (b b' : Bool) (xs ys : List Nat) (z : Int) (w : World) (h : NXN w A n c xs) (h' : NXN w A' n' c' ys) (hn : n ≤ 1000) (hn' : n' ≤ 1000) (hz : Hid (iv b (nv xs) + iv b' (nv ys) = z)) :
    Calls Tryd.prog 55 #[.agg #[.bool b, .slice A n c], .agg #[.bool b', .slice A' n' c']] w (ZX w (4 * (4 * n + 4 * n' + 1)) z) := by
  have hx := box3 w b b' (.slice A n c) (.slice A' n' c') (.bool false) (.slice none 0 0) 59
  have HX := Lib.hid hx
  clear hx
  go_enter Tryd.func55, Tryd.ntmps55
  by_cases hb : b = b'
  · subst hb
    have HZ := Lib.hid (show iv b (nv (nw (nv xs + nv ys))) = z by rw [nv_nw, iv_sum_same]; exact hz.out)
    have hbb : (b == b) = true := by simp
    go_wp2
    generalize ((w.alloc (Obj.cells #[Value.bool b, Value.slice A n c] 59)).alloc (Obj.cells #[Value.bool b, Value.slice A' n' c'] 59)).alloc (Obj.cells #[Value.bool false, Value.slice none 0 0] 59) = W at *
    have HB := HX.out.toBox2
    obtain ⟨⟨xb, xs0, a0, a1, b0, b1, fr⟩, x3, r0, r1, f0, f1⟩ := HX.out
    have X3 := Lib.hid x3
    have hR := (Rd.below h xb).more (show w.heap.size ≤ W.heap.size by omega)
    have hR' := (Rd.below h' xb).more (show w.heap.size ≤ W.heap.size by omega)
    have hz3 : w.heap.size + 3 ≤ W.heap.size := by omega
    have ne1 : ¬ (w.heap.size + 1 + 1 = w.heap.size) := by omega
    have ne2 : ¬ (w.heap.size = w.heap.size + 1 + 1) := by omega
    clear x3
    go_region_held3 (fun w' => w'.cell? ⟨w.heap.size, 0, none⟩ = some (.bool b) ∧ w'.cell? ⟨w.heap.size + 1, 0, none⟩ = some (.bool b) ∧ w'.cell? ⟨w.heap.size, 1, none⟩ = some (.slice A n c) ∧ w'.cell? ⟨w.heap.size + 1, 1, none⟩ = some (.slice A' n' c')) (go_keep)
      (first
        | (go_at_call 101; refine (raddX hR.drew hR'.drew (by omega) (by omega)).mono ?_; rintro e w1 ⟨A2, n2, c2, rfl, hn2, hr2, hb2⟩; obtain ⟨_, _, _, _, _, _, _⟩ := HB.drew.keep hb2; have hs2 : W.heap.size ≤ w1.heap.size := hb2.size)
        | (go_at_call 56; refine (rwholeZ hr2 (by omega) HZ).mono ?_; rintro e w2 ⟨A3, n3, c3, rfl, hn3, hr3, hb3⟩; obtain ⟨_, _, _, _, _, _, _⟩ := (HB.drew.keep hb2).keep hb3; have hs3 := hb3.size; have r0' := kept_cellN hb3 (by omega) (kept_cellN hb2 (show w.heap.size + 2 < W.heap.size by omega) r0); have r1' := kept_cellN hb3 (by omega) (kept_cellN hb2 (show w.heap.size + 2 < W.heap.size by omega) r1); have f0' := kept_freeN hb3 (by omega) (kept_freeN hb2 (show w.heap.size + 2 < W.heap.size by omega) f0); have f1' := kept_freeN hb3 (by omega) (kept_freeN hb2 (show w.heap.size + 2 < W.heap.size by omega) f1)))
    go_wp2
    have r0'' : w2.cell? ⟨w.heap.size + 1 + 1, 0, none⟩ = some (.bool false) := r0'
    have r1'' : w2.cell? ⟨w.heap.size + 1 + 1, 1, none⟩ = some (.slice none 0 0) := r1'
    obtain ⟨z0, z1⟩ := ans_cells r0'' r1'' (.bool (decide (z < 0))) (.slice A3 n3 c3)
    refine bodyPost_ret (v := .agg #[.bool (decide (z < 0)), .slice A3 n3 c3]) (by simp [results, Tryd.results55, go_sem, z0, z1]) rfl ?_
    refine ⟨A3, n3, c3, rfl, by omega, rd_answer hr3 r0' r1', ?_⟩
    exact ((xb.trans ((Below.drew (Below.refl _ W)).trans (hb2.mono (show W.heap.size ≤ W.drew.heap.size from Nat.le_refl _)) |>.mono (by omega))).trans (hb3.mono (by omega))).setCell (by simp; omega) _ |>.setCell (by simp; omega) _
  · have hbb : (b == b') = false := by simpa using hb
    have HBB := Lib.hid hb
    clear hb
    go_wp2_with fail
    generalize ((w.alloc (Obj.cells #[Value.bool b, Value.slice A n c] 59)).alloc (Obj.cells #[Value.bool b', Value.slice A' n' c'] 59)).alloc (Obj.cells #[Value.bool false, Value.slice none 0 0] 59) = W at *
    have HB := HX.out.toBox2
    obtain ⟨⟨xb, xs0, a0, a1, b0, b1, fr⟩, x3, r0, r1, f0, f1⟩ := HX.out
    have X3 := Lib.hid x3
    have hR := (Rd.below h xb).more (show w.heap.size ≤ W.heap.size by omega)
    have hR' := (Rd.below h' xb).more (show w.heap.size ≤ W.heap.size by omega)
    have hz3 : w.heap.size + 3 ≤ W.heap.size := by omega
    clear x3
    refine (rcmpX hR hR' (by omega) (by omega)).mono ?_
    rintro e w1 ⟨rfl, k1⟩
    have hs1 : W.heap.size ≤ w1.heap.size := k1.size
    obtain ⟨_, _, a0', a1', b0', b1', _⟩ := HB.keep k1
    by_cases hlt : nv xs < nv ys
    · have HE := Lib.hid (cmpS_lt hlt)
      rw [HE.out]
      have HZ := Lib.hid (show iv b' (nv (nw (nv ys - nv xs))) = z by rw [nv_nw, iv_sum_lt HBB.out hlt]; exact hz.out)
      go_wp2_with fail
      refine (rsubX (NXN.ext hR' k1) (NXN.ext hR k1) (by omega) (by omega)).mono ?_
      rintro e w2 (⟨hh, _⟩ | ⟨_, A2, n2, c2, rfl, hn2, hr2, he2⟩)
      · omega
      have k2 : ExtN W w2 := k1.trans he2
      have hs2 : W.heap.size ≤ w2.heap.size := k2.size
      obtain ⟨_, _, a0'', a1'', b0'', b1'', _⟩ := HB.keep k2
      go_wp2_with fail
      refine (rwholeZ hr2 (by omega) HZ).mono ?_
      rintro e w3 ⟨A3, n3, c3, rfl, hn3, hr3, hb3⟩
      have k3 : ExtN W w3 := k2.trans hb3
      have r0' := kept_cellN k3 (show w.heap.size + 2 < W.heap.size by omega) r0
      have r1' := kept_cellN k3 (show w.heap.size + 2 < W.heap.size by omega) r1
      have f0' := kept_freeN k3 (show w.heap.size + 2 < W.heap.size by omega) f0
      have f1' := kept_freeN k3 (show w.heap.size + 2 < W.heap.size by omega) f1
      obtain ⟨z0, z1⟩ := ans_cells r0' r1' (.bool (decide (z < 0))) (.slice A3 n3 c3)
      go_wp2
      refine bodyPost_ret (v := .agg #[.bool (decide (z < 0)), .slice A3 n3 c3]) (by simp [results, Tryd.results55, go_sem, z0, z1]) rfl ?_
      exact ⟨A3, n3, c3, rfl, by omega, rd_answer hr3 r0' r1', ((xb.trans (Below.mono k3 (by omega))).setCell (by simp; omega) _).setCell (by simp; omega) _⟩
    · have hd : decide (cmpS (nv xs) (nv ys) ≥ 0) = true := by
        unfold cmpS; rw [if_neg hlt]; split <;> decide
      have HZ := Lib.hid (show iv b (nv (nw (nv xs - nv ys))) = z by rw [nv_nw, iv_sum_ge HBB.out (by omega)]; exact hz.out)
      go_wp2_with fail
      refine (rsubX (NXN.ext hR k1) (NXN.ext hR' k1) (by omega) (by omega)).mono ?_
      rintro e w2 (⟨hh, _⟩ | ⟨_, A2, n2, c2, rfl, hn2, hr2, he2⟩)
      · omega
      have k2 : ExtN W w2 := k1.trans he2
      have hs2 : W.heap.size ≤ w2.heap.size := k2.size
      obtain ⟨_, _, a0'', a1'', b0'', b1'', _⟩ := HB.keep k2
      go_wp2_with fail
      refine (rwholeZ hr2 (by omega) HZ).mono ?_
      rintro e w3 ⟨A3, n3, c3, rfl, hn3, hr3, hb3⟩
      have k3 : ExtN W w3 := k2.trans hb3
      have r0' := kept_cellN k3 (show w.heap.size + 2 < W.heap.size by omega) r0
      have r1' := kept_cellN k3 (show w.heap.size + 2 < W.heap.size by omega) r1
      have f0' := kept_freeN k3 (show w.heap.size + 2 < W.heap.size by omega) f0
      have f1' := kept_freeN k3 (show w.heap.size + 2 < W.heap.size by omega) f1
      obtain ⟨z0, z1⟩ := ans_cells r0' r1' (.bool (decide (z < 0))) (.slice A3 n3 c3)
      go_wp2
      refine bodyPost_ret (v := .agg #[.bool (decide (z < 0)), .slice A3 n3 c3]) (by simp [results, Tryd.results55, go_sem, z0, z1]) rfl ?_
      exact ⟨A3, n3, c3, rfl, by omega, rd_answer hr3 r0' r1', ((xb.trans (Below.mono k3 (by omega))).setCell (by simp; omega) _).setCell (by simp; omega) _⟩
end Go.Proofs.YtpgcapobbmbchaaDoor

/-
  What Near of the reference of layer 2 answers.
-/
namespace Go.Proofs.YtpgcapobbmbchaaDoor
open Go.RowKit
set_option linter.unusedVariables false
set_option maxRecDepth 100000

theorem near_ref {t : Int} {D : Nat} (hD : 0 < D) : iv (decide (t < 0)) (if t < 0 ∧ 0 < t.natAbs % D then t.natAbs / D + 1 else t.natAbs / D) = t / D := by
  have e := Nat.mod_add_div t.natAbs D
  have hr := Nat.mod_lt t.natAbs hD
  generalize t.natAbs % D = r at *
  generalize t.natAbs / D = q at *
  by_cases ht : t < 0
  · have e' : t = -(r : Int) + D * -(q : Int) := by
      have : (t.natAbs : Int) = r + D * q := by rw [← e]; simp
      rw [Int.mul_neg]; omega
    rw [decide_eq_true ht]
    by_cases h0 : 0 < r
    · rw [if_pos ⟨ht, h0⟩, e', show (-(r : Int) + D * -(q : Int)) = ((D : Int) - r) + D * -((q : Int) + 1) by rw [Int.mul_neg, Int.mul_neg, Int.mul_add]; omega, Int.add_mul_ediv_left _ _ (by omega), Int.ediv_eq_zero_of_lt (by omega) (by omega)]
      simp [iv]
    · rw [if_neg (by omega), e', Int.add_mul_ediv_left _ _ (by omega), show r = 0 by omega]
      simp [iv]
  · have e' : t = (r : Int) + D * (q : Int) := by
      have : (t.natAbs : Int) = r + D * q := by rw [← e]; simp
      omega
    rw [decide_eq_false ht, if_neg (by omega), e', Int.add_mul_ediv_left _ _ (by omega), Int.ediv_eq_zero_of_lt (by omega) (by omega)]
    simp [iv]
theorem nw_len_le {V k : Nat} (h : V < W64 ^ k) : (nw V).length ≤ k := by
  rcases Nat.eq_zero_or_pos V with h0 | h0
  · subst h0; rw [show nw 0 = [] from dg_zero _]; exact Nat.zero_le _
  · obtain ⟨h1, h2, _⟩ := dg_len W64_two V h0
    have h3 : W64 ^ ((nw V).length - 1) < W64 ^ k := Nat.lt_of_le_of_lt h2 h
    have := (Nat.pow_lt_pow_iff_right (show 1 < W64 by rw [W64_eq]; omega)).1 h3
    omega
theorem nv_lt40 {w : World} {A : Option Addr} {n c : Nat} {xs : List Nat} (h : NXN w A n c xs) (hn : n ≤ 40) : nv xs < W64 ^ 40 := by
  have h1 : nv xs < W64 ^ xs.length := vl_lt h.lt
  rw [h.len] at h1
  exact Nat.lt_of_lt_of_le h1 (Nat.pow_le_pow_right (by rw [W64_eq]; omega) hn)
theorem three_le : 3 * W64 ^ 40 ≤ W64 ^ 41 := by
  rw [Nat.pow_succ, Nat.mul_comm]; exact Nat.mul_le_mul_left _ (by rw [W64_eq]; omega)
theorem iv_abs (b : Bool) (X : Nat) : (iv b X).natAbs = X := by cases b <;> simp [iv]
/-- Quotient and rest, the divisor not 0. -/
theorem rdivP {A A' : Option Addr} {n n' c c' Q R : Nat} {xs ys : List Nat} {w : World} (h : NXN w A n c xs) (h' : NXN w A' n' c' ys) (hn : n ≤ 2000) (hn' : n' ≤ 2000) (hY : Hid (0 < nv ys ∧ nv xs / nv ys = Q ∧ nv xs % nv ys = R)) :
    Calls Tryd.prog 57 #[.slice A n c, .slice A' n' c'] w fun e w' => ∃ A2 n2 c2 A3 n3 c3, e = .returned (.tuple #[.slice A2 n2 c2, .slice A3 n3 c3, .int .i64 0]) ∧ n2 ≤ 4 * n + 4 * n' ∧ n3 ≤ 4 * n + 4 * n' ∧ NXN w' A2 n2 c2 (nw Q) ∧ NXN w' A3 n3 c3 (nw R) ∧ ExtN w w' := by
  obtain ⟨h0, rfl, rfl⟩ := hY.out
  refine (rdivX h h' hn hn').mono ?_
  rintro e w' (⟨hh, _⟩ | ⟨_, a⟩)
  · omega
  · exact a
theorem two_nv : nv [2] = 2 := nv_one 2
theorem ix_two (w : World) (g : Nat) (hg : g = w.heap.size) : IX (w.alloc (.cells #[.int .u64 2] 79)) false (some ⟨g, 0, none⟩) 1 1 2 := ⟨[2], NXN.one w g hg 2 2 rfl (by omega), by rw [two_nv]; rfl⟩
theorem rtimesX' {A A' : Option Addr} {n n' c c' : Nat} {b b' : Bool} {z z' : Int} {w : World} (h : IX w b A n c z) (h' : IX w b' A' n' c' z') (hn : n ≤ 1000) (hn' : n' ≤ 1000) :
    Calls Tryd.prog 58 #[.agg #[.bool b, .slice A n c], .agg #[.bool b', .slice A' n' c']] w (ZX w (4 * (4 * n + 4 * n' + 1)) (z * z')) := by
  obtain ⟨xs, hx, rfl⟩ := h
  obtain ⟨ys, hy, rfl⟩ := h'
  exact rtimes_any A A' n n' c c' b b' xs ys _ w hx hy hn hn' (Lib.hid rfl)
theorem rsumX' {A A' : Option Addr} {n n' c c' : Nat} {b b' : Bool} {z z' : Int} {w : World} (h : IX w b A n c z) (h' : IX w b' A' n' c' z') (hn : n ≤ 1000) (hn' : n' ≤ 1000) :
    Calls Tryd.prog 55 #[.agg #[.bool b, .slice A n c], .agg #[.bool b', .slice A' n' c']] w (ZX w (4 * (4 * n + 4 * n' + 1)) (z + z')) := by
  obtain ⟨xs, hx, rfl⟩ := h
  obtain ⟨ys, hy, rfl⟩ := h'
  exact rsum_any A A' n n' c c' b b' xs ys _ w hx hy hn hn' (Lib.hid rfl)
end Go.Proofs.YtpgcapobbmbchaaDoor
