/-
  What Dot of package scale answers.
-/
import Derived.Test.YtbpehdfpiembfaaGreatDoorW46
import Derived.Test.YtbpehdfpiembfaaGreatDoorW45
import Derived.Test.YtbpehdfpiembfaaGreatDoorW28
namespace Go.Proofs.YtbpehdfpiembfaaGreatDoor
open Go.RowKit
set_option linter.unusedVariables false
set_option maxRecDepth 100000

theorem catF_lo {α : Type} {n i : Nat} {x y : Nat → α} (h : i < n) : catF n x y i = x i := if_pos h
theorem catF_hi {α : Type} {n i : Nat} {x y : Nat → α} : catF n x y (n + i) = y i := by
  unfold catF
  rw [if_neg (by omega), Nat.add_sub_cancel_left]
theorem cat_el {n M N : Nat} {q : Nat → Nat} {La Lb : Nat → Nat} {nsa nsb : Nat → Nat → Nat} {fa fb : Nat → Nat → Nat → Nat} :
    (∀ j, j ≤ N + 1 + N → El n M q (catF (N + 1) La Lb j) (catF (N + 1) nsa nsb j) (catF (N + 1) fa fb j)) ↔ (∀ j, j ≤ N → El n M q (La j) (nsa j) (fa j)) ∧ ∀ j, j ≤ N → El n M q (Lb j) (nsb j) (fb j) := by
  constructor
  · intro h
    refine ⟨fun j hj => ?_, fun j hj => ?_⟩
    · have := h j (by omega)
      rwa [catF_lo (by omega), catF_lo (by omega), catF_lo (by omega)] at this
    · have := h (N + 1 + j) (by omega)
      rwa [catF_hi, catF_hi, catF_hi] at this
  · rintro ⟨h1, h2⟩ j hj
    rcases Nat.lt_or_ge j (N + 1) with g | g
    · rw [catF_lo g, catF_lo g, catF_lo g]; exact h1 j (by omega)
    · obtain ⟨k, rfl⟩ : ∃ k, j = N + 1 + k := ⟨j - (N + 1), by omega⟩
      rw [catF_hi, catF_hi, catF_hi]; exact h2 k (by omega)
theorem cat_same {N : Nat} {La Lb : Nat → Nat} : (∀ j, j ≤ N + 1 + N → catF (N + 1) La Lb j = catF (N + 1) La Lb 0) ↔ ∀ j, j ≤ N → La j = La 0 ∧ Lb j = La 0 := by
  rw [catF_lo (show 0 < N + 1 by omega)]
  constructor
  · intro h j hj
    have h1 := h j (by omega)
    have h2 := h (N + 1 + j) (by omega)
    rw [catF_lo (by omega)] at h1
    rw [catF_hi] at h2
    exact ⟨h1, h2⟩
  · intro h j hj
    rcases Nat.lt_or_ge j (N + 1) with g | g
    · rw [catF_lo g]; exact (h j (by omega)).1
    · obtain ⟨k, rfl⟩ : ∃ k, j = N + 1 + k := ⟨j - (N + 1), by omega⟩
      rw [catF_hi]; exact (h k (by omega)).2
/-- The wide row. -/
def wideQ (n K : Nat) (i : Nat) : Nat := ((wideL (2 * n)).take K).getD i 0
/-- What Dot's answer holds. -/
def DotOk (n N L C T : Nat) (q qw : Nat → Nat) (fa fb : Nat → Nat → Nat → Nat) (F : Nat → Nat → Nat) : Prop :=
  ∃ (pa pb : Nat → Nat → Nat) (Fs : Nat → Nat → Nat) (pw : Nat → Nat), SumOk (N + 1) n C L q qw fa fb pa pb Fs ∧ Parts C qw pw ∧ ∀ j, j < L → ∀ i, i < n → F j i = resF (decide (scaled T (prodF q L) C qw pw Fs i < 0)) (nv (nw (scaled T (prodF q L) C qw pw Fs i).natAbs)) (q j)
def AllEl (n M N : Nat) (q : Nat → Nat) (La Lb : Nat → Nat) (nsa nsb : Nat → Nat → Nat) (fa fb : Nat → Nat → Nat → Nat) : Prop := (∀ j, j ≤ N → El n M q (La j) (nsa j) (fa j)) ∧ ∀ j, j ≤ N → El n M q (Lb j) (nsb j) (fb j)
def OneLv (N : Nat) (La Lb : Nat → Nat) : Prop := ∀ j, j ≤ N → La j = La 0 ∧ Lb j = La 0
def DotPost (n T M N : Nat) (q : Nat → Nat) (La Lb : Nat → Nat) (nsa nsb : Nat → Nat → Nat) (fa fb : Nat → Nat → Nat → Nat) (w : World) (ee : Ending) (w' : World) : Prop :=
  ((¬ AllEl n M N q La Lb nsa nsb fa fb ∧ ee = .returned (.tuple #[.agg #[.slice none 0 0], .int .i64 3])) ∨
    (AllEl n M N q La Lb nsa nsb fa fb ∧ ¬ OneLv N La Lb ∧ ee = .returned (.tuple #[.agg #[.slice none 0 0], .int .i64 10])) ∨
    (AllEl n M N q La Lb nsa nsb fa fb ∧ OneLv N La Lb ∧ ∃ (G : Nat) (Bs : Nat → Option Addr) (F : Nat → Nat → Nat), ee = .returned (.tuple #[.agg #[.slice (some ⟨G, 0, none⟩) (La 0) (La 0)], .int .i64 0]) ∧ PM w' G (La 0) n Bs (fun _ => n) F ∧ Hid (DotOk n N (La 0) (wcN n (La 0) q) T q (wideQ n (wcN n M q)) fa fb F))) ∧ Ext w w'
theorem wideQ_at {n K j : Nat} (hn : StepW (2 * n)) (hj : j < K) (hK : K ≤ 16) : wideQ n K j ∈ wideL (2 * n) := by
  have hl := wideL_len hn
  have hj' : j < ((wideL (2 * n)).take K).length := by rw [List.length_take, hl]; omega
  unfold wideQ
  rw [getD_at hj']
  exact List.mem_of_mem_take (List.getElem_mem hj')
theorem eight_at (w : World) (a b c d e f g h : Value) (t : TypeId) : ∀ i, i < 8 → (w.alloc (.cells #[a, b, c, d, e, f, g, h] t)).cell? ⟨w.heap.size, i, none⟩ = some ((#[a, b, c, d, e, f, g, h] : Array Value).toList.getD i (.bool false)) := by
  intro i hi
  rcases (show i = 0 ∨ i = 1 ∨ i = 2 ∨ i = 3 ∨ i = 4 ∨ i = 5 ∨ i = 6 ∨ i = 7 by omega) with rfl | rfl | rfl | rfl | rfl | rfl | rfl | rfl <;> simp
set_option maxHeartbeats 16000000 in
theorem scaleDot_any {s n T M : Nat} {q : Nat → Nat} (N ca cb : Nat) (Aa Ab : Option Addr) (Aj Bj : Nat → Option Addr) (La Lb cj dj : Nat → Nat) (Ba Bb : Nat → Nat → Option Addr) (nsa csa nsb csb : Nat → Nat → Nat) (fa fb : Nat → Nat → Nat → Nat) (w : World) (hS : Hid (Sc w s n T M q)) (hA : QP w Aa (N + 1) ca Aj La cj Ba nsa csa fa) (hB : QP w Ab (N + 1) cb Bj Lb dj Bb nsb csb fb) (hN : N ≤ 3) (hT : Tabs w) :
    Calls Tryz.prog 21 #[.pointer (some ⟨s, 0, none⟩), .slice Aa (N + 1) ca, .slice Ab (N + 1) cb] w (DotPost n T M N q La Lb nsa nsb fa fb w) := by
  have HA := Lib.hid hA
  have HB := Lib.hid hB
  have HT := Lib.hid hT
  clear hA hB hT
  obtain ⟨r, x, g, p, p', a, e, a', e', Ar, Aw, cr, cw, x0, x1, x2, hrg, hrx, hlv, hfr, hfw⟩ := hS.out.ex
  have hsw : s < w.heap.size := by have := World.block_lt_of_cell? _ _ x0; simpa using this
  have hgw : g < w.heap.size := by obtain ⟨v, hr, _⟩ := hlv; exact hr.lt
  have HRX := Lib.hid hrx
  have HLV := Lib.hid hlv
  have HFR := Lib.hid hfr
  have HFW := Lib.hid hfw
  clear hrg hrx hlv hfr hfw x0
  have hr0 : RW (w.alloc (.cells #[.slice none 0 0] 28)) w.heap.size 28 1 (fun _ => .slice none 0 0) := one_new w
  have b0 : (((N + 1 : Nat) : Int) == 0) = false := by simp; omega
  have b1 : ¬ (((N + 1 : Nat) : Int) > 4) := by omega
  have b2 : (((N + 1 : Nat) : Int) != ((N + 1 : Nat) : Int)) = false := by simp
  have c0 : (((N : Int) + 1) == 0) = false := by simp; omega
  have c1 : ¬ (((N : Int) + 1) > 4) := by omega
  go_enter Tryz.func21, Tryz.ntmps21
  go_wp2_with fail
  have k0 : Ext w (w.alloc (.cells #[.slice none 0 0] 28)) := (Ext.refl w).alloc _
  replace x1 := cell_ext k0 x1
  replace x2 := cell_ext k0 x2
  generalize w.alloc (.cells #[.slice none 0 0] 28) = V0 at *
  refine (sNone_any (Lib.hid (hS.out.ext k0))).mono ?_
  rintro ee w0 ⟨rfl, rfl⟩
  have ka : Ext V0 (V0.alloc (.cells #[.slice Aa (N + 1) ca, .slice Ab (N + 1) cb] 43)) := (Ext.refl V0).alloc _
  have s0 := two_at0 V0 (.slice Aa (N + 1) ca) (.slice Ab (N + 1) cb) 43
  have s1 := two_at1 V0 (.slice Aa (N + 1) ca) (.slice Ab (N + 1) cb) 43
  have HCC := Lib.hid (concatQ_any V0.heap.size (N + 1) ca (N + 1) cb Aa Ab Aj Bj La cj Lb dj Ba Bb nsa csa nsb csb fa fb _ s0 s1 (HA.out.ext (k0.trans ka)) (HB.out.ext (k0.trans ka)) (by omega) (by omega))
  go_wp2_with fail
  refine HCC.out.mono ?_
  rintro ee V1 ⟨A2, c2, rfl, hq2, k2⟩
  have k3 := ka.trans k2
  have HQ := Lib.hid hq2
  replace x1 := cell_ext k3 x1
  replace x2 := cell_ext k3 x2
  replace hr0 := hr0.ext k3
  replace k0 := k0.trans k3
  clear k3 k2 ka s0 s1 hq2 HCC
  have HCO := Lib.hid (common_any (N + 1 + N) c2 A2 (catF (N + 1) Aj Bj) (catF (N + 1) La Lb) (catF (N + 1) cj dj) (catF (N + 1) Ba Bb) (catF (N + 1) nsa nsb) (catF (N + 1) csa csb) (catF (N + 1) fa fb) V1 (Lib.hid (hS.out.ext k0)) HQ.out.qx (Lib.hid fun j hj => HQ.out.els j (by omega)) (by omega))
  go_wp2_with fail
  refine HCO.out.mono ?_
  rintro ee V2 ⟨h, k3⟩
  replace x1 := cell_ext k3 x1
  replace x2 := cell_ext k3 x2
  replace hr0 := hr0.ext k3
  replace k0 := k0.trans k3
  clear k3 HCO HQ
  rw [cat_el, cat_same] at h
  rcases h with ⟨hE, hL, hee⟩ | ⟨hE, hL, rfl⟩ | ⟨hE, rfl⟩
  case inr.inr =>
    have HE := Lib.hid hE
    have d0 := hr0.cell (i := 0) (by omega)
    have z0 := hr0.frozen 0
    have hsz := hr0.lt
    have HR0 := Lib.hid hr0
    have K0 := Lib.hid k0
    clear hE hr0 k0 x1 x2
    go_wp2_with fail
    have e0 := ret_cell HR0.out (.slice none 0 0)
    have e1 := K0.out.set (p := ⟨w.heap.size, 0, none⟩) (by show w.heap.size ≤ w.heap.size; omega) (.slice none 0 0)
    generalize V2.setCell ⟨w.heap.size, 0, none⟩ (.slice none 0 0) = w9 at *
    exact bodyPost_ret (v := .tuple #[.agg #[.slice none 0 0], .int .i64 3]) (by simp [results, Tryz.results21, go_sem, e0]) rfl ⟨.inl ⟨HE.out, rfl⟩, e1⟩
  case inr.inl =>
    have HE := Lib.hid hE
    have HL := Lib.hid hL
    have d0 := hr0.cell (i := 0) (by omega)
    have z0 := hr0.frozen 0
    have hsz := hr0.lt
    have HR0 := Lib.hid hr0
    have K0 := Lib.hid k0
    clear hE hL hr0 k0 x1 x2
    go_wp2_with fail
    have e0 := ret_cell HR0.out (.slice none 0 0)
    have e1 := K0.out.set (p := ⟨w.heap.size, 0, none⟩) (by show w.heap.size ≤ w.heap.size; omega) (.slice none 0 0)
    generalize V2.setCell ⟨w.heap.size, 0, none⟩ (.slice none 0 0) = w9 at *
    exact bodyPost_ret (v := .tuple #[.agg #[.slice none 0 0], .int .i64 10]) (by simp [results, Tryz.results21, go_sem, e0]) rfl ⟨.inr (.inl ⟨HE.out, HL.out, rfl⟩), e1⟩
  have HE := Lib.hid hE
  have HL := Lib.hid hL
  have hm1 := (hE.1 0 (by omega)).1
  have hmM := (hE.1 0 (by omega)).2.1
  have hL2 : ∃ m, La 0 = m + 1 := ⟨La 0 - 1, by omega⟩
  obtain ⟨m, hm⟩ := hL2
  rw [catF_lo (show 0 < N + 1 by omega), hm, show (((m + 1 : Nat) : Int) - 1) = (m : Int) by omega] at hee
  subst hee
  rw [hm] at hmM
  clear hE hL hm1
  have HM := Lib.hid hm
  clear hm
  obtain ⟨A1, A2', A3, A4, n1, c1', n2, c2', n3, c3, n4, c4, hcs, h1, h2, h3, h4⟩ := (HLV.out.ext k0).at (m := m) (by omega) (Nat.le_refl _)
  have l0 : V2.cell? ⟨g, m * 8, none⟩ = some (.slice Ar (m + 1) cr) := hcs 0 (by omega)
  have l1 : V2.cell? ⟨g, m * 8 + 1, none⟩ = some (.slice Aw (wcN n (m + 1) q) cw) := hcs 1 (by omega)
  have l2 : V2.cell? ⟨g, m * 8 + 2, none⟩ = some (.bool false) := hcs 2 (by omega)
  have l3 : V2.cell? ⟨g, m * 8 + 3, none⟩ = some (.slice A1 n1 c1') := hcs 3 (by omega)
  have l4 : V2.cell? ⟨g, m * 8 + 4, none⟩ = some (.slice A2' n2 c2') := hcs 4 (by omega)
  have l5 : V2.cell? ⟨g, m * 8 + 5, none⟩ = some (.bool false) := hcs 5 (by omega)
  have l6 : V2.cell? ⟨g, m * 8 + 6, none⟩ = some (.slice A3 n3 c3) := hcs 6 (by omega)
  have l7 : V2.cell? ⟨g, m * 8 + 7, none⟩ = some (.slice A4 n4 c4) := hcs 7 (by omega)
  have H3 := Lib.hid h3
  have H4 := Lib.hid h4
  clear hcs h1 h2 h3 h4
  have HROW := Lib.hid hS.out.row
  have hwords : ∀ j, j < M → 0 < q j ∧ q j < 18446744073709551616 := okq_lt hS.out.row.c
  have HW := Lib.hid hwords
  have hM8 := hS.out.l8
  have hn0 : 0 < n := by rcases hS.out.step with h | h | h <;> omega
  have hn5 : n ≤ 32 := by rcases hS.out.step with h | h | h <;> omega
  have hK15 : wcN n M q ≤ 15 := wc_few hn5 hS.out.bits
  have hCK : wcN n (m + 1) q ≤ wcN n M q := wc_mono (fun j hj => (hwords j hj).1) (by omega)
  have hC0 : 1 ≤ wcN n (m + 1) q := wc_one _ _ _
  have hK0 : 1 ≤ wcN n M q := wc_one _ _ _
  have HSTEP := Lib.hid hS.out.step
  have HWR := Lib.hid (RowP.cut (wide_row HSTEP.out hK0 (by omega)) hC0 hCK)
  clear hwords
  have i0 : (0 : Int) ≤ (m : Int) := by omega
  have i1 : (m : Int) < (M : Int) := by omega
  have hsz2 := hr0.lt
  go_wp2_with fail
  have q0 : (V2.alloc (.cells #[.slice Ar (m + 1) cr, .slice Aw (wcN n (m + 1) q) cw, .bool false, .slice A1 n1 c1', .slice A2' n2 c2', .bool false, .slice A3 n3 c3, .slice A4 n4 c4] 113)).cell? ⟨V2.heap.size, 0, none⟩ = some (.slice Ar (m + 1) cr) := by simp
  have q1 : (V2.alloc (.cells #[.slice Ar (m + 1) cr, .slice Aw (wcN n (m + 1) q) cw, .bool false, .slice A1 n1 c1', .slice A2' n2 c2', .bool false, .slice A3 n3 c3, .slice A4 n4 c4] 113)).cell? ⟨V2.heap.size, 1, none⟩ = some (.slice Aw (wcN n (m + 1) q) cw) := by simp
  have q2 : (V2.alloc (.cells #[.slice Ar (m + 1) cr, .slice Aw (wcN n (m + 1) q) cw, .bool false, .slice A1 n1 c1', .slice A2' n2 c2', .bool false, .slice A3 n3 c3, .slice A4 n4 c4] 113)).cell? ⟨V2.heap.size, 2, none⟩ = some (.bool false) := by simp
  have q3 : (V2.alloc (.cells #[.slice Ar (m + 1) cr, .slice Aw (wcN n (m + 1) q) cw, .bool false, .slice A1 n1 c1', .slice A2' n2 c2', .bool false, .slice A3 n3 c3, .slice A4 n4 c4] 113)).cell? ⟨V2.heap.size, 3, none⟩ = some (.slice A1 n1 c1') := by simp
  have q4 : (V2.alloc (.cells #[.slice Ar (m + 1) cr, .slice Aw (wcN n (m + 1) q) cw, .bool false, .slice A1 n1 c1', .slice A2' n2 c2', .bool false, .slice A3 n3 c3, .slice A4 n4 c4] 113)).cell? ⟨V2.heap.size, 4, none⟩ = some (.slice A2' n2 c2') := by simp
  have q5 : (V2.alloc (.cells #[.slice Ar (m + 1) cr, .slice Aw (wcN n (m + 1) q) cw, .bool false, .slice A1 n1 c1', .slice A2' n2 c2', .bool false, .slice A3 n3 c3, .slice A4 n4 c4] 113)).cell? ⟨V2.heap.size, 5, none⟩ = some (.bool false) := by simp
  have q6 : (V2.alloc (.cells #[.slice Ar (m + 1) cr, .slice Aw (wcN n (m + 1) q) cw, .bool false, .slice A1 n1 c1', .slice A2' n2 c2', .bool false, .slice A3 n3 c3, .slice A4 n4 c4] 113)).cell? ⟨V2.heap.size, 6, none⟩ = some (.slice A3 n3 c3) := by simp
  have q7 : (V2.alloc (.cells #[.slice Ar (m + 1) cr, .slice Aw (wcN n (m + 1) q) cw, .bool false, .slice A1 n1 c1', .slice A2' n2 c2', .bool false, .slice A3 n3 c3, .slice A4 n4 c4] 113)).cell? ⟨V2.heap.size, 7, none⟩ = some (.slice A4 n4 c4) := by simp
  have k3 : Ext V2 (V2.alloc (.cells #[.slice Ar (m + 1) cr, .slice Aw (wcN n (m + 1) q) cw, .bool false, .slice A1 n1 c1', .slice A2' n2 c2', .bool false, .slice A3 n3 c3, .slice A4 n4 c4] 113)) := (Ext.refl V2).alloc _
  have hrL := hr0.ext k3
  have kV := k0.trans k3
  have H3' := Lib.hid (NX.ext H3.out.2 k3)
  have H4' := Lib.hid (NX.ext H4.out.2 k3)
  have hn3 := H3.out.1
  have hn4 := H4.out.1
  generalize (V2.alloc (.cells #[.slice Ar (m + 1) cr, .slice Aw (wcN n (m + 1) q) cw, .bool false, .slice A1 n1 c1', .slice A2' n2 c2', .bool false, .slice A3 n3 c3, .slice A4 n4 c4] 113)) = V at *
  have ne1 : (w.heap.size = V2.heap.size) = False := eq_false (by omega)
  have ne2 : (V2.heap.size = w.heap.size) = False := eq_false (by omega)
  have y1 := cell_ext k3 x1
  clear k3 k0 x1 x2 l0 l1 l2 l3 l4 l5 l6 l7 hr0
  have HEA := Lib.hid (fun k (hk : k ≤ N) => (show La k = m + 1 ∧ Lsts n (m + 1) (nsa k) (fa k) q from ⟨by rw [(HL.out k hk).1, HM.out], by have := (HE.out.1 k hk).lsts; rwa [(HL.out k hk).1, HM.out] at this⟩))
  have HEB := Lib.hid (fun k (hk : k ≤ N) => (show Lb k = m + 1 ∧ Lsts n (m + 1) (nsb k) (fb k) q from ⟨by rw [(HL.out k hk).2, HM.out], by have := (HE.out.2 k hk).lsts; rwa [(HL.out k hk).2, HM.out] at this⟩))
  have HRM := Lib.hid (HROW.out.cut (Nat.succ_pos m) hmM)
  have HSU := Lib.hid (fun w' (h : Ext V w') => scaleSum_any s x N n (wcN n M q) (wcN n (m + 1) q) (m + 1) cr cw ca cb Ar Aw Aa Ab A1 A2' A3 A4 n1 c1' n2 c2' n3 c3 n4 c4 q (wideQ n (wcN n M q)) p' a' e' Aj Bj La Lb cj dj Ba Bb nsa csa nsb csb fa fb w' (cell_ext h y1) (HRX.out.ext (kV.trans h)) hCK hC0 ((HFR.out.ext (kV.trans h)).cut hmM) ((HFW.out.ext (kV.trans h)).cut hCK) HRM.out.c HWR.out.c (Lib.hid fun j hj => wide_sq HSTEP.out (wideQ_at HSTEP.out (by omega) (by omega))) hn0 hn5 (HT.out.ext (kV.trans h)) (HA.out.ext (kV.trans h)) (HB.out.ext (kV.trans h)) (by omega) HEA HEB)
  have hpos : 0 < prodF q (m + 1) := prodF_pos _ fun j hj => (HW.out j (by omega)).1
  have HOV := Lib.hid (fun w' (h : Ext V w') G5 Bs5 cs5 F5 (h5 : PM w' G5 (wcN n (m + 1) q) n Bs5 cs5 F5) (e5 : ∀ j, j < wcN n (m + 1) q → ∀ i, i < n → F5 j i < wideQ n (wcN n M q) j) => over_any T (prodF q (m + 1)) n3 c3 n4 c4 (wcN n (m + 1) q) (wcN n (m + 1) q) cw n (m + 1) cr A3 A4 (some ⟨G5, 0, none⟩) Aw Ar Bs5 (fun _ => n) cs5 F5 (wideQ n (wcN n M q)) q w' (NX.ext H3'.out h) (NX.ext H4'.out h) (by omega) (by omega) hpos h5.px ((HFW.out.ext (kV.trans h)).cut hCK) ((HFR.out.ext (kV.trans h)).cut hmM) (Lib.hid fun j hj => (okq_lt HWR.out.c j hj).2) (Lib.hid fun j hj => (HW.out j (by omega)).2) (HT.out.ext (kV.trans h)) HWR.out.c HRM.out.c (Lib.hid fun j hj => ⟨rfl, e5 j hj⟩) hn0 (by omega))
  have HRL := Lib.hid hrL
  have KV := Lib.hid kV
  have kk : Ext V V := Ext.refl V
  clear hrL kV y1 hpos hsw hgw i0 i1 b0 b1 b2 c0 c1
  go_region_held3 (fun w' => w'.cell? ⟨V2.heap.size, 0, none⟩ = some (.slice Ar (m + 1) cr) ∧ w'.cell? ⟨V2.heap.size, 1, none⟩ = some (.slice Aw (wcN n (m + 1) q) cw) ∧ w'.cell? ⟨V2.heap.size, 2, none⟩ = some (.bool false) ∧ w'.cell? ⟨V2.heap.size, 3, none⟩ = some (.slice A1 n1 c1') ∧ w'.cell? ⟨V2.heap.size, 4, none⟩ = some (.slice A2' n2 c2') ∧ w'.cell? ⟨V2.heap.size, 5, none⟩ = some (.bool false) ∧ w'.cell? ⟨V2.heap.size, 6, none⟩ = some (.slice A3 n3 c3) ∧ w'.cell? ⟨V2.heap.size, 7, none⟩ = some (.slice A4 n4 c4)) (go_keep)
    (first
      | (go_at_call 74; refine (HSU.out _ (by first | with_reducible exact kk | with_reducible exact Ext.drew kk)).mono ?_; rintro e5 w5 ⟨pa, pb, G5, Bs5, cs5, F5, rfl, hpm5, hok5, k5⟩; replace kk : Ext V w5 := (by first | with_reducible exact Ext.trans kk k5 | with_reducible exact Ext.trans (Ext.drew kk) k5); have d0 := cell_ext kk q0; have d1 := cell_ext kk q1; have d2 := cell_ext kk q2; have d3 := cell_ext kk q3; have d4 := cell_ext kk q4; have d5 := cell_ext kk q5; have d6 := cell_ext kk q6; have d7 := cell_ext kk q7; have hr6 := HRL.out.ext kk; have c0 := hr6.cell (i := 0) (by omega); have z0 := hr6.frozen 0; have hsz := hr6.lt)
      | (go_at_call 66; refine (HOV.out _ (by first | with_reducible exact kk | with_reducible exact Ext.drew kk) G5 Bs5 cs5 F5 (by first | with_reducible exact hpm5 | with_reducible exact hpm5.ext ((Ext.refl _).drew)) (fun j hj i hi => (hok5.out.2 j hj i hi).1)).mono ?_; rintro e6 w6 ⟨pw, G6, Bs6, F6, HPW, rfl, hpm6, HF6, k6⟩; replace kk : Ext V w6 := (by first | with_reducible exact Ext.trans kk k6 | with_reducible exact Ext.trans (Ext.drew kk) k6); have d0 := cell_ext kk q0; have d1 := cell_ext kk q1; have d2 := cell_ext kk q2; have d3 := cell_ext kk q3; have d4 := cell_ext kk q4; have d5 := cell_ext kk q5; have d6 := cell_ext kk q6; have d7 := cell_ext kk q7; have hr6 := HRL.out.ext kk; have c0 := hr6.cell (i := 0) (by omega); have z0 := hr6.frozen 0; have hsz := hr6.lt)
      | fail)
  all_goals
    have kr6 := KV.out.trans kk
    have e0 := ret_cell hr6 (.slice (some ⟨G6, 0, none⟩) (m + 1) (m + 1))
    have e1 := kr6.set (p := ⟨w.heap.size, 0, none⟩) (by show w.heap.size ≤ w.heap.size; omega) (.slice (some ⟨G6, 0, none⟩) (m + 1) (m + 1))
    have e2 := hpm6.aside hr6 rfl (.slice (some ⟨G6, 0, none⟩) (m + 1) (m + 1))
    generalize w6.setCell ⟨w.heap.size, 0, none⟩ (.slice (some ⟨G6, 0, none⟩) (m + 1) (m + 1)) = w10 at *
    clear d0 d1 d2 d3 d4 d5 d6 d7 c0 z0 hsz
    go_wp2_with fail
    exact bodyPost_ret (v := .tuple #[.agg #[.slice (some ⟨G6, 0, none⟩) (m + 1) (m + 1)], .int .i64 0]) (by simp [results, Tryz.results21, go_sem, e0]) rfl ⟨.inr (.inr ⟨HE.out, HL.out, G6, Bs6, F6, by rw [HM.out], by rw [HM.out]; exact e2, by rw [HM.out]; exact Lib.hid ⟨pa, pb, F5, pw, hok5.out, HPW.out, HF6.out⟩⟩), e1⟩
end Go.Proofs.YtbpehdfpiembfaaGreatDoor

/-
  What the document fixes of scale: the numbers.
-/
namespace Go.Proofs.YtbpehdfpiembfaaGreatDoor
open Go.RowKit
set_option linter.unusedVariables false
set_option maxRecDepth 100000

def qf (i : Nat) : Nat := if i = 0 then 97 else 193
theorem prodf : prodF qf 2 = 18721 := by decide
theorem par_f : ParP 8 17 2 qf 1 := fun k hk => by
  rcases (show k = 0 ∨ k = 1 ∨ k = 2 ∨ k = 3 ∨ k = 4 ∨ k = 5 by omega) with rfl | rfl | rfl | rfl | rfl | rfl
  · exact ⟨by decide, by decide, by decide +kernel⟩
  · exact ⟨by decide, by decide⟩
  · exact ⟨by decide, by decide +kernel, by decide +kernel⟩
  · exact ⟨by decide, by decide⟩
  · intro j hj
    rcases (show j = 0 ∨ j = 1 by omega) with rfl | rfl
    · exact ⟨by decide, by decide, fun i hi => by omega, by decide +kernel, by decide +kernel⟩
    · refine ⟨by decide, by decide, fun i hi => ?_, by decide +kernel, by decide +kernel⟩
      obtain rfl : i = 0 := by omega
      decide
  · show Go.bitLen (prodF qf 2) ≤ rowS 8
    rw [prodf, show rowS 8 = 420 by decide]
    decide +kernel
theorem parts_f {p : Nat → Nat} (h : Parts 2 qf p) : p 0 = 1 ∧ p 1 = 2 := by
  have h0 := h 0 (by omega)
  have h1 := h 1 (by omega)
  constructor
  · have a := h0.1
    have b := h0.2 (by decide)
    have c : qf 0 = 97 := rfl
    have d : prodF qf 0 % qf 0 = 1 := by decide
    rw [d] at b
    rw [c] at a b
    omega
  · have a := h1.1
    have b := h1.2 (by decide)
    have c : qf 1 = 193 := rfl
    have d : prodF qf 1 % qf 1 = 97 := by decide
    rw [d] at b
    rw [c] at a b
    omega
theorem jnf {p r : Nat → Nat} (h : Parts 2 qf p) {a b X : Nat} (ha : r 0 = a) (hb : r 1 = b) (hX : crtF (crtF 0 97 1 1 a) 193 97 2 b = X) : jnF qf p r 0 2 = X := by
  obtain ⟨e0, e1⟩ := parts_f h
  simp only [jnF, e0, e1, ha, hb]
  exact hX
theorem parts_1 {qw p : Nat → Nat} (hq : 2 ≤ qw 0) (h : Parts 1 qw p) : p 0 = 1 := by
  have h0 := h 0 (by omega)
  have e1 : prodF qw 0 % qw 0 = 1 := by show 1 % qw 0 = 1; exact Nat.mod_eq_of_lt (by omega)
  have a := h0.1
  have b := h0.2 (by rw [e1, Nat.gcd_one_left])
  rw [e1, Nat.mul_one, Nat.mod_eq_of_lt (show 1 < qw 0 by omega), Nat.mod_eq_of_lt a] at b
  exact b
theorem low_f {p : Nat → Nat} {f : Nat → Nat → Nat} (h : Parts 2 qf p) (h0 : f 0 0 = 3) (h1 : f 1 0 = 100) : scaled 1 193 2 qf p f 0 = 1 := by
  unfold scaled
  rw [jnf (r := fun j => f j 0) h (a := 3) (b := 100) (X := 100) h0 h1 (by decide +kernel), prodf]
  decide +kernel
theorem lowF_f {p : Nat → Nat} {f F : Nat → Nat → Nat} (h : Parts 2 qf p) (h0 : f 0 0 = 3) (h1 : f 1 0 = 100) (hF : F 0 0 = resF (decide (scaled 1 (qf 1) 2 qf p f 0 < 0)) (nv (nw (scaled 1 (qf 1) 2 qf p f 0).natAbs)) (qf 0)) : F 0 0 = 1 := by
  rw [show qf 1 = 193 from rfl, low_f h h0 h1, nv_nw] at hF
  rw [hF]
  decide
theorem wid_f {p : Nat → Nat} {f : Nat → Nat → Nat} (h : Parts 2 qf p) (h0 : f 0 0 = 30) (h1 : f 1 0 = 35) (hz : ∀ t, 0 < t → t < 8 → f 0 t = 0 ∧ f 1 t = 0) {y : Nat} (hy : 1000 < y) : ∀ t, t < 8 → widF 2 qf p f y t = if t = 0 then 1000 else 0 := by
  intro t ht
  unfold widF numB numN
  rcases Nat.eq_zero_or_pos t with rfl | g
  · rw [jnf (r := fun j => f j 0) h (a := 30) (b := 35) (X := 1000) h0 h1 (by decide +kernel), prodf, show cenB 1000 18721 = false by decide, show cenN 1000 18721 = 1000 by decide, nv_nw, if_pos rfl]
    show 1000 % y = 1000
    exact Nat.mod_eq_of_lt hy
  · obtain ⟨e0, e1⟩ := hz t g ht
    rw [jnf (r := fun j => f j t) h (a := 0) (b := 0) (X := 0) e0 e1 (by decide +kernel), prodf, show cenB 0 18721 = false by decide, show cenN 0 18721 = 0 by decide, nv_nw, if_neg (by omega)]
    show 0 % y = 0
    exact Nat.zero_mod y
theorem wc_f : wcN 8 2 qf = 1 := by
  unfold wcN mostN
  rw [prodf]
  decide +kernel
theorem wq_f : wideQ 8 1 0 = 2305843009213693921 := by decide +kernel
theorem nega_f : nega 8 (fun t => ((if t = 0 then 1000 else 0 : Nat) : Int)) (fun t => ((if t = 0 then 1000 else 0 : Nat) : Int)) 0 = 1000000 := by decide +kernel
theorem dot_f {fa fb : Nat → Nat → Nat → Nat} {F : Nat → Nat → Nat} (a0 : fa 0 0 0 = 30) (a1 : fa 0 1 0 = 35) (az : ∀ t, 0 < t → t < 8 → fa 0 0 t = 0 ∧ fa 0 1 t = 0) (b0 : fb 0 0 0 = 30) (b1 : fb 0 1 0 = 35) (bz : ∀ t, 0 < t → t < 8 → fb 0 0 t = 0 ∧ fb 0 1 t = 0) (h : DotOk 8 0 2 1 17 qf (wideQ 8 1) fa fb F) : F 0 0 = 35 ∧ F 1 0 = 136 := by
  obtain ⟨pa, pb, Fs, pw, ⟨hp, hs⟩, hw, hF⟩ := h
  have hq : wideQ 8 1 0 = 2305843009213693921 := wq_f
  have ep := parts_1 (by rw [hq]; omega) hw
  obtain ⟨hlt, hM⟩ := hs 0 (by omega) 0 (by omega)
  obtain ⟨h1, h2⟩ := hp 0 (by omega)
  have e : Fs 0 0 = 1000000 := by
    have hM2 : M ((wideQ 8 1 0 : Nat) : Int) ((Fs 0 0 : Nat) : Int) ((1000000 : Nat) : Int) := by
      refine hM.trans (M.of ?_)
      show 0 + nega 8 _ _ 0 = ((1000000 : Nat) : Int)
      rw [Int.zero_add]
      rw [nega_congr (a' := fun t => ((if t = 0 then 1000 else 0 : Nat) : Int)) (b' := fun t => ((if t = 0 then 1000 else 0 : Nat) : Int)) (fun t ht => by rw [wid_f h1 a0 a1 az (by rw [hq]; omega) t ht]) (fun t ht => by rw [wid_f h2 b0 b1 bz (by rw [hq]; omega) t ht])]
      exact nega_f
    exact M.lt hM2 hlt (by rw [hq]; omega)
  have hj : jnF (wideQ 8 1) pw (fun j => Fs j 0) 0 1 = 1000000 := by
    simp only [jnF, ep, e, hq]
    decide +kernel
  have hpr : prodF (wideQ 8 1) 1 = 2305843009213693921 := by
    show wideQ 8 1 0 * 1 = _
    rw [hq]
  have hsc : scaled 17 (prodF qf 2) 1 (wideQ 8 1) pw Fs 0 = 908 := by
    unfold scaled
    rw [hj, hpr, prodf]
    decide +kernel
  have f0 := hF 0 (by omega) 0 (by omega)
  have f1 := hF 1 (by omega) 0 (by omega)
  rw [hsc, nv_nw] at f0 f1
  exact ⟨by rw [f0]; decide, by rw [f1]; decide⟩
end Go.Proofs.YtbpehdfpiembfaaGreatDoor

/-
  What the document fixes of scale, and what a scale that is none answers.
-/
namespace Go.Proofs.YtbpehdfpiembfaaGreatDoor
open Go.RowKit
set_option linter.unusedVariables false
set_option maxRecDepth 100000

theorem vx_eightZ (w : World) (a : Int) : VX (w.alloc (.cells #[.int .i64 a, .int .i64 0, .int .i64 0, .int .i64 0, .int .i64 0, .int .i64 0, .int .i64 0, .int .i64 0] 2)) (some ⟨w.heap.size, 0, none⟩) 8 8 (fun i => if i = 0 then a else 0) := by
  refine ⟨Nat.le_refl _, fun _ => ⟨_, rfl, fun j hj => ?_⟩⟩
  rw [Addr.add_lit, Nat.zero_add]
  rcases (show j = 0 ∨ j = 1 ∨ j = 2 ∨ j = 3 ∨ j = 4 ∨ j = 5 ∨ j = 6 ∨ j = 7 by omega) with rfl | rfl | rfl | rfl | rfl | rfl | rfl | rfl <;> simp
theorem qp_one (w : World) (G L n : Nat) (Bs : Nat → Option Addr) (cs : Nat → Nat) (F : Nat → Nat → Nat) (h : PM w G L n Bs cs F) (hL : L ≤ 1000) (hn : n ≤ 1000) : QP (w.alloc (.cells #[.slice (some ⟨G, 0, none⟩) L L] 28)) (some ⟨w.heap.size, 0, none⟩) (0 + 1) 1 (fun _ => some ⟨G, 0, none⟩) (fun _ => L) (fun _ => L) (fun _ => Bs) (fun _ _ => n) (fun _ => cs) (fun _ => F) :=
  ⟨⟨by omega, fun _ => ⟨_, rfl, fun j hj => by
    obtain rfl : j = 0 := by omega
    exact one_at w _ _⟩⟩, fun j hj => (h.pb hL hn).ext ((Ext.refl w).alloc _)⟩
theorem lowF_any {s T : Nat} {G : Nat} {Bs : Nat → Option Addr} {cs : Nat → Nat} {F : Nat → Nat → Nat} {w : World} (hS : Hid (Sc w s 8 T 2 qf)) (hP : PM w G 2 8 Bs cs F) (hE : El 8 2 qf 2 (fun _ => 8) F) (h0 : F 0 0 = 3) (h1 : F 1 0 = 100) (hT : Tabs w) :
    Calls Tryz.prog 17 #[.pointer (some ⟨s, 0, none⟩), .agg #[.slice (some ⟨G, 0, none⟩) 2 2]] w fun ee w' => ∃ (G' : Nat) (Bs' : Nat → Option Addr) (F' : Nat → Nat → Nat), ee = .returned (.tuple #[.agg #[.slice (some ⟨G', 0, none⟩) 1 1], .int .i64 0]) ∧ PM w' G' 1 8 Bs' (fun _ => 8) F' ∧ F' 0 0 = 1 ∧ Ext w w' := by
  refine (Lower_any hS (Lib.hid (hP.pb (by omega) (by omega))) hT).mono ?_
  rintro ee w' ⟨⟨h, _⟩ | ⟨_, h, _⟩ | ⟨_, _, p, G', Bs', F', hp, he, hpm, hF⟩, k⟩
  · exact absurd hE h
  · exact absurd h (by omega)
  · exact ⟨G', Bs', F', he, hpm, lowF_f hp.out h0 h1 (hF.out 0 (by omega) 0 (by omega)), k⟩
theorem dotF_any {s : Nat} {A B : Option Addr} {G ca cb : Nat} {Bs : Nat → Option Addr} {cs : Nat → Nat} {F : Nat → Nat → Nat} {w : World} (hS : Hid (Sc w s 8 17 2 qf)) (hA : QP w A (0 + 1) ca (fun _ => some ⟨G, 0, none⟩) (fun _ => 2) (fun _ => 2) (fun _ => Bs) (fun _ _ => 8) (fun _ => cs) (fun _ => F)) (hB : QP w B (0 + 1) cb (fun _ => some ⟨G, 0, none⟩) (fun _ => 2) (fun _ => 2) (fun _ => Bs) (fun _ _ => 8) (fun _ => cs) (fun _ => F)) (hE : El 8 2 qf 2 (fun _ => 8) F) (h0 : F 0 0 = 30) (h1 : F 1 0 = 35) (hz : ∀ t, 0 < t → t < 8 → F 0 t = 0 ∧ F 1 t = 0) (hT : Tabs w) :
    Calls Tryz.prog 21 #[.pointer (some ⟨s, 0, none⟩), .slice A 1 ca, .slice B 1 cb] w fun ee w' => ∃ (G' : Nat) (Bs' : Nat → Option Addr) (F' : Nat → Nat → Nat), ee = .returned (.tuple #[.agg #[.slice (some ⟨G', 0, none⟩) 2 2], .int .i64 0]) ∧ PM w' G' 2 8 Bs' (fun _ => 8) F' ∧ (F' 0 0 = 35 ∧ F' 1 0 = 136) ∧ Ext w w' := by
  have hall : AllEl 8 2 0 qf (fun _ => 2) (fun _ => 2) (fun _ _ => 8) (fun _ _ => 8) (fun _ => F) (fun _ => F) := ⟨fun _ _ => hE, fun _ _ => hE⟩
  refine (scaleDot_any 0 ca cb A B _ _ _ _ _ _ _ _ _ _ _ _ _ _ w hS hA hB (by omega) hT).mono ?_
  rintro ee w' ⟨⟨h, _⟩ | ⟨_, h, _⟩ | ⟨_, _, G', Bs', F', he, hpm, hF⟩, k⟩
  · exact absurd hall h
  · exact absurd (fun _ _ => ⟨rfl, rfl⟩) h
  · have hF2 := hF.out
    dsimp only at hF2
    rw [wc_f] at hF2
    exact ⟨G', Bs', F', he, hpm, dot_f h0 h1 hz h0 h1 hz hF2, k⟩
theorem liftF {v : Int} {F : Nat → Nat → Nat} (h : ∀ j, j < 2 → F j = fun i => lif ((fun i => if i = 0 then v else (0 : Int)) i) (qf j)) : (F 0 0 = lif v 97 ∧ F 1 0 = lif v 193) ∧ (∀ t, 0 < t → t < 8 → F 0 t = 0 ∧ F 1 t = 0) ∧ El 8 2 qf 2 (fun _ => 8) F := by
  refine ⟨⟨by rw [h 0 (by omega)]; rfl, by rw [h 1 (by omega)]; rfl⟩, fun t g ht => ?_, by omega, by omega, fun j hj => ⟨rfl, fun i hi => ?_⟩⟩
  · rw [h 0 (by omega), h 1 (by omega)]
    dsimp only
    rw [if_neg (by omega)]
    decide
  · rw [h j hj]
    exact lif_lt (by unfold qf; split <;> omega)
set_option maxHeartbeats 4000000 in
theorem lowNone_any (A : Option Addr) (L c : Nat) (w : World) : Calls Tryz.prog 17 #[.pointer none, .agg #[.slice A L c]] w fun ee w' => ee = .returned (.tuple #[.agg #[.slice none 0 0], .int .i64 1]) ∧ Ext w w' := by
  have hr0 : RW ((w.alloc (.cells #[.slice A L c] 28)).alloc (.cells #[.slice none 0 0] 28)) (w.heap.size + 1) 28 1 (fun _ => .slice none 0 0) := by
    have : RW ((w.alloc (.cells #[.slice A L c] 28)).alloc (.cells #[.slice none 0 0] 28)) (w.alloc (.cells #[.slice A L c] 28)).heap.size 28 1 (fun _ => .slice none 0 0) := heap_alloc_new _ _
    rwa [show (w.alloc (.cells #[.slice A L c] 28)).heap.size = w.heap.size + 1 by simp] at this
  go_enter Tryz.func17, Tryz.ntmps17
  go_wp2_with fail
  have k0 : Ext w ((w.alloc (.cells #[.slice A L c] 28)).alloc (.cells #[.slice none 0 0] 28)) := ((Ext.refl w).alloc _).alloc _
  generalize (w.alloc (.cells #[.slice A L c] 28)).alloc (.cells #[.slice none 0 0] 28) = V0 at *
  refine (noneS_any V0).mono ?_
  rintro ee w0 ⟨rfl, rfl⟩
  have c0 := hr0.cell (i := 0) (by omega)
  have z0 := hr0.frozen 0
  have hsz := hr0.lt
  have HR := Lib.hid hr0
  have K0 := Lib.hid k0
  clear hr0 k0
  go_wp2_with fail
  have d0 := ret_cell HR.out (.slice none 0 0)
  have d1 := K0.out.set (p := ⟨w.heap.size + 1, 0, none⟩) (by show w.heap.size ≤ w.heap.size + 1; omega) (.slice none 0 0)
  generalize V0.setCell ⟨w.heap.size + 1, 0, none⟩ (.slice none 0 0) = w9 at *
  exact bodyPost_ret (v := .tuple #[.agg #[.slice none 0 0], .int .i64 1]) (by simp [results, Tryz.results17, go_sem, d0]) rfl ⟨rfl, d1⟩
set_option maxHeartbeats 4000000 in
theorem dotNone_any (A B : Option Addr) (L c L' c' : Nat) (w : World) : Calls Tryz.prog 21 #[.pointer none, .slice A L c, .slice B L' c'] w fun ee w' => ee = .returned (.tuple #[.agg #[.slice none 0 0], .int .i64 1]) ∧ Ext w w' := by
  have hr0 : RW (w.alloc (.cells #[.slice none 0 0] 28)) w.heap.size 28 1 (fun _ => .slice none 0 0) := one_new w
  go_enter Tryz.func21, Tryz.ntmps21
  go_wp2_with fail
  have k0 : Ext w (w.alloc (.cells #[.slice none 0 0] 28)) := (Ext.refl w).alloc _
  generalize w.alloc (.cells #[.slice none 0 0] 28) = V0 at *
  refine (noneS_any V0).mono ?_
  rintro ee w0 ⟨rfl, rfl⟩
  have c0 := hr0.cell (i := 0) (by omega)
  have z0 := hr0.frozen 0
  have hsz := hr0.lt
  have HR := Lib.hid hr0
  have K0 := Lib.hid k0
  clear hr0 k0
  go_wp2_with fail
  have d0 := ret_cell HR.out (.slice none 0 0)
  have d1 := K0.out.set (p := ⟨w.heap.size, 0, none⟩) (by show w.heap.size ≤ w.heap.size; omega) (.slice none 0 0)
  generalize V0.setCell ⟨w.heap.size, 0, none⟩ (.slice none 0 0) = w9 at *
  exact bodyPost_ret (v := .tuple #[.agg #[.slice none 0 0], .int .i64 1]) (by simp [results, Tryz.results21, go_sem, d0]) rfl ⟨rfl, d1⟩
set_option maxHeartbeats 16000000 in
theorem fixed10_any (w : World) (hT : Tabs w) : Calls Tryz.prog 12 #[] w fun e w' => e = .returned (.bool true) ∧ Ext w w' := by
  have HT := Lib.hid hT
  clear hT
  have hQ : FX ((w.alloc (.cells #[.int .u64 97, .int .u64 193] 22)).alloc (.cells #[.int .i64 8, .int .u64 17, .slice (some ⟨w.heap.size, 0, none⟩) 2 2, .int .i64 1] 25)) (some ⟨w.heap.size, 0, none⟩) 2 2 qf := (show FX (w.alloc (.cells #[.int .u64 97, .int .u64 193] 22)) (some ⟨w.heap.size, 0, none⟩) 2 2 qf from fx_two w 97 193 97 193 rfl rfl).ext ((Ext.refl _).alloc _)
  have kV : Ext w ((w.alloc (.cells #[.int .u64 97, .int .u64 193] 22)).alloc (.cells #[.int .i64 8, .int .u64 17, .slice (some ⟨w.heap.size, 0, none⟩) 2 2, .int .i64 1] 25)) := ((Ext.refl w).alloc _).alloc _
  have HQ := Lib.hid hQ
  clear hQ
  go_enter Tryz.func12, Tryz.ntmps12
  go_wp2_with fail
  generalize ((w.alloc (.cells #[.int .u64 97, .int .u64 193] 22)).alloc (.cells #[.int .i64 8, .int .u64 17, .slice (some ⟨w.heap.size, 0, none⟩) 2 2, .int .i64 1] 25)) = V at *
  have hPA : PA V 8 17 (some ⟨w.heap.size, 0, none⟩) 2 2 1 qf := ⟨by omega, by omega, by omega, by omega, by omega, HQ.out, by omega, fun j _ => by unfold qf; split <;> omega⟩
  refine (scaleNew_any (n := 8) (T := 17) (Lib.hid hPA) (Lib.hid par_f) (by omega) (HT.out.ext kV)).mono ?_
  rintro ee V1 ⟨s, rfl, hS, k1⟩
  have HS := Lib.hid hS
  replace kV := kV.trans k1
  clear hS hPA k1 HQ
  go_wp2_with fail
  refine (Ring_any HS).mono ?_
  rintro ee V2 ⟨r1, p1, a1, e1, rfl, hR1, k2⟩
  have kb : Ext V2 (V2.alloc (.cells #[.int .i64 100, .int .i64 0, .int .i64 0, .int .i64 0, .int .i64 0, .int .i64 0, .int .i64 0, .int .i64 0] 2)) := (Ext.refl V2).alloc _
  have HR1 := Lib.hid (hR1.ext kb)
  replace k2 := k2.trans kb
  clear hR1
  go_wp2_with fail
  refine (rLift_any r1 8 2 qf p1 a1 e1 (some ⟨V2.heap.size, 0, none⟩) 8 1 _ _ HR1.out (by omega) (vx_eightZ V2 100) (Lib.hid fun i hi => by split <;> omega)).mono ?_
  rintro ee V3 ⟨Ga, Bsa, csa, Fa, rfl, hpa, hFa, k3⟩
  replace k2 := k2.trans k3
  have ka : Ext V3 (V3.alloc (.cells #[.slice (some ⟨Ga, 0, none⟩) 2 2] 28)) := (Ext.refl V3).alloc _
  have xa := one_at V3 (.slice (some ⟨Ga, 0, none⟩) 2 2) 28
  replace hpa := hpa.ext ka
  replace k2 := k2.trans ka
  clear kb k3 ka HR1
  go_wp2_with fail
  obtain ⟨⟨a0, a1'⟩, az, aE⟩ := liftF hFa.out
  refine (lowF_any (Lib.hid (HS.out.ext k2)) hpa aE (by rw [a0]; decide) (by rw [a1']; decide) (HT.out.ext (kV.trans k2))).mono ?_
  rintro ee V4 ⟨Gb, Bsb, Fb, rfl, hpb, hb, k4⟩
  replace k2 := k2.trans k4
  have kc : Ext V4 (V4.alloc (.cells #[.slice (some ⟨Gb, 0, none⟩) 1 1] 28)) := (Ext.refl V4).alloc _
  have xb := one_at V4 (.slice (some ⟨Gb, 0, none⟩) 1 1) 28
  replace hpb := hpb.ext kc
  replace k2 := k2.trans kc
  have HPB := Lib.hid hpb
  have HB := Lib.hid hb
  clear k4 kc xa a0 a1' az aE hFa hpa hpb hb
  go_wp2_with fail
  generalize V4.alloc (.cells #[.slice (some ⟨Gb, 0, none⟩) 1 1] 28) = V5 at *
  refine (Ring_any (Lib.hid (HS.out.ext k2))).mono ?_
  rintro ee V6 ⟨r2, p2, a2, e2, rfl, hR2, k6⟩
  have kd : Ext V6 (V6.alloc (.cells #[.int .i64 1000, .int .i64 0, .int .i64 0, .int .i64 0, .int .i64 0, .int .i64 0, .int .i64 0, .int .i64 0] 2)) := (Ext.refl V6).alloc _
  have HR2 := Lib.hid (hR2.ext kd)
  replace k6 := k6.trans kd
  clear hR2
  go_wp2_with fail
  refine (rLift_any r2 8 2 qf p2 a2 e2 (some ⟨V6.heap.size, 0, none⟩) 8 1 _ _ HR2.out (by omega) (vx_eightZ V6 1000) (Lib.hid fun i hi => by split <;> omega)).mono ?_
  rintro ee V7 ⟨Gc, Bsc, csc, Fc, rfl, hpc, hFc, k7⟩
  replace k6 := k6.trans k7
  have xc := one_at V7 (.slice (some ⟨Gc, 0, none⟩) 2 2) 28
  have ke : Ext V7 (V7.alloc (.cells #[.slice (some ⟨Gc, 0, none⟩) 2 2] 28)) := (Ext.refl V7).alloc _
  replace hpc := hpc.ext ke
  replace k6 := k6.trans ke
  replace xb := cell_ext k6 xb
  replace k2 := k2.trans k6
  have HPB2 := Lib.hid (HPB.out.ext k6)
  obtain ⟨⟨c0, c1'⟩, cz, cE⟩ := liftF hFc.out
  have HFC := Lib.hid (show (Fc 0 0 = 30 ∧ Fc 1 0 = 35) ∧ (∀ t, 0 < t → t < 8 → Fc 0 t = 0 ∧ Fc 1 t = 0) ∧ El 8 2 qf 2 (fun _ => 8) Fc from ⟨⟨by rw [c0]; decide, by rw [c1']; decide⟩, cz, cE⟩)
  have hs8 : (V7.alloc (.cells #[.slice (some ⟨Gc, 0, none⟩) 2 2] 28)).heap.size = V7.heap.size + 1 := by simp
  clear kd k7 ke c0 c1' cz cE hFc HR2 k6 HPB
  go_wp2_with fail
  generalize V7.alloc (.cells #[.slice (some ⟨Gc, 0, none⟩) 2 2] 28) = V8 at *
  rw [← hs8]
  have hA := (qp_one V8 Gc 2 8 Bsc csc Fc hpc (by omega) (by omega)).ext ((Ext.refl _).alloc (.cells #[.slice (some ⟨Gc, 0, none⟩) 2 2] 28))
  have hB := qp_one (V8.alloc (.cells #[.slice (some ⟨Gc, 0, none⟩) 2 2] 28)) Gc 2 8 Bsc csc Fc (hpc.ext ((Ext.refl _).alloc _)) (by omega) (by omega)
  rw [show (V8.alloc (.cells #[.slice (some ⟨Gc, 0, none⟩) 2 2] 28)).heap.size = V8.heap.size + 1 by simp] at hB
  have kf : Ext V8 ((V8.alloc (.cells #[.slice (some ⟨Gc, 0, none⟩) 2 2] 28)).alloc (.cells #[.slice (some ⟨Gc, 0, none⟩) 2 2] 28)) := ((Ext.refl _).alloc _).alloc _
  generalize (V8.alloc (.cells #[.slice (some ⟨Gc, 0, none⟩) 2 2] 28)).alloc (.cells #[.slice (some ⟨Gc, 0, none⟩) 2 2] 28) = V9 at *
  refine (dotF_any (Lib.hid (HS.out.ext (k2.trans kf))) hA hB HFC.out.2.2 HFC.out.1.1 HFC.out.1.2 HFC.out.2.1 (HT.out.ext (kV.trans (k2.trans kf)))).mono ?_
  rintro ee V10 ⟨Gd, Bsd, Fd, rfl, hpd, hd, k10⟩
  have kg : Ext V10 (V10.alloc (.cells #[.slice (some ⟨Gd, 0, none⟩) 2 2] 28)) := (Ext.refl V10).alloc _
  have xd := one_at V10 (.slice (some ⟨Gd, 0, none⟩) 2 2) 28
  replace hpd := hpd.ext kg
  have k11 := (kf.trans k10).trans kg
  replace xb := cell_ext k11 xb
  have HPB3 := HPB2.out.ext k11
  have K := Lib.hid (kV.trans (k2.trans k11))
  obtain ⟨hd0, hd1⟩ := hd
  obtain ⟨bb, hbe, hbc⟩ := (HPB3.lists 0 (by omega)).cells (by omega)
  obtain ⟨d0, hd0e, hd0c⟩ := (hpd.lists 0 (by omega)).cells (by omega)
  obtain ⟨d1, hd1e, hd1c⟩ := (hpd.lists 1 (by omega)).cells (by omega)
  have z0 := HPB3.row.cell (i := 0) (by omega)
  have z1 := hpd.row.cell (i := 0) (by omega)
  have z2 := hpd.row.cell (i := 1) (by omega)
  have z3 := hbc 0 (by omega)
  have z4 := hd0c 0 (by omega)
  have z5 := hd1c 0 (by omega)

  rw [hbe] at z0
  rw [hd0e] at z1
  rw [hd1e] at z2
  rw [HB.out, show bb.add 0 = bb from rfl] at z3
  rw [hd0, show d0.add 0 = d0 from rfl] at z4
  rw [hd1, show d1.add 0 = d1 from rfl] at z5
  clear hA hB kf k10 kg k11 hbc hd0c hd1c hbe hd0e hd1e hpd HPB3 HPB2 k2 kV HFC hpc hd0 hd1 HB
  go_wp2
  trace_state
  go_ret
  exact ⟨rfl, K.out⟩
end Go.Proofs.YtbpehdfpiembfaaGreatDoor

/-
  The walk of ScaleNil.
-/
namespace Go.Proofs.YtbpehdfpiembfaaGreatDoor
open Go.RowKit
set_option linter.unusedVariables false
set_option maxRecDepth 100000
set_option maxHeartbeats 8000000 in
theorem scaleNil_walk {A : Option Addr} {L c : Nat} {As : Nat → Option Addr} {ns cs : Nat → Nat} {f : Nat → Nat → Nat} (w : World) (hP : Hid (PW w A L c As ns cs f)) (hT : Tabs w) : Calls Tryz.prog 6 #[.agg #[.slice A L c]] w fun e w' => e = .returned (.bool true) ∧ Ext w w' := by
  have k0 : Ext w (w.alloc (.cells #[.slice A L c] 28)) := (Ext.refl w).alloc _
  have x0 := one_at w (.slice A L c) 28
  go_enter Tryz.func6, Tryz.ntmps6
  go_wp2_with fail
  generalize w.alloc (.cells #[.slice A L c] 28) = V at *
  refine (fixed10_any V (hT.ext k0)).mono ?_
  rintro ee V1 ⟨rfl, k1⟩
  replace x0 := cell_ext k1 x0
  replace k0 := k0.trans k1
  clear k1
  go_wp2_with fail
  refine (lowNone_any A L c V1).mono ?_
  rintro ee V2 ⟨rfl, k2⟩
  have ka : Ext V2 (V2.alloc (.cells #[.slice none 0 0] 28)) := (Ext.refl V2).alloc _
  have x1 := one_at V2 (.slice none 0 0) 28
  replace k2 := k2.trans ka
  replace x0 := cell_ext k2 x0
  replace k0 := k0.trans k2
  have x0b := cell_ext ((Ext.refl (V2.alloc (.cells #[.slice none 0 0] 28))).alloc (.cells #[.slice A L c] 28)) x0
  clear k2 ka
  go_wp2_with fail
  generalize V2.alloc (.cells #[.slice none 0 0] 28) = V3 at *
  have kb : Ext V3 ((V3.alloc (.cells #[.slice A L c] 28)).alloc (.cells #[.slice A L c] 28)) := ((Ext.refl _).alloc _).alloc _
  refine (dotNone_any _ _ _ _ _ _ _).mono ?_
  rintro ee V4 ⟨rfl, k4⟩
  have kc : Ext V4 (V4.alloc (.cells #[.slice none 0 0] 28)) := (Ext.refl V4).alloc _
  have x2 := one_at V4 (.slice none 0 0) 28
  have k5 := (kb.trans k4).trans kc
  replace x1 := cell_ext k5 x1
  replace k0 := k0.trans k5
  clear k4 kb kc k5 x0 x0b
  go_wp2_with fail
  generalize V4.alloc (.cells #[.slice none 0 0] 28) = V5 at *
  refine (ringNone_any V5).mono ?_
  rintro ee V6 ⟨rfl, k6⟩
  replace x1 := cell_ext k6 x1
  replace x2 := cell_ext k6 x2
  have K := Lib.hid (k0.trans k6)
  clear k0 k6
  go_wp2
  go_ret
  exact ⟨rfl, K.out⟩
end Go.Proofs.YtbpehdfpiembfaaGreatDoor
