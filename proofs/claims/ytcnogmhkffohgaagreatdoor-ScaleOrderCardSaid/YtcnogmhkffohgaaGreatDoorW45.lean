/-
  What Dot of package scale answers.
-/
import Derived.Test.YtcnogmhkffohgaaGreatDoorW44
import Derived.Test.YtcnogmhkffohgaaGreatDoorW39
import Derived.Test.YtcnogmhkffohgaaGreatDoorW43
import Derived.Test.YtcnogmhkffohgaaGreatDoorW32
namespace Go.Proofs.YtcnogmhkffohgaaGreatDoor
open Go.RowKit
set_option linter.unusedVariables false
set_option maxRecDepth 100000

theorem catF_lo {α : Type} {n i : Nat} {x y : Nat → α} (h : i < n) : catF n x y i = x i := if_pos h
theorem catF_hi {α : Type} {n i : Nat} {x y : Nat → α} : catF n x y (n + i) = y i := by
  unfold catF
  rw [if_neg (by omega), Nat.add_sub_cancel_left]
theorem cat_el {n M N : Nat} {q : Nat → Nat} {La Lb : Nat → Nat} {nsa nsb : Nat → Nat → Nat} {fa fb : Nat → Nat → Nat → Nat} :
    (∀ j, j ≤ N + 1 + N → El n M q (catF (N + 1) La Lb j) (catF (N + 1) nsa nsb j) (catF (N + 1) fa fb j)) ↔ (∀ j, j ≤ N → El n M q (La j) (nsa j) (fa j)) ∧ ∀ j, j ≤ N → El n M q (Lb j) (nsb j) (fb j) := by
  constructor
  · intro h
    refine ⟨fun j hj => ?_, fun j hj => ?_⟩
    · have := h j (by omega)
      rwa [catF_lo (by omega), catF_lo (by omega), catF_lo (by omega)] at this
    · have := h (N + 1 + j) (by omega)
      rwa [catF_hi, catF_hi, catF_hi] at this
  · rintro ⟨h1, h2⟩ j hj
    rcases Nat.lt_or_ge j (N + 1) with g | g
    · rw [catF_lo g, catF_lo g, catF_lo g]; exact h1 j (by omega)
    · obtain ⟨k, rfl⟩ : ∃ k, j = N + 1 + k := ⟨j - (N + 1), by omega⟩
      rw [catF_hi, catF_hi, catF_hi]; exact h2 k (by omega)
theorem cat_same {N : Nat} {La Lb : Nat → Nat} : (∀ j, j ≤ N + 1 + N → catF (N + 1) La Lb j = catF (N + 1) La Lb 0) ↔ ∀ j, j ≤ N → La j = La 0 ∧ Lb j = La 0 := by
  rw [catF_lo (show 0 < N + 1 by omega)]
  constructor
  · intro h j hj
    have h1 := h j (by omega)
    have h2 := h (N + 1 + j) (by omega)
    rw [catF_lo (by omega)] at h1
    rw [catF_hi] at h2
    exact ⟨h1, h2⟩
  · intro h j hj
    rcases Nat.lt_or_ge j (N + 1) with g | g
    · rw [catF_lo g]; exact (h j (by omega)).1
    · obtain ⟨k, rfl⟩ : ∃ k, j = N + 1 + k := ⟨j - (N + 1), by omega⟩
      rw [catF_hi]; exact (h k (by omega)).2
/-- The wide row. -/
def wideQ (n K : Nat) (i : Nat) : Nat := ((wideL (2 * n)).take K).getD i 0
/-- What Dot's answer holds. -/
def DotOk (n N L C T : Nat) (q qw : Nat → Nat) (fa fb : Nat → Nat → Nat → Nat) (F : Nat → Nat → Nat) : Prop :=
  ∃ (pa pb : Nat → Nat → Nat) (Fs : Nat → Nat → Nat) (pw : Nat → Nat), SumOk (N + 1) n C L q qw fa fb pa pb Fs ∧ Parts C qw pw ∧ ∀ j, j < L → ∀ i, i < n → F j i = resF (decide (scaled T (prodF q L) C qw pw Fs i < 0)) (nv (nw (scaled T (prodF q L) C qw pw Fs i).natAbs)) (q j)
def AllEl (n M N : Nat) (q : Nat → Nat) (La Lb : Nat → Nat) (nsa nsb : Nat → Nat → Nat) (fa fb : Nat → Nat → Nat → Nat) : Prop := (∀ j, j ≤ N → El n M q (La j) (nsa j) (fa j)) ∧ ∀ j, j ≤ N → El n M q (Lb j) (nsb j) (fb j)
def OneLv (N : Nat) (La Lb : Nat → Nat) : Prop := ∀ j, j ≤ N → La j = La 0 ∧ Lb j = La 0
def DotPost (n T M N : Nat) (q : Nat → Nat) (La Lb : Nat → Nat) (nsa nsb : Nat → Nat → Nat) (fa fb : Nat → Nat → Nat → Nat) (w : World) (ee : Ending) (w' : World) : Prop :=
  ((¬ AllEl n M N q La Lb nsa nsb fa fb ∧ ee = .returned (.tuple #[.agg #[.slice none 0 0], .int .i64 3])) ∨
    (AllEl n M N q La Lb nsa nsb fa fb ∧ ¬ OneLv N La Lb ∧ ee = .returned (.tuple #[.agg #[.slice none 0 0], .int .i64 10])) ∨
    (AllEl n M N q La Lb nsa nsb fa fb ∧ OneLv N La Lb ∧ ∃ (G : Nat) (Bs : Nat → Option Addr) (F : Nat → Nat → Nat), ee = .returned (.tuple #[.agg #[.slice (some ⟨G, 0, none⟩) (La 0) (La 0)], .int .i64 0]) ∧ PM w' G (La 0) n Bs (fun _ => n) F ∧ Hid (DotOk n N (La 0) (wcN n (La 0) q) T q (wideQ n (wcN n M q)) fa fb F))) ∧ Ext w w'
theorem wideQ_at {n K j : Nat} (hn : StepW (2 * n)) (hj : j < K) (hK : K ≤ 16) : wideQ n K j ∈ wideL (2 * n) := by
  have hl := wideL_len hn
  have hj' : j < ((wideL (2 * n)).take K).length := by rw [List.length_take, hl]; omega
  unfold wideQ
  rw [getD_at hj']
  exact List.mem_of_mem_take (List.getElem_mem hj')
theorem eight_at (w : World) (a b c d e f g h : Value) (t : TypeId) : ∀ i, i < 8 → (w.alloc (.cells #[a, b, c, d, e, f, g, h] t)).cell? ⟨w.heap.size, i, none⟩ = some ((#[a, b, c, d, e, f, g, h] : Array Value).toList.getD i (.bool false)) := by
  intro i hi
  rcases (show i = 0 ∨ i = 1 ∨ i = 2 ∨ i = 3 ∨ i = 4 ∨ i = 5 ∨ i = 6 ∨ i = 7 by omega) with rfl | rfl | rfl | rfl | rfl | rfl | rfl | rfl <;> simp
set_option maxHeartbeats 16000000 in
theorem scaleDot_any {s n T M : Nat} {q : Nat → Nat} (N ca cb : Nat) (Aa Ab : Option Addr) (Aj Bj : Nat → Option Addr) (La Lb cj dj : Nat → Nat) (Ba Bb : Nat → Nat → Option Addr) (nsa csa nsb csb : Nat → Nat → Nat) (fa fb : Nat → Nat → Nat → Nat) (w : World) (hS : Hid (Sc w s n T M q)) (hA : QP w Aa (N + 1) ca Aj La cj Ba nsa csa fa) (hB : QP w Ab (N + 1) cb Bj Lb dj Bb nsb csb fb) (hN : N ≤ 3) (hT : Tabs w) :
    Calls Tryz.prog 8 #[.pointer (some ⟨s, 0, none⟩), .slice Aa (N + 1) ca, .slice Ab (N + 1) cb] w (DotPost n T M N q La Lb nsa nsb fa fb w) := by
  have HA := Lib.hid hA
  have HB := Lib.hid hB
  have HT := Lib.hid hT
  clear hA hB hT
  obtain ⟨r, x, g, p, p', a, e, a', e', Ar, Aw, cr, cw, x0, x1, x2, hrg, hrx, hlv, hfr, hfw⟩ := hS.out.ex
  have hsw : s < w.heap.size := by have := World.block_lt_of_cell? _ _ x0; simpa using this
  have hgw : g < w.heap.size := by obtain ⟨v, hr, _⟩ := hlv; exact hr.lt
  have HRX := Lib.hid hrx
  have HLV := Lib.hid hlv
  have HFR := Lib.hid hfr
  have HFW := Lib.hid hfw
  clear hrg hrx hlv hfr hfw x0
  have hr0 : RW (w.alloc (.cells #[.slice none 0 0] 36)) w.heap.size 36 1 (fun _ => .slice none 0 0) := one_new w
  have b0 : (((N + 1 : Nat) : Int) == 0) = false := by simp; omega
  have b1 : ¬ (((N + 1 : Nat) : Int) > 4) := by omega
  have b2 : (((N + 1 : Nat) : Int) != ((N + 1 : Nat) : Int)) = false := by simp
  have c0 : (((N : Int) + 1) == 0) = false := by simp; omega
  have c1 : ¬ (((N : Int) + 1) > 4) := by omega
  go_enter Tryz.func8, Tryz.ntmps8
  go_wp2_with fail
  have k0 : Ext w (w.alloc (.cells #[.slice none 0 0] 36)) := (Ext.refl w).alloc _
  replace x1 := cell_ext k0 x1
  replace x2 := cell_ext k0 x2
  generalize w.alloc (.cells #[.slice none 0 0] 36) = V0 at *
  refine (sNone_any (Lib.hid (hS.out.ext k0))).mono ?_
  rintro ee w0 ⟨rfl, rfl⟩
  have ka : Ext V0 (V0.alloc (.cells #[.slice Aa (N + 1) ca, .slice Ab (N + 1) cb] 26)) := (Ext.refl V0).alloc _
  have s0 := two_at0 V0 (.slice Aa (N + 1) ca) (.slice Ab (N + 1) cb) 26
  have s1 := two_at1 V0 (.slice Aa (N + 1) ca) (.slice Ab (N + 1) cb) 26
  have HCC := Lib.hid (concatQ_any V0.heap.size (N + 1) ca (N + 1) cb Aa Ab Aj Bj La cj Lb dj Ba Bb nsa csa nsb csb fa fb _ s0 s1 (HA.out.ext (k0.trans ka)) (HB.out.ext (k0.trans ka)) (by omega) (by omega))
  go_wp2_with fail
  refine HCC.out.mono ?_
  rintro ee V1 ⟨A2, c2, rfl, hq2, k2⟩
  have k3 := ka.trans k2
  have HQ := Lib.hid hq2
  replace x1 := cell_ext k3 x1
  replace x2 := cell_ext k3 x2
  replace hr0 := hr0.ext k3
  replace k0 := k0.trans k3
  clear k3 k2 ka s0 s1 hq2 HCC
  have HCO := Lib.hid (common_any (N + 1 + N) c2 A2 (catF (N + 1) Aj Bj) (catF (N + 1) La Lb) (catF (N + 1) cj dj) (catF (N + 1) Ba Bb) (catF (N + 1) nsa nsb) (catF (N + 1) csa csb) (catF (N + 1) fa fb) V1 (Lib.hid (hS.out.ext k0)) HQ.out.qx (Lib.hid fun j hj => HQ.out.els j (by omega)) (by omega))
  go_wp2_with fail
  refine HCO.out.mono ?_
  rintro ee V2 ⟨h, k3⟩
  replace x1 := cell_ext k3 x1
  replace x2 := cell_ext k3 x2
  replace hr0 := hr0.ext k3
  replace k0 := k0.trans k3
  clear k3 HCO HQ
  rw [cat_el, cat_same] at h
  rcases h with ⟨hE, hL, hee⟩ | ⟨hE, hL, rfl⟩ | ⟨hE, rfl⟩
  case inr.inr =>
    have HE := Lib.hid hE
    have d0 := hr0.cell (i := 0) (by omega)
    have z0 := hr0.frozen 0
    have hsz := hr0.lt
    have HR0 := Lib.hid hr0
    have K0 := Lib.hid k0
    clear hE hr0 k0 x1 x2
    go_wp2_with fail
    have e0 := ret_cell HR0.out (.slice none 0 0)
    have e1 := K0.out.set (p := ⟨w.heap.size, 0, none⟩) (by show w.heap.size ≤ w.heap.size; omega) (.slice none 0 0)
    generalize V2.setCell ⟨w.heap.size, 0, none⟩ (.slice none 0 0) = w9 at *
    exact bodyPost_ret (v := .tuple #[.agg #[.slice none 0 0], .int .i64 3]) (by simp [results, Tryz.results8, go_sem, e0]) rfl ⟨.inl ⟨HE.out, rfl⟩, e1⟩
  case inr.inl =>
    have HE := Lib.hid hE
    have HL := Lib.hid hL
    have d0 := hr0.cell (i := 0) (by omega)
    have z0 := hr0.frozen 0
    have hsz := hr0.lt
    have HR0 := Lib.hid hr0
    have K0 := Lib.hid k0
    clear hE hL hr0 k0 x1 x2
    go_wp2_with fail
    have e0 := ret_cell HR0.out (.slice none 0 0)
    have e1 := K0.out.set (p := ⟨w.heap.size, 0, none⟩) (by show w.heap.size ≤ w.heap.size; omega) (.slice none 0 0)
    generalize V2.setCell ⟨w.heap.size, 0, none⟩ (.slice none 0 0) = w9 at *
    exact bodyPost_ret (v := .tuple #[.agg #[.slice none 0 0], .int .i64 10]) (by simp [results, Tryz.results8, go_sem, e0]) rfl ⟨.inr (.inl ⟨HE.out, HL.out, rfl⟩), e1⟩
  have HE := Lib.hid hE
  have HL := Lib.hid hL
  have hm1 := (hE.1 0 (by omega)).1
  have hmM := (hE.1 0 (by omega)).2.1
  have hL2 : ∃ m, La 0 = m + 1 := ⟨La 0 - 1, by omega⟩
  obtain ⟨m, hm⟩ := hL2
  rw [catF_lo (show 0 < N + 1 by omega), hm, show (((m + 1 : Nat) : Int) - 1) = (m : Int) by omega] at hee
  subst hee
  rw [hm] at hmM
  clear hE hL hm1
  have HM := Lib.hid hm
  clear hm
  obtain ⟨A1, A2', A3, A4, n1, c1', n2, c2', n3, c3, n4, c4, hcs, h1, h2, h3, h4⟩ := (HLV.out.ext k0).at (m := m) (by omega) (Nat.le_refl _)
  have l0 : V2.cell? ⟨g, m * 8, none⟩ = some (.slice Ar (m + 1) cr) := hcs 0 (by omega)
  have l1 : V2.cell? ⟨g, m * 8 + 1, none⟩ = some (.slice Aw (wcN n (m + 1) q) cw) := hcs 1 (by omega)
  have l2 : V2.cell? ⟨g, m * 8 + 2, none⟩ = some (.bool false) := hcs 2 (by omega)
  have l3 : V2.cell? ⟨g, m * 8 + 3, none⟩ = some (.slice A1 n1 c1') := hcs 3 (by omega)
  have l4 : V2.cell? ⟨g, m * 8 + 4, none⟩ = some (.slice A2' n2 c2') := hcs 4 (by omega)
  have l5 : V2.cell? ⟨g, m * 8 + 5, none⟩ = some (.bool false) := hcs 5 (by omega)
  have l6 : V2.cell? ⟨g, m * 8 + 6, none⟩ = some (.slice A3 n3 c3) := hcs 6 (by omega)
  have l7 : V2.cell? ⟨g, m * 8 + 7, none⟩ = some (.slice A4 n4 c4) := hcs 7 (by omega)
  have H3 := Lib.hid h3
  have H4 := Lib.hid h4
  clear hcs h1 h2 h3 h4
  have HROW := Lib.hid hS.out.row
  have hwords : ∀ j, j < M → 0 < q j ∧ q j < 18446744073709551616 := okq_lt hS.out.row.c
  have HW := Lib.hid hwords
  have hM8 := hS.out.l8
  have hn0 : 0 < n := by rcases hS.out.step with h | h | h <;> omega
  have hn5 : n ≤ 32 := by rcases hS.out.step with h | h | h <;> omega
  have hK15 : wcN n M q ≤ 15 := wc_few hn5 hS.out.bits
  have hCK : wcN n (m + 1) q ≤ wcN n M q := wc_mono (fun j hj => (hwords j hj).1) (by omega)
  have hC0 : 1 ≤ wcN n (m + 1) q := wc_one _ _ _
  have hK0 : 1 ≤ wcN n M q := wc_one _ _ _
  have HSTEP := Lib.hid hS.out.step
  have HWR := Lib.hid (RowP.cut (wide_row HSTEP.out hK0 (by omega)) hC0 hCK)
  clear hwords
  have i0 : (0 : Int) ≤ (m : Int) := by omega
  have i1 : (m : Int) < (M : Int) := by omega
  have hsz2 := hr0.lt
  go_wp2_with fail
  have q0 : (V2.alloc (.cells #[.slice Ar (m + 1) cr, .slice Aw (wcN n (m + 1) q) cw, .bool false, .slice A1 n1 c1', .slice A2' n2 c2', .bool false, .slice A3 n3 c3, .slice A4 n4 c4] 58)).cell? ⟨V2.heap.size, 0, none⟩ = some (.slice Ar (m + 1) cr) := by simp
  have q1 : (V2.alloc (.cells #[.slice Ar (m + 1) cr, .slice Aw (wcN n (m + 1) q) cw, .bool false, .slice A1 n1 c1', .slice A2' n2 c2', .bool false, .slice A3 n3 c3, .slice A4 n4 c4] 58)).cell? ⟨V2.heap.size, 1, none⟩ = some (.slice Aw (wcN n (m + 1) q) cw) := by simp
  have q2 : (V2.alloc (.cells #[.slice Ar (m + 1) cr, .slice Aw (wcN n (m + 1) q) cw, .bool false, .slice A1 n1 c1', .slice A2' n2 c2', .bool false, .slice A3 n3 c3, .slice A4 n4 c4] 58)).cell? ⟨V2.heap.size, 2, none⟩ = some (.bool false) := by simp
  have q3 : (V2.alloc (.cells #[.slice Ar (m + 1) cr, .slice Aw (wcN n (m + 1) q) cw, .bool false, .slice A1 n1 c1', .slice A2' n2 c2', .bool false, .slice A3 n3 c3, .slice A4 n4 c4] 58)).cell? ⟨V2.heap.size, 3, none⟩ = some (.slice A1 n1 c1') := by simp
  have q4 : (V2.alloc (.cells #[.slice Ar (m + 1) cr, .slice Aw (wcN n (m + 1) q) cw, .bool false, .slice A1 n1 c1', .slice A2' n2 c2', .bool false, .slice A3 n3 c3, .slice A4 n4 c4] 58)).cell? ⟨V2.heap.size, 4, none⟩ = some (.slice A2' n2 c2') := by simp
  have q5 : (V2.alloc (.cells #[.slice Ar (m + 1) cr, .slice Aw (wcN n (m + 1) q) cw, .bool false, .slice A1 n1 c1', .slice A2' n2 c2', .bool false, .slice A3 n3 c3, .slice A4 n4 c4] 58)).cell? ⟨V2.heap.size, 5, none⟩ = some (.bool false) := by simp
  have q6 : (V2.alloc (.cells #[.slice Ar (m + 1) cr, .slice Aw (wcN n (m + 1) q) cw, .bool false, .slice A1 n1 c1', .slice A2' n2 c2', .bool false, .slice A3 n3 c3, .slice A4 n4 c4] 58)).cell? ⟨V2.heap.size, 6, none⟩ = some (.slice A3 n3 c3) := by simp
  have q7 : (V2.alloc (.cells #[.slice Ar (m + 1) cr, .slice Aw (wcN n (m + 1) q) cw, .bool false, .slice A1 n1 c1', .slice A2' n2 c2', .bool false, .slice A3 n3 c3, .slice A4 n4 c4] 58)).cell? ⟨V2.heap.size, 7, none⟩ = some (.slice A4 n4 c4) := by simp
  have k3 : Ext V2 (V2.alloc (.cells #[.slice Ar (m + 1) cr, .slice Aw (wcN n (m + 1) q) cw, .bool false, .slice A1 n1 c1', .slice A2' n2 c2', .bool false, .slice A3 n3 c3, .slice A4 n4 c4] 58)) := (Ext.refl V2).alloc _
  have hrL := hr0.ext k3
  have kV := k0.trans k3
  have H3' := Lib.hid (NX.ext H3.out.2 k3)
  have H4' := Lib.hid (NX.ext H4.out.2 k3)
  have hn3 := H3.out.1
  have hn4 := H4.out.1
  generalize (V2.alloc (.cells #[.slice Ar (m + 1) cr, .slice Aw (wcN n (m + 1) q) cw, .bool false, .slice A1 n1 c1', .slice A2' n2 c2', .bool false, .slice A3 n3 c3, .slice A4 n4 c4] 58)) = V at *
  have ne1 : (w.heap.size = V2.heap.size) = False := eq_false (by omega)
  have ne2 : (V2.heap.size = w.heap.size) = False := eq_false (by omega)
  have y1 := cell_ext k3 x1
  clear k3 k0 x1 x2 l0 l1 l2 l3 l4 l5 l6 l7 hr0
  have HEA := Lib.hid (fun k (hk : k ≤ N) => (show La k = m + 1 ∧ Lsts n (m + 1) (nsa k) (fa k) q from ⟨by rw [(HL.out k hk).1, HM.out], by have := (HE.out.1 k hk).lsts; rwa [(HL.out k hk).1, HM.out] at this⟩))
  have HEB := Lib.hid (fun k (hk : k ≤ N) => (show Lb k = m + 1 ∧ Lsts n (m + 1) (nsb k) (fb k) q from ⟨by rw [(HL.out k hk).2, HM.out], by have := (HE.out.2 k hk).lsts; rwa [(HL.out k hk).2, HM.out] at this⟩))
  have HRM := Lib.hid (HROW.out.cut (Nat.succ_pos m) hmM)
  have HSU := Lib.hid (fun w' (h : Ext V w') => scaleSum_any s x N n (wcN n M q) (wcN n (m + 1) q) (m + 1) cr cw ca cb Ar Aw Aa Ab A1 A2' A3 A4 n1 c1' n2 c2' n3 c3 n4 c4 q (wideQ n (wcN n M q)) p' a' e' Aj Bj La Lb cj dj Ba Bb nsa csa nsb csb fa fb w' (cell_ext h y1) (HRX.out.ext (kV.trans h)) hCK hC0 ((HFR.out.ext (kV.trans h)).cut hmM) ((HFW.out.ext (kV.trans h)).cut hCK) HRM.out.c HWR.out.c (Lib.hid fun j hj => wide_sq HSTEP.out (wideQ_at HSTEP.out (by omega) (by omega))) hn0 hn5 (HT.out.ext (kV.trans h)) (HA.out.ext (kV.trans h)) (HB.out.ext (kV.trans h)) (by omega) HEA HEB)
  have hpos : 0 < prodF q (m + 1) := prodF_pos _ fun j hj => (HW.out j (by omega)).1
  have HOV := Lib.hid (fun w' (h : Ext V w') G5 Bs5 cs5 F5 (h5 : PM w' G5 (wcN n (m + 1) q) n Bs5 cs5 F5) (e5 : ∀ j, j < wcN n (m + 1) q → ∀ i, i < n → F5 j i < wideQ n (wcN n M q) j) => over_any T (prodF q (m + 1)) n3 c3 n4 c4 (wcN n (m + 1) q) (wcN n (m + 1) q) cw n (m + 1) cr A3 A4 (some ⟨G5, 0, none⟩) Aw Ar Bs5 (fun _ => n) cs5 F5 (wideQ n (wcN n M q)) q w' (NX.ext H3'.out h) (NX.ext H4'.out h) (by omega) (by omega) hpos h5.px ((HFW.out.ext (kV.trans h)).cut hCK) ((HFR.out.ext (kV.trans h)).cut hmM) (Lib.hid fun j hj => (okq_lt HWR.out.c j hj).2) (Lib.hid fun j hj => (HW.out j (by omega)).2) (HT.out.ext (kV.trans h)) HWR.out.c HRM.out.c (Lib.hid fun j hj => ⟨rfl, e5 j hj⟩) hn0 (by omega))
  have HRL := Lib.hid hrL
  have KV := Lib.hid kV
  have kk : Ext V V := Ext.refl V
  clear hrL kV y1 hpos hsw hgw i0 i1 b0 b1 b2 c0 c1
  go_region_held3 (fun w' => w'.cell? ⟨V2.heap.size, 0, none⟩ = some (.slice Ar (m + 1) cr) ∧ w'.cell? ⟨V2.heap.size, 1, none⟩ = some (.slice Aw (wcN n (m + 1) q) cw) ∧ w'.cell? ⟨V2.heap.size, 2, none⟩ = some (.bool false) ∧ w'.cell? ⟨V2.heap.size, 3, none⟩ = some (.slice A1 n1 c1') ∧ w'.cell? ⟨V2.heap.size, 4, none⟩ = some (.slice A2' n2 c2') ∧ w'.cell? ⟨V2.heap.size, 5, none⟩ = some (.bool false) ∧ w'.cell? ⟨V2.heap.size, 6, none⟩ = some (.slice A3 n3 c3) ∧ w'.cell? ⟨V2.heap.size, 7, none⟩ = some (.slice A4 n4 c4)) (go_keep)
    (first
      | (go_at_call 25; refine (HSU.out _ (by first | with_reducible exact kk | with_reducible exact Ext.drew kk)).mono ?_; rintro e5 w5 ⟨pa, pb, G5, Bs5, cs5, F5, rfl, hpm5, hok5, k5⟩; replace kk : Ext V w5 := (by first | with_reducible exact Ext.trans kk k5 | with_reducible exact Ext.trans (Ext.drew kk) k5); have d0 := cell_ext kk q0; have d1 := cell_ext kk q1; have d2 := cell_ext kk q2; have d3 := cell_ext kk q3; have d4 := cell_ext kk q4; have d5 := cell_ext kk q5; have d6 := cell_ext kk q6; have d7 := cell_ext kk q7; have hr6 := HRL.out.ext kk; have c0 := hr6.cell (i := 0) (by omega); have z0 := hr6.frozen 0; have hsz := hr6.lt)
      | (go_at_call 24; refine (HOV.out _ (by first | with_reducible exact kk | with_reducible exact Ext.drew kk) G5 Bs5 cs5 F5 (by first | with_reducible exact hpm5 | with_reducible exact hpm5.ext ((Ext.refl _).drew)) (fun j hj i hi => (hok5.out.2 j hj i hi).1)).mono ?_; rintro e6 w6 ⟨pw, G6, Bs6, F6, HPW, rfl, hpm6, HF6, k6⟩; replace kk : Ext V w6 := (by first | with_reducible exact Ext.trans kk k6 | with_reducible exact Ext.trans (Ext.drew kk) k6); have d0 := cell_ext kk q0; have d1 := cell_ext kk q1; have d2 := cell_ext kk q2; have d3 := cell_ext kk q3; have d4 := cell_ext kk q4; have d5 := cell_ext kk q5; have d6 := cell_ext kk q6; have d7 := cell_ext kk q7; have hr6 := HRL.out.ext kk; have c0 := hr6.cell (i := 0) (by omega); have z0 := hr6.frozen 0; have hsz := hr6.lt)
      | fail)
  all_goals
    have kr6 := KV.out.trans kk
    have e0 := ret_cell hr6 (.slice (some ⟨G6, 0, none⟩) (m + 1) (m + 1))
    have e1 := kr6.set (p := ⟨w.heap.size, 0, none⟩) (by show w.heap.size ≤ w.heap.size; omega) (.slice (some ⟨G6, 0, none⟩) (m + 1) (m + 1))
    have e2 := hpm6.aside hr6 rfl (.slice (some ⟨G6, 0, none⟩) (m + 1) (m + 1))
    generalize w6.setCell ⟨w.heap.size, 0, none⟩ (.slice (some ⟨G6, 0, none⟩) (m + 1) (m + 1)) = w10 at *
    clear d0 d1 d2 d3 d4 d5 d6 d7 c0 z0 hsz
    go_wp2_with fail
    exact bodyPost_ret (v := .tuple #[.agg #[.slice (some ⟨G6, 0, none⟩) (m + 1) (m + 1)], .int .i64 0]) (by simp [results, Tryz.results8, go_sem, e0]) rfl ⟨.inr (.inr ⟨HE.out, HL.out, G6, Bs6, F6, by rw [HM.out], by rw [HM.out]; exact e2, by rw [HM.out]; exact Lib.hid ⟨pa, pb, F5, pw, hok5.out, HPW.out, HF6.out⟩⟩), e1⟩
end Go.Proofs.YtcnogmhkffohgaaGreatDoor

/-
  Sums of products come in any order: the numbers.
-/
namespace Go.Proofs.YtcnogmhkffohgaaGreatDoor
open Go.RowKit
set_option linter.unusedVariables false
set_option maxRecDepth 100000

theorem nega_comm (n : Nat) (a b : Nat → Int) (m : Nat) : nega n a b m = nega n b a m := by
  unfold nega
  rw [S_swap]
  exact S_congr fun i hi => S_congr fun l hl => by rw [Nat.add_comm l i, Int.mul_comm (a l) (b i)]
theorem S_rev : ∀ (n : Nat) (f : Nat → Int), S (n + 1) f = S (n + 1) (fun k => f (n - k))
  | 0, f => rfl
  | n + 1, f => by
    have h := S_split 1 (n + 1) (fun k => f (n + 1 - k))
    rw [show 1 + (n + 1) = n + 1 + 1 by omega] at h
    rw [h]
    have e : S (n + 1) (fun i => f (n + 1 - (1 + i))) = S (n + 1) f := by
      rw [S_rev n f]
      exact S_congr fun i hi => by rw [show n + 1 - (1 + i) = n - i by omega]
    rw [e]
    show S (n + 1) f + f (n + 1) = (0 + f (n + 1 - 0)) + S (n + 1) f
    rw [Nat.sub_zero]
    omega
/-- What there is one times of a number, modulo m, is one number. -/
theorem times_one {a m p p' : Nat} (h1 : p < m) (h2 : p' < m) (e : p * a % m = 1 % m) (e' : p' * a % m = 1 % m) : p = p' := by
  have h : p * (p' * a) % m = p' * (p * a) % m := by rw [Nat.mul_left_comm]
  rw [Nat.mul_mod, e', ← Nat.mul_mod, Nat.mul_one, Nat.mul_mod p', e, ← Nat.mul_mod, Nat.mul_one, Nat.mod_eq_of_lt h1, Nat.mod_eq_of_lt h2] at h
  exact h
theorem jnF_congr {q p p' r r' : Nat → Nat} (X : Nat) : ∀ L, (∀ j, j < L → p j = p' j ∧ r j = r' j) → jnF q p r X L = jnF q p' r' X L
  | 0, _ => rfl
  | L + 1, h => by
    show crtF (jnF q p r X L) (q L) (prodF q L) (p L) (r L) = crtF (jnF q p' r' X L) (q L) (prodF q L) (p' L) (r' L)
    rw [jnF_congr X L (fun j hj => h j (by omega)), (h L (by omega)).1, (h L (by omega)).2]
theorem widF_congr {L : Nat} {q p p' : Nat → Nat} {f f' : Nat → Nat → Nat} {y i : Nat} (h : ∀ j, j < L → p j = p' j) (hf : ∀ j, j < L → f j i = f' j i) : widF L q p f y i = widF L q p' f' y i := by
  unfold widF numB numN
  rw [jnF_congr 0 L (p' := p') (r' := fun j => f' j i) (fun j hj => ⟨h j hj, hf j hj⟩)]
theorem scaled_congr {T Y L : Nat} {q p p' : Nat → Nat} {f f' : Nat → Nat → Nat} {i : Nat} (h : ∀ j, j < L → p j = p' j) (hf : ∀ j, j < L → f j i = f' j i) : scaled T Y L q p f i = scaled T Y L q p' f' i := by
  unfold scaled
  rw [jnF_congr 0 L (p' := p') (r' := fun j => f' j i) (fun j hj => ⟨h j hj, hf j hj⟩)]
/-- That parts of a row are told by the row. -/
def PartsOne : Prop := ∀ (L : Nat) (q p p' : Nat → Nat), Parts L q p → Parts L q p' → ∀ j, j < L → p j = p' j
theorem parts_one : PartsOne := fun L q p p' h h' j hj => by
  obtain ⟨h1, h2, h3⟩ := h j hj
  obtain ⟨g1, g2, g3⟩ := h' j hj
  by_cases e : Nat.gcd (prodF q j % q j) (q j) = 1
  · exact times_one h1 g1 (h2 e) (g2 e)
  · rw [h3 e, g3 e]
/-- Two sums that hold the same numbers, in whatever order, are one. -/
theorem sumOk_one {m n C L : Nat} {q qw : Nat → Nat} {fa fb fa' fb' : Nat → Nat → Nat → Nat} {pa pb pa' pb' : Nat → Nat → Nat} {F F' : Nat → Nat → Nat}
    (h : SumOk m n C L q qw fa fb pa pb F) (h' : SumOk m n C L q qw fa' fb' pa' pb' F')
    (e : ∀ j, j < C → ∀ i, i < n → S m (fun k => nega n (fun t => (widF L q (pa k) (fa k) (qw j) t : Int)) (fun t => (widF L q (pb k) (fb k) (qw j) t : Int)) i) = S m (fun k => nega n (fun t => (widF L q (pa' k) (fa' k) (qw j) t : Int)) (fun t => (widF L q (pb' k) (fb' k) (qw j) t : Int)) i)) :
    ∀ j, j < C → ∀ i, i < n → F j i = F' j i := fun j hj i hi => by
  have h1 := h.2 j hj i hi
  have h2 := h'.2 j hj i hi
  rw [e j hj i hi] at h1
  exact M.lt (h1.2.trans h2.2.symm) h1.1 h2.1
theorem dot_one {n N L C T : Nat} {q qw : Nat → Nat} {fa fb fa' fb' : Nat → Nat → Nat → Nat} {F F' : Nat → Nat → Nat} (H : PartsOne)
    (h : DotOk n N L C T q qw fa fb F) (h' : DotOk n N L C T q qw fa' fb' F')
    (e : ∀ (pa pb pa' pb' : Nat → Nat → Nat), (∀ k, k < N + 1 → Parts L q (pa k) ∧ Parts L q (pb k)) → (∀ k, k < N + 1 → Parts L q (pa' k) ∧ Parts L q (pb' k)) → ∀ j, j < C → ∀ i, i < n → S (N + 1) (fun k => nega n (fun t => (widF L q (pa k) (fa k) (qw j) t : Int)) (fun t => (widF L q (pb k) (fb k) (qw j) t : Int)) i) = S (N + 1) (fun k => nega n (fun t => (widF L q (pa' k) (fa' k) (qw j) t : Int)) (fun t => (widF L q (pb' k) (fb' k) (qw j) t : Int)) i)) :
    ∀ j, j < L → ∀ i, i < n → F j i = F' j i := fun j hj i hi => by
  obtain ⟨pa, pb, Fs, pw, hs, hw, hF⟩ := h
  obtain ⟨pa', pb', Fs', pw', hs', hw', hF'⟩ := h'
  have e1 := sumOk_one hs hs' (e pa pb pa' pb' hs.1 hs'.1)
  rw [hF j hj i hi, hF' j hj i hi, scaled_congr (H C qw pw pw' hw hw') (fun k hk => e1 k hk i hi)]
/-- Whichever factor comes first. -/
theorem dot_swap {n N L C T : Nat} {q qw : Nat → Nat} {fa fb : Nat → Nat → Nat → Nat} {F F' : Nat → Nat → Nat} (H : PartsOne) (h : DotOk n N L C T q qw fa fb F) (h' : DotOk n N L C T q qw fb fa F') : ∀ j, j < L → ∀ i, i < n → F j i = F' j i :=
  dot_one H h h' fun pa pb pa' pb' h1 h2 j hj i hi => S_congr fun k hk => by
    rw [nega_comm]
    exact nega_congr (fun t ht => by rw [widF_congr (H L q _ _ (h1 k hk).2 (h2 k hk).1) (fun _ _ => rfl)]) (fun t ht => by rw [widF_congr (H L q _ _ (h1 k hk).1 (h2 k hk).2) (fun _ _ => rfl)]) i
/-- Whichever product comes first. -/
theorem dot_rev {n N L C T : Nat} {q qw : Nat → Nat} {fa fb : Nat → Nat → Nat → Nat} {F F' : Nat → Nat → Nat} (H : PartsOne) (h : DotOk n N L C T q qw fa fb F) (h' : DotOk n N L C T q qw (fun k => fa (N - k)) (fun k => fb (N - k)) F') : ∀ j, j < L → ∀ i, i < n → F j i = F' j i :=
  dot_one H h h' fun pa pb pa' pb' h1 h2 j hj i hi => by
    rw [S_rev]
    exact S_congr fun k hk => nega_congr (fun t ht => by rw [widF_congr (H L q _ _ (h1 (N - k) (by omega)).1 (h2 k hk).1) (fun _ _ => rfl)]) (fun t ht => by rw [widF_congr (H L q _ _ (h1 (N - k) (by omega)).2 (h2 k hk).2) (fun _ _ => rfl)]) i
end Go.Proofs.YtcnogmhkffohgaaGreatDoor

/-
  What Dot of package scale answers of no products, of too many, and of unlike counts.
-/
namespace Go.Proofs.YtcnogmhkffohgaaGreatDoor
open Go.RowKit
set_option linter.unusedVariables false
set_option maxRecDepth 100000
set_option maxHeartbeats 4000000 in
theorem dotForm_any {s n T M : Nat} {q : Nat → Nat} (na nb ca cb : Nat) (Aa Ab : Option Addr) (w : World) (hS : Hid (Sc w s n T M q)) (ha : na ≤ maxLen) (hb : nb ≤ maxLen) (h : ¬ (1 ≤ na ∧ na ≤ 4 ∧ na = nb)) :
    Calls Tryz.prog 8 #[.pointer (some ⟨s, 0, none⟩), .slice Aa na ca, .slice Ab nb cb] w fun ee w' => ee = .returned (.tuple #[.agg #[.slice none 0 0], .int .i64 3]) ∧ Ext w w' := by
  unfold maxLen at ha hb
  have hr0 : RW (w.alloc (.cells #[.slice none 0 0] 36)) w.heap.size 36 1 (fun _ => .slice none 0 0) := one_new w
  go_enter Tryz.func8, Tryz.ntmps8
  go_wp2_with fail
  have k0 : Ext w (w.alloc (.cells #[.slice none 0 0] 36)) := (Ext.refl w).alloc _
  generalize w.alloc (.cells #[.slice none 0 0] 36) = V0 at *
  refine (sNone_any (Lib.hid (hS.out.ext k0))).mono ?_
  rintro ee w0 ⟨rfl, rfl⟩
  have c0 := hr0.cell (i := 0) (by omega)
  have z0 := hr0.frozen 0
  have hsz := hr0.lt
  have HR := Lib.hid hr0
  have K0 := Lib.hid k0
  clear hr0 k0
  have hcase : na = 0 ∨ (1 ≤ na ∧ 4 < na) ∨ (1 ≤ na ∧ na ≤ 4 ∧ na ≠ nb) := by omega
  rcases hcase with rfl | ⟨g1, g2⟩ | ⟨g1, g2, g3⟩
  · go_wp2_with fail
    have d0 := ret_cell HR.out (.slice none 0 0)
    have d1 := K0.out.set (p := ⟨w.heap.size, 0, none⟩) (by show w.heap.size ≤ w.heap.size; omega) (.slice none 0 0)
    generalize V0.setCell ⟨w.heap.size, 0, none⟩ (.slice none 0 0) = w9 at *
    exact bodyPost_ret (v := .tuple #[.agg #[.slice none 0 0], .int .i64 3]) (by simp [results, Tryz.results8, go_sem, d0]) rfl ⟨rfl, d1⟩
  · have b0 : ((na : Int) == 0) = false := by simp; omega
    have b1 : (na : Int) > 4 := by omega
    have b2 : (4 : Int) < (na : Int) := by omega
    clear g1 g2
    go_wp2_with fail
    have d0 := ret_cell HR.out (.slice none 0 0)
    have d1 := K0.out.set (p := ⟨w.heap.size, 0, none⟩) (by show w.heap.size ≤ w.heap.size; omega) (.slice none 0 0)
    generalize V0.setCell ⟨w.heap.size, 0, none⟩ (.slice none 0 0) = w9 at *
    exact bodyPost_ret (v := .tuple #[.agg #[.slice none 0 0], .int .i64 3]) (by simp [results, Tryz.results8, go_sem, d0]) rfl ⟨rfl, d1⟩
  · have b0 : ((na : Int) == 0) = false := by simp; omega
    have b1 : ¬ ((na : Int) > 4) := by omega
    have b2 : ((na : Int) != (nb : Int)) = true := by simp; omega
    clear g1 g2 g3
    go_wp2_with fail
    have d0 := ret_cell HR.out (.slice none 0 0)
    have d1 := K0.out.set (p := ⟨w.heap.size, 0, none⟩) (by show w.heap.size ≤ w.heap.size; omega) (.slice none 0 0)
    generalize V0.setCell ⟨w.heap.size, 0, none⟩ (.slice none 0 0) = w9 at *
    exact bodyPost_ret (v := .tuple #[.agg #[.slice none 0 0], .int .i64 3]) (by simp [results, Tryz.results8, go_sem, d0]) rfl ⟨rfl, d1⟩
end Go.Proofs.YtcnogmhkffohgaaGreatDoor

/-
  Three sums of products: as they are, the factors swapped, and all turned about.
-/
namespace Go.Proofs.YtcnogmhkffohgaaGreatDoor
open Go.RowKit
set_option linter.unusedVariables false
set_option maxRecDepth 100000

def DErr (V : World) (args : Array Value) (z : Int) : Prop := ∀ w', Ext V w' → Calls Tryz.prog 8 args w' fun ee w2 => ee = .returned (.tuple #[.agg #[.slice none 0 0], .int .i64 z]) ∧ Ext w' w2
def DOk (V : World) (args : Array Value) (m n : Nat) (R : (Nat → Nat → Nat) → Prop) : Prop := ∀ w', Ext V w' → Calls Tryz.prog 8 args w' fun ee w2 => ∃ (G : Nat) (Bs : Nat → Option Addr) (F : Nat → Nat → Nat), ee = .returned (.tuple #[.agg #[.slice (some ⟨G, 0, none⟩) m m], .int .i64 0]) ∧ PM w2 G m n Bs (fun _ => n) F ∧ Hid (R F) ∧ Ext w' w2
section
variable {V : World} {s n T M N ca cb : Nat} {q : Nat → Nat} {Aa Ab : Option Addr} {Aj Bj : Nat → Option Addr} {La Lb cj dj : Nat → Nat} {Ba Bb : Nat → Nat → Option Addr} {nsa csa nsb csb : Nat → Nat → Nat} {fa fb : Nat → Nat → Nat → Nat}
theorem dot_no (hS : Hid (Sc V s n T M q)) (hA : QP V Aa (N + 1) ca Aj La cj Ba nsa csa fa) (hB : QP V Ab (N + 1) cb Bj Lb dj Bb nsb csb fb) (hN : N ≤ 3) (hT : Tabs V) (h : ¬ AllEl n M N q La Lb nsa nsb fa fb) : DErr V #[.pointer (some ⟨s, 0, none⟩), .slice Aa (N + 1) ca, .slice Ab (N + 1) cb] 3 := fun w' k => by
  refine (scaleDot_any N ca cb Aa Ab _ _ _ _ _ _ _ _ _ _ _ _ _ _ w' (Lib.hid (hS.out.ext k)) (hA.ext k) (hB.ext k) hN (hT.ext k)).mono ?_
  rintro ee w2 ⟨⟨_, he⟩ | ⟨h2, _⟩ | ⟨h2, _⟩, k2⟩
  · exact ⟨he, k2⟩
  · exact absurd h2 h
  · exact absurd h2 h
theorem dot_lv (hS : Hid (Sc V s n T M q)) (hA : QP V Aa (N + 1) ca Aj La cj Ba nsa csa fa) (hB : QP V Ab (N + 1) cb Bj Lb dj Bb nsb csb fb) (hN : N ≤ 3) (hT : Tabs V) (h : AllEl n M N q La Lb nsa nsb fa fb) (hl : ¬ OneLv N La Lb) : DErr V #[.pointer (some ⟨s, 0, none⟩), .slice Aa (N + 1) ca, .slice Ab (N + 1) cb] 10 := fun w' k => by
  refine (scaleDot_any N ca cb Aa Ab _ _ _ _ _ _ _ _ _ _ _ _ _ _ w' (Lib.hid (hS.out.ext k)) (hA.ext k) (hB.ext k) hN (hT.ext k)).mono ?_
  rintro ee w2 ⟨⟨h2, _⟩ | ⟨_, _, he⟩ | ⟨_, h2, _⟩, k2⟩
  · exact absurd h h2
  · exact ⟨he, k2⟩
  · exact absurd h2 hl
theorem dot_yes (hS : Hid (Sc V s n T M q)) (hA : QP V Aa (N + 1) ca Aj La cj Ba nsa csa fa) (hB : QP V Ab (N + 1) cb Bj Lb dj Bb nsb csb fb) (hN : N ≤ 3) (hT : Tabs V) (h : AllEl n M N q La Lb nsa nsb fa fb) (hl : OneLv N La Lb) : DOk V #[.pointer (some ⟨s, 0, none⟩), .slice Aa (N + 1) ca, .slice Ab (N + 1) cb] (La 0) n (DotOk n N (La 0) (wcN n (La 0) q) T q (wideQ n (wcN n M q)) fa fb) := fun w' k => by
  refine (scaleDot_any N ca cb Aa Ab _ _ _ _ _ _ _ _ _ _ _ _ _ _ w' (Lib.hid (hS.out.ext k)) (hA.ext k) (hB.ext k) hN (hT.ext k)).mono ?_
  rintro ee w2 ⟨⟨h2, _⟩ | ⟨_, h2, _⟩ | ⟨_, _, G, Bs, F, he, hpm, hF⟩, k2⟩
  · exact absurd h h2
  · exact absurd hl h2
  · exact ⟨G, Bs, F, he, hpm, hF, k2⟩
end
theorem allEl_rev {n M N : Nat} {q : Nat → Nat} {La Lb : Nat → Nat} {nsa nsb : Nat → Nat → Nat} {fa fb : Nat → Nat → Nat → Nat} : AllEl n M N q (fun k => La (N - k)) (fun k => Lb (N - k)) (fun k => nsa (N - k)) (fun k => nsb (N - k)) (fun k => fa (N - k)) (fun k => fb (N - k)) ↔ AllEl n M N q La Lb nsa nsb fa fb := by
  constructor
  · rintro ⟨h1, h2⟩
    refine ⟨fun j hj => ?_, fun j hj => ?_⟩
    · have := h1 (N - j) (by omega)
      dsimp only at this
      rwa [show N - (N - j) = j by omega] at this
    · have := h2 (N - j) (by omega)
      dsimp only at this
      rwa [show N - (N - j) = j by omega] at this
  · rintro ⟨h1, h2⟩
    exact ⟨fun j hj => h1 (N - j) (by omega), fun j hj => h2 (N - j) (by omega)⟩
theorem oneLv_rev {N : Nat} {La Lb : Nat → Nat} : OneLv N (fun k => La (N - k)) (fun k => Lb (N - k)) ↔ OneLv N La Lb := by
  constructor
  · intro h j hj
    have h1 := h (N - j) (by omega)
    have h2 := h N (by omega)
    dsimp only at h1 h2
    rw [show N - (N - j) = j by omega] at h1
    rw [Nat.sub_self] at h2
    rw [Nat.sub_zero] at h1 h2
    exact ⟨by omega, by omega⟩
  · intro h j hj
    have h1 := h (N - j) (by omega)
    have h2 := h N (by omega)
    show La (N - j) = La (N - 0) ∧ Lb (N - j) = La (N - 0)
    rw [Nat.sub_zero]
    exact ⟨by omega, by omega⟩
theorem oneLv_swap {N : Nat} {La Lb : Nat → Nat} : OneLv N Lb La ↔ OneLv N La Lb := by
  constructor
  · intro h j hj
    have h1 := h j hj
    have h2 := h 0 (by omega)
    exact ⟨by omega, by omega⟩
  · intro h j hj
    have h1 := h j hj
    have h2 := h 0 (by omega)
    exact ⟨by omega, by omega⟩
/-- A list turned about. -/
def revV (Aj : Nat → Option Addr) (La xa : Nat → Nat) (k t : Nat) : Value := .slice (Aj (k - 1 - t)) (La (k - 1 - t)) (xa (k - 1 - t))
theorem qp_rev {V : World} {N c cx : Nat} {A X : Option Addr} {Aj : Nat → Option Addr} {La cj : Nat → Nat} {Ba : Nat → Nat → Option Addr} {nsa csa : Nat → Nat → Nat} {fa : Nat → Nat → Nat → Nat} (h : QP V A (N + 1) c Aj La cj Ba nsa csa fa) (hX : QX V X (N + 1) cx (revV Aj La cj (N + 1))) :
    QP V X (N + 1) cx (fun k => Aj (N - k)) (fun k => La (N - k)) (fun k => cj (N - k)) (fun k => Ba (N - k)) (fun k => nsa (N - k)) (fun k => csa (N - k)) (fun k => fa (N - k)) :=
  ⟨hX, fun j hj => h.els (N - j) (by omega)⟩
theorem dots_any {V : World} {s n T M na nb ca cb cx cy : Nat} {q : Nat → Nat} {Aa Ab X Y : Option Addr} {Aj Bj : Nat → Option Addr} {La Lb cj dj : Nat → Nat} {Ba Bb : Nat → Nat → Option Addr} {nsa csa nsb csb : Nat → Nat → Nat} {fa fb : Nat → Nat → Nat → Nat}
    (hS : Hid (Sc V s n T M q)) (hA : QP V Aa na ca Aj La cj Ba nsa csa fa) (hB : QP V Ab nb cb Bj Lb dj Bb nsb csb fb) (hX : QX V X na cx (revV Aj La cj na)) (hY : QX V Y nb cy (revV Bj Lb dj nb)) (ha : na ≤ 4) (hb : nb ≤ 4) (hT : Tabs V) :
    (∃ z : Int, (z = 3 ∨ z = 10) ∧ DErr V #[.pointer (some ⟨s, 0, none⟩), .slice Aa na ca, .slice Ab nb cb] z ∧ DErr V #[.pointer (some ⟨s, 0, none⟩), .slice Ab nb cb, .slice Aa na ca] z ∧ DErr V #[.pointer (some ⟨s, 0, none⟩), .slice X na cx, .slice Y nb cy] z) ∨
      ∃ (N m C : Nat) (qw : Nat → Nat), m ≤ M ∧ DOk V #[.pointer (some ⟨s, 0, none⟩), .slice Aa na ca, .slice Ab nb cb] m n (DotOk n N m C T q qw fa fb) ∧ DOk V #[.pointer (some ⟨s, 0, none⟩), .slice Ab nb cb, .slice Aa na ca] m n (DotOk n N m C T q qw fb fa) ∧ DOk V #[.pointer (some ⟨s, 0, none⟩), .slice X na cx, .slice Y nb cy] m n (DotOk n N m C T q qw (fun k => fa (N - k)) (fun k => fb (N - k))) := by
  by_cases hc : 1 ≤ na ∧ na ≤ 4 ∧ na = nb
  case neg =>
    exact .inl ⟨3, .inl rfl, fun w' k => dotForm_any na nb ca cb Aa Ab w' (Lib.hid (hS.out.ext k)) (by unfold maxLen; omega) (by unfold maxLen; omega) hc, fun w' k => dotForm_any nb na cb ca Ab Aa w' (Lib.hid (hS.out.ext k)) (by unfold maxLen; omega) (by unfold maxLen; omega) (by omega), fun w' k => dotForm_any na nb cx cy X Y w' (Lib.hid (hS.out.ext k)) (by unfold maxLen; omega) (by unfold maxLen; omega) hc⟩
  obtain ⟨h1, h4, rfl⟩ := hc
  obtain ⟨N, rfl⟩ : ∃ N, na = N + 1 := ⟨na - 1, by omega⟩
  have hXq := qp_rev hA hX
  have hYq := qp_rev hB hY
  by_cases hE : AllEl n M N q La Lb nsa nsb fa fb
  case neg =>
    exact .inl ⟨3, .inl rfl, dot_no hS hA hB (by omega) hT hE, dot_no hS hB hA (by omega) hT (fun h => hE ⟨h.2, h.1⟩), dot_no hS hXq hYq (by omega) hT (fun h => hE (allEl_rev.1 h))⟩
  by_cases hL : OneLv N La Lb
  case neg =>
    exact .inl ⟨10, .inr rfl, dot_lv hS hA hB (by omega) hT hE hL, dot_lv hS hB hA (by omega) hT ⟨hE.2, hE.1⟩ (fun h => hL (oneLv_swap.1 h)), dot_lv hS hXq hYq (by omega) hT (allEl_rev.2 hE) (fun h => hL (oneLv_rev.1 h))⟩
  have d1 := dot_yes hS hA hB (by omega) hT hE hL
  have d2 := dot_yes hS hB hA (by omega) hT ⟨hE.2, hE.1⟩ (oneLv_swap.2 hL)
  have d3 := dot_yes hS hXq hYq (by omega) hT (allEl_rev.2 hE) (oneLv_rev.2 hL)
  rw [(hL 0 (by omega)).2] at d2
  rw [Nat.sub_zero, (hL N (by omega)).1] at d3
  exact .inr ⟨N, La 0, _, _, (hE.1 0 (by omega)).2.1, d1, d2, d3⟩
end Go.Proofs.YtcnogmhkffohgaaGreatDoor

/-
  Of which elements the laws of scale speak.
-/
namespace Go.Proofs.YtcnogmhkffohgaaGreatDoor
open Go.RowKit
set_option linter.unusedVariables false
set_option maxRecDepth 100000

def FewE (m : Nat) (Lj : Nat → Nat) (ns : Nat → Nat → Nat) : Prop := ∀ j, j < m → Lj j ≤ 9 ∧ ∀ i, i < Lj j → ns j i ≤ 40
def Small10 (N : Int) (L m : Nat) (Lj : Nat → Nat) (ns : Nat → Nat → Nat) : Prop := N ≤ 32 ∧ L ≤ 8 ∧ FewE m Lj ns
set_option maxHeartbeats 8000000 in
theorem small10_any (N : Int) (T : Nat) (Wd : Int) (A : Option Addr) (L c : Nat) (B : Option Addr) (m d : Nat) (Aj : Nat → Option Addr) (La xa : Nat → Nat) (Bs : Nat → Nat → Option Addr) (nsa cs : Nat → Nat → Nat) (f : Nat → Nat → Nat → Nat) (w : World) (n0 : -9223372036854775808 ≤ N) (n1 : N < 9223372036854775808) (hL : L ≤ maxLen) (hA : Hid (QW w B m d Aj La xa Bs nsa cs f)) (hm : m ≤ 9) :
    Calls Tryz.prog 5 #[.agg #[.int .i64 N, .int .u64 (T : Int), .slice A L c, .int .i64 Wd], .slice B m d] w (Tells w (Small10 N L m La nsa)) := by
  have hL2 : L ≤ 9223372036854775807 := by unfold maxLen at hL; omega
  clear hL
  have k0 : Ext w (w.alloc (.cells #[.int .i64 N, .int .u64 (T : Int), .slice A L c, .int .i64 Wd] 25)) := (Ext.refl w).alloc _
  obtain ⟨x0, x1, x2, x3⟩ := four_at w (.int .i64 N) (.int .u64 (T : Int)) (.slice A L c) (.int .i64 Wd) 25
  by_cases h1 : N ≤ 32
  case neg =>
    have b1 : N > 32 := by omega
    go_enter Tryz.func5, Tryz.ntmps5
    go_wp2
    go_ret
    exact .inr ⟨fun h => by have := h.1; omega, rfl, k0⟩
  by_cases h2 : L ≤ 8
  case neg =>
    have b1 : ¬ N > 32 := by omega
    have b2 : (L : Int) > 8 := by omega
    go_enter Tryz.func5, Tryz.ntmps5
    go_wp2
    go_ret
    exact .inr ⟨fun h => by have := h.2.1; omega, rfl, k0⟩
  have b1 : ¬ N > 32 := by omega
  have b2 : ¬ (L : Int) > 8 := by omega
  go_enter Tryz.func5, Tryz.ntmps5
  go_wp2
  generalize w.alloc (.cells #[.int .i64 N, .int .u64 (T : Int), .slice A L c, .int .i64 Wd] 25) = V at *
  have H1 := Lib.hid h1
  have H2 := Lib.hid h2
  clear h1 h2 b1 b2 x0 x1 x2 x3
  go_loopw [20] (fun iv wr => ∃ j : Nat, j ≤ m ∧ iv = .int .i64 (j : Int) ∧ FewE j La nsa ∧ Ext V wr) (fun iv _ => m - (intOf iv).toNat)
  case atStart => exact ⟨0, by omega, rfl, fun j hj => absurd hj (by omega), Ext.refl _⟩
  case round =>
    obtain ⟨j, hj, rfl, hfw, kr3⟩ := hrel
    have HFW := Lib.hid hfw
    clear hfw
    by_cases hlt : j < m
    · obtain ⟨ad, hAd, hcs⟩ := (hA.out.qx.ext (k0.trans kr3)).cells (by omega)
      subst hAd
      have hcell := hcs j hlt
      have HPW := Lib.hid (hA.out.els j hlt)
      have hLm := HPW.out.len
      unfold maxLen at hLm
      have i0 : (0 : Int) ≤ (j : Int) := by omega
      have i1 : (j : Int) < (m : Int) := by omega
      have ka : Ext wr (wr.alloc (.cells #[.slice (Aj j) (La j) (xa j)] 36)) := (Ext.refl wr).alloc _
      have xa1 := one_at wr (.slice (Aj j) (La j) (xa j)) 36
      have kz := kr3.trans ka
      clear hcs
      by_cases h10 : La j ≤ 9
      case neg =>
        have b0 : (La j : Int) > 9 := by omega
        have KZ := Lib.hid (k0.trans kz)
        clear kz ka kr3
        go_wp2
        go_ret
        exact .inr ⟨fun h => by have := (h.2.2 j (by omega)).1; omega, rfl, KZ.out⟩
      have b0 : ¬ (La j : Int) > 9 := by omega
      have HJ := Lib.hid h10
      go_wp2
      generalize wr.alloc (.cells #[.slice (Aj j) (La j) (xa j)] 36) = V6 at *
      have HPX6 := Lib.hid (HPW.out.px.ext (k0.trans kz))
      go_loop [31] (fun iv => ∃ i : Nat, i ≤ La j ∧ iv = .int .i64 (i : Int) ∧ ∀ t, t < i → nsa j t ≤ 40) (fun iv => La j - (intOf iv).toNat)
      case atStart => exact ⟨0, by omega, rfl, fun t ht => absurd ht (by omega)⟩
      case round =>
        obtain ⟨i, hi, rfl, hsm⟩ := hrel
        have HSM := Lib.hid hsm
        clear hsm
        by_cases hl2 : i < La j
        · obtain ⟨ad2, hA2, hc2⟩ := HPX6.out.cells (by omega)
          have hcell2 := hc2 i hl2
          have hnm := HPW.out.lens i hl2
          unfold maxLen at hnm
          have j0 : (0 : Int) ≤ (i : Int) := by omega
          have j1 : (i : Int) < (La j : Int) := by omega
          clear hc2
          by_cases h40 : nsa j i ≤ 40
          case neg =>
            have b2 : (nsa j i : Int) > 40 := by omega
            have KZ := Lib.hid (k0.trans kz)
            clear kz
            go_wp2
            go_ret
            exact .inr ⟨fun h => by have := (h.2.2 j (by omega)).2 i (by omega); omega, rfl, KZ.out⟩
          have b2 : ¬ (nsa j i : Int) > 40 := by omega
          have H4 := Lib.hid h40
          clear h40
          go_wp2
          go_round
          case rel => exact ⟨i + 1, by omega, by go_num, fun t ht => by
            rcases Nat.lt_or_ge t i with g | g
            · exact HSM.out t g
            · have : t = i := by omega
              subst this
              exact H4.out⟩
          case measure => simp [intOf]; omega
        · obtain rfl : i = La j := by omega
          go_wp2
          go_roundw
          have hnext : FewE (j + 1) La nsa := fun t ht => by
            rcases Nat.lt_or_ge t j with g | g
            · exact HFW.out t g
            · have : t = j := by omega
              subst this
              exact ⟨HJ.out, HSM.out⟩
          case rel => first | exact ⟨j + 1, by omega, by go_num, hnext, kz⟩ | exact ⟨_, _, _, _, ⟨j + 1, by omega, by go_num, hnext⟩, rfl, rfl, rfl, rfl⟩
          case measure => simp [intOf]; omega
    · obtain rfl : j = m := by omega
      have KZ := Lib.hid (k0.trans kr3)
      clear kr3 k0
      go_wp2
      go_ret
      exact .inl ⟨⟨H1.out, H2.out, HFW.out⟩, rfl, KZ.out⟩
end Go.Proofs.YtcnogmhkffohgaaGreatDoor

/-
  What the document fixes of scale: the numbers.
-/
namespace Go.Proofs.YtcnogmhkffohgaaGreatDoor
open Go.RowKit
set_option linter.unusedVariables false
set_option maxRecDepth 100000

def qf (i : Nat) : Nat := if i = 0 then 97 else 193
theorem prodf : prodF qf 2 = 18721 := by decide
theorem par_f : ParP 8 17 2 qf 1 := fun k hk => by
  rcases (show k = 0 ∨ k = 1 ∨ k = 2 ∨ k = 3 ∨ k = 4 ∨ k = 5 by omega) with rfl | rfl | rfl | rfl | rfl | rfl
  · exact ⟨by decide, by decide, by decide +kernel⟩
  · exact ⟨by decide, by decide⟩
  · exact ⟨by decide, by decide +kernel, by decide +kernel⟩
  · exact ⟨by decide, by decide⟩
  · intro j hj
    rcases (show j = 0 ∨ j = 1 by omega) with rfl | rfl
    · exact ⟨by decide, by decide, fun i hi => by omega, by decide +kernel, by decide +kernel⟩
    · refine ⟨by decide, by decide, fun i hi => ?_, by decide +kernel, by decide +kernel⟩
      obtain rfl : i = 0 := by omega
      decide
  · show Go.bitLen (prodF qf 2) ≤ rowS 8
    rw [prodf, show rowS 8 = 420 by decide]
    decide +kernel
theorem parts_f {p : Nat → Nat} (h : Parts 2 qf p) : p 0 = 1 ∧ p 1 = 2 := by
  have h0 := h 0 (by omega)
  have h1 := h 1 (by omega)
  constructor
  · have a := h0.1
    have b := h0.2.1 (by decide)
    have c : qf 0 = 97 := rfl
    have d : prodF qf 0 % qf 0 = 1 := by decide
    rw [d] at b
    rw [c] at a b
    omega
  · have a := h1.1
    have b := h1.2.1 (by decide)
    have c : qf 1 = 193 := rfl
    have d : prodF qf 1 % qf 1 = 97 := by decide
    rw [d] at b
    rw [c] at a b
    omega
theorem jnf {p r : Nat → Nat} (h : Parts 2 qf p) {a b X : Nat} (ha : r 0 = a) (hb : r 1 = b) (hX : crtF (crtF 0 97 1 1 a) 193 97 2 b = X) : jnF qf p r 0 2 = X := by
  obtain ⟨e0, e1⟩ := parts_f h
  simp only [jnF, e0, e1, ha, hb]
  exact hX
theorem parts_1 {qw p : Nat → Nat} (hq : 2 ≤ qw 0) (h : Parts 1 qw p) : p 0 = 1 := by
  have h0 := h 0 (by omega)
  have e1 : prodF qw 0 % qw 0 = 1 := by show 1 % qw 0 = 1; exact Nat.mod_eq_of_lt (by omega)
  have a := h0.1
  have b := h0.2.1 (by rw [e1, Nat.gcd_one_left])
  rw [e1, Nat.mul_one, Nat.mod_eq_of_lt (show 1 < qw 0 by omega), Nat.mod_eq_of_lt a] at b
  exact b
theorem low_f {p : Nat → Nat} {f : Nat → Nat → Nat} (h : Parts 2 qf p) (h0 : f 0 0 = 3) (h1 : f 1 0 = 100) : scaled 1 193 2 qf p f 0 = 1 := by
  unfold scaled
  rw [jnf (r := fun j => f j 0) h (a := 3) (b := 100) (X := 100) h0 h1 (by decide +kernel), prodf]
  decide +kernel
theorem lowF_f {p : Nat → Nat} {f F : Nat → Nat → Nat} (h : Parts 2 qf p) (h0 : f 0 0 = 3) (h1 : f 1 0 = 100) (hF : F 0 0 = resF (decide (scaled 1 (qf 1) 2 qf p f 0 < 0)) (nv (nw (scaled 1 (qf 1) 2 qf p f 0).natAbs)) (qf 0)) : F 0 0 = 1 := by
  rw [show qf 1 = 193 from rfl, low_f h h0 h1, nv_nw] at hF
  rw [hF]
  decide
theorem wid_f {p : Nat → Nat} {f : Nat → Nat → Nat} (h : Parts 2 qf p) (h0 : f 0 0 = 30) (h1 : f 1 0 = 35) (hz : ∀ t, 0 < t → t < 8 → f 0 t = 0 ∧ f 1 t = 0) {y : Nat} (hy : 1000 < y) : ∀ t, t < 8 → widF 2 qf p f y t = if t = 0 then 1000 else 0 := by
  intro t ht
  unfold widF numB numN
  rcases Nat.eq_zero_or_pos t with rfl | g
  · rw [jnf (r := fun j => f j 0) h (a := 30) (b := 35) (X := 1000) h0 h1 (by decide +kernel), prodf, show cenB 1000 18721 = false by decide, show cenN 1000 18721 = 1000 by decide, nv_nw, if_pos rfl]
    show 1000 % y = 1000
    exact Nat.mod_eq_of_lt hy
  · obtain ⟨e0, e1⟩ := hz t g ht
    rw [jnf (r := fun j => f j t) h (a := 0) (b := 0) (X := 0) e0 e1 (by decide +kernel), prodf, show cenB 0 18721 = false by decide, show cenN 0 18721 = 0 by decide, nv_nw, if_neg (by omega)]
    show 0 % y = 0
    exact Nat.zero_mod y
theorem wc_f : wcN 8 2 qf = 1 := by
  unfold wcN mostN
  rw [prodf]
  decide +kernel
theorem wq_f : wideQ 8 1 0 = 2305843009213693921 := by decide +kernel
theorem nega_f : nega 8 (fun t => ((if t = 0 then 1000 else 0 : Nat) : Int)) (fun t => ((if t = 0 then 1000 else 0 : Nat) : Int)) 0 = 1000000 := by decide +kernel
theorem dot_f {fa fb : Nat → Nat → Nat → Nat} {F : Nat → Nat → Nat} (a0 : fa 0 0 0 = 30) (a1 : fa 0 1 0 = 35) (az : ∀ t, 0 < t → t < 8 → fa 0 0 t = 0 ∧ fa 0 1 t = 0) (b0 : fb 0 0 0 = 30) (b1 : fb 0 1 0 = 35) (bz : ∀ t, 0 < t → t < 8 → fb 0 0 t = 0 ∧ fb 0 1 t = 0) (h : DotOk 8 0 2 1 17 qf (wideQ 8 1) fa fb F) : F 0 0 = 35 ∧ F 1 0 = 136 := by
  obtain ⟨pa, pb, Fs, pw, ⟨hp, hs⟩, hw, hF⟩ := h
  have hq : wideQ 8 1 0 = 2305843009213693921 := wq_f
  have ep := parts_1 (by rw [hq]; omega) hw
  obtain ⟨hlt, hM⟩ := hs 0 (by omega) 0 (by omega)
  obtain ⟨h1, h2⟩ := hp 0 (by omega)
  have e : Fs 0 0 = 1000000 := by
    have hM2 : M ((wideQ 8 1 0 : Nat) : Int) ((Fs 0 0 : Nat) : Int) ((1000000 : Nat) : Int) := by
      refine hM.trans (M.of ?_)
      show 0 + nega 8 _ _ 0 = ((1000000 : Nat) : Int)
      rw [Int.zero_add]
      rw [nega_congr (a' := fun t => ((if t = 0 then 1000 else 0 : Nat) : Int)) (b' := fun t => ((if t = 0 then 1000 else 0 : Nat) : Int)) (fun t ht => by rw [wid_f h1 a0 a1 az (by rw [hq]; omega) t ht]) (fun t ht => by rw [wid_f h2 b0 b1 bz (by rw [hq]; omega) t ht])]
      exact nega_f
    exact M.lt hM2 hlt (by rw [hq]; omega)
  have hj : jnF (wideQ 8 1) pw (fun j => Fs j 0) 0 1 = 1000000 := by
    simp only [jnF, ep, e, hq]
    decide +kernel
  have hpr : prodF (wideQ 8 1) 1 = 2305843009213693921 := by
    show wideQ 8 1 0 * 1 = _
    rw [hq]
  have hsc : scaled 17 (prodF qf 2) 1 (wideQ 8 1) pw Fs 0 = 908 := by
    unfold scaled
    rw [hj, hpr, prodf]
    decide +kernel
  have f0 := hF 0 (by omega) 0 (by omega)
  have f1 := hF 1 (by omega) 0 (by omega)
  rw [hsc, nv_nw] at f0 f1
  exact ⟨by rw [f0]; decide, by rw [f1]; decide⟩
end Go.Proofs.YtcnogmhkffohgaaGreatDoor

/-
  What the document fixes of scale, and what a scale that is none answers.
-/
namespace Go.Proofs.YtcnogmhkffohgaaGreatDoor
open Go.RowKit
set_option linter.unusedVariables false
set_option maxRecDepth 100000

theorem vx_eightZ (w : World) (a : Int) : VX (w.alloc (.cells #[.int .i64 a, .int .i64 0, .int .i64 0, .int .i64 0, .int .i64 0, .int .i64 0, .int .i64 0, .int .i64 0] 2)) (some ⟨w.heap.size, 0, none⟩) 8 8 (fun i => if i = 0 then a else 0) := by
  refine ⟨Nat.le_refl _, fun _ => ⟨_, rfl, fun j hj => ?_⟩⟩
  rw [Addr.add_lit, Nat.zero_add]
  rcases (show j = 0 ∨ j = 1 ∨ j = 2 ∨ j = 3 ∨ j = 4 ∨ j = 5 ∨ j = 6 ∨ j = 7 by omega) with rfl | rfl | rfl | rfl | rfl | rfl | rfl | rfl <;> simp
theorem qp_one (w : World) (G L n : Nat) (Bs : Nat → Option Addr) (cs : Nat → Nat) (F : Nat → Nat → Nat) (h : PM w G L n Bs cs F) (hL : L ≤ 1000) (hn : n ≤ 1000) : QP (w.alloc (.cells #[.slice (some ⟨G, 0, none⟩) L L] 36)) (some ⟨w.heap.size, 0, none⟩) (0 + 1) 1 (fun _ => some ⟨G, 0, none⟩) (fun _ => L) (fun _ => L) (fun _ => Bs) (fun _ _ => n) (fun _ => cs) (fun _ => F) :=
  ⟨⟨by omega, fun _ => ⟨_, rfl, fun j hj => by
    obtain rfl : j = 0 := by omega
    exact one_at w _ _⟩⟩, fun j hj => (h.pb hL hn).ext ((Ext.refl w).alloc _)⟩
theorem lowF_any {s T : Nat} {G : Nat} {Bs : Nat → Option Addr} {cs : Nat → Nat} {F : Nat → Nat → Nat} {w : World} (hS : Hid (Sc w s 8 T 2 qf)) (hP : PM w G 2 8 Bs cs F) (hE : El 8 2 qf 2 (fun _ => 8) F) (h0 : F 0 0 = 3) (h1 : F 1 0 = 100) (hT : Tabs w) :
    Calls Tryz.prog 12 #[.pointer (some ⟨s, 0, none⟩), .agg #[.slice (some ⟨G, 0, none⟩) 2 2]] w fun ee w' => ∃ (G' : Nat) (Bs' : Nat → Option Addr) (F' : Nat → Nat → Nat), ee = .returned (.tuple #[.agg #[.slice (some ⟨G', 0, none⟩) 1 1], .int .i64 0]) ∧ PM w' G' 1 8 Bs' (fun _ => 8) F' ∧ F' 0 0 = 1 ∧ Ext w w' := by
  refine (Lower_any hS (Lib.hid (hP.pb (by omega) (by omega))) hT).mono ?_
  rintro ee w' ⟨⟨h, _⟩ | ⟨_, h, _⟩ | ⟨_, _, p, G', Bs', F', hp, he, hpm, hF⟩, k⟩
  · exact absurd hE h
  · exact absurd h (by omega)
  · exact ⟨G', Bs', F', he, hpm, lowF_f hp.out h0 h1 (hF.out 0 (by omega) 0 (by omega)), k⟩
theorem dotF_any {s : Nat} {A B : Option Addr} {G ca cb : Nat} {Bs : Nat → Option Addr} {cs : Nat → Nat} {F : Nat → Nat → Nat} {w : World} (hS : Hid (Sc w s 8 17 2 qf)) (hA : QP w A (0 + 1) ca (fun _ => some ⟨G, 0, none⟩) (fun _ => 2) (fun _ => 2) (fun _ => Bs) (fun _ _ => 8) (fun _ => cs) (fun _ => F)) (hB : QP w B (0 + 1) cb (fun _ => some ⟨G, 0, none⟩) (fun _ => 2) (fun _ => 2) (fun _ => Bs) (fun _ _ => 8) (fun _ => cs) (fun _ => F)) (hE : El 8 2 qf 2 (fun _ => 8) F) (h0 : F 0 0 = 30) (h1 : F 1 0 = 35) (hz : ∀ t, 0 < t → t < 8 → F 0 t = 0 ∧ F 1 t = 0) (hT : Tabs w) :
    Calls Tryz.prog 8 #[.pointer (some ⟨s, 0, none⟩), .slice A 1 ca, .slice B 1 cb] w fun ee w' => ∃ (G' : Nat) (Bs' : Nat → Option Addr) (F' : Nat → Nat → Nat), ee = .returned (.tuple #[.agg #[.slice (some ⟨G', 0, none⟩) 2 2], .int .i64 0]) ∧ PM w' G' 2 8 Bs' (fun _ => 8) F' ∧ (F' 0 0 = 35 ∧ F' 1 0 = 136) ∧ Ext w w' := by
  have hall : AllEl 8 2 0 qf (fun _ => 2) (fun _ => 2) (fun _ _ => 8) (fun _ _ => 8) (fun _ => F) (fun _ => F) := ⟨fun _ _ => hE, fun _ _ => hE⟩
  refine (scaleDot_any 0 ca cb A B _ _ _ _ _ _ _ _ _ _ _ _ _ _ w hS hA hB (by omega) hT).mono ?_
  rintro ee w' ⟨⟨h, _⟩ | ⟨_, h, _⟩ | ⟨_, _, G', Bs', F', he, hpm, hF⟩, k⟩
  · exact absurd hall h
  · exact absurd (fun _ _ => ⟨rfl, rfl⟩) h
  · have hF2 := hF.out
    dsimp only at hF2
    rw [wc_f] at hF2
    exact ⟨G', Bs', F', he, hpm, dot_f h0 h1 hz h0 h1 hz hF2, k⟩
theorem liftF {v : Int} {F : Nat → Nat → Nat} (h : ∀ j, j < 2 → F j = fun i => lif ((fun i => if i = 0 then v else (0 : Int)) i) (qf j)) : (F 0 0 = lif v 97 ∧ F 1 0 = lif v 193) ∧ (∀ t, 0 < t → t < 8 → F 0 t = 0 ∧ F 1 t = 0) ∧ El 8 2 qf 2 (fun _ => 8) F := by
  refine ⟨⟨by rw [h 0 (by omega)]; rfl, by rw [h 1 (by omega)]; rfl⟩, fun t g ht => ?_, by omega, by omega, fun j hj => ⟨rfl, fun i hi => ?_⟩⟩
  · rw [h 0 (by omega), h 1 (by omega)]
    dsimp only
    rw [if_neg (by omega)]
    decide
  · rw [h j hj]
    exact lif_lt (by unfold qf; split <;> omega)
set_option maxHeartbeats 4000000 in
theorem lowNone_any (A : Option Addr) (L c : Nat) (w : World) : Calls Tryz.prog 12 #[.pointer none, .agg #[.slice A L c]] w fun ee w' => ee = .returned (.tuple #[.agg #[.slice none 0 0], .int .i64 1]) ∧ Ext w w' := by
  have hr0 : RW ((w.alloc (.cells #[.slice A L c] 36)).alloc (.cells #[.slice none 0 0] 36)) (w.heap.size + 1) 36 1 (fun _ => .slice none 0 0) := by
    have : RW ((w.alloc (.cells #[.slice A L c] 36)).alloc (.cells #[.slice none 0 0] 36)) (w.alloc (.cells #[.slice A L c] 36)).heap.size 36 1 (fun _ => .slice none 0 0) := heap_alloc_new _ _
    rwa [show (w.alloc (.cells #[.slice A L c] 36)).heap.size = w.heap.size + 1 by simp] at this
  go_enter Tryz.func12, Tryz.ntmps12
  go_wp2_with fail
  have k0 : Ext w ((w.alloc (.cells #[.slice A L c] 36)).alloc (.cells #[.slice none 0 0] 36)) := ((Ext.refl w).alloc _).alloc _
  generalize (w.alloc (.cells #[.slice A L c] 36)).alloc (.cells #[.slice none 0 0] 36) = V0 at *
  refine (noneS_any V0).mono ?_
  rintro ee w0 ⟨rfl, rfl⟩
  have c0 := hr0.cell (i := 0) (by omega)
  have z0 := hr0.frozen 0
  have hsz := hr0.lt
  have HR := Lib.hid hr0
  have K0 := Lib.hid k0
  clear hr0 k0
  go_wp2_with fail
  have d0 := ret_cell HR.out (.slice none 0 0)
  have d1 := K0.out.set (p := ⟨w.heap.size + 1, 0, none⟩) (by show w.heap.size ≤ w.heap.size + 1; omega) (.slice none 0 0)
  generalize V0.setCell ⟨w.heap.size + 1, 0, none⟩ (.slice none 0 0) = w9 at *
  exact bodyPost_ret (v := .tuple #[.agg #[.slice none 0 0], .int .i64 1]) (by simp [results, Tryz.results12, go_sem, d0]) rfl ⟨rfl, d1⟩
set_option maxHeartbeats 4000000 in
theorem dotNone_any (A B : Option Addr) (L c L' c' : Nat) (w : World) : Calls Tryz.prog 8 #[.pointer none, .slice A L c, .slice B L' c'] w fun ee w' => ee = .returned (.tuple #[.agg #[.slice none 0 0], .int .i64 1]) ∧ Ext w w' := by
  have hr0 : RW (w.alloc (.cells #[.slice none 0 0] 36)) w.heap.size 36 1 (fun _ => .slice none 0 0) := one_new w
  go_enter Tryz.func8, Tryz.ntmps8
  go_wp2_with fail
  have k0 : Ext w (w.alloc (.cells #[.slice none 0 0] 36)) := (Ext.refl w).alloc _
  generalize w.alloc (.cells #[.slice none 0 0] 36) = V0 at *
  refine (noneS_any V0).mono ?_
  rintro ee w0 ⟨rfl, rfl⟩
  have c0 := hr0.cell (i := 0) (by omega)
  have z0 := hr0.frozen 0
  have hsz := hr0.lt
  have HR := Lib.hid hr0
  have K0 := Lib.hid k0
  clear hr0 k0
  go_wp2_with fail
  have d0 := ret_cell HR.out (.slice none 0 0)
  have d1 := K0.out.set (p := ⟨w.heap.size, 0, none⟩) (by show w.heap.size ≤ w.heap.size; omega) (.slice none 0 0)
  generalize V0.setCell ⟨w.heap.size, 0, none⟩ (.slice none 0 0) = w9 at *
  exact bodyPost_ret (v := .tuple #[.agg #[.slice none 0 0], .int .i64 1]) (by simp [results, Tryz.results8, go_sem, d0]) rfl ⟨rfl, d1⟩
set_option maxHeartbeats 16000000 in
theorem fixed10_any (w : World) (hT : Tabs w) : Calls Tryz.prog 4 #[] w fun e w' => e = .returned (.bool true) ∧ Ext w w' := by
  have HT := Lib.hid hT
  clear hT
  have hQ : FX ((w.alloc (.cells #[.int .u64 97, .int .u64 193] 22)).alloc (.cells #[.int .i64 8, .int .u64 17, .slice (some ⟨w.heap.size, 0, none⟩) 2 2, .int .i64 1] 25)) (some ⟨w.heap.size, 0, none⟩) 2 2 qf := (show FX (w.alloc (.cells #[.int .u64 97, .int .u64 193] 22)) (some ⟨w.heap.size, 0, none⟩) 2 2 qf from fx_two w 97 193 97 193 rfl rfl).ext ((Ext.refl _).alloc _)
  have kV : Ext w ((w.alloc (.cells #[.int .u64 97, .int .u64 193] 22)).alloc (.cells #[.int .i64 8, .int .u64 17, .slice (some ⟨w.heap.size, 0, none⟩) 2 2, .int .i64 1] 25)) := ((Ext.refl w).alloc _).alloc _
  have HQ := Lib.hid hQ
  clear hQ
  go_enter Tryz.func4, Tryz.ntmps4
  go_wp2_with fail
  generalize ((w.alloc (.cells #[.int .u64 97, .int .u64 193] 22)).alloc (.cells #[.int .i64 8, .int .u64 17, .slice (some ⟨w.heap.size, 0, none⟩) 2 2, .int .i64 1] 25)) = V at *
  have hPA : PA V 8 17 (some ⟨w.heap.size, 0, none⟩) 2 2 1 qf := ⟨by omega, by omega, by omega, by omega, by omega, HQ.out, by omega, fun j _ => by unfold qf; split <;> omega⟩
  refine (scaleNew_any (n := 8) (T := 17) (Lib.hid hPA) (Lib.hid par_f) (by omega) (HT.out.ext kV)).mono ?_
  rintro ee V1 ⟨s, rfl, hS, k1⟩
  have HS := Lib.hid hS
  replace kV := kV.trans k1
  clear hS hPA k1 HQ
  go_wp2_with fail
  refine (Ring_any HS).mono ?_
  rintro ee V2 ⟨r1, p1, a1, e1, rfl, hR1, k2⟩
  have kb : Ext V2 (V2.alloc (.cells #[.int .i64 100, .int .i64 0, .int .i64 0, .int .i64 0, .int .i64 0, .int .i64 0, .int .i64 0, .int .i64 0] 2)) := (Ext.refl V2).alloc _
  have HR1 := Lib.hid (hR1.ext kb)
  replace k2 := k2.trans kb
  clear hR1
  go_wp2_with fail
  refine (rLift_any r1 8 2 qf p1 a1 e1 (some ⟨V2.heap.size, 0, none⟩) 8 1 _ _ HR1.out (by omega) (vx_eightZ V2 100) (Lib.hid fun i hi => by split <;> omega)).mono ?_
  rintro ee V3 ⟨Ga, Bsa, csa, Fa, rfl, hpa, hFa, k3⟩
  replace k2 := k2.trans k3
  have ka : Ext V3 (V3.alloc (.cells #[.slice (some ⟨Ga, 0, none⟩) 2 2] 36)) := (Ext.refl V3).alloc _
  have xa := one_at V3 (.slice (some ⟨Ga, 0, none⟩) 2 2) 36
  replace hpa := hpa.ext ka
  replace k2 := k2.trans ka
  clear kb k3 ka HR1
  go_wp2_with fail
  obtain ⟨⟨a0, a1'⟩, az, aE⟩ := liftF hFa.out
  refine (lowF_any (Lib.hid (HS.out.ext k2)) hpa aE (by rw [a0]; decide) (by rw [a1']; decide) (HT.out.ext (kV.trans k2))).mono ?_
  rintro ee V4 ⟨Gb, Bsb, Fb, rfl, hpb, hb, k4⟩
  replace k2 := k2.trans k4
  have kc : Ext V4 (V4.alloc (.cells #[.slice (some ⟨Gb, 0, none⟩) 1 1] 36)) := (Ext.refl V4).alloc _
  have xb := one_at V4 (.slice (some ⟨Gb, 0, none⟩) 1 1) 36
  replace hpb := hpb.ext kc
  replace k2 := k2.trans kc
  have HPB := Lib.hid hpb
  have HB := Lib.hid hb
  clear k4 kc xa a0 a1' az aE hFa hpa hpb hb
  go_wp2_with fail
  generalize V4.alloc (.cells #[.slice (some ⟨Gb, 0, none⟩) 1 1] 36) = V5 at *
  refine (Ring_any (Lib.hid (HS.out.ext k2))).mono ?_
  rintro ee V6 ⟨r2, p2, a2, e2, rfl, hR2, k6⟩
  have kd : Ext V6 (V6.alloc (.cells #[.int .i64 1000, .int .i64 0, .int .i64 0, .int .i64 0, .int .i64 0, .int .i64 0, .int .i64 0, .int .i64 0] 2)) := (Ext.refl V6).alloc _
  have HR2 := Lib.hid (hR2.ext kd)
  replace k6 := k6.trans kd
  clear hR2
  go_wp2_with fail
  refine (rLift_any r2 8 2 qf p2 a2 e2 (some ⟨V6.heap.size, 0, none⟩) 8 1 _ _ HR2.out (by omega) (vx_eightZ V6 1000) (Lib.hid fun i hi => by split <;> omega)).mono ?_
  rintro ee V7 ⟨Gc, Bsc, csc, Fc, rfl, hpc, hFc, k7⟩
  replace k6 := k6.trans k7
  have xc := one_at V7 (.slice (some ⟨Gc, 0, none⟩) 2 2) 36
  have ke : Ext V7 (V7.alloc (.cells #[.slice (some ⟨Gc, 0, none⟩) 2 2] 36)) := (Ext.refl V7).alloc _
  replace hpc := hpc.ext ke
  replace k6 := k6.trans ke
  replace xb := cell_ext k6 xb
  replace k2 := k2.trans k6
  have HPB2 := Lib.hid (HPB.out.ext k6)
  obtain ⟨⟨c0, c1'⟩, cz, cE⟩ := liftF hFc.out
  have HFC := Lib.hid (show (Fc 0 0 = 30 ∧ Fc 1 0 = 35) ∧ (∀ t, 0 < t → t < 8 → Fc 0 t = 0 ∧ Fc 1 t = 0) ∧ El 8 2 qf 2 (fun _ => 8) Fc from ⟨⟨by rw [c0]; decide, by rw [c1']; decide⟩, cz, cE⟩)
  have hs8 : (V7.alloc (.cells #[.slice (some ⟨Gc, 0, none⟩) 2 2] 36)).heap.size = V7.heap.size + 1 := by simp
  clear kd k7 ke c0 c1' cz cE hFc HR2 k6 HPB
  go_wp2_with fail
  generalize V7.alloc (.cells #[.slice (some ⟨Gc, 0, none⟩) 2 2] 36) = V8 at *
  rw [← hs8]
  have hA := (qp_one V8 Gc 2 8 Bsc csc Fc hpc (by omega) (by omega)).ext ((Ext.refl _).alloc (.cells #[.slice (some ⟨Gc, 0, none⟩) 2 2] 36))
  have hB := qp_one (V8.alloc (.cells #[.slice (some ⟨Gc, 0, none⟩) 2 2] 36)) Gc 2 8 Bsc csc Fc (hpc.ext ((Ext.refl _).alloc _)) (by omega) (by omega)
  rw [show (V8.alloc (.cells #[.slice (some ⟨Gc, 0, none⟩) 2 2] 36)).heap.size = V8.heap.size + 1 by simp] at hB
  have kf : Ext V8 ((V8.alloc (.cells #[.slice (some ⟨Gc, 0, none⟩) 2 2] 36)).alloc (.cells #[.slice (some ⟨Gc, 0, none⟩) 2 2] 36)) := ((Ext.refl _).alloc _).alloc _
  generalize (V8.alloc (.cells #[.slice (some ⟨Gc, 0, none⟩) 2 2] 36)).alloc (.cells #[.slice (some ⟨Gc, 0, none⟩) 2 2] 36) = V9 at *
  refine (dotF_any (Lib.hid (HS.out.ext (k2.trans kf))) hA hB HFC.out.2.2 HFC.out.1.1 HFC.out.1.2 HFC.out.2.1 (HT.out.ext (kV.trans (k2.trans kf)))).mono ?_
  rintro ee V10 ⟨Gd, Bsd, Fd, rfl, hpd, hd, k10⟩
  have kg : Ext V10 (V10.alloc (.cells #[.slice (some ⟨Gd, 0, none⟩) 2 2] 36)) := (Ext.refl V10).alloc _
  have xd := one_at V10 (.slice (some ⟨Gd, 0, none⟩) 2 2) 36
  replace hpd := hpd.ext kg
  have k11 := (kf.trans k10).trans kg
  replace xb := cell_ext k11 xb
  have HPB3 := HPB2.out.ext k11
  have K := Lib.hid (kV.trans (k2.trans k11))
  obtain ⟨hd0, hd1⟩ := hd
  obtain ⟨bb, hbe, hbc⟩ := (HPB3.lists 0 (by omega)).cells (by omega)
  obtain ⟨d0, hd0e, hd0c⟩ := (hpd.lists 0 (by omega)).cells (by omega)
  obtain ⟨d1, hd1e, hd1c⟩ := (hpd.lists 1 (by omega)).cells (by omega)
  have z0 := HPB3.row.cell (i := 0) (by omega)
  have z1 := hpd.row.cell (i := 0) (by omega)
  have z2 := hpd.row.cell (i := 1) (by omega)
  have z3 := hbc 0 (by omega)
  have z4 := hd0c 0 (by omega)
  have z5 := hd1c 0 (by omega)

  rw [hbe] at z0
  rw [hd0e] at z1
  rw [hd1e] at z2
  rw [HB.out, show bb.add 0 = bb from rfl] at z3
  rw [hd0, show d0.add 0 = d0 from rfl] at z4
  rw [hd1, show d1.add 0 = d1 from rfl] at z5
  clear hA hB kf k10 kg k11 hbc hd0c hd1c hbe hd0e hd1e hpd HPB3 HPB2 k2 kV HFC hpc hd0 hd1 HB
  go_wp2
  go_ret
  exact ⟨rfl, K.out⟩
end Go.Proofs.YtcnogmhkffohgaaGreatDoor
