/-
  What New of package scale answers.
-/
import Derived.Test.YtcnogmhkffohgaaGreatDoorW42
import Derived.Test.YtcnogmhkffohgaaGreatDoorW38
import Derived.Test.YtcnogmhkffohgaaGreatDoorW26
import Derived.Test.YtcnogmhkffohgaaGreatDoorW28
namespace Go.Proofs.YtcnogmhkffohgaaGreatDoor
open Go.RowKit
set_option linter.unusedVariables false
set_option maxRecDepth 100000

theorem filt_isS {b q x : Nat} : ∀ k, x ∈ filt b q k → isS x = true
  | 0, h => by cases h
  | k + 1, h => by
    rw [filt] at h
    rcases List.mem_append.1 h with h | h
    · exact filt_isS k h
    · by_cases e : isS (num b q k) = true
      · rw [if_pos e] at h
        rw [List.mem_singleton.1 h]
        exact e
      · rw [if_neg e] at h
        cases h
theorem wide_mod16 : ∀ x ∈ wideL16, x < 2305843009213693952 ∧ x % 16 = 1 := by decide
theorem wide_mod32 : ∀ x ∈ wideL32, x < 2305843009213693952 ∧ x % 32 = 1 := by decide
theorem wide_mod64 : ∀ x ∈ wideL64, x < 2305843009213693952 ∧ x % 64 = 1 := by decide
theorem wide_fit {n x : Nat} (hn : StepW (2 * n)) (hx : x ∈ wideL (2 * n)) : FitP (n : Int) x := by
  have hi : isS x = true := by
    have h := hx
    rw [← wide_all hn] at h
    exact filt_isS _ h
  have hs : stepS (2 * n) = true := by rcases hn with h | h | h <;> rw [h] <;> decide +kernel
  have h2 : x < 2305843009213693952 ∧ x % (2 * n) = 1 := by
    rcases hn with h | h | h <;> rw [h] at hx ⊢
    · exact wide_mod16 x hx
    · exact wide_mod32 x hx
    · exact wide_mod64 x hx
  have h3 : ((n : Int)).toNat = n := Int.toNat_natCast n
  unfold FitP
  rw [h3]
  exact ⟨by rcases hn with h | h | h <;> omega, h2.1, hs, h2.2, hi⟩
theorem wide_nodup {b : Nat} (hb : StepW b) : (wideL b).Nodup := by
  rcases hb with rfl | rfl | rfl <;> decide
theorem getD_at {l : List Nat} {i : Nat} (h : i < l.length) : l.getD i 0 = l[i] := by
  rw [List.getD_eq_getElem?_getD, List.getElem?_eq_getElem h, Option.getD_some]
theorem wide_row {n c : Nat} (hn : StepW (2 * n)) (hc0 : 1 ≤ c) (hc : c ≤ 16) : RowP (n : Int) c (fun i => ((wideL (2 * n)).take c).getD i 0) := by
  have hl := wideL_len hn
  have hlt : ((wideL (2 * n)).take c).length = c := by rw [List.length_take, hl]; omega
  have hnd : ((wideL (2 * n)).take c).Nodup := (wide_nodup hn).sublist (List.take_sublist _ _)
  refine ⟨by omega, by omega, fun j hj => ⟨?_, fun i hi => ?_⟩⟩
  · have hj' : j < ((wideL (2 * n)).take c).length := by omega
    dsimp only
    rw [getD_at hj']
    exact wide_fit hn (List.mem_of_mem_take (List.getElem_mem hj'))
  · have hj' : j < ((wideL (2 * n)).take c).length := by omega
    have hi' : i < ((wideL (2 * n)).take c).length := by omega
    dsimp only
    rw [getD_at hj', getD_at hi']
    exact (List.pairwise_iff_getElem.1 hnd) i j hi' hj' hi
theorem step_three : ∀ n, n < 33 → 8 ≤ n → stepS n = true → n = 8 ∨ n = 16 ∨ n = 32 := by decide +kernel
theorem par_row {n T L : Nat} {q : Nat → Nat} {Wd : Int} (h : ParP (n : Int) T L q Wd) (hn : n ≤ 32) : RowP (n : Int) L q ∧ StepW (2 * n) ∧ L ≤ 8 ∧ 0 < L ∧ Go.bitLen (prodF q L) ≤ 420 ∧ ∀ j, j < L → 0 < q j ∧ q j < 18446744073709551616 := by
  have h3 : ((n : Int)).toNat = n := Int.toNat_natCast n
  have hs : SizeP (n : Int) := h 0 (by omega)
  have hc : CountP L := h 3 (by omega)
  have hp : PrsP ((n : Int)).toNat T L q := h 4 (by omega)
  have hb : BitsP (n : Int) (prodF q L) := h 5 (by omega)
  rw [h3] at hp
  have hs2 : stepS n = true := by have := hs.2.2; rwa [h3] at this
  have hn8 : 8 ≤ n := by have := hs.1; omega
  have hst : stepS (2 * n) = true := by rw [step_two n (by omega) (by omega)]; exact hs2
  have h8 := step_three n (by omega) hn8 hs2
  have hq1 : ∀ j, j < L → 0 < q j := fun j hj => by
    have := (hp j hj).2.2.2.1
    rcases Nat.eq_zero_or_pos (q j) with e | e
    · rw [e, Nat.zero_mod] at this; omega
    · exact e
  refine ⟨⟨by have := hc.1; omega, by have := hc.2; omega, fun j hj => ⟨?_, (hp j hj).2.2.1⟩⟩, by unfold StepW; omega, hc.2, hc.1, ?_, fun j hj => ⟨hq1 j hj, by have := (hp j hj).1; omega⟩⟩
  · unfold FitP
    rw [h3]
    exact ⟨by omega, by have := (hp j hj).1; omega, hst, (hp j hj).2.2.2.1, (hp j hj).2.2.2.2⟩
  · have hr : rowS (n : Int) = 420 := by rcases h8 with rfl | rfl | rfl <;> decide
    unfold BitsP at hb
    rwa [hr] at hb
/-- A scale in memory. -/
structure Sc (w : World) (s n T L : Nat) (q : Nat → Nat) : Prop where
  step : StepW (2 * n)
  row : RowP (n : Int) L q
  l8 : L ≤ 8
  bits : Go.bitLen (prodF q L) ≤ 420
  ex : ∃ (r x g : Nat) (p p' : Nat → Nat) (a e a' e' : Nat → Nat → Nat) (Ar Aw : Option Addr) (cr cw : Nat), w.cell? ⟨s, 0, none⟩ = some (.pointer (some ⟨r, 0, none⟩)) ∧ w.cell? ⟨s, 1, none⟩ = some (.pointer (some ⟨x, 0, none⟩)) ∧ w.cell? ⟨s, 2, none⟩ = some (.slice (some ⟨g, 0, none⟩) L L) ∧ Rg w r n L q p a e ∧ Rg w x n (wcN n L q) (fun i => ((wideL (2 * n)).take (wcN n L q)).getD i 0) p' a' e' ∧ LvsK w g L L n T q Ar Aw cr cw ∧ FX w Ar L cr q ∧ FX w Aw (wcN n L q) cw (fun i => ((wideL (2 * n)).take (wcN n L q)).getD i 0)
theorem Sc.ext {w w' : World} {s n T L : Nat} {q : Nat → Nat} (h : Sc w s n T L q) (k : Ext w w') : Sc w' s n T L q := by
  obtain ⟨r, x, g, p, p', a, e, a', e', Ar, Aw, cr, cw, h1, h2, h3, h4, h5, h6, h7, h8⟩ := h.ex
  exact ⟨h.step, h.row, h.l8, h.bits, r, x, g, p, p', a, e, a', e', Ar, Aw, cr, cw, cell_ext k h1, cell_ext k h2, cell_ext k h3, h4.ext k, h5.ext k, h6.ext k, h7.ext k, h8.ext k⟩
theorem LvsK.at {w : World} {g L k n T m : Nat} {q : Nat → Nat} {Ar Aw : Option Addr} {cr cw : Nat} (h : LvsK w g L k n T q Ar Aw cr cw) (hm : m < k) (hk : k ≤ L) : ∃ (A1 A2 A3 A4 : Option Addr) (n1 c1 n2 c2 n3 c3 n4 c4 : Nat), (∀ j, j < 8 → w.cell? ⟨g, m * 8 + j, none⟩ = some (lvlF (.slice Ar (m + 1) cr) (.slice Aw (wcN n (m + 1) q) cw) (.slice A1 n1 c1) (.slice A2 n2 c2) (.slice A3 n3 c3) (.slice A4 n4 c4) j)) ∧ (n1 ≤ 1 ∧ NX w A1 n1 c1 (nw 1)) ∧ (n2 ≤ 1 ∧ NX w A2 n2 c2 (nw (q m))) ∧ (n3 ≤ 1 ∧ NX w A3 n3 c3 (nw T)) ∧ (n4 ≤ 1 + (m + 1) ∧ NX w A4 n4 c4 (nw (prodF q (m + 1)))) := by
  obtain ⟨v, hr, hv⟩ := h
  obtain ⟨A1, A2, A3, A4, n1, c1, n2, c2, n3, c3, n4, c4, h0, h1, h2, h3, h4⟩ := hv m hm
  refine ⟨A1, A2, A3, A4, n1, c1, n2, c2, n3, c3, n4, c4, fun j hj => ?_, h1, h2, h3, h4⟩
  rw [hr.cell (by omega), if_pos (by omega), show (m * 8 + j) / 8 = m by omega, show (m * 8 + j) % 8 = j by omega, h0 j hj]
set_option maxHeartbeats 8000000 in
theorem scaleNew_any {n T L c : Nat} {Wd : Int} {A : Option Addr} {q : Nat → Nat} {w : World} (hP : Hid (PA w (n : Int) T A L c Wd q)) (hok : Hid (ParP (n : Int) T L q Wd)) (hn : n ≤ 32) (hT : Tabs w) :
    Calls Tryz.prog 7 #[.agg #[.int .i64 (n : Int), .int .u64 (T : Int), .slice A L c, .int .i64 Wd]] w fun ee w' => ∃ s : Nat, ee = .returned (.tuple #[.pointer (some ⟨s, 0, none⟩), .int .i64 0]) ∧ Sc w' s n T L q ∧ Ext w w' := by
  have HT := Lib.hid hT
  obtain ⟨hrow, hstep, hL8, hL0, hbits, hwords⟩ := par_row hok.out hn
  have HROW := Lib.hid hrow
  have HSTEP := Lib.hid hstep
  have HBITS := Lib.hid hbits
  have HWORDS := Lib.hid hwords
  have ht1 := hP.out.t1
  have hwc1 := wc_one n L q
  have hwc15 := wc_few hn hbits
  obtain ⟨C, hC⟩ : ∃ C, C = wcN n L q := ⟨_, rfl⟩
  rw [← hC] at hwc1 hwc15
  have HC := Lib.hid hC
  clear hC hT hrow hstep hbits hwords
  obtain ⟨m, rfl⟩ : ∃ m, L = m + 1 := ⟨L - 1, by omega⟩
  have kV : Ext w (w.alloc (.cells #[.int .i64 (n : Int), .int .u64 (T : Int), .slice A (m + 1) c, .int .i64 Wd] 25)) := (Ext.refl w).alloc _
  obtain ⟨x0, x1, x2, x3⟩ := four_at w (.int .i64 (n : Int)) (.int .u64 (T : Int)) (.slice A (m + 1) c) (.int .i64 Wd) 25
  go_enter Tryz.func7, Tryz.ntmps7
  go_wp2_with fail
  generalize w.alloc (.cells #[.int .i64 (n : Int), .int .u64 (T : Int), .slice A (m + 1) c, .int .i64 Wd] 25) = V0 at *
  refine (checkZ (z := 0) (hP.out.ext kV) (by omega) (HT.out.ext kV) (Lib.hid (.inl ⟨hok.out, rfl⟩))).mono ?_
  rintro e V ⟨rfl, k1⟩
  replace x0 := cell_ext k1 x0
  replace x1 := cell_ext k1 x1
  replace x2 := cell_ext k1 x2
  replace x3 := cell_ext k1 x3
  replace kV := kV.trans k1
  clear k1
  go_wp2_with fail
  refine (levelsOf_any (hP.out.fx.ext kV) hL0 hL8 HSTEP.out ht1 HWORDS HBITS (HT.out.ext kV)).mono ?_
  rintro e V1 ⟨g, Ar, Aw, cr, cw, rfl, hlv, hfr, hfw, k1⟩
  replace x0 := cell_ext k1 x0
  replace x1 := cell_ext k1 x1
  replace x2 := cell_ext k1 x2
  replace x3 := cell_ext k1 x3
  replace kV := kV.trans k1
  have HLV := Lib.hid hlv
  have HFR := Lib.hid hfr
  have HFW := Lib.hid hfw
  clear k1 hlv hfr hfw
  go_wp2_with fail
  refine (top_any (n : Int) (T : Int) Wd A (m + 1) c V1 (by omega)).mono ?_
  rintro e V2 ⟨rfl, k2⟩
  replace x0 := cell_ext k2 x0
  replace x2 := cell_ext k2 x2
  replace kV := kV.trans k2
  have HLV := Lib.hid (HLV.out.ext k2)
  have HFR := Lib.hid (HFR.out.ext k2)
  have HFW := Lib.hid (HFW.out.ext k2)
  clear x1 x3 k2
  obtain ⟨A1, A2, A3, A4, n1, c1, n2, c2, n3, c3, n4, c4, hcs, _⟩ := HLV.out.at (m := m) (by omega) (Nat.le_refl _)
  rw [← HC.out] at hcs
  have l0 : V2.cell? ⟨g, m * 8, none⟩ = some (.slice Ar (m + 1) cr) := hcs 0 (by omega)
  have l1 : V2.cell? ⟨g, m * 8 + 1, none⟩ = some (.slice Aw C cw) := hcs 1 (by omega)
  have l2 : V2.cell? ⟨g, m * 8 + 2, none⟩ = some (.bool false) := hcs 2 (by omega)
  have l3 : V2.cell? ⟨g, m * 8 + 3, none⟩ = some (.slice A1 n1 c1) := hcs 3 (by omega)
  have l4 : V2.cell? ⟨g, m * 8 + 4, none⟩ = some (.slice A2 n2 c2) := hcs 4 (by omega)
  have l5 : V2.cell? ⟨g, m * 8 + 5, none⟩ = some (.bool false) := hcs 5 (by omega)
  have l6 : V2.cell? ⟨g, m * 8 + 6, none⟩ = some (.slice A3 n3 c3) := hcs 6 (by omega)
  have l7 : V2.cell? ⟨g, m * 8 + 7, none⟩ = some (.slice A4 n4 c4) := hcs 7 (by omega)
  clear hcs
  have i0 : (0 : Int) ≤ (m : Int) := by omega
  have i1 : (m : Int) < ((m + 1 : Nat) : Int) := by omega
  have ka : Ext V2 (V2.alloc (.cells #[.slice Ar (m + 1) cr, .slice Aw C cw, .bool false, .slice A1 n1 c1, .slice A2 n2 c2, .bool false, .slice A3 n3 c3, .slice A4 n4 c4] 58)) := (Ext.refl V2).alloc _
  have y0 := cell_ext ka x0
  have y2 := cell_ext ka x2
  have z0 : (V2.alloc (.cells #[.slice Ar (m + 1) cr, .slice Aw C cw, .bool false, .slice A1 n1 c1, .slice A2 n2 c2, .bool false, .slice A3 n3 c3, .slice A4 n4 c4] 58)).cell? ⟨V2.heap.size, 0, none⟩ = some (.slice Ar (m + 1) cr) := by simp
  have z1 : (V2.alloc (.cells #[.slice Ar (m + 1) cr, .slice Aw C cw, .bool false, .slice A1 n1 c1, .slice A2 n2 c2, .bool false, .slice A3 n3 c3, .slice A4 n4 c4] 58)).cell? ⟨V2.heap.size, 1, none⟩ = some (.slice Aw C cw) := by simp
  go_wp2_with fail
  have hX1 := HFR.out.ext ka
  have hX2 := HFW.out.ext ka
  rw [← HC.out] at hX2
  have HX2 := Lib.hid hX2
  have HLV := Lib.hid (HLV.out.ext ka)
  have HFR := Lib.hid hX1
  have kA := kV.trans ka
  clear ka hX1 hX2 l0 l1 l2 l3 l4 l5 l6 l7 x0 x2
  have nn : ((n : Int)).toNat = n := Int.toNat_natCast n
  obtain ⟨gt, hgt⟩ : ∃ gt, gt = V2.heap.size := ⟨_, rfl⟩
  rw [← hgt] at z0 z1 ⊢
  clear hgt kV
  generalize V2.alloc (.cells #[.slice Ar (m + 1) cr, .slice Aw C cw, .bool false, .slice A1 n1 c1, .slice A2 n2 c2, .bool false, .slice A3 n3 c3, .slice A4 n4 c4] 58) = V3 at *
  refine (ringNew_any (n : Int) Ar (m + 1) cr q V3 (by omega) (by omega) (by omega) HFR.out (Lib.hid fun j hj => (HWORDS.out j hj).2) (HT.out.ext kA)).mono ?_
  rintro e V4 (⟨hno, _⟩ | ⟨_, r, p, a, e, rfl, hrg, k4⟩)
  · exact absurd HROW.out hno
  rw [nn] at hrg
  have HRG := Lib.hid hrg
  clear hrg z0
  replace y0 := cell_ext k4 y0
  replace z1 := cell_ext k4 z1
  go_wp2_with fail
  have HROW2 := Lib.hid (wide_row (c := C) HSTEP.out hwc1 (by omega))
  refine (ringNew_any (n : Int) Aw C cw _ V4 (by omega) (by omega) (by omega) (HX2.out.ext k4) (Lib.hid fun j hj => Nat.lt_trans (HROW2.out.2.2 j hj).1.2.1 (by decide)) (HT.out.ext (kA.trans k4))).mono ?_
  rintro e5 V5 (⟨hno, _⟩ | ⟨_, r5, p5, a5, e5, rfl, hrg5, k5⟩)
  · exact absurd HROW2.out hno
  rw [nn] at hrg5
  have HRG5 := Lib.hid hrg5
  clear hrg5 y0 y2 z1
  go_wp2_with fail
  go_ret2
  have kb : Ext V5 (V5.alloc (.cells #[.pointer (some ⟨r, 0, none⟩), .pointer (some ⟨r5, 0, none⟩), .slice (some ⟨g, 0, none⟩) (m + 1) (m + 1)] 63)) := (Ext.refl V5).alloc _
  have k35 := (k4.trans k5).trans kb
  have hx2 := HX2.out.ext k35
  have hrg5 := HRG5.out.ext kb
  rw [HC.out] at hx2 hrg5
  exact ⟨V5.heap.size, rfl, ⟨HSTEP.out, HROW.out, hL8, HBITS.out, ⟨r, r5, g, p, p5, a, e, a5, e5, Ar, Aw, cr, cw, by simp, by simp, by simp, HRG.out.ext (k5.trans kb), hrg5, HLV.out.ext k35, HFR.out.ext k35, hx2⟩⟩, kA.trans k35⟩
end Go.Proofs.YtcnogmhkffohgaaGreatDoor

/-
  What Lower of package scale answers.
-/
namespace Go.Proofs.YtcnogmhkffohgaaGreatDoor
open Go.RowKit
set_option linter.unusedVariables false
set_option maxRecDepth 100000

theorem isS_big {x : Nat} (h : isS x = true) : 2 ≤ x := by
  rcases Nat.lt_or_ge x 2 with g | g
  · rcases (show x = 0 ∨ x = 1 by omega) with rfl | rfl <;> exact absurd h (by decide)
  · exact g
theorem RowP.c {n : Int} {L : Nat} {q : Nat → Nat} (h : RowP n L q) : RowC L q := ⟨h.1, h.2.1, fun j hj => by
  obtain ⟨⟨h2, h61, hst, hmod, hi⟩, hd⟩ := h.2.2 j hj
  refine ⟨⟨?_, h61, hi⟩, hd⟩
  have := isS_big hi
  rcases Nat.lt_or_ge (q j) 3 with g | g
  · have e : q j = 2 := by omega
    rw [e, Nat.mod_eq_of_lt (by omega)] at hmod
    omega
  · exact g⟩
theorem RowP.cut {n : Int} {L m : Nat} {q : Nat → Nat} (h : RowP n L q) (h0 : 0 < m) (hm : m ≤ L) : RowP n m q := ⟨h0, by have := h.2.1; omega, fun j hj => h.2.2 j (by omega)⟩
theorem El.lsts {n M L : Nat} {q : Nat → Nat} {ns : Nat → Nat} {f : Nat → Nat → Nat} (h : El n M q L ns f) : Lsts n L ns f q := fun j hj => by
  have h1 := h.2.2 j hj
  exact ⟨h1.1, fun i hi => h1.2 i (by omega)⟩
theorem sNone_any {w : World} {s n T L : Nat} {q : Nat → Nat} (h : Hid (Sc w s n T L q)) : Calls Tryz.prog 21 #[.pointer (some ⟨s, 0, none⟩)] w fun e w' => e = .returned (.bool false) ∧ w = w' := by
  have h0 := h.out.row.1
  have hb : ((L : Int) == 0) = false := by simp; omega
  obtain ⟨r, x, g, p, p', a, e, a', e', Ar, Aw, cr, cw, _, _, x2, _⟩ := h.out.ex
  go_enter Tryz.func21, Tryz.ntmps21
  go_wp2
  go_ret
  exact ⟨rfl, rfl⟩
set_option maxHeartbeats 8000000 in
theorem Lower_any {s n T M : Nat} {q : Nat → Nat} {A : Option Addr} {L c : Nat} {As : Nat → Option Addr} {ns cs : Nat → Nat} {f : Nat → Nat → Nat} {w : World} (hS : Hid (Sc w s n T M q)) (hP : Hid (PB w A L c As ns cs f)) (hT : Tabs w) :
    Calls Tryz.prog 12 #[.pointer (some ⟨s, 0, none⟩), .agg #[.slice A L c]] w fun ee w' => ((¬ El n M q L ns f ∧ ee = .returned (.tuple #[.agg #[.slice none 0 0], .int .i64 3])) ∨ (El n M q L ns f ∧ L = 1 ∧ ee = .returned (.tuple #[.agg #[.slice none 0 0], .int .i64 10])) ∨ (El n M q L ns f ∧ 2 ≤ L ∧ ∃ (p : Nat → Nat) (G : Nat) (Bs : Nat → Option Addr) (F : Nat → Nat → Nat), Hid (Parts L q p) ∧ ee = .returned (.tuple #[.agg #[.slice (some ⟨G, 0, none⟩) (L - 1) (L - 1)], .int .i64 0]) ∧ PM w' G (L - 1) n Bs (fun _ => n) F ∧ Hid (∀ j, j < L - 1 → ∀ i, i < n → F j i = resF (decide (scaled 1 (q (L - 1)) L q p f i < 0)) (nv (nw (scaled 1 (q (L - 1)) L q p f i).natAbs)) (q j)))) ∧ Ext w w' := by
  have HT := Lib.hid hT
  clear hT
  obtain ⟨r, x, g, p, p', a, e, a', e', Ar, Aw, cr, cw, x0, x1, x2, hrg, hrx, hlv, hfr, hfw⟩ := hS.out.ex
  have hsw : s < w.heap.size := by have := World.block_lt_of_cell? _ _ x0; simpa using this
  have hgw : g < w.heap.size := by obtain ⟨v, hr, _⟩ := hlv; exact hr.lt
  have HRG := Lib.hid hrg
  have HLV := Lib.hid hlv
  have HFR := Lib.hid hfr
  clear hrg hrx hlv hfr hfw x1
  have hr0 : RW ((w.alloc (.cells #[.slice A L c] 36)).alloc (.cells #[.slice none 0 0] 36)) (w.heap.size + 1) 36 1 (fun _ => .slice none 0 0) := by
    have : RW ((w.alloc (.cells #[.slice A L c] 36)).alloc (.cells #[.slice none 0 0] 36)) (w.alloc (.cells #[.slice A L c] 36)).heap.size 36 1 (fun _ => .slice none 0 0) := heap_alloc_new _ _
    rwa [show (w.alloc (.cells #[.slice A L c] 36)).heap.size = w.heap.size + 1 by simp] at this
  go_enter Tryz.func12, Tryz.ntmps12
  go_wp2_with fail
  have k0 : Ext w ((w.alloc (.cells #[.slice A L c] 36)).alloc (.cells #[.slice none 0 0] 36)) := ((Ext.refl w).alloc _).alloc _
  have xa := cell_ext ((Ext.refl _).alloc (.cells #[.slice none 0 0] 36)) (one_at w (.slice A L c) 36)
  replace x0 := cell_ext k0 x0
  replace x2 := cell_ext k0 x2
  generalize (w.alloc (.cells #[.slice A L c] 36)).alloc (.cells #[.slice none 0 0] 36) = V0 at *
  refine (sNone_any (Lib.hid (hS.out.ext k0))).mono ?_
  rintro ee w0 ⟨rfl, rfl⟩
  go_wp2_with fail
  have kk : Ext V0 V0 := Ext.refl V0
  by_cases hE : El n M q L ns f
  case neg =>
    have hlev : ∀ w', Ext V0 w' → Calls Tryz.prog 32 #[.pointer (some ⟨r, 0, none⟩), .agg #[.slice A L c]] w' fun ee w2 => ee = .returned (.tuple #[.int .i64 0, .int .i64 3]) ∧ Ext w' w2 := fun w' h => (Level_any r n M q p a e A L c As ns cs f w' (HRG.out.ext (k0.trans h)) (Lib.hid (hP.out.ext (k0.trans h)))).mono fun e5 w5 h5 => by
      rcases h5 with ⟨⟨h6, _⟩ | ⟨_, h6⟩, h7⟩
      · exact absurd h6 hE
      · exact ⟨h6, h7⟩
    have HLEV := Lib.hid hlev
    have HE := Lib.hid hE
    clear hlev hE
    go_region_held3 (fun w' => w'.cell? ⟨s, 0, none⟩ = some (.pointer (some ⟨r, 0, none⟩)) ∧ w'.cell? ⟨w.heap.size, 0, none⟩ = some (.slice A L c)) (go_keep)
      (first
        | (go_at_call 32; refine (HLEV.out _ (by first | exact kk | exact Ext.drew kk)).mono ?_; rintro e5 w5 ⟨rfl, k5⟩; replace kk : Ext V0 w5 := (by first | exact Ext.trans kk k5 | exact Ext.trans (Ext.drew kk) k5); have d0 := cell_ext kk x0; have d1 := cell_ext kk xa)
        | fail)
    rename_i hhe
    clear hhe
    have hr6 := hr0.ext kk
    have c0 := hr6.cell (i := 0) (by omega)
    have z0 := hr6.frozen 0
    have hsz := hr6.lt
    have kr6 := k0.trans kk
    clear hr0 d0 d1
    go_wp2_with fail
    have d0 := ret_cell hr6 (.slice none 0 0)
    have d1 := kr6.set (p := ⟨w.heap.size + 1, 0, none⟩) (by show w.heap.size ≤ w.heap.size + 1; omega) (.slice none 0 0)
    generalize w5.setCell ⟨w.heap.size + 1, 0, none⟩ (.slice none 0 0) = w9 at *
    exact bodyPost_ret (v := .tuple #[.agg #[.slice none 0 0], .int .i64 3]) (by simp [results, Tryz.results12, go_sem, d0]) rfl ⟨.inl ⟨HE.out, rfl⟩, d1⟩
  have hlev : ∀ w', Ext V0 w' → Calls Tryz.prog 32 #[.pointer (some ⟨r, 0, none⟩), .agg #[.slice A L c]] w' fun ee w2 => ee = .returned (.tuple #[.int .i64 ((L : Int) - 1), .int .i64 0]) ∧ Ext w' w2 := fun w' h => (Level_any r n M q p a e A L c As ns cs f w' (HRG.out.ext (k0.trans h)) (Lib.hid (hP.out.ext (k0.trans h)))).mono fun e5 w5 h5 => by
    rcases h5 with ⟨⟨_, h6⟩ | ⟨h6, _⟩, h7⟩
    · exact ⟨h6, h7⟩
    · exact absurd hE h6
  have HE := Lib.hid hE
  obtain ⟨m, rfl⟩ : ∃ m, L = m + 1 := ⟨L - 1, by have := hE.1; omega⟩
  have hmM : m + 1 ≤ M := hE.2.1
  have e1 : (((m + 1 : Nat) : Int) - 1) = (m : Int) := by omega
  rw [e1] at hlev
  have HLEV := Lib.hid hlev
  clear hlev hE
  go_region_held3 (fun w' => w'.cell? ⟨s, 0, none⟩ = some (.pointer (some ⟨r, 0, none⟩)) ∧ w'.cell? ⟨w.heap.size, 0, none⟩ = some (.slice A (m + 1) c)) (go_keep)
    (first
      | (go_at_call 32; refine (HLEV.out _ (by first | exact kk | exact Ext.drew kk)).mono ?_; rintro e5 V ⟨rfl, k5⟩; replace kk : Ext V0 V := (by first | exact Ext.trans kk k5 | exact Ext.trans (Ext.drew kk) k5); have d0 := cell_ext kk x0; have d1 := cell_ext kk xa)
      | fail)
  rename_i hhe
  clear hhe
  have kV := kk
  clear kk d0 d1 k5 HLEV
  have hr1 := hr0.ext kV
  have kV1 := k0.trans kV
  clear hr0
  rcases Nat.eq_zero_or_pos m with rfl | hm0
  · have c0 := hr1.cell (i := 0) (by omega)
    have z0 := hr1.frozen 0
    have hsz := hr1.lt
    go_wp2_with fail
    have d0 := ret_cell hr1 (.slice none 0 0)
    have d1 := kV1.set (p := ⟨w.heap.size + 1, 0, none⟩) (by show w.heap.size ≤ w.heap.size + 1; omega) (.slice none 0 0)
    generalize V.setCell ⟨w.heap.size + 1, 0, none⟩ (.slice none 0 0) = w9 at *
    exact bodyPost_ret (v := .tuple #[.agg #[.slice none 0 0], .int .i64 10]) (by simp [results, Tryz.results12, go_sem, d0]) rfl ⟨.inr ⟨HE.out, rfl⟩, d1⟩
  replace x2 := cell_ext kV x2
  replace x0 := cell_ext kV x0
  replace xa := cell_ext kV xa
  have kV := kV1
  have b0 : ((m : Int) == 0) = false := by simp; omega
  obtain ⟨A1, A2, A3, A4, n1, c1, n2, c2, n3, c3, n4, c4, hcs, h1, h2, _⟩ := (HLV.out.ext kV).at (m := m) (by omega) (Nat.le_refl _)
  obtain ⟨B1, B2, B3, B4, k1, d1, k2, d2, k3, d3, k4, d4, hds, _⟩ := (HLV.out.ext kV).at (m := m - 1) (by omega) (Nat.le_refl _)
  have l0 : V.cell? ⟨g, m * 8, none⟩ = some (.slice Ar (m + 1) cr) := hcs 0 (by omega)
  have l2 : V.cell? ⟨g, m * 8 + 2, none⟩ = some (.bool false) := hcs 2 (by omega)
  have l3 : V.cell? ⟨g, m * 8 + 3, none⟩ = some (.slice A1 n1 c1) := hcs 3 (by omega)
  have l4 : V.cell? ⟨g, m * 8 + 4, none⟩ = some (.slice A2 n2 c2) := hcs 4 (by omega)
  have y0 : V.cell? ⟨g, (m - 1) * 8, none⟩ = some (.slice Ar m cr) := by
    have := hds 0 (by omega)
    rw [show m - 1 + 1 = m by omega] at this
    exact this
  clear hcs hds
  have H1 := Lib.hid h1
  have H2 := Lib.hid h2
  clear h1 h2
  have HROW := Lib.hid hS.out.row
  have hwords : ∀ j, j < M → 0 < q j ∧ q j < 18446744073709551616 := okq_lt hS.out.row.c
  have HW := Lib.hid hwords
  have hqm := (hwords m (by omega)).1
  have hn0 : 0 < n := by rcases hS.out.step with h | h | h <;> omega
  have hn5 : n ≤ 500 := by rcases hS.out.step with h | h | h <;> omega
  have hov : ∀ w', Ext V w' → Calls Tryz.prog 24 #[.agg #[.slice A (m + 1) c], .slice Ar (m + 1) cr, .slice Ar m cr, .func (.func 26) #[.agg #[.bool false, .slice A1 n1 c1, .slice A2 n2 c2]] #[]] w' fun ee w2 => ∃ (p : Nat → Nat) (G : Nat) (Bs : Nat → Option Addr) (F : Nat → Nat → Nat), Hid (Parts (m + 1) q p) ∧ ee = .returned (.agg #[.slice (some ⟨G, 0, none⟩) m m]) ∧ PM w2 G m n Bs (fun _ => n) F ∧ Hid (∀ j, j < m → ∀ i, i < n → F j i = resF (decide (scaled 1 (q m) (m + 1) q p f i < 0)) (nv (nw (scaled 1 (q m) (m + 1) q p f i).natAbs)) (q j)) ∧ Ext w' w2 := fun w' h =>
    over_any 1 (q m) n1 c1 n2 c2 (m + 1) c cr n m cr A1 A2 A Ar Ar As ns cs f q q w' (NX.ext H1.out.2 h) (NX.ext H2.out.2 h) (by have := H1.out.1; omega) (by have := H2.out.1; omega) hqm (hP.out.1.ext (kV.trans h)) (((HFR.out.ext (kV.trans h))).cut hmM) ((HFR.out.ext (kV.trans h)).cut (by omega)) (Lib.hid fun j hj => (HW.out j (by omega)).2) (Lib.hid fun j hj => (HW.out j (by omega)).2) (HT.out.ext (kV.trans h)) (HROW.out.cut (by omega) hmM).c (HROW.out.cut hm0 (by omega)).c (Lib.hid HE.out.lsts) hn0 hn5
  have HOV := Lib.hid hov
  clear hov hwords
  have i0 : (0 : Int) ≤ (m : Int) := by omega
  have i1 : (m : Int) < (M : Int) := by omega
  have i2 : (0 : Int) ≤ (m : Int) - 1 := by omega
  have i3 : (m : Int) - 1 < (M : Int) := by omega
  have i4 : ((m : Int) - 1).toNat = m - 1 := by omega
  have km : Ext V V := Ext.refl V
  obtain ⟨j, hj⟩ : ∃ j, j = m - 1 := ⟨_, rfl⟩
  have hM8 := hS.out.l8
  have wj : IntKind.i64.wrap ((m : Int) - 1) = (j : Int) := by rw [IntKind.wrap_i64]; omega
  have j0 : (0 : Int) ≤ (j : Int) := by omega
  have j1 : (j : Int) < (M : Int) := by omega
  rw [← hj] at y0
  have l3 : V.cell? ⟨g, m * 8 + 2 + 1, none⟩ = some (.slice A1 n1 c1) := l3
  have l4 : V.cell? ⟨g, m * 8 + 2 + 2, none⟩ = some (.slice A2 n2 c2) := l4
  have ne1 : (s = w.heap.size + 1) = False := by simp; omega
  have ne2 : (w.heap.size + 1 = s) = False := by simp; omega
  have ne3 : (g = w.heap.size + 1) = False := by simp; omega
  have ne4 : (w.heap.size + 1 = g) = False := by simp; omega
  clear hsw hgw i2 i3 i4 x0 hj
  go_wp2_with fail
  go_region_held3 (fun w' => w'.cell? ⟨s, 2, none⟩ = some (.slice (some ⟨g, 0, none⟩) M M) ∧ w'.cell? ⟨w.heap.size, 0, none⟩ = some (.slice A (m + 1) c) ∧ w'.cell? ⟨g, m * 8, none⟩ = some (.slice Ar (m + 1) cr) ∧ w'.cell? ⟨g, j * 8, none⟩ = some (.slice Ar m cr) ∧ w'.cell? ⟨g, m * 8 + 2, none⟩ = some (.bool false) ∧ w'.cell? ⟨g, m * 8 + 2 + 1, none⟩ = some (.slice A1 n1 c1) ∧ w'.cell? ⟨g, m * 8 + 2 + 2, none⟩ = some (.slice A2 n2 c2)) (go_keep)
    (first
      | (go_at_call 24; refine (HOV.out _ (by first | exact km | exact Ext.drew km)).mono ?_; rintro e9 w9 ⟨P, G, Bs, F, HPP, rfl, hpm, HFv, k9⟩; replace km : Ext V w9 := (by first | exact Ext.trans km k9 | exact Ext.trans (Ext.drew km) k9); have d0 := cell_ext km x2; have d1 := cell_ext km xa; have d2 := cell_ext km l0; have d3 := cell_ext km y0; have d4 := cell_ext km l2; have d5 := cell_ext km l3; have d6 := cell_ext km l4; have hr6 := hr1.ext km; have c0 := hr6.cell (i := 0) (by omega); have z0 := hr6.frozen 0; have hsz := hr6.lt)
      | fail)
  rename_i hhe
  clear hhe
  have kr6 := kV.trans km
  have e0 := ret_cell hr6 (.slice (some ⟨G, 0, none⟩) m m)
  have e1 := kr6.set (p := ⟨w.heap.size + 1, 0, none⟩) (by show w.heap.size ≤ w.heap.size + 1; omega) (.slice (some ⟨G, 0, none⟩) m m)
  have e2 := hpm.aside hr6 rfl (.slice (some ⟨G, 0, none⟩) m m)
  generalize w9.setCell ⟨w.heap.size + 1, 0, none⟩ (.slice (some ⟨G, 0, none⟩) m m) = w10 at *
  clear d0 d1 d2 d3 d4 d5 d6 c0 z0 hsz
  go_wp2_with fail
  exact bodyPost_ret (v := .tuple #[.agg #[.slice (some ⟨G, 0, none⟩) m m], .int .i64 0]) (by simp [results, Tryz.results12, go_sem, e0]) rfl ⟨.inr (.inr ⟨HE.out, by omega, P, G, Bs, F, HPP, rfl, e2, HFv⟩), e1⟩
end Go.Proofs.YtcnogmhkffohgaaGreatDoor

/-
  What Ring of package scale answers; and what all answer of no scale.
-/
namespace Go.Proofs.YtcnogmhkffohgaaGreatDoor
open Go.RowKit
set_option linter.unusedVariables false
set_option maxRecDepth 100000

set_option maxHeartbeats 4000000 in
theorem Ring_any {s n T M : Nat} {q : Nat → Nat} {w : World} (hS : Hid (Sc w s n T M q)) :
    Calls Tryz.prog 10 #[.pointer (some ⟨s, 0, none⟩)] w fun ee w' => ∃ (r : Nat) (p : Nat → Nat) (a e : Nat → Nat → Nat), ee = .returned (.pointer (some ⟨r, 0, none⟩)) ∧ Rg w' r n M q p a e ∧ Ext w w' := by
  obtain ⟨r, x, g, p, p', a, e, a', e', Ar, Aw, cr, cw, x0, x1, x2, hrg, _⟩ := hS.out.ex
  obtain ⟨gf, hg1, hg2⟩ := hrg.ex
  have hsz := hrg.size
  have HRG := Lib.hid hrg
  have HFR := Lib.hid hg2
  clear hrg hg2 x1 x2
  go_enter Tryz.func10, Tryz.ntmps10
  go_wp2_with fail
  refine (sNone_any hS).mono ?_
  rintro ee w0 ⟨rfl, rfl⟩
  go_wp2_with fail
  have kb : Ext w (w.alloc (.cells #[.int .i64 (n : Int), .slice (some ⟨gf, 0, none⟩) M M] 73)) := (Ext.refl w).alloc _
  go_ret
  have h5 := HRG.out.ext kb
  exact ⟨w.heap.size, p, a, e, rfl, ⟨h5.l0, h5.l1, h5.n0, h5.n1, h5.ql, by simp, ⟨gf, by simp, RW.ext HFR.out kb⟩, h5.tab⟩, kb⟩
theorem noneS_any (w : World) : Calls Tryz.prog 21 #[.pointer none] w fun e w' => e = .returned (.bool true) ∧ w = w' := by
  go_enter Tryz.func21, Tryz.ntmps21
  go_wp2
  go_ret
  exact ⟨rfl, rfl⟩
theorem ringNone_any (w : World) : Calls Tryz.prog 10 #[.pointer none] w fun ee w' => ee = .returned (.pointer none) ∧ Ext w w' := by
  go_enter Tryz.func10, Tryz.ntmps10
  go_wp2_with fail
  refine (noneS_any w).mono ?_
  rintro ee w0 ⟨rfl, rfl⟩
  go_wp2_with fail
  go_ret
  exact ⟨rfl, Ext.refl w⟩
end Go.Proofs.YtcnogmhkffohgaaGreatDoor
