/-
  Which switches may be: what Right of package keys answers.
-/
import Derived.Test.YtbpehdfpiembfaaDoorZ34
import Derived.Test.YtbpehdfpiembfaaDoorZ33
import Derived.Test.YtbpehdfpiembfaaDoorZ31
import Derived.Test.YtbpehdfpiembfaaDoorZ29
namespace Go.Proofs.YtbpehdfpiembfaaDoor
open Go.RowKit
set_option linter.unusedVariables false
set_option maxRecDepth 100000

/-- May a switch be? -/
def RightP (N : Int) (T L : Nat) (q : Nat → Nat) (Wd : Int) (nb na : Nat) (Lb La : Nat → Nat) (nsb nsa : Nat → Nat → Nat) (fb fa : Nat → Nat → Nat → Nat) : Prop :=
  ParP N T L q Wd ∧ nb = L ∧ na = L ∧ (∀ j, j < L → El N.toNat L q (Lb j) (nsb j) (fb j) ∧ Lb j = L) ∧ (∀ j, j < L → El N.toNat L q (La j) (nsa j) (fa j) ∧ La j = L)
set_option maxHeartbeats 4000000 in
theorem right_main {N : Int} {T L c : Nat} {Wd : Int} {A : Option Addr} {q : Nat → Nat} (cb ca : Nat) (Ab Aa : Option Addr) (Bj Aj : Nat → Option Addr) (Lb xb La xa : Nat → Nat) (Bb Ba : Nat → Nat → Option Addr) (nsb csb nsa csa : Nat → Nat → Nat) (fb fa : Nat → Nat → Nat → Nat) (w : World)
    (hP : Hid (PA w N T A L c Wd q)) (hok : Hid (ParP N T L q Wd)) (hN : N ≤ 32) (hL : L ≤ 8) (hT : Tabs w) (hB : QP w Ab L cb Bj Lb xb Bb nsb csb fb) (hA : QP w Aa L ca Aj La xa Ba nsa csa fa) :
    Calls Tryd.prog 6 #[.agg #[.int .i64 N, .int .u64 (T : Int), .slice A L c, .int .i64 Wd], .agg #[.slice Ab L cb, .slice Aa L ca]] w (Tells w (RightP N T L q Wd L L Lb La nsb nsa fb fa)) := by
  have HT := Lib.hid hT
  have HB := Lib.hid hB
  have HA := Lib.hid hA
  clear hT hB hA
  obtain ⟨hrow, hn8, hL1, hL8⟩ := par_rowY hok.out hN
  have HROW := Lib.hid hrow
  clear hrow
  obtain ⟨n, rfl⟩ := Int.eq_ofNat_of_zero_le (show 0 ≤ N by omega)
  have HNN := Lib.hid (Int.toNat_natCast n)
  have hn0 := hP.out.n0
  have hn1 := hP.out.n1
  have ht1 := hP.out.t1
  obtain ⟨x0, x1, x2, x3⟩ := four_at w (.int .i64 (n : Int)) (.int .u64 (T : Int)) (.slice A L c) (.int .i64 Wd) 25
  have k0 : Ext w ((w.alloc (.cells #[.int .i64 (n : Int), .int .u64 (T : Int), .slice A L c, .int .i64 Wd] 25)).alloc (.cells #[.slice Ab L cb, .slice Aa L ca] 28)) := ((Ext.refl w).alloc _).alloc _
  have ka : Ext (w.alloc (.cells #[.int .i64 (n : Int), .int .u64 (T : Int), .slice A L c, .int .i64 Wd] 25)) ((w.alloc (.cells #[.int .i64 (n : Int), .int .u64 (T : Int), .slice A L c, .int .i64 Wd] 25)).alloc (.cells #[.slice Ab L cb, .slice Aa L ca] 28)) := (Ext.refl _).alloc _
  have y0 := two_at0 (w.alloc (.cells #[.int .i64 (n : Int), .int .u64 (T : Int), .slice A L c, .int .i64 Wd] 25)) (.slice Ab L cb) (.slice Aa L ca) 28
  have y1 := two_at1 (w.alloc (.cells #[.int .i64 (n : Int), .int .u64 (T : Int), .slice A L c, .int .i64 Wd] 25)) (.slice Ab L cb) (.slice Aa L ca) 28
  rw [show (w.alloc (.cells #[.int .i64 (n : Int), .int .u64 (T : Int), .slice A L c, .int .i64 Wd] 25)).heap.size = w.heap.size + 1 by simp] at y0 y1
  replace x0 := cell_ext ka x0
  replace x1 := cell_ext ka x1
  replace x2 := cell_ext ka x2
  replace x3 := cell_ext ka x3
  clear ka
  go_enter Tryd.func6, Tryd.ntmps6
  go_wp2_with fail
  generalize (w.alloc (.cells #[.int .i64 (n : Int), .int .u64 (T : Int), .slice A L c, .int .i64 Wd] 25)).alloc (.cells #[.slice Ab L cb, .slice Aa L ca] 28) = V0 at *
  refine (checkZ (z := 0) (hP.out.ext k0) (by omega) (HT.out.ext k0) (Lib.hid (.inl ⟨hok.out, rfl⟩))).mono ?_
  rintro e V ⟨rfl, k1⟩
  replace x0 := cell_ext k1 x0
  replace x1 := cell_ext k1 x1
  replace x2 := cell_ext k1 x2
  replace x3 := cell_ext k1 x3
  replace y0 := cell_ext k1 y0
  replace y1 := cell_ext k1 y1
  replace k0 := k0.trans k1
  clear k1
  go_wp2_with fail
  refine (ringNew_any (n : Int) A L c q V (by omega) (by omega) (by omega) (hP.out.fx.ext k0) (Lib.hid fun j hj => hP.out.words j hj) (HT.out.ext k0)).mono ?_
  rintro e V1 (⟨h, _⟩ | ⟨_, r, p, a, e, rfl, hrg, k1⟩)
  · exact absurd HROW.out h
  have HRG := Lib.hid hrg
  replace x0 := cell_ext k1 x0
  replace x1 := cell_ext k1 x1
  replace x2 := cell_ext k1 x2
  replace x3 := cell_ext k1 x3
  replace y0 := cell_ext k1 y0
  replace y1 := cell_ext k1 y1
  replace k0 := k0.trans k1
  clear k1 hrg
  have ka : Ext V1 (V1.alloc (.cells #[.slice Ab L cb, .slice Aa L ca] 26)) := (Ext.refl V1).alloc _
  have s0 := two_at0 V1 (.slice Ab L cb) (.slice Aa L ca) 26
  have s1 := two_at1 V1 (.slice Ab L cb) (.slice Aa L ca) 26
  have HCC := Lib.hid (concatQ_any V1.heap.size L cb L ca Ab Aa Bj Aj Lb xb La xa Bb Ba nsb csb nsa csa fb fa _ s0 s1 (HB.out.ext (k0.trans ka)) (HA.out.ext (k0.trans ka)) (by omega) (by omega))
  go_wp2_with fail
  refine HCC.out.mono ?_
  rintro ee V2 ⟨A2, c2, rfl, hq2, k2⟩
  have HQ := Lib.hid hq2
  have k3 := ka.trans k2
  replace x0 := cell_ext k3 x0
  replace x1 := cell_ext k3 x1
  replace x2 := cell_ext k3 x2
  replace x3 := cell_ext k3 x3
  have HRG := Lib.hid (HRG.out.ext k3)
  replace k0 := k0.trans k3
  clear k3 k2 ka s0 s1 y0 y1 hq2 HCC HB HA
  rw [HNN.out] at HRG
  obtain ⟨LL, hLL⟩ : ∃ LL, LL = catF L Lb La := ⟨_, rfl⟩
  obtain ⟨SS, hSS⟩ : ∃ SS, SS = catF L nsb nsa := ⟨_, rfl⟩
  obtain ⟨FF, hFF⟩ : ∃ FF, FF = catF L fb fa := ⟨_, rfl⟩
  rw [← hLL, ← hSS, ← hFF] at HQ
  have HGD := Lib.hid (show RightP (n : Int) T L q Wd L L Lb La nsb nsa fb fa ↔ ∀ j, j < L + L → El n L q (LL j) (SS j) (FF j) ∧ LL j = L from by
    unfold RightP
    rw [hLL, hSS, hFF, HNN.out]
    constructor
    · rintro ⟨_, _, _, h1, h2⟩ j hj
      unfold catF
      by_cases g : j < L
      · rw [if_pos g, if_pos g, if_pos g]; exact h1 j g
      · rw [if_neg g, if_neg g, if_neg g]; exact h2 (j - L) (by omega)
    · intro h
      refine ⟨hok.out, rfl, rfl, fun j hj => ?_, fun j hj => ?_⟩
      · have := h j (by omega)
        unfold catF at this
        rwa [if_pos hj, if_pos hj, if_pos hj] at this
      · have := h (L + j) (by omega)
        unfold catF at this
        rwa [if_neg (by omega), if_neg (by omega), if_neg (by omega), Nat.add_sub_cancel_left] at this)
  clear hLL hSS hFF
  obtain ⟨AX, hAX⟩ : ∃ AX, AX = catF L Bj Aj := ⟨_, rfl⟩
  obtain ⟨CX, hCX⟩ : ∃ CX, CX = catF L xb xa := ⟨_, rfl⟩
  obtain ⟨BX, hBX⟩ : ∃ BX, BX = catF L Bb Ba := ⟨_, rfl⟩
  obtain ⟨DX, hDX⟩ : ∃ DX, DX = catF L csb csa := ⟨_, rfl⟩
  rw [← hAX, ← hCX, ← hBX, ← hDX] at HQ
  clear hAX hCX hBX hDX
  go_wp2
  go_loopw [47] (fun iv wr => ∃ k : Nat, k ≤ L + L ∧ iv = .int .i64 (k : Int) ∧ (∀ j, j < k → El n L q (LL j) (SS j) (FF j) ∧ LL j = L) ∧ Ext V2 wr) (fun iv _ => L + L - (intOf iv).toNat)
  case atStart => exact ⟨0, by omega, rfl, fun j hj => absurd hj (by omega), Ext.refl _⟩
  case round =>
    obtain ⟨k, hk, rfl, hel, kr⟩ := hrel
    have HEL := Lib.hid hel
    clear hel
    by_cases hlt : k < L + L
    · obtain ⟨ad, rfl, hc⟩ := HQ.out.qx.cells (by omega)
      have ce := cell_ext kr (hc k hlt)
      have i0 : (0 : Int) ≤ (k : Int) := by omega
      have i1 : (k : Int) < (L : Int) + (L : Int) := by omega
      have ka : Ext wr (wr.alloc (.cells #[.slice (AX k) (LL k) (CX k)] 34)) := (Ext.refl wr).alloc _
      have xa1 := one_at wr (.slice (AX k) (LL k) (CX k)) 34
      have kV := kr.trans ka
      have HPB := Lib.hid ((HQ.out.els k hlt).ext kV)
      have z0 := cell_ext kV x0
      have z1 := cell_ext kV x1
      have z2 := cell_ext kV x2
      have z3 := cell_ext kV x3
      have HRV := Lib.hid (HRG.out.ext kV)
      have hb := HPB.out.2.1
      clear hc x0 x1 x2 x3
      go_wp2_with fail
      generalize wr.alloc (.cells #[.slice (AX k) (LL k) (CX k)] 34) = V3 at *
      refine (Level_any r n L q p a e (AX k) (LL k) (CX k) (BX k) (SS k) (DX k) (FF k) V3 HRV.out HPB).mono ?_
      rintro e5 V4 ⟨⟨hE, rfl⟩ | ⟨hE, rfl⟩, k4⟩
      case inr =>
        have HE := Lib.hid hE
        have KZ := Lib.hid ((k0.trans kV).trans k4)
        clear hE kV k4 ka k0 kr z0 z1 z2 z3
        go_wp2
        go_ret
        exact Tells.no (fun h => HE.out (HGD.out.1 h k hlt).1) KZ.out
      have HE := Lib.hid hE
      replace z0 := cell_ext k4 z0
      replace z1 := cell_ext k4 z1
      replace z2 := cell_ext k4 z2
      replace z3 := cell_ext k4 z3
      have kz := kV.trans k4
      clear hE k4 ka kV
      go_wp2_with fail
      refine (top_any (n : Int) (T : Int) Wd A L c V4 (by omega)).mono ?_
      rintro e6 V5 ⟨rfl, k5⟩
      replace kz := kz.trans k5
      clear k5 z0 z1 z2 z3 kr
      by_cases hs : LL k = L
      · have b0 : (((LL k : Int) - 1) != ((L : Int) - 1)) = false := by simp; omega
        have HS := Lib.hid hs
        clear hs
        go_wp2
        go_roundw
        case rel => exact ⟨k + 1, by omega, by go_num, fun j hj => by
          rcases Nat.lt_or_ge j k with g | g
          · exact HEL.out j g
          · have : j = k := by omega
            subst this
            exact ⟨HE.out, HS.out⟩, kz⟩
        case measure => simp [intOf]; omega
      · have b0 : (((LL k : Int) - 1) != ((L : Int) - 1)) = true := by simp; omega
        have HS := Lib.hid hs
        have KZ := Lib.hid (k0.trans kz)
        clear hs kz k0
        go_wp2
        go_ret
        exact Tells.no (fun h => HS.out (HGD.out.1 h k hlt).2) KZ.out
    · obtain rfl : k = L + L := by omega
      have KZ := Lib.hid (k0.trans kr)
      clear kr k0
      go_wp2
      go_ret
      exact Tells.yes (HGD.out.2 fun j hj => HEL.out j hj) KZ.out
set_option maxHeartbeats 4000000 in
theorem right_any {N : Int} {T L c : Nat} {Wd : Int} {A : Option Addr} {q : Nat → Nat} {z : Nat} (nb cb na ca : Nat) (Ab Aa : Option Addr) (Bj Aj : Nat → Option Addr) (Lb xb La xa : Nat → Nat) (Bb Ba : Nat → Nat → Option Addr) (nsb csb nsa csa : Nat → Nat → Nat) (fb fa : Nat → Nat → Nat → Nat) (w : World)
    (hP : Hid (PA w N T A L c Wd q)) (hz : Hid (ErrZ (ParP N T L q Wd) z)) (hN : N ≤ 32) (hL : L ≤ 8) (hT : Tabs w) (hB : QP w Ab nb cb Bj Lb xb Bb nsb csb fb) (hA : QP w Aa na ca Aj La xa Ba nsa csa fa) (hnb : nb ≤ 100) (hna : na ≤ 100) :
    Calls Tryd.prog 6 #[.agg #[.int .i64 N, .int .u64 (T : Int), .slice A L c, .int .i64 Wd], .agg #[.slice Ab nb cb, .slice Aa na ca]] w (Tells w (RightP N T L q Wd nb na Lb La nsb nsa fb fa)) := by
  by_cases hall : ParP N T L q Wd ∧ nb = L ∧ na = L
  · obtain ⟨hp, rfl, rfl⟩ := hall
    exact right_main cb ca Ab Aa Bj Aj Lb xb La xa Bb Ba nsb csb nsa csa fb fa w hP (Lib.hid hp) hN hL hT hB hA
  have HALL := Lib.hid hall
  clear hall
  have HT := Lib.hid hT
  have HB := Lib.hid hB
  have HA := Lib.hid hA
  clear hT hB hA
  have hn0 := hP.out.n0
  have hn1 := hP.out.n1
  have ht1 := hP.out.t1
  obtain ⟨x0, x1, x2, x3⟩ := four_at w (.int .i64 N) (.int .u64 (T : Int)) (.slice A L c) (.int .i64 Wd) 25
  have k0 : Ext w ((w.alloc (.cells #[.int .i64 N, .int .u64 (T : Int), .slice A L c, .int .i64 Wd] 25)).alloc (.cells #[.slice Ab nb cb, .slice Aa na ca] 28)) := ((Ext.refl w).alloc _).alloc _
  have ka : Ext (w.alloc (.cells #[.int .i64 N, .int .u64 (T : Int), .slice A L c, .int .i64 Wd] 25)) ((w.alloc (.cells #[.int .i64 N, .int .u64 (T : Int), .slice A L c, .int .i64 Wd] 25)).alloc (.cells #[.slice Ab nb cb, .slice Aa na ca] 28)) := (Ext.refl _).alloc _
  have y0 := two_at0 (w.alloc (.cells #[.int .i64 N, .int .u64 (T : Int), .slice A L c, .int .i64 Wd] 25)) (.slice Ab nb cb) (.slice Aa na ca) 28
  have y1 := two_at1 (w.alloc (.cells #[.int .i64 N, .int .u64 (T : Int), .slice A L c, .int .i64 Wd] 25)) (.slice Ab nb cb) (.slice Aa na ca) 28
  rw [show (w.alloc (.cells #[.int .i64 N, .int .u64 (T : Int), .slice A L c, .int .i64 Wd] 25)).heap.size = w.heap.size + 1 by simp] at y0 y1
  replace x0 := cell_ext ka x0
  replace x1 := cell_ext ka x1
  replace x2 := cell_ext ka x2
  replace x3 := cell_ext ka x3
  clear ka
  go_enter Tryd.func6, Tryd.ntmps6
  go_wp2_with fail
  generalize (w.alloc (.cells #[.int .i64 N, .int .u64 (T : Int), .slice A L c, .int .i64 Wd] 25)).alloc (.cells #[.slice Ab nb cb, .slice Aa na ca] 28) = V0 at *
  refine (checkZ (z := z) (hP.out.ext k0) (by omega) (HT.out.ext k0) hz).mono ?_
  rintro e V ⟨rfl, k1⟩
  replace x0 := cell_ext k1 x0
  replace x1 := cell_ext k1 x1
  replace x2 := cell_ext k1 x2
  replace x3 := cell_ext k1 x3
  replace y0 := cell_ext k1 y0
  replace y1 := cell_ext k1 y1
  replace k0 := k0.trans k1
  clear k1
  rcases hz.out with ⟨hp, rfl⟩ | ⟨hp, rfl⟩
  case inr =>
    have HP := Lib.hid hp
    clear hp hz
    go_wp2
    go_ret
    exact Tells.no (fun h => HP.out h.1) k0
  have HP := Lib.hid hp
  clear hp hz
  by_cases hb : nb = L
  case neg =>
    have b0 : ((nb : Int) != (L : Int)) = true := by simp; omega
    have HBN := Lib.hid hb
    clear hb
    go_wp2
    go_ret
    exact Tells.no (fun h => HBN.out h.2.1) k0
  by_cases ha : na = L
  case neg =>
    subst hb
    have b0 : ((na : Int) != (nb : Int)) = true := by simp; omega
    have HBN := Lib.hid ha
    clear ha
    go_wp2
    go_ret
    exact Tells.no (fun h => HBN.out h.2.2.1) k0
  exact absurd ⟨HP.out, hb, ha⟩ HALL.out
end Go.Proofs.YtbpehdfpiembfaaDoor

/-
  Which switches may be, by the document.
-/
namespace Go.Proofs.YtbpehdfpiembfaaDoor
open Go.RowKit
set_option linter.unusedVariables false
set_option maxRecDepth 100000

/-- Lists that the laws speak of. -/
def FewL (m : Nat) (Lj : Nat → Nat) (ns : Nat → Nat → Nat) : Prop := ∀ j, j < m → Lj j ≤ 10 ∧ ∀ i, i < Lj j → ns j i ≤ 40
set_option maxHeartbeats 8000000 in
theorem refRight_main {N : Int} {T L c : Nat} {Wd : Int} {A : Option Addr} {q : Nat → Nat} (cb ca : Nat) (Ab Aa : Option Addr) (Bj Aj : Nat → Option Addr) (Lb xb La xa : Nat → Nat) (Bb Ba : Nat → Nat → Option Addr) (nsb csb nsa csa : Nat → Nat → Nat) (fb fa : Nat → Nat → Nat → Nat) (w : World)
    (hP : Hid (PA w N T A L c Wd q)) (hok : Hid (ParP N T L q Wd)) (hN : N ≤ 32) (hL : L ≤ 8) (hB : QP w Ab L cb Bj Lb xb Bb nsb csb fb) (hA : QP w Aa L ca Aj La xa Ba nsa csa fa) (hfb : Hid (FewL L Lb nsb)) (hfa : Hid (FewL L La nsa)) :
    Calls Tryd.prog 7 #[.agg #[.int .i64 N, .int .u64 (T : Int), .slice A L c, .int .i64 Wd], .agg #[.slice Ab L cb, .slice Aa L ca]] w (Tells w (RightP N T L q Wd L L Lb La nsb nsa fb fa)) := by
  obtain ⟨hrow, hn8, hL1, hL8⟩ := par_rowY hok.out hN
  clear hrow
  obtain ⟨n, rfl⟩ := Int.eq_ofNat_of_zero_le (show 0 ≤ N by omega)
  have HNN := Lib.hid (Int.toNat_natCast n)
  have HB := Lib.hid hB
  have HA := Lib.hid hA
  clear hB hA
  have hn0 := hP.out.n0
  have hn1 := hP.out.n1
  have ht1 := hP.out.t1
  obtain ⟨x0, x1, x2, x3⟩ := four_at w (.int .i64 (n : Int)) (.int .u64 (T : Int)) (.slice A L c) (.int .i64 Wd) 25
  have k0 : Ext w ((w.alloc (.cells #[.int .i64 (n : Int), .int .u64 (T : Int), .slice A L c, .int .i64 Wd] 25)).alloc (.cells #[.slice Ab L cb, .slice Aa L ca] 28)) := ((Ext.refl w).alloc _).alloc _
  have ka : Ext (w.alloc (.cells #[.int .i64 (n : Int), .int .u64 (T : Int), .slice A L c, .int .i64 Wd] 25)) ((w.alloc (.cells #[.int .i64 (n : Int), .int .u64 (T : Int), .slice A L c, .int .i64 Wd] 25)).alloc (.cells #[.slice Ab L cb, .slice Aa L ca] 28)) := (Ext.refl _).alloc _
  have y0 := two_at0 (w.alloc (.cells #[.int .i64 (n : Int), .int .u64 (T : Int), .slice A L c, .int .i64 Wd] 25)) (.slice Ab L cb) (.slice Aa L ca) 28
  have y1 := two_at1 (w.alloc (.cells #[.int .i64 (n : Int), .int .u64 (T : Int), .slice A L c, .int .i64 Wd] 25)) (.slice Ab L cb) (.slice Aa L ca) 28
  rw [show (w.alloc (.cells #[.int .i64 (n : Int), .int .u64 (T : Int), .slice A L c, .int .i64 Wd] 25)).heap.size = w.heap.size + 1 by simp] at y0 y1
  replace x0 := cell_ext ka x0
  replace x1 := cell_ext ka x1
  replace x2 := cell_ext ka x2
  replace x3 := cell_ext ka x3
  clear ka
  have HGB := Lib.hid (show RightP (n : Int) T L q Wd L L Lb La nsb nsa fb fa ↔ ∀ j, j < L → (El n L q (La j) (nsa j) (fa j) ∧ La j = L) ∧ (El n L q (Lb j) (nsb j) (fb j) ∧ Lb j = L) from by
    unfold RightP
    rw [HNN.out]
    exact ⟨fun ⟨_, _, _, h1, h2⟩ j hj => ⟨h2 j hj, h1 j hj⟩, fun h => ⟨hok.out, rfl, rfl, fun j hj => (h j hj).2, fun j hj => (h j hj).1⟩⟩)
  go_enter Tryd.func7, Tryd.ntmps7
  go_wp2_with fail
  generalize ((w.alloc (.cells #[.int .i64 (n : Int), .int .u64 (T : Int), .slice A L c, .int .i64 Wd] 25)).alloc (.cells #[.slice Ab L cb, .slice Aa L ca] 28)) = V0 at *
  refine (rcheckZ (z := 0) (hP.out.ext k0) (by omega) (Lib.hid (.inl ⟨hok.out, rfl⟩))).mono ?_
  rintro e V ⟨rfl, k1⟩
  replace x0 := cell_ext k1 x0
  replace x1 := cell_ext k1 x1
  replace x2 := cell_ext k1 x2
  replace x3 := cell_ext k1 x3
  replace y0 := cell_ext k1 y0
  replace y1 := cell_ext k1 y1
  replace k0 := k0.trans k1
  clear k1
  go_wp2
  go_loopw [32] (fun iv wr => ∃ k : Nat, k ≤ L ∧ iv = .int .i64 (k : Int) ∧ (∀ j, j < k → (El n L q (La j) (nsa j) (fa j) ∧ La j = L) ∧ (El n L q (Lb j) (nsb j) (fb j) ∧ Lb j = L)) ∧ Ext V wr) (fun iv _ => L - (intOf iv).toNat)
  case atStart => exact ⟨0, by omega, rfl, fun j hj => absurd hj (by omega), Ext.refl _⟩
  case round =>
    obtain ⟨k, hk, rfl, hel, kr⟩ := hrel
    have HEL := Lib.hid hel
    clear hel
    by_cases hlt : k < L
    · obtain ⟨ada, rfl, hca⟩ := HA.out.qx.cells (by omega)
      obtain ⟨adb, rfl, hcb⟩ := HB.out.qx.cells (by omega)
      have ea := cell_ext (k0.trans kr) (hca k hlt)
      have eb := cell_ext (k0.trans kr) (hcb k hlt)
      have i0 : (0 : Int) ≤ (k : Int) := by omega
      have i1 : (k : Int) < (L : Int) := by omega
      have z0 := cell_ext kr y0
      have z1 := cell_ext kr y1
      have v0 := cell_ext kr x0
      have v2 := cell_ext kr x2
      have hal : ∀ o, (wr.alloc o).cell? (ada.add k) = some (.slice (Aj k) (La k) (xa k)) := fun o => cell_ext ((Ext.refl wr).alloc o) ea
      have hbl : ∀ o, (wr.alloc o).cell? (adb.add k) = some (.slice (Bj k) (Lb k) (xb k)) := fun o => cell_ext ((Ext.refl wr).alloc o) eb
      clear hca hcb
      go_wp2_with fail
      go_region_held3 (fun w' => w'.cell? ⟨w.heap.size + 1, 0, none⟩ = some (.slice (some adb) L cb) ∧ w'.cell? ⟨w.heap.size + 1, 1, none⟩ = some (.slice (some ada) L ca) ∧ w'.cell? (ada.add k) = some (.slice (Aj k) (La k) (xa k)) ∧ w'.cell? (adb.add k) = some (.slice (Bj k) (Lb k) (xb k))) (go_keep)
        (first
          | fail)
      all_goals
        obtain ⟨W5, hW5⟩ : ∃ W5, W5 = (wr.alloc (.cells #[.slice (Aj k) (La k) (xa k), .slice (Bj k) (Lb k) (xb k)] 34)).drew := ⟨_, rfl⟩
        have kw5 : Ext wr W5 := by rw [hW5]; exact ((Ext.refl wr).alloc _).drew
        have p0 : W5.cell? ⟨wr.heap.size, 0, none⟩ = some (.slice (Aj k) (La k) (xa k)) := by rw [hW5]; exact two_at0 _ _ _ _
        have p1 : W5.cell? ⟨wr.heap.size, 1, none⟩ = some (.slice (Bj k) (Lb k) (xb k)) := by rw [hW5]; exact two_at1 _ _ _ _
        have u0 := cell_ext kw5 v0
        have u2 := cell_ext kw5 v2
        have k05 := (k0.trans kr).trans kw5
        have krw := kr.trans kw5
        rw [← hW5]
        clear hW5 hal hbl z0 z1
        go_wp2
        go_loopw [47] (fun iv wr2 => ∃ i : Nat, i ≤ 2 ∧ iv = .int .i64 (i : Int) ∧ (1 ≤ i → El n L q (La k) (nsa k) (fa k) ∧ La k = L) ∧ (2 ≤ i → El n L q (Lb k) (nsb k) (fb k) ∧ Lb k = L) ∧ Ext W5 wr2) (fun iv _ => 2 - (intOf iv).toNat)
        case atStart => exact ⟨0, by omega, rfl, fun h => absurd h (by omega), fun h => absurd h (by omega), Ext.refl _⟩
        case round =>
          obtain ⟨i, hi, rfl, g0, g1, kr2⟩ := hrel
          have G00 := Lib.hid g0
          have G11 := Lib.hid g1
          clear g0 g1
          rcases (show i = 0 ∨ i = 1 ∨ i = 2 by omega) with rfl | rfl | rfl
          · have k9 : Ext W5 (wr.alloc (.cells #[.slice (Aj k) (La k) (xa k)] 34)) := kr2.trans ((Ext.refl wr).alloc _)
            have cc := cell_ext kr2 p0
            have xa1 := one_at wr (.slice (Aj k) (La k) (xa k)) 34
            have q0 := cell_ext k9 u0
            have q2 := cell_ext k9 u2
            have HPX := Lib.hid (((HA.out.els k hlt).ext (k05.trans k9)).1)
            have hL10 := (hfa.out k hlt).1
            have H40 := Lib.hid (fun i hi => Nat.le_trans ((hfa.out k hlt).2 i hi) (by omega : 40 ≤ 100000))
            by_cases hs : La k = L
            case neg =>
              have b0 : ((La k : Int) != (L : Int)) = true := by simp; omega
              have HS := Lib.hid hs
              have KZ := Lib.hid (k05.trans k9)
              clear hs
              go_wp2
              go_ret
              exact Tells.no (fun h => HS.out ((HGB.out.1 h k hlt).1.2)) KZ.out
            have b0 : ((La k : Int) != (L : Int)) = false := by simp; omega
            have HS := Lib.hid hs
            clear hs
            go_wp2_with fail
            generalize wr.alloc (.cells #[.slice (Aj k) (La k) (xa k)] 34) = W6 at *
            refine (element_any n A L c q (Aj k) (La k) (xa k) (Ba k) (nsa k) (csa k) (fa k) W6 (hP.out.fx.ext (k05.trans k9)) (by omega) HPX.out (by omega) H40).mono ?_
            rintro e6 W7 (⟨hE, rfl, k7⟩ | ⟨hE, rfl, k7⟩)
            case inr =>
              have HE := Lib.hid hE
              have KZ := Lib.hid ((k05.trans k9).trans k7)
              clear hE k7 k9
              go_wp2
              go_ret
              exact Tells.no (fun h => HE.out ((HGB.out.1 h k hlt).1.1)) KZ.out
            have HE := Lib.hid hE
            have k77 := k9.trans k7
            clear hE k7 k9
            go_wp2
            go_roundw
            case rel => exact ⟨1, by omega, by go_num, fun _ => ⟨HE.out, HS.out⟩, fun h => absurd h (by omega), k77⟩
            case measure => simp [intOf]
          · have k9 : Ext W5 (wr.alloc (.cells #[.slice (Bj k) (Lb k) (xb k)] 34)) := kr2.trans ((Ext.refl wr).alloc _)
            have cc := cell_ext kr2 p1
            have xa1 := one_at wr (.slice (Bj k) (Lb k) (xb k)) 34
            have q0 := cell_ext k9 u0
            have q2 := cell_ext k9 u2
            have HPX := Lib.hid (((HB.out.els k hlt).ext (k05.trans k9)).1)
            have hL10 := (hfb.out k hlt).1
            have H40 := Lib.hid (fun i hi => Nat.le_trans ((hfb.out k hlt).2 i hi) (by omega : 40 ≤ 100000))
            by_cases hs : Lb k = L
            case neg =>
              have b0 : ((Lb k : Int) != (L : Int)) = true := by simp; omega
              have HS := Lib.hid hs
              have KZ := Lib.hid (k05.trans k9)
              clear hs
              go_wp2
              go_ret
              exact Tells.no (fun h => HS.out ((HGB.out.1 h k hlt).2.2)) KZ.out
            have b0 : ((Lb k : Int) != (L : Int)) = false := by simp; omega
            have HS := Lib.hid hs
            clear hs
            go_wp2_with fail
            generalize wr.alloc (.cells #[.slice (Bj k) (Lb k) (xb k)] 34) = W6 at *
            refine (element_any n A L c q (Bj k) (Lb k) (xb k) (Bb k) (nsb k) (csb k) (fb k) W6 (hP.out.fx.ext (k05.trans k9)) (by omega) HPX.out (by omega) H40).mono ?_
            rintro e6 W7 (⟨hE, rfl, k7⟩ | ⟨hE, rfl, k7⟩)
            case inr =>
              have HE := Lib.hid hE
              have KZ := Lib.hid ((k05.trans k9).trans k7)
              clear hE k7 k9
              go_wp2
              go_ret
              exact Tells.no (fun h => HE.out ((HGB.out.1 h k hlt).2.1)) KZ.out
            have HE := Lib.hid hE
            have k77 := k9.trans k7
            clear hE k7 k9
            go_wp2
            go_roundw
            case rel => exact ⟨2, by omega, by go_num, fun _ => G00.out (by omega), fun _ => ⟨HE.out, HS.out⟩, k77⟩
            case measure => simp [intOf]
          · have kz := krw.trans kr2
            have G0 := Lib.hid (G00.out (by omega))
            have G1 := Lib.hid (G11.out (by omega))
            clear G00 G11
            go_wp2
            go_roundw
            case rel => exact ⟨k + 1, by omega, by go_num, fun j hj => by
              rcases Nat.lt_or_ge j k with g | g
              · exact HEL.out j g
              · have : j = k := by omega
                subst this
                exact ⟨G0.out, G1.out⟩, kz⟩
            case measure => simp [intOf]; omega
    · obtain rfl : k = L := by omega
      have KZ := Lib.hid (k0.trans kr)
      clear kr k0
      go_wp2
      go_ret
      exact Tells.yes (HGB.out.2 fun j hj => HEL.out j hj) KZ.out
set_option maxHeartbeats 4000000 in
theorem refRight_any {N : Int} {T L c : Nat} {Wd : Int} {A : Option Addr} {q : Nat → Nat} {z : Nat} (nb cb na ca : Nat) (Ab Aa : Option Addr) (Bj Aj : Nat → Option Addr) (Lb xb La xa : Nat → Nat) (Bb Ba : Nat → Nat → Option Addr) (nsb csb nsa csa : Nat → Nat → Nat) (fb fa : Nat → Nat → Nat → Nat) (w : World)
    (hP : Hid (PA w N T A L c Wd q)) (hz : Hid (ErrZ (ParP N T L q Wd) z)) (hN : N ≤ 32) (hL : L ≤ 8) (hB : QP w Ab nb cb Bj Lb xb Bb nsb csb fb) (hA : QP w Aa na ca Aj La xa Ba nsa csa fa) (hnb : nb ≤ 100) (hna : na ≤ 100) (hfb : Hid (FewL nb Lb nsb)) (hfa : Hid (FewL na La nsa)) :
    Calls Tryd.prog 7 #[.agg #[.int .i64 N, .int .u64 (T : Int), .slice A L c, .int .i64 Wd], .agg #[.slice Ab nb cb, .slice Aa na ca]] w (Tells w (RightP N T L q Wd nb na Lb La nsb nsa fb fa)) := by
  by_cases hall : ParP N T L q Wd ∧ nb = L ∧ na = L
  · obtain ⟨hp, rfl, rfl⟩ := hall
    exact refRight_main cb ca Ab Aa Bj Aj Lb xb La xa Bb Ba nsb csb nsa csa fb fa w hP (Lib.hid hp) hN hL hB hA hfb hfa
  have HALL := Lib.hid hall
  clear hall
  have HB := Lib.hid hB
  have HA := Lib.hid hA
  clear hB hA
  have hn0 := hP.out.n0
  have hn1 := hP.out.n1
  have ht1 := hP.out.t1
  obtain ⟨x0, x1, x2, x3⟩ := four_at w (.int .i64 N) (.int .u64 (T : Int)) (.slice A L c) (.int .i64 Wd) 25
  have k0 : Ext w ((w.alloc (.cells #[.int .i64 N, .int .u64 (T : Int), .slice A L c, .int .i64 Wd] 25)).alloc (.cells #[.slice Ab nb cb, .slice Aa na ca] 28)) := ((Ext.refl w).alloc _).alloc _
  have ka : Ext (w.alloc (.cells #[.int .i64 N, .int .u64 (T : Int), .slice A L c, .int .i64 Wd] 25)) ((w.alloc (.cells #[.int .i64 N, .int .u64 (T : Int), .slice A L c, .int .i64 Wd] 25)).alloc (.cells #[.slice Ab nb cb, .slice Aa na ca] 28)) := (Ext.refl _).alloc _
  have y0 := two_at0 (w.alloc (.cells #[.int .i64 N, .int .u64 (T : Int), .slice A L c, .int .i64 Wd] 25)) (.slice Ab nb cb) (.slice Aa na ca) 28
  have y1 := two_at1 (w.alloc (.cells #[.int .i64 N, .int .u64 (T : Int), .slice A L c, .int .i64 Wd] 25)) (.slice Ab nb cb) (.slice Aa na ca) 28
  rw [show (w.alloc (.cells #[.int .i64 N, .int .u64 (T : Int), .slice A L c, .int .i64 Wd] 25)).heap.size = w.heap.size + 1 by simp] at y0 y1
  replace x0 := cell_ext ka x0
  replace x1 := cell_ext ka x1
  replace x2 := cell_ext ka x2
  replace x3 := cell_ext ka x3
  clear ka
  go_enter Tryd.func7, Tryd.ntmps7
  go_wp2_with fail
  generalize (w.alloc (.cells #[.int .i64 N, .int .u64 (T : Int), .slice A L c, .int .i64 Wd] 25)).alloc (.cells #[.slice Ab nb cb, .slice Aa na ca] 28) = V0 at *
  refine (rcheckZ (z := z) (hP.out.ext k0) (by omega) hz).mono ?_
  rintro e V ⟨rfl, k1⟩
  replace x0 := cell_ext k1 x0
  replace x1 := cell_ext k1 x1
  replace x2 := cell_ext k1 x2
  replace x3 := cell_ext k1 x3
  replace y0 := cell_ext k1 y0
  replace y1 := cell_ext k1 y1
  replace k0 := k0.trans k1
  clear k1
  rcases hz.out with ⟨hp, rfl⟩ | ⟨hp, rfl⟩
  case inr =>
    have HP := Lib.hid hp
    clear hp hz
    go_wp2
    go_ret
    exact Tells.no (fun h => HP.out h.1) k0
  have HP := Lib.hid hp
  clear hp hz
  by_cases ha : na = L
  case neg =>
    have b0 : ((na : Int) != (L : Int)) = true := by simp; omega
    have HBN := Lib.hid ha
    clear ha
    go_wp2
    go_ret
    exact Tells.no (fun h => HBN.out h.2.2.1) k0
  by_cases hb : nb = L
  case neg =>
    have b1 : ((na : Int) != (L : Int)) = false := by simp; omega
    have b0 : ((nb : Int) != (L : Int)) = true := by simp; omega
    have HBN := Lib.hid hb
    clear hb ha
    go_wp2
    go_ret
    exact Tells.no (fun h => HBN.out h.2.1) k0
  exact absurd ⟨HP.out, hb, ha⟩ HALL.out
end Go.Proofs.YtbpehdfpiembfaaDoor
