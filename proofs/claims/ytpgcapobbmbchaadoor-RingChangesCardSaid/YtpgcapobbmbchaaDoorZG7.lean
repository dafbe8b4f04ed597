/-
  What the inner calls of the laws of layer 5 answer: few, made; which rings and elements there are by the document.
-/
import Derived.Test.YtpgcapobbmbchaaDoorZG6
namespace Go.Proofs.YtpgcapobbmbchaaDoor
open Go.RowKit
set_option linter.unusedVariables false
set_option maxRecDepth 100000

/-- There is not too much. -/
def FewP (n : Int) (Lp m : Nat) (L : Nat → Nat) (ns : Nat → Nat → Nat) : Prop := n ≤ 32 ∧ Lp ≤ 30 ∧ ∀ j, j < m → L j ≤ 30 ∧ ∀ i, i < L j → ns j i ≤ 100
set_option maxHeartbeats 4000000 in
theorem few5_any (n : Int) (B : Option Addr) (Lp pc : Nat) (E : Option Addr) (m mc : Nat) (A : Nat → Option Addr) (L c : Nat → Nat) (As : Nat → Nat → Option Addr) (ns cs : Nat → Nat → Nat) (w : World) (n0 : -9223372036854775808 ≤ n) (n1 : n < 9223372036854775808) (hLp : Lp ≤ maxLen) (hm : m ≤ 1000)
    (hE : Hid (0 < m → ∃ ad, E = some ad ∧ ∀ j, j < m → w.cell? (ad.add j) = some (.slice (A j) (L j) (c j))))
    (hX : Hid (∀ j, j < m → (0 < L j → ∃ ad, A j = some ad ∧ ∀ i, i < L j → w.cell? (ad.add i) = some (.slice (As j i) (ns j i) (cs j i))) ∧ L j ≤ maxLen ∧ ∀ i, i < L j → ns j i ≤ maxLen)) :
    Calls Tryd.prog 16 #[.int .i64 n, .slice B Lp pc, .slice E m mc] w (Tells w (FewP n Lp m L ns)) := by
  have hmx : maxLen = 9223372036854775807 := rfl
  by_cases g0 : 32 < n
  · have HN := Lib.hid (show ¬ FewP n Lp m L ns from fun h => by have := h.1; omega)
    go_enter Tryd.func16, Tryd.ntmps16
    go_wp2
    go_ret
    exact Tells.no HN.out (Ext.refl _)
  by_cases g1 : 30 < Lp
  · have HN := Lib.hid (show ¬ FewP n Lp m L ns from fun h => by have := h.2.1; omega)
    go_enter Tryd.func16, Tryd.ntmps16
    go_wp2
    go_ret
    exact Tells.no HN.out (Ext.refl _)
  go_enter Tryd.func16, Tryd.ntmps16
  go_wp2
  go_loopw [20] (fun i wr => ∃ k : Nat, k ≤ m ∧ i = .int .i64 (k : Int) ∧ Hid (∀ j, j < k → L j ≤ 30 ∧ ∀ i, i < L j → ns j i ≤ 100) ∧ Ext w wr) (fun i _ => m - (intOf i).toNat)
  case atStart => exact ⟨0, by omega, rfl, Lib.hid fun i hi => by omega, Ext.refl _⟩
  case round =>
    obtain ⟨k, hk, rfl, hno, kr⟩ := hrel
    by_cases hlt : k < m
    · obtain ⟨ad, rfl, hc⟩ := hE.out (by omega)
      have hcell := cell_ext kr (hc k hlt)
      obtain ⟨h1, h2, h3⟩ := hX.out k hlt
      have H1 := Lib.hid h1
      have H3 := Lib.hid h3
      clear hc h1 h3
      by_cases g2 : 30 < L k
      · have HN := Lib.hid (show ¬ FewP n Lp m L ns from fun h => by have := (h.2.2 k hlt).1; omega)
        go_wp2
        go_ret
        exact Tells.no HN.out (kr.alloc _)
      have kV : Ext wr (wr.alloc (.cells #[.slice (A k) (L k) (c k)] 25)) := (Ext.refl wr).alloc _
      go_wp2
      generalize wr.alloc (.cells #[.slice (A k) (L k) (c k)] 25) = V at *
      go_loopw [31] (fun i wz => ∃ j : Nat, j ≤ L k ∧ i = .int .i64 (j : Int) ∧ Hid (∀ i, i < j → ns k i ≤ 100) ∧ wz = V) (fun i _ => L k - (intOf i).toNat)
      case atStart => exact ⟨0, by omega, rfl, Lib.hid fun i hi => by omega, rfl⟩
      case round =>
        obtain ⟨j, hj, rfl, hno2, rfl⟩ := hrel
        by_cases hlt2 : j < L k
        · obtain ⟨ad2, e2, hc2⟩ := H1.out (by omega)
          have hcell2 := cell_ext (kr.trans kV) (hc2 j hlt2)
          have hnl := H3.out j hlt2
          rw [e2]
          clear hc2
          by_cases g3 : 100 < ns k j
          · have HN := Lib.hid (show ¬ FewP n Lp m L ns from fun h => by have := (h.2.2 k hlt).2 j hlt2; omega)
            go_wp2
            go_ret
            exact Tells.no HN.out (kr.trans kV)
          · have HE := Lib.hid (show ∀ i, i < j + 1 → ns k i ≤ 100 from fun i hi => by
              by_cases h : i = j
              · subst h; omega
              · exact hno2.out i (by omega))
            go_wp2
            exact ⟨⟨j + 1, by omega, by go_num, HE, by trivial⟩, by simp [intOf]; omega⟩
        · have HE := Lib.hid (show ∀ i, i < k + 1 → L i ≤ 30 ∧ ∀ l, l < L i → ns i l ≤ 100 from fun i hi => by
            by_cases h : i = k
            · subst h; exact ⟨by omega, fun l hl => hno2.out l (by omega)⟩
            · exact hno.out i (by omega))
          go_wp2
          exact ⟨⟨k + 1, by omega, by go_num, HE, kr.trans kV⟩, by simp [intOf]; omega⟩
    · have HE := Lib.hid (show FewP n Lp m L ns from ⟨by omega, by omega, fun j hj => hno.out j (by omega)⟩)
      go_wp2
      go_ret
      exact Tells.yes HE.out kr
set_option maxHeartbeats 4000000 in
/-- The document's answer: may there be a ring? -/
theorem chk5_any (n : Int) (A : Option Addr) (L c : Nat) (q : Nat → Nat) (w : World) (h0 : -9223372036854775808 ≤ n) (hn1 : n ≤ 32) (hL : L ≤ 100000) (hX : FX w A L c q) (hq : Hid (∀ j, j < L → q j < 18446744073709551616)) :
    Calls Tryd.prog 18 #[.int .i64 n, .slice A L c] w fun ee w' => (RowP n L q ∧ ee = .returned (.int .i64 0) ∨ ¬ RowP n L q ∧ ee = .returned (.int .i64 1)) ∧ Ext w w' := by
  have HX := Lib.hid hX
  clear hX
  by_cases g0 : L = 0
  · subst g0
    have HN := Lib.hid (show ¬ RowP n 0 q from fun h => by have := h.1; omega)
    go_enter Tryd.func18, Tryd.ntmps18
    go_wp2
    go_ret
    exact ⟨.inr ⟨HN.out, rfl⟩, Ext.refl _⟩
  by_cases g1 : 24 < L
  · have HN := Lib.hid (show ¬ RowP n L q from fun h => by have := h.2.1; omega)
    go_enter Tryd.func18, Tryd.ntmps18
    go_wp2
    go_ret
    exact ⟨.inr ⟨HN.out, rfl⟩, Ext.refl _⟩
  go_enter Tryd.func18, Tryd.ntmps18
  go_wp2
  go_loopw [19] (fun i wr => ∃ k : Nat, k ≤ L ∧ i = .int .i64 (k : Int) ∧ Hid (∀ j, j < k → FitP n (q j) ∧ ∀ i, i < j → q i ≠ q j) ∧ Ext w wr) (fun i _ => L - (intOf i).toNat)
  case atStart => exact ⟨0, by omega, rfl, Lib.hid fun i hi => by omega, Ext.refl _⟩
  case round =>
    obtain ⟨k, hk, rfl, hno, kr⟩ := hrel
    by_cases hlt : k < L
    · have hx := HX.out.ext kr
      obtain ⟨ad, rfl, hc⟩ := hx.cells (by omega)
      have hcell := hc k hlt
      have hql := hq.out k hlt
      have hroom := hx.room
      clear hc hx
      go_wp2_with fail
      refine (chk0_any n (q k) wr h0 hn1 hql).mono ?_
      rintro ee w2 ⟨z, hz, rfl, k2⟩
      rcases hz with ⟨rfl, hfit⟩ | ⟨rfl, hfit⟩
      case inr =>
        have HN := Lib.hid (show ¬ RowP n L q from fun h => hfit (h.2.2 k hlt).1)
        clear hfit
        go_wp2
        go_ret
        exact ⟨.inr ⟨HN.out, rfl⟩, kr.trans k2⟩
      have HF := Lib.hid hfit
      clear hfit
      have i0 : (0 : Int) ≤ (k : Int) := by omega
      have i1 : (k : Int) ≤ (L : Int) := by omega
      have i2 : (k : Int) ≤ (c : Int) := by omega
      go_wp2
      go_loopw [32] (fun i wz => ∃ j : Nat, j ≤ k ∧ i = .int .i64 (j : Int) ∧ Hid (∀ i, i < j → q i ≠ q k) ∧ wz = w2) (fun i _ => k - (intOf i).toNat)
      case atStart => exact ⟨0, by omega, rfl, Lib.hid fun i hi => by omega, rfl⟩
      case round =>
        obtain ⟨j, hj, rfl, hno2, rfl⟩ := hrel
        by_cases hlt2 : j < k
        · obtain ⟨ad2, e2, hc2⟩ := (HX.out.ext (kr.trans k2)).cells (by omega)
          have hcell2 := hc2 j (by omega)
          injection e2 with e2
          subst e2
          clear hc2
          by_cases g3 : q j = q k
          · have HN := Lib.hid (show ¬ RowP n L q from fun h => (h.2.2 k hlt).2 j hlt2 g3)
            rw [g3] at hcell2
            clear g3
            generalize q k = qk at *
            go_wp2
            go_ret
            exact ⟨.inr ⟨HN.out, rfl⟩, kr.trans k2⟩
          · have HE := Lib.hid (show ∀ i, i < j + 1 → q i ≠ q k from fun i hi => by
              by_cases h : i = j
              · subst h; exact g3
              · exact hno2.out i (by omega))
            have hne : ((q j : Int) == (q k : Int)) = false := by simp; omega
            clear g3
            go_wp2
            exact ⟨⟨j + 1, by omega, by go_num, HE, by trivial⟩, by simp [intOf]; omega⟩
        · have HE := Lib.hid (show ∀ j, j < k + 1 → FitP n (q j) ∧ ∀ i, i < j → q i ≠ q j from fun i hi => by
            by_cases h : i = k
            · subst h; exact ⟨HF.out, fun l hl => hno2.out l (by omega)⟩
            · exact hno.out i (by omega))
          go_wp2
          exact ⟨⟨k + 1, by omega, by go_num, HE, kr.trans k2⟩, by simp [intOf]; omega⟩
    · have HE := Lib.hid (show RowP n L q from ⟨by omega, by omega, fun j hj => hno.out j (by omega)⟩)
      go_wp2
      go_ret
      exact ⟨.inl ⟨HE.out, rfl⟩, kr⟩
theorem fits_any (A : Option Addr) (N c q : Nat) (n : Int) (f : Nat → Nat) (w : World) (hX : FX w A N c f) (hN : N ≤ 100000) :
    Calls Tryd.prog 66 #[.slice A N c, .int .i64 n, .int .u64 (q : Int)] w (Tells w ((N : Int) = n ∧ ∀ i, i < N → f i < q)) := by
  by_cases g0 : (N : Int) = n
  case neg =>
    have HN := Lib.hid (show ¬ ((N : Int) = n ∧ ∀ i, i < N → f i < q) from fun h => g0 h.1)
    have hne : ((N : Int) != n) = true := by simpa using g0
    clear g0
    go_enter Tryd.func66, Tryd.ntmps66
    go_wp2
    go_ret
    exact Tells.no HN.out (Ext.refl _)
  subst g0
  have hne : ((N : Int) != (N : Int)) = false := by simp
  go_enter Tryd.func66, Tryd.ntmps66
  go_wp2
  go_loop [15] (fun i => ∃ m : Nat, m ≤ N ∧ i = .int .i64 (m : Int) ∧ Hid (∀ i, i < m → f i < q)) (fun i => N - (intOf i).toNat)
  case atStart => exact ⟨0, by omega, rfl, Lib.hid fun i hi => by omega⟩
  case round =>
    obtain ⟨m, hm, rfl, hno⟩ := hrel
    by_cases hlt : m < N
    · obtain ⟨ad, rfl, hc⟩ := hX.cells (by omega)
      have hcell := hc m hlt
      clear hc
      by_cases he : f m < q
      · have HE := Lib.hid (show ∀ i, i < m + 1 → f i < q from fun i hi => by
          by_cases h : i = m
          · rw [h]; exact he
          · exact hno.out i (by omega))
        generalize f m = y at *
        go_wp2
        exact ⟨⟨m + 1, by omega, by go_num, HE⟩, by simp [intOf]; omega⟩
      · have HE := Lib.hid (show ¬ ∀ i, i < N → f i < q from fun h => he (h m hlt))
        generalize f m = y at *
        go_wp2
        go_ret
        exact Tells.no HE.out (Ext.refl _)
    · have HE := Lib.hid (show ∀ i, i < N → f i < q from fun i hi => hno.out i (by omega))
      go_wp2
      go_ret
      exact Tells.yes HE.out (Ext.refl _)
set_option maxHeartbeats 4000000 in
theorem element_any (n : Nat) (B : Option Addr) (M bc : Nat) (q : Nat → Nat) (A : Option Addr) (L c : Nat) (As : Nat → Option Addr) (ns cs : Nat → Nat) (f : Nat → Nat → Nat) (w : World) (hQ : FX w B M bc q) (hM : M ≤ 1000) (hX : PX w A L c As ns cs f) (hL : L ≤ 1000) (hn : Hid (∀ j, j < L → ns j ≤ 100000)) :
    Calls Tryd.prog 20 #[.int .i64 (n : Int), .slice B M bc, .agg #[.slice A L c]] w (Tells w (El n M q L ns f)) := by
  have kV : Ext w (w.alloc (.cells #[.slice A L c] 25)) := (Ext.refl w).alloc _
  have HX := Lib.hid (hX.ext kV)
  have HQ := Lib.hid (hQ.ext kV)
  have x0 : (w.alloc (.cells #[.slice A L c] 25)).cell? ⟨w.heap.size, 0, none⟩ = some (.slice A L c) := one_at _ _ _
  clear hX hQ
  by_cases g0 : L = 0
  · subst g0
    have HE := Lib.hid (show ¬ El n M q 0 ns f from fun h => by have := h.1; omega)
    go_enter Tryd.func20, Tryd.ntmps20
    go_wp2
    go_ret
    exact Tells.no HE.out kV
  by_cases g1 : M < L
  · have HE := Lib.hid (show ¬ El n M q L ns f from fun h => by have := h.2.1; omega)
    go_enter Tryd.func20, Tryd.ntmps20
    go_wp2
    go_ret
    exact Tells.no HE.out kV
  go_enter Tryd.func20, Tryd.ntmps20
  go_wp2
  generalize w.alloc (.cells #[.slice A L c] 25) = V at *
  go_loopw [24] (fun i wr => ∃ m : Nat, m ≤ L ∧ i = .int .i64 (m : Int) ∧ Hid (∀ j, j < m → ns j = n ∧ ∀ i, i < ns j → f j i < q j) ∧ Ext V wr) (fun i _ => L - (intOf i).toNat)
  case atStart => exact ⟨0, by omega, rfl, Lib.hid fun i hi => by omega, Ext.refl V⟩
  case round =>
    obtain ⟨m, hm, rfl, hno, kr⟩ := hrel
    by_cases hlt : m < L
    · obtain ⟨ad, rfl, hc⟩ := (HX.out.ext kr).cells (by omega)
      obtain ⟨ad2, rfl, hc2⟩ := (HQ.out.ext kr).cells (by omega)
      have hcell := hc m hlt
      have hcell2 := hc2 m (by omega)
      have HXm := Lib.hid ((HX.out.ext kr).rows m hlt)
      have hnm := hn.out m hlt
      clear hc hc2
      have i0 : (0 : Int) ≤ (m : Int) := by omega
      have i1 : (m : Int) < (M : Int) := by omega
      go_wp2_with fail
      refine (fits_any (As m) (ns m) (cs m) (q m) (n : Int) (f m) wr HXm.out hnm).mono ?_
      rintro ee w2 (⟨hy, rfl, k2⟩ | ⟨hy, rfl, k2⟩)
      · have HE := Lib.hid (show ∀ j, j < m + 1 → ns j = n ∧ ∀ i, i < ns j → f j i < q j from fun j hj => by
          by_cases h : j = m
          · subst h; exact ⟨by have := hy.1; omega, hy.2⟩
          · exact hno.out j (by omega))
        clear hy
        go_wp2
        exact ⟨⟨m + 1, by omega, by go_num, HE, kr.trans k2⟩, by simp [intOf]; omega⟩
      · have HE := Lib.hid (show ¬ El n M q L ns f from fun h => hy ⟨by have := (h.2.2 m hlt).1; omega, (h.2.2 m hlt).2⟩)
        clear hy
        go_wp2
        go_ret
        exact Tells.no HE.out (kV.trans (kr.trans k2))
    · have HE := Lib.hid (show El n M q L ns f from ⟨by omega, by omega, fun j hj => hno.out j (by omega)⟩)
      go_wp2
      go_ret
      exact Tells.yes HE.out (kV.trans kr)
/-- What made answers. -/
def MadeP (w : World) (P : Prop) (n L : Nat) (q : Nat → Nat) (ee : Ending) (w' : World) : Prop :=
  (P ∧ ∃ (r : Nat) (p : Nat → Nat) (a e : Nat → Nat → Nat), ee = .returned (.tuple #[.pointer (some ⟨r, 0, none⟩), .bool true]) ∧ Rg w' r n L q p a e ∧ Ext w w') ∨ (¬ P ∧ ee = .returned (.tuple #[.pointer none, .bool false]) ∧ Ext w w')
set_option maxHeartbeats 4000000 in
theorem made_any (n : Int) (B : Option Addr) (Lp pc : Nat) (q : Nat → Nat) (E : Option Addr) (m mc : Nat) (A : Nat → Option Addr) (L c : Nat → Nat) (As : Nat → Nat → Option Addr) (ns cs : Nat → Nat → Nat) (w : World) (n0 : -9223372036854775808 ≤ n) (n1 : n < 9223372036854775808) (hLp : Lp ≤ maxLen) (hm : m ≤ 1000)
    (hQ : FX w B Lp pc q) (hq : Hid (∀ j, j < Lp → q j < 18446744073709551616)) (hT : Tabs w)
    (hE : Hid (0 < m → ∃ ad, E = some ad ∧ ∀ j, j < m → w.cell? (ad.add j) = some (.slice (A j) (L j) (c j))))
    (hX : Hid (∀ j, j < m → (0 < L j → ∃ ad, A j = some ad ∧ ∀ i, i < L j → w.cell? (ad.add i) = some (.slice (As j i) (ns j i) (cs j i))) ∧ L j ≤ maxLen ∧ ∀ i, i < L j → ns j i ≤ maxLen)) :
    Calls Tryd.prog 21 #[.int .i64 n, .slice B Lp pc, .slice E m mc] w (MadeP w (FewP n Lp m L ns ∧ RowP n Lp q) n.toNat Lp q) := by
  have HQ := Lib.hid hQ
  have HT := Lib.hid hT
  clear hQ hT
  go_enter Tryd.func21, Tryd.ntmps21
  go_wp2_with fail
  refine (few5_any n B Lp pc E m mc A L c As ns cs w n0 n1 hLp hm hE hX).mono ?_
  rintro ee w1 (⟨hf, rfl, k1⟩ | ⟨hf, rfl, k1⟩)
  case inr =>
    have HF := Lib.hid hf
    clear hf
    go_wp2
    go_ret2
    exact .inr ⟨fun h => HF.out h.1, rfl, k1⟩
  have hn32 := hf.1
  have hL30 := hf.2.1
  have HF := Lib.hid hf
  clear hf
  go_wp2_with fail
  refine (chk5_any n B Lp pc q w1 n0 hn32 (by omega) (HQ.out.ext k1) hq).mono ?_
  rintro ee w2 ⟨⟨hR, rfl⟩ | ⟨hR, rfl⟩, k2⟩
  case inr =>
    have HR := Lib.hid hR
    clear hR
    go_wp2
    go_ret2
    exact .inr ⟨fun h => HR.out h.2, rfl, k1.trans k2⟩
  have HR := Lib.hid hR
  clear hR
  go_wp2_with fail
  refine (ringNew_any n B Lp pc q w2 n0 hn32 (by omega) (HQ.out.ext (k1.trans k2)) hq (HT.out.ext (k1.trans k2))).mono ?_
  rintro ee w3 (⟨h, _⟩ | ⟨_, r, p, a, e, rfl, hRg, k3⟩)
  · exact absurd HR.out h
  have HRG := Lib.hid hRg
  clear hRg
  go_wp2
  go_ret2
  exact .inl ⟨⟨HF.out, HR.out⟩, r, p, a, e, rfl, HRG.out, k1.trans (k2.trans k3)⟩
end Go.Proofs.YtpgcapobbmbchaaDoor

/-
  The law RingMakes walked.
-/
namespace Go.Proofs.YtpgcapobbmbchaaDoor
open Go.RowKit
set_option linter.unusedVariables false
set_option maxRecDepth 100000

/-- One polynomial behind the slice that holds it: what few and made ask of it. -/
theorem one_held {w : World} {x : Nat} {A : Option Addr} {L c : Nat} (hx : w.cell? ⟨x, 0, none⟩ = some (.slice A L c)) : 0 < 1 → ∃ ad, some (⟨x, 0, none⟩ : Addr) = some ad ∧ ∀ j, j < 1 → w.cell? (ad.add j) = some (.slice ((fun _ => A) j) ((fun _ => L) j) ((fun _ => c) j)) := fun _ => ⟨_, rfl, fun j hj => by rw [show j = 0 by omega]; exact hx⟩
theorem one_rows {w w' : World} {A : Option Addr} {L c : Nat} {As : Nat → Option Addr} {ns cs : Nat → Nat} {f : Nat → Nat → Nat} (h : PW w A L c As ns cs f) (k : Ext w w') : ∀ j, j < 1 → (0 < (fun _ => L) j → ∃ ad, (fun _ => A) j = some ad ∧ ∀ i, i < (fun _ => L) j → w'.cell? (ad.add i) = some (.slice ((fun _ => As) j i) ((fun _ => ns) j i) ((fun _ => cs) j i))) ∧ (fun _ => L) j ≤ maxLen ∧ ∀ i, i < (fun _ => L) j → (fun _ => ns) j i ≤ maxLen := fun j _ => ⟨(h.px.ext k).cells, h.len, h.lens⟩
theorem pb_few {w : World} {n : Int} {Lp : Nat} {A : Option Addr} {L c : Nat} {As : Nat → Option Addr} {ns cs : Nat → Nat} {f : Nat → Nat → Nat} (h : PW w A L c As ns cs f) (hL : L ≤ 30) (hn : ∀ i, i < L → ns i ≤ 100) : PB w A L c As ns cs f := ⟨h.px, by omega, fun i hi => by have := hn i hi; omega⟩
set_option maxHeartbeats 4000000 in
theorem ringMakes_walk {n : Int} {B : Option Addr} {Lp pc : Nat} {q : Nat → Nat} {A : Option Addr} {L c : Nat} {As : Nat → Option Addr} {ns cs : Nat → Nat} {f : Nat → Nat → Nat} (w : World) (n0 : -9223372036854775808 ≤ n) (n1 : n < 9223372036854775808) (hQ : FX w B Lp pc q) (hLp : Lp ≤ maxLen) (hq : Hid (∀ j, j < Lp → q j < 18446744073709551616)) (hP : Hid (PW w A L c As ns cs f)) (hT : Tabs w) :
    Calls Tryd.prog 3 #[.int .i64 n, .slice B Lp pc, .agg #[.slice A L c]] w fun e w' => e = .returned (.bool true) ∧ Ext w w' := by
  have HT := Lib.hid hT
  have HQ := Lib.hid hQ
  clear hT hQ
  have ka : Ext w (w.alloc (.cells #[.slice A L c] 25)) := (Ext.refl w).alloc _
  have xa : (w.alloc (.cells #[.slice A L c] 25)).cell? ⟨w.heap.size, 0, none⟩ = some (.slice A L c) := one_at _ _ _
  go_enter Tryd.func3, Tryd.ntmps3
  go_wp2_with fail
  refine (fixed5_any _ (HT.out.ext ka)).mono ?_
  rintro ee w1 ⟨rfl, k1⟩
  have x1 := cell_ext k1 xa
  have e1 := ka.trans k1
  clear k1 ka xa
  go_wp2_with fail
  have kb : Ext w1 (w1.alloc (.cells #[.slice A L c] 25)) := (Ext.refl w1).alloc _
  refine (few5_any n B Lp pc (some ⟨w1.heap.size, 0, none⟩) 1 1 (fun _ => A) (fun _ => L) (fun _ => c) (fun _ => As) (fun _ => ns) (fun _ => cs) _ n0 n1 hLp (by omega) (Lib.hid (one_held (one_at _ _ _))) (Lib.hid (one_rows hP.out (e1.trans kb)))).mono ?_
  rintro ee w2 (⟨hf, rfl, k2⟩ | ⟨hf, rfl, k2⟩)
  case inr =>
    clear hf
    go_wp2
    go_ret
    exact ⟨rfl, e1.trans (kb.trans k2)⟩
  have hn32 := hf.1
  have hL30 := hf.2.1
  have hPl := (hf.2.2 0 (by omega)).1
  have HPB := Lib.hid (pb_few (n := n) (Lp := Lp) hP.out hPl (hf.2.2 0 (by omega)).2)
  have HNS := Lib.hid (hf.2.2 0 (by omega)).2
  clear hf
  have x2 := cell_ext (kb.trans k2) x1
  have e2 := e1.trans (kb.trans k2)
  clear kb k2 x1 e1
  go_wp2_with fail
  refine (ringNew_any n B Lp pc q w2 n0 hn32 (by omega) (HQ.out.ext e2) hq (HT.out.ext e2)).mono ?_
  rintro ee w3 (⟨hR, rfl, k3⟩ | ⟨hR, r, p, a, e, rfl, hRg, k3⟩)
  · have HR := Lib.hid hR
    clear hR
    go_wp2_with fail
    refine (chk5_any n B Lp pc q w3 n0 hn32 (by omega) (HQ.out.ext (e2.trans k3)) hq).mono ?_
    rintro ee w4 ⟨⟨h, _⟩ | ⟨_, rfl⟩, k4⟩
    · exact absurd h HR.out
    go_wp2
    go_ret
    exact ⟨rfl, e2.trans (k3.trans k4)⟩
  have HR := Lib.hid hR
  have HRG := Lib.hid hRg
  have hn2 := (hR.2.2 0 hR.1).1.1
  clear hR hRg
  go_wp2_with fail
  refine (chk5_any n B Lp pc q w3 n0 hn32 (by omega) (HQ.out.ext (e2.trans k3)) hq).mono ?_
  rintro ee w4 ⟨⟨_, rfl⟩ | ⟨h, _⟩, k4⟩
  case inr => exact absurd HR.out h
  have x4 := cell_ext (k3.trans k4) x2
  have e4 := e2.trans (k3.trans k4)
  obtain ⟨N, rfl⟩ := Int.eq_ofNat_of_zero_le (show 0 ≤ n by omega)
  rw [show ((N : Int)).toNat = N by omega] at HRG
  go_wp2_with fail
  refine (Level_any r N Lp q p a e A L c As ns cs f w4 (HRG.out.ext k4) (Lib.hid (HPB.out.ext e4))).mono ?_
  rintro ee w5 ⟨⟨hE, rfl⟩ | ⟨hE, rfl⟩, k5⟩
  · have HE := Lib.hid hE
    clear hE
    have x5 := cell_ext k5 x4
    go_wp2_with fail
    refine (element_any N B Lp pc q A L c As ns cs f w5 (HQ.out.ext (e4.trans k5)) (by omega) (hP.out.px.ext (e4.trans k5)) (by omega) (Lib.hid fun j hj => by have := HNS.out j hj; show ns j ≤ 100000; omega)).mono ?_
    rintro ee w6 (⟨_, rfl, k6⟩ | ⟨h, _⟩)
    case inr => exact absurd HE.out h
    have x6 := cell_ext k6 x5
    go_wp2
    go_ret
    exact ⟨by simp, e4.trans (k5.trans k6)⟩
  · have HE := Lib.hid hE
    clear hE
    have x5 := cell_ext k5 x4
    go_wp2_with fail
    refine (element_any N B Lp pc q A L c As ns cs f w5 (HQ.out.ext (e4.trans k5)) (by omega) (hP.out.px.ext (e4.trans k5)) (by omega) (Lib.hid fun j hj => by have := HNS.out j hj; show ns j ≤ 100000; omega)).mono ?_
    rintro ee w6 (⟨h, _⟩ | ⟨_, rfl, k6⟩)
    · exact absurd h HE.out
    go_wp2
    go_ret
    exact ⟨rfl, e4.trans (k5.trans k6)⟩
end Go.Proofs.YtpgcapobbmbchaaDoor
