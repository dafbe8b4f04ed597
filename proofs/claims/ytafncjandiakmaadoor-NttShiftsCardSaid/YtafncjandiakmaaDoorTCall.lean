/-
  What the calls of package ntt answer: Values, Back, Mul, of lists that fit; of a nil table.
-/
import Derived.Test.YtafncjandiakmaaDoorTVals
namespace Go.Proofs.YtafncjandiakmaaDoor
open Go.RowKit
set_option linter.unusedVariables false

set_option maxHeartbeats 1000000 in
theorem takes_yes (B p n q : Nat) (a e : Nat → Nat) (gp ge : Nat) (A : Option Addr) (c : Nat) (f : Nat → Nat) (w : World) (hT : Tb w B p n q a e gp ge) (hX : FX w A n c f) (hn : n ≤ 100000) (hq : q < 18446744073709551616) (hf : Hid (∀ i, i < n → f i < q)) :
    Calls Tryd.prog 44 #[.pointer (some ⟨p, 0, none⟩), .slice A n c] w fun ee w' => ee = .returned (.bool true) ∧ w = w' := by
  have t0 := hT.size
  have t1 := hT.prime
  go_enter Tryd.func44, Tryd.ntmps44
  go_wp2
  go_loop [16] (fun i => ∃ m : Nat, m ≤ n ∧ i = .int .i64 (m : Int)) (fun i => n - (intOf i).toNat)
  case atStart => exact ⟨0, by omega, rfl⟩
  case round =>
    obtain ⟨m, hm, rfl⟩ := hrel
    by_cases hlt : m < n
    · obtain ⟨ad, rfl, hc⟩ := hX.cells (by omega)
      have hcell := hc m hlt
      have hl := hf.out m hlt
      clear hc
      generalize f m = x at *
      go_wp2
      exact ⟨⟨m + 1, by omega, by go_num⟩, by simp [intOf]; omega⟩
    · go_wp2
      go_ret
      exact ⟨rfl, rfl⟩
set_option maxHeartbeats 1000000 in
theorem check_yes (B p n q g m : Nat) (a e : Nat → Nat) (gp ge : Nat) (A : Nat → Option Addr) (c : Nat → Nat) (f : Nat → Nat → Nat) (w : World) (hT : Tb w B p n q a e gp ge) (hm : m ≤ 1000) (hn0 : 0 < n) (hn : n ≤ 100000) (hq : q < 18446744073709551616)
    (hX : Hid (∀ j, j < m → w.cell? ⟨g, j, none⟩ = some (.slice (A j) n (c j)) ∧ FX w (A j) n (c j) (f j) ∧ ∀ i, i < n → f j i < q)) :
    Calls Tryd.prog 28 #[.pointer (some ⟨p, 0, none⟩), .slice (some ⟨g, 0, none⟩) m m] w fun ee w' => ee = .returned (.int .i64 0) ∧ w = w' := by
  have t0 := hT.size
  have HT := Lib.hid hT
  clear hT
  have hz : ((n : Int) == 0) = false := by simp; omega
  go_enter Tryd.func28, Tryd.ntmps28
  go_wp2
  go_loop [18] (fun i => ∃ k : Nat, k ≤ m ∧ i = .int .i64 (k : Int)) (fun i => m - (intOf i).toNat)
  case atStart => exact ⟨0, by omega, rfl⟩
  case round =>
    obtain ⟨k, hk, rfl⟩ := hrel
    by_cases hlt : k < m
    · obtain ⟨h1, h2, h3⟩ := hX.out k hlt
      have H3 := Lib.hid h3
      clear h3
      go_wp2_with fail
      refine (takes_yes B p n q a e gp ge (A k) (c k) (f k) w HT.out h2 hn hq H3).mono ?_
      rintro ee w' ⟨rfl, rfl⟩
      go_wp2
      exact ⟨⟨k + 1, by omega, by go_num⟩, by simp [intOf]; omega⟩
    · go_wp2
      go_ret
      exact ⟨rfl, rfl⟩
theorem check_nil (g : Option Addr) (m c : Nat) (w : World) :
    Calls Tryd.prog 28 #[.pointer none, .slice g m c] w fun ee w' => ee = .returned (.int .i64 1) ∧ w = w' := by
  go_enter Tryd.func28, Tryd.ntmps28
  go_wp2
  go_ret
  exact ⟨rfl, rfl⟩
/-- What a table that New made gives: its memory, its root and the ends. -/
structure Table (w : World) (p n q k r v : Nat) : Prop where
  ex : ∃ (a e : Nat → Nat) (gp ge : Nat), Tb w w.heap.size p n q a e gp ge ∧ Good n q k r v a ∧ Ends n q v e
theorem Table.ext {w w' : World} {p n q k r v : Nat} (h : Table w p n q k r v) (k1 : Ext w w') : Table w' p n q k r v := by
  obtain ⟨a, e, gp, ge, h1, h2, h3⟩ := h.ex
  exact ⟨a, e, gp, ge, h1.ext k1, h2, h3⟩
/-- The slice that holds one list, or two, behind the table. -/
theorem one_list {w : World} {A : Option Addr} {n c q : Nat} {f : Nat → Nat} (hX : FX w A n c f) (hf : ∀ i, i < n → f i < q) :
    ∀ j, j < 1 → (w.alloc (.cells #[.slice A n c] 23)).cell? ⟨w.heap.size, j, none⟩ = some (.slice A n c) ∧ FX (w.alloc (.cells #[.slice A n c] 23)) A n c f ∧ ∀ i, i < n → f i < q := fun j hj => by
  obtain rfl : j = 0 := by omega
  exact ⟨by simp, hX.ext ((Ext.refl w).alloc _), hf⟩
set_option maxHeartbeats 1000000 in
theorem values_any (p n q k r v : Nat) (A : Option Addr) (c : Nat) (f : Nat → Nat) (w : World) (hT : Table w p n q k r v) (hX : FX w A n c f) (hf : Hid (∀ i, i < n → f i < q)) :
    Calls Tryd.prog 13 #[.pointer (some ⟨p, 0, none⟩), .slice A n c] w fun ee w' => ∃ (g : Nat) (F : Nat → Nat), ee = .returned (.tuple #[.slice (some ⟨g, 0, none⟩) n n, .int .i64 0]) ∧ UW w' g n F ∧ Hid (∀ i, i < n → F i < q ∧ M (q : Int) (F i : Int) (vals (r : Int) n (fun j => (f j : Int)) i)) ∧ Ext w w' := by
  obtain ⟨a, e, gp, ge, h1, h2, h3⟩ := hT.ex
  have hn2 := two_le h2.k0 h2.k9
  rw [← h2.nk] at hn2
  obtain ⟨hn0, hn1⟩ := hn2
  have hq1 := h2.q1
  have H2 := Lib.hid h2
  have HT := Lib.hid h1
  have HX := Lib.hid hX
  have H1 := Lib.hid (one_list hX hf.out)
  clear h1 h2 h3 hT hX
  go_enter Tryd.func13, Tryd.ntmps13
  go_wp2_with fail
  have kV : Ext w (w.alloc (.cells #[.slice A n c] 23)) := (Ext.refl w).alloc _
  refine (check_yes _ p n q w.heap.size 1 a e gp ge (fun _ => A) (fun _ => c) (fun _ => f) _ (HT.out.ext kV) (by omega) (by omega) (by omega) (by omega) H1).mono ?_
  rintro ee w' ⟨rfl, rfl⟩
  go_wp2_with fail
  refine (values_in p n q k r v a e gp ge A c f _ (HT.out.ext kV) H2 (HX.out.ext kV) hf).mono ?_
  rintro ee w2 ⟨F, rfl, hu, hF, k2⟩
  rw [show (w.alloc (.cells #[.slice A n c] 23)).heap.size = w.heap.size + 1 by simp] at hu
  go_wp2
  go_ret2
  exact ⟨_, F, rfl, hu, hF, kV.trans k2⟩
set_option maxHeartbeats 1000000 in
theorem back_any (p n q k r v : Nat) (A : Option Addr) (c : Nat) (f : Nat → Nat) (w : World) (hT : Table w p n q k r v) (hX : FX w A n c f) (hf : Hid (∀ i, i < n → f i < q)) :
    Calls Tryd.prog 14 #[.pointer (some ⟨p, 0, none⟩), .slice A n c] w fun ee w' => ∃ (g : Nat) (F : Nat → Nat), ee = .returned (.tuple #[.slice (some ⟨g, 0, none⟩) n n, .int .i64 0]) ∧ UW w' g n F ∧ Hid (∀ i, i < n → F i < q ∧ M (q : Int) ((n : Int) * (F i : Int)) (back (v : Int) n (fun j => (f j : Int)) i)) ∧ Ext w w' := by
  obtain ⟨a, e, gp, ge, h1, h2, h3⟩ := hT.ex
  have hn2 := two_le h2.k0 h2.k9
  rw [← h2.nk] at hn2
  obtain ⟨hn0, hn1⟩ := hn2
  have hq1 := h2.q1
  have H2 := Lib.hid h2
  have H3 := Lib.hid h3
  have HT := Lib.hid h1
  have HX := Lib.hid hX
  have H1 := Lib.hid (one_list hX hf.out)
  clear h1 h2 h3 hT hX
  go_enter Tryd.func14, Tryd.ntmps14
  go_wp2_with fail
  have kV : Ext w (w.alloc (.cells #[.slice A n c] 23)) := (Ext.refl w).alloc _
  refine (check_yes _ p n q w.heap.size 1 a e gp ge (fun _ => A) (fun _ => c) (fun _ => f) _ (HT.out.ext kV) (by omega) (by omega) (by omega) (by omega) H1).mono ?_
  rintro ee w' ⟨rfl, rfl⟩
  go_wp2_with fail
  refine (coefficients_in p n q k r v a e gp ge A c f _ (HT.out.ext kV) H2 H3 (HX.out.ext kV) hf).mono ?_
  rintro ee w2 ⟨F, rfl, hu, hF, k2⟩
  rw [show (w.alloc (.cells #[.slice A n c] 23)).heap.size = w.heap.size + 1 by simp] at hu
  go_wp2
  go_ret2
  exact ⟨_, F, rfl, hu, hF, kV.trans k2⟩
theorem valuesNil_any (A : Option Addr) (n c : Nat) (w : World) : Calls Tryd.prog 13 #[.pointer none, .slice A n c] w fun ee w' => ee = .returned (.tuple #[.slice none 0 0, .int .i64 1]) ∧ Ext w w' := by
  go_enter Tryd.func13, Tryd.ntmps13
  go_wp2_with fail
  refine (check_nil _ _ _ _).mono ?_
  rintro ee w' ⟨rfl, rfl⟩
  go_wp2
  go_ret2
  exact ⟨rfl, (Ext.refl w).alloc _⟩
theorem backNil_any (A : Option Addr) (n c : Nat) (w : World) : Calls Tryd.prog 14 #[.pointer none, .slice A n c] w fun ee w' => ee = .returned (.tuple #[.slice none 0 0, .int .i64 1]) ∧ Ext w w' := by
  go_enter Tryd.func14, Tryd.ntmps14
  go_wp2_with fail
  refine (check_nil _ _ _ _).mono ?_
  rintro ee w' ⟨rfl, rfl⟩
  go_wp2
  go_ret2
  exact ⟨rfl, (Ext.refl w).alloc _⟩
theorem mulNil_any (A A' : Option Addr) (n c n' c' : Nat) (w : World) : Calls Tryd.prog 18 #[.pointer none, .slice A n c, .slice A' n' c'] w fun ee w' => ee = .returned (.tuple #[.slice none 0 0, .int .i64 1]) ∧ Ext w w' := by
  go_enter Tryd.func18, Tryd.ntmps18
  go_wp2_with fail
  refine (check_nil _ _ _ _).mono ?_
  rintro ee w' ⟨rfl, rfl⟩
  go_wp2
  go_ret2
  exact ⟨rfl, (Ext.refl w).alloc _⟩
theorem two_lists {w : World} {A A' : Option Addr} {n c c' q : Nat} {f f' : Nat → Nat} (hX : FX w A n c f) (hf : ∀ i, i < n → f i < q) (hX' : FX w A' n c' f') (hf' : ∀ i, i < n → f' i < q) :
    ∀ j, j < 2 → (w.alloc (.cells #[.slice A n c, .slice A' n c'] 23)).cell? ⟨w.heap.size, j, none⟩ = some (.slice (if j = 0 then A else A') n (if j = 0 then c else c')) ∧ FX (w.alloc (.cells #[.slice A n c, .slice A' n c'] 23)) (if j = 0 then A else A') n (if j = 0 then c else c') (if j = 0 then f else f') ∧ ∀ i, i < n → (if j = 0 then f else f') i < q := fun j hj => by
  rcases (show j = 0 ∨ j = 1 by omega) with rfl | rfl
  · exact ⟨by simp, hX.ext ((Ext.refl w).alloc _), hf⟩
  · exact ⟨by simp, hX'.ext ((Ext.refl w).alloc _), hf'⟩
theorem mul_m (x b q : Nat) (w : World) (hq0 : 0 < q) (hq : q ≤ 2305843009213693952) (hb : b < q) (hx : x < q) :
    Calls Tryd.prog 33 #[.int .u64 (x : Int), .int .u64 (b : Int), .int .u64 (q : Int)] w fun e w' => ∃ m : Nat, Hid (m = x * b % q) ∧ m < q ∧ e = .returned (.int .u64 (m : Int)) ∧ Ext w w' :=
  (mulN x b q w hq0 (by omega) (by omega) (by omega)).mono fun e w' ⟨he, hw⟩ => ⟨_, Lib.hid rfl, Nat.mod_lt _ hq0, he, hw⟩
set_option maxHeartbeats 4000000 in
theorem mulT_any (p n q k r v : Nat) (A A' : Option Addr) (c c' : Nat) (f f' : Nat → Nat) (w : World) (hT : Table w p n q k r v) (hX : FX w A n c f) (hf : Hid (∀ i, i < n → f i < q)) (hX' : FX w A' n c' f') (hf' : Hid (∀ i, i < n → f' i < q)) :
    Calls Tryd.prog 18 #[.pointer (some ⟨p, 0, none⟩), .slice A n c, .slice A' n c'] w fun ee w' => ∃ (g : Nat) (F : Nat → Nat), ee = .returned (.tuple #[.slice (some ⟨g, 0, none⟩) n n, .int .i64 0]) ∧ UW w' g n F ∧ Hid (∀ i, i < n → F i < q ∧ M (q : Int) ((n : Int) * (F i : Int)) (back (v : Int) n (fun j => vals (r : Int) n (fun j => (f j : Int)) j * vals (r : Int) n (fun j => (f' j : Int)) j) i)) ∧ Ext w w' := by
  obtain ⟨a, e, gp, ge, h1, h2, h3⟩ := hT.ex
  have hn2 := two_le h2.k0 h2.k9
  rw [← h2.nk] at hn2
  obtain ⟨hn0, hn1⟩ := hn2
  have hq1 := h2.q1
  have hq0 := h2.q0
  have H2 := Lib.hid h2
  have H3 := Lib.hid h3
  have HT := Lib.hid h1
  have HX := Lib.hid hX
  have HX' := Lib.hid hX'
  have H1 := Lib.hid (two_lists hX hf.out hX' hf'.out)
  clear h1 h2 h3 hT hX hX'
  go_enter Tryd.func18, Tryd.ntmps18
  go_wp2_with fail
  have kV : Ext w (w.alloc (.cells #[.slice A n c, .slice A' n c'] 23)) := (Ext.refl w).alloc _
  refine (check_yes _ p n q w.heap.size 2 a e gp ge (fun j => if j = 0 then A else A') (fun j => if j = 0 then c else c') (fun j => if j = 0 then f else f') _ (HT.out.ext kV) (by omega) (by omega) (by omega) (by omega) H1).mono ?_
  rintro ee w' ⟨rfl, rfl⟩
  clear H1
  go_wp2_with fail
  refine (values_in p n q k r v a e gp ge A c f _ (HT.out.ext kV) H2 (HX.out.ext kV) hf).mono ?_
  rintro ee w2 ⟨F, rfl, hu, hF, k2⟩
  rw [show (w.alloc (.cells #[.slice A n c, .slice A' n c'] 23)).heap.size = w.heap.size + 1 by simp] at hu
  have kw2 := kV.trans k2
  clear kV k2
  go_wp2_with fail
  refine (values_in p n q k r v a e gp ge A' c' f' _ (HT.out.ext kw2) H2 (HX'.out.ext kw2) hf').mono ?_
  rintro ee w3 ⟨G, rfl, hv, hG, k3⟩
  have hgs := RW.lt hu
  have hu3 := hu.below (B := 0) k3
  have kw3 := kw2.trans k3
  have hvs := RW.lt hv
  have hne : w2.heap.size ≠ w.heap.size + 1 := by omega
  clear hu kw2 k3
  obtain ⟨g1, hg1⟩ : ∃ g1, g1 = w.heap.size + 1 := ⟨_, rfl⟩
  obtain ⟨g2, hg2⟩ : ∃ g2, g2 = w2.heap.size := ⟨_, rfl⟩
  rw [← hg1] at hu3 hgs hne ⊢
  rw [← hg2] at hv hvs hne hgs ⊢
  have hg1w : w.heap.size ≤ g1 := by omega
  have hg2w : w.heap.size ≤ g2 := by omega
  clear hg1 hg2
  go_wp2_with fail
  go_loopw [27] (fun i wr => ∃ m : Nat, m ≤ n ∧ i = .int .i64 (m : Int) ∧ UW wr g1 n (fun i => if i < m then F i * G i % q else F i) ∧ UW wr g2 n G ∧ Ext w wr) (fun i _ => n - (intOf i).toNat)
  case atStart => exact ⟨0, by omega, rfl, hu3.congr fun i _ => by rw [if_neg (by omega)], hv, kw3⟩
  case round =>
    obtain ⟨m, hm, rfl, hu4, hv4, kr⟩ := hrel
    clear hu3 hv kw3
    have hsz := RW.lt hu4
    by_cases hlt : m < n
    · have t1 := (HT.out.ext kr).prime
      have hp := (HT.out).hp
      have hp2 := kr.size
      have f0 := RW.cell hu4 hlt
      have z0 := RW.frozen hu4 m
      have e0 := RW.cell hv4 hlt
      have hFl := (hF.out m hlt).1
      have hGl := (hG.out m hlt).1
      simp only [Nat.lt_irrefl, if_false] at f0
      have HS := Lib.hid (show ∀ i, i < n → (if i = m then F m * G m % q else if i < m then F i * G i % q else F i) = if i < m + 1 then F i * G i % q else F i from fun i _ => by
        by_cases h1 : i = m
        · subst h1; rw [if_pos rfl, if_pos (by omega)]
        · rw [if_neg h1]
          by_cases h2 : i < m
          · rw [if_pos h2, if_pos (by omega)]
          · rw [if_neg h2, if_neg (by omega)])
      generalize F m = Fm at *
      generalize G m = Gm at *
      have i0 : (0 : Int) ≤ (m : Int) := by omega
      have i1 : (m : Int) < (n : Int) := by omega
      have hpg : p ≠ g1 := by omega
      go_wp2_with fail
      go_region_law (first
          | (go_simp; go_at_call 33; refine (mul_m Fm Gm q _ (by omega) hq1 hGl hFl).mono ?_; rintro e2 w5 ⟨y, HM, hlm, rfl, k5⟩; have k5' := (Ext.refl _).drew.trans k5; have d0 := cell_ext k5' f0; have z3 := kept_free k5' hsz z0)
          | fail)
      all_goals
        have hu5 := (UW.below (B := 0) hu4 k5').set hlt y
        have hv5 := UW.below (B := 0) hv4 k5'
        have hv6 : UW (w5.setCell ⟨g1, m, none⟩ (.int .u64 (y : Int))) g2 n G := RW.keep hv5 (Below.heap_setCell _ _ _ _ (fun e => hne e))
        have kr5 := (kr.trans k5').set (p := ⟨g1, m, none⟩) hg1w (.int .u64 (y : Int))
        have hu6 := hu5.congr (f' := fun i => if i < m + 1 then F i * G i % q else F i) fun i hi => by rw [HM.out]; exact HS.out i hi
        clear hu5 hu4 hv4 hv5
        go_wp2
        exact ⟨⟨m + 1, by omega, by go_num, hu6, hv6, kr5⟩, by simp [intOf]; omega⟩
    · obtain rfl : m = n := by omega
      have hfin := hu4.congr (f' := fun i => F i * G i % q) fun i hi => by rw [if_pos hi]
      have HL := Lib.hid (show ∀ i, i < m → F i * G i % q < q from fun i _ => Nat.mod_lt _ (by omega))
      clear hu4 hv4
      go_wp2_with fail
      refine (coefficients_in p m q k r v a e gp ge (some ⟨g1, 0, none⟩) m _ _ (HT.out.ext kr) H2 H3 hfin.fx HL).mono ?_
      rintro ee w6 ⟨R, rfl, hr6, hR, k6⟩
      have HR := Lib.hid (show ∀ i, i < m → R i < q ∧ M (q : Int) ((m : Int) * (R i : Int)) (back (v : Int) m (fun j => vals (r : Int) m (fun j => (f j : Int)) j * vals (r : Int) m (fun j => (f' j : Int)) j) i) from fun i hi => ⟨(hR.out i hi).1, (hR.out i hi).2.trans (S_M fun j hj => M.mul ((M.nat _).trans ((M.of (Int.natCast_mul _ _)).trans ((hF.out j hj).2.mul (hG.out j hj).2))) M.rfl)⟩)
      go_wp2
      go_ret2
      exact ⟨_, R, rfl, hr6, HR, kr.trans k6⟩
end Go.Proofs.YtafncjandiakmaaDoor
