/-
  What the lists' functions of package ring make, coefficient by coefficient.
-/
import Derived.Test.YtpgcapobbmbchaaDoorZG1
import Derived.Deep.RegionLaw
namespace Go.Proofs.YtpgcapobbmbchaaDoor
open Go.RowKit
set_option linter.unusedVariables false
set_option maxRecDepth 100000

theorem subS_dif {a b q : Nat} (hq : 0 < q) (hb : b < q) : subS (a : Int) (b : Int) (q : Int) = ((dif a b q : Nat) : Int) := by
  rw [subS_pos (by omega)]
  unfold dif
  rw [Int.natCast_emod, show ((a + q - b : Nat) : Int) = ((a : Int) - (b : Int)) + (q : Int) by omega, Int.add_emod_right]
theorem subM (a b q : Nat) (w : World) (hq0 : 0 < q) (ha : a < q) (hb : b < q) (hq : q < 18446744073709551616) :
    Calls Tryd.prog 113 #[.int .u64 (a : Int), .int .u64 (b : Int), .int .u64 (q : Int)] w fun e w' => ∃ m : Nat, Hid (m = dif a b q) ∧ m < q ∧ e = .returned (.int .u64 (m : Int)) ∧ Ext w w' := by
  have h := sub_any (a : Int) (b : Int) (q : Int) w (by omega) (by omega) (by omega) (by omega) (by omega) (by omega)
  rw [subS_dif hq0 hb] at h
  exact h.mono fun e w' ⟨he, n, hw⟩ => ⟨_, Lib.hid rfl, Nat.mod_lt _ hq0, he, by rw [hw]; exact (Ext.refl w).drewN n⟩
theorem sub0M (b q : Nat) (w : World) (hq0 : 0 < q) (hb : b < q) (hq : q < 18446744073709551616) :
    Calls Tryd.prog 113 #[.int .u64 0, .int .u64 (b : Int), .int .u64 (q : Int)] w fun e w' => ∃ m : Nat, Hid (m = dif 0 b q) ∧ m < q ∧ e = .returned (.int .u64 (m : Int)) ∧ Ext w w' := subM 0 b q w hq0 hq0 hb hq
theorem addM (a b q : Nat) (w : World) (hq0 : 0 < q) (ha : a < q) (hb : b < q) (hq : q < 18446744073709551616) :
    Calls Tryd.prog 112 #[.int .u64 (a : Int), .int .u64 (b : Int), .int .u64 (q : Int)] w fun e w' => ∃ m : Nat, Hid (m = (a + b) % q) ∧ m < q ∧ e = .returned (.int .u64 (m : Int)) ∧ Ext w w' := by
  have h := add_any (a : Int) (b : Int) (q : Int) w (by omega) (by omega) (by omega) (by omega) (by omega) (by omega)
  rw [addS_pos (by omega), ← Int.natCast_add, ← Int.natCast_emod] at h
  exact h.mono fun e w' ⟨he, n, hw⟩ => ⟨_, Lib.hid rfl, Nat.mod_lt _ hq0, he, by rw [hw]; exact (Ext.refl w).drewN n⟩
/-- A number modulo q, as a natural. -/
def lif (v : Int) (q : Nat) : Nat := (v % (q : Int)).toNat
theorem lif_lt {v : Int} {q : Nat} (hq : 0 < q) : lif v q < q := by
  have := Int.emod_lt_of_pos v (show (0 : Int) < (q : Int) by omega)
  have := Int.emod_nonneg v (show (q : Int) ≠ 0 by omega)
  unfold lif; omega
theorem lifS_lif {v : Int} {q : Nat} (hq : 0 < q) : lifS v (q : Int) = ((lif v q : Nat) : Int) := by
  have := Int.emod_nonneg v (show (q : Int) ≠ 0 by omega)
  unfold lifS lif; rw [if_neg (by omega)]; omega
theorem liftM (v : Int) (q : Nat) (w : World) (hq0 : 0 < q) (v0 : -9223372036854775808 ≤ v) (v1 : v < 9223372036854775808) (hq : q < 18446744073709551616) :
    Calls Tryd.prog 116 #[.int .i64 v, .int .u64 (q : Int)] w fun e w' => ∃ m : Nat, Hid (m = lif v q) ∧ m < q ∧ e = .returned (.int .u64 (m : Int)) ∧ Ext w w' := by
  have h := lift_any v (q : Int) w v0 v1 (by omega) (by omega)
  rw [lifS_lif hq0] at h
  exact h.mono fun e w' ⟨he, n, hw⟩ => ⟨_, Lib.hid rfl, lif_lt hq0, he, by rw [hw]; exact (Ext.refl w).drewN n⟩
/-- A slice of numbers, wherever it lies. -/
structure VX (w : World) (A : Option Addr) (n c : Nat) (v : Nat → Int) : Prop where
  room : n ≤ c
  cells : 0 < n → ∃ ad, A = some ad ∧ ∀ j, j < n → w.cell? (ad.add j) = some (.int .i64 (v j))
theorem VX.ext {a b : World} {A : Option Addr} {n c : Nat} {f : Nat → Int} (h : VX a A n c f) (k : Ext a b) : VX b A n c f :=
  ⟨h.room, fun hn => by
    obtain ⟨ad, e, hc⟩ := h.cells hn
    exact ⟨ad, e, fun j hj => cell_ext k (hc j hj)⟩⟩
theorem up_step {n m y : Nat} {X : Nat → Nat} (h : y = X m) : ∀ i, i < n → (if i = m then y else if i < m then X i else 0) = if i < m + 1 then X i else 0 := fun i _ => by
  by_cases h1 : i = m
  · subst h1; rw [if_pos rfl, if_pos (by omega), h]
  · rw [if_neg h1]
    by_cases h2 : i < m
    · rw [if_pos h2, if_pos (by omega)]
    · rw [if_neg h2, if_neg (by omega)]
set_option maxHeartbeats 2000000 in
theorem negated_any (A : Option Addr) (n c q : Nat) (P : Option Addr) (f : Nat → Nat) (w : World) (hX : FX w A n c f) (hn : n ≤ 1000) (hq0 : 0 < q) (hq : q < 18446744073709551616) (hf : Hid (∀ i, i < n → f i < q)) :
    Calls Tryd.prog 73 #[.agg #[.int .u64 (q : Int), .pointer P], .slice A n c] w fun ee w' => ∃ g, ee = .returned (.slice (some ⟨g, 0, none⟩) n n) ∧ UW w' g n (fun i => dif 0 (f i) q) ∧ Ext w w' := by
  have kV : Ext w (w.alloc (.cells #[.int .u64 (q : Int), .pointer P] 93)) := (Ext.refl w).alloc _
  have HX := Lib.hid (hX.ext kV)
  clear hX
  have hmk := make_u64 n (by omega)
  go_enter Tryd.func73, Tryd.ntmps73
  go_wp2
  clear hmk
  have x0 : (w.alloc (.cells #[.int .u64 (q : Int), .pointer P] 93)).cell? ⟨w.heap.size, 0, none⟩ = some (.int .u64 (q : Int)) := by simp
  have hs : (w.alloc (.cells #[.int .u64 (q : Int), .pointer P] 93)).heap.size = w.heap.size + 1 := by simp
  generalize w.alloc (.cells #[.int .u64 (q : Int), .pointer P] 93) = V at *
  have u0 := newU_uw V n
  have kU : Ext V (V.alloc (.cells (newU n) 79)) := (Ext.refl V).alloc _
  rw [hs] at u0
  obtain ⟨g, hg⟩ : ∃ g, g = w.heap.size + 1 := ⟨_, rfl⟩
  rw [← hg] at u0 ⊢
  have hVg : V.heap.size ≤ g := by omega
  clear hg hs
  go_loopw [13] (fun i wr => ∃ m : Nat, m ≤ n ∧ i = .int .i64 (m : Int) ∧ UW wr g n (fun i => if i < m then dif 0 (f i) q else 0) ∧ Ext V wr) (fun i _ => n - (intOf i).toNat)
  case atStart => exact ⟨0, by omega, rfl, u0.congr fun i _ => by rw [if_neg (by omega)], kU⟩
  case round =>
    obtain ⟨m, hm, rfl, hu, kr⟩ := hrel
    clear u0 kU
    by_cases hlt : m < n
    · obtain ⟨ad, rfl, hc⟩ := (HX.out.ext kr).cells (by omega)
      have hcell := hc m hlt
      have hfl := hf.out m hlt
      have x1 := cell_ext kr x0
      clear hc
      have HS := Lib.hid (fun y (h : y = dif 0 (f m) q) => up_step (n := n) (X := fun i => dif 0 (f i) q) h)
      generalize f m = fm at *
      go_wp2_with fail
      refine (sub0M fm q wr hq0 hfl hq).mono ?_
      rintro ee w2 ⟨y, HY, hyl, rfl, k2⟩
      have hu2 := hu.below (B := 0) k2
      have c0 := RW.cell hu2 hlt
      have z0 := RW.frozen hu2 m
      have hsz := RW.lt hu2
      simp only [Nat.lt_irrefl, if_false] at c0
      go_wp2_with fail
      have hu3 := (hu2.set hlt y).congr (HS.out y HY.out)
      have k3 := (kr.trans k2).set (p := ⟨g, m, none⟩) hVg (.int .u64 (y : Int))
      generalize w2.setCell ⟨g, m, none⟩ (.int .u64 (y : Int)) = w3 at *
      clear c0 z0 hu2 hu
      go_wp2
      exact ⟨⟨m + 1, by omega, by go_num, hu3, k3⟩, by simp [intOf]; omega⟩
    · have hfin := hu.congr (f' := fun i => dif 0 (f i) q) fun i hi => by rw [if_pos (by omega)]
      clear hu
      go_wp2
      go_ret
      exact ⟨g, rfl, hfin, kV.trans kr⟩
set_option maxHeartbeats 2000000 in
theorem lifted_any (A : Option Addr) (n c q : Nat) (P : Option Addr) (v : Nat → Int) (w : World) (hX : VX w A n c v) (hn : n ≤ 1000) (hq0 : 0 < q) (hq : q < 18446744073709551616) (hf : Hid (∀ i, i < n → -9223372036854775808 ≤ v i ∧ v i < 9223372036854775808)) :
    Calls Tryd.prog 81 #[.agg #[.int .u64 (q : Int), .pointer P], .slice A n c] w fun ee w' => ∃ g, ee = .returned (.slice (some ⟨g, 0, none⟩) n n) ∧ UW w' g n (fun i => lif (v i) q) ∧ Ext w w' := by
  have kV : Ext w (w.alloc (.cells #[.int .u64 (q : Int), .pointer P] 93)) := (Ext.refl w).alloc _
  have HX := Lib.hid (hX.ext kV)
  clear hX
  have hmk := make_u64 n (by omega)
  go_enter Tryd.func81, Tryd.ntmps81
  go_wp2
  clear hmk
  have x0 : (w.alloc (.cells #[.int .u64 (q : Int), .pointer P] 93)).cell? ⟨w.heap.size, 0, none⟩ = some (.int .u64 (q : Int)) := by simp
  have hs : (w.alloc (.cells #[.int .u64 (q : Int), .pointer P] 93)).heap.size = w.heap.size + 1 := by simp
  generalize w.alloc (.cells #[.int .u64 (q : Int), .pointer P] 93) = V at *
  have u0 := newU_uw V n
  have kU : Ext V (V.alloc (.cells (newU n) 79)) := (Ext.refl V).alloc _
  rw [hs] at u0
  obtain ⟨g, hg⟩ : ∃ g, g = w.heap.size + 1 := ⟨_, rfl⟩
  rw [← hg] at u0 ⊢
  have hVg : V.heap.size ≤ g := by omega
  clear hg hs
  go_loopw [13] (fun i wr => ∃ m : Nat, m ≤ n ∧ i = .int .i64 (m : Int) ∧ UW wr g n (fun i => if i < m then lif (v i) q else 0) ∧ Ext V wr) (fun i _ => n - (intOf i).toNat)
  case atStart => exact ⟨0, by omega, rfl, u0.congr fun i _ => by rw [if_neg (by omega)], kU⟩
  case round =>
    obtain ⟨m, hm, rfl, hu, kr⟩ := hrel
    clear u0 kU
    by_cases hlt : m < n
    · obtain ⟨ad, rfl, hc⟩ := (HX.out.ext kr).cells (by omega)
      have hcell := hc m hlt
      obtain ⟨hfl, hfl2⟩ := hf.out m hlt
      have x1 := cell_ext kr x0
      clear hc
      have HS := Lib.hid (fun y (h : y = lif (v m) q) => up_step (n := n) (X := fun i => lif (v i) q) h)
      generalize v m = fm at *
      go_wp2_with fail
      refine (liftM fm q wr hq0 hfl hfl2 hq).mono ?_
      rintro ee w2 ⟨y, HY, hyl, rfl, k2⟩
      have hu2 := hu.below (B := 0) k2
      have c0 := RW.cell hu2 hlt
      have z0 := RW.frozen hu2 m
      have hsz := RW.lt hu2
      simp only [Nat.lt_irrefl, if_false] at c0
      go_wp2_with fail
      have hu3 := (hu2.set hlt y).congr (HS.out y HY.out)
      have k3 := (kr.trans k2).set (p := ⟨g, m, none⟩) hVg (.int .u64 (y : Int))
      generalize w2.setCell ⟨g, m, none⟩ (.int .u64 (y : Int)) = w3 at *
      clear c0 z0 hu2 hu
      go_wp2
      exact ⟨⟨m + 1, by omega, by go_num, hu3, k3⟩, by simp [intOf]; omega⟩
    · have hfin := hu.congr (f' := fun i => lif (v i) q) fun i hi => by rw [if_pos (by omega)]
      clear hu
      go_wp2
      go_ret
      exact ⟨g, rfl, hfin, kV.trans kr⟩
end Go.Proofs.YtpgcapobbmbchaaDoor

/-
  What the sums and differences of lists make; products; copies.
-/
namespace Go.Proofs.YtpgcapobbmbchaaDoor
open Go.RowKit
set_option linter.unusedVariables false
set_option maxRecDepth 100000

set_option maxHeartbeats 4000000 in
theorem pairedSum_any (A A' : Option Addr) (n c c' q : Nat) (P : Option Addr) (f f' : Nat → Nat) (w : World) (hX : FX w A n c f) (hX' : FX w A' n c' f') (hn : n ≤ 1000) (hq0 : 0 < q) (hq : q < 18446744073709551616) (hf : Hid (∀ i, i < n → f i < q)) (hf' : Hid (∀ i, i < n → f' i < q)) :
    Calls Tryd.prog 111 #[.agg #[.int .u64 (q : Int), .pointer P], .slice A n c, .slice A' n c', .func (.func 112) #[] #[]] w fun ee w' => ∃ g, ee = .returned (.slice (some ⟨g, 0, none⟩) n n) ∧ UW w' g n (fun i => (f i + f' i) % q) ∧ Ext w w' := by
  have kV : Ext w (w.alloc (.cells #[.int .u64 (q : Int), .pointer P] 93)) := (Ext.refl w).alloc _
  have HX := Lib.hid (hX.ext kV)
  have HX' := Lib.hid (hX'.ext kV)
  clear hX hX'
  have hmk := make_u64 n (by omega)
  go_enter Tryd.func111, Tryd.ntmps111
  go_wp2
  clear hmk
  have x0 : (w.alloc (.cells #[.int .u64 (q : Int), .pointer P] 93)).cell? ⟨w.heap.size, 0, none⟩ = some (.int .u64 (q : Int)) := by simp
  have hs : (w.alloc (.cells #[.int .u64 (q : Int), .pointer P] 93)).heap.size = w.heap.size + 1 := by simp
  generalize w.alloc (.cells #[.int .u64 (q : Int), .pointer P] 93) = V at *
  have u0 := newU_uw V n
  have kU : Ext V (V.alloc (.cells (newU n) 79)) := (Ext.refl V).alloc _
  rw [hs] at u0
  obtain ⟨g, hg⟩ : ∃ g, g = w.heap.size + 1 := ⟨_, rfl⟩
  obtain ⟨b, hb⟩ : ∃ b, b = w.heap.size := ⟨_, rfl⟩
  rw [← hg] at u0 ⊢
  rw [← hb] at x0 ⊢
  have hVg : V.heap.size ≤ g := by omega
  have hbg : b ≠ g := by omega
  clear hg hs hb
  go_loopw [17] (fun i wr => ∃ m : Nat, m ≤ n ∧ i = .int .i64 (m : Int) ∧ UW wr g n (fun i => if i < m then (f i + f' i) % q else 0) ∧ Ext V wr) (fun i _ => n - (intOf i).toNat)
  case atStart => exact ⟨0, by omega, rfl, u0.congr fun i _ => by rw [if_neg (by omega)], kU⟩
  case round =>
    obtain ⟨m, hm, rfl, hu, kr⟩ := hrel
    clear u0 kU
    by_cases hlt : m < n
    · obtain ⟨ad, rfl, hc⟩ := (HX.out.ext kr).cells (by omega)
      obtain ⟨ad', rfl, hc'⟩ := (HX'.out.ext kr).cells (by omega)
      have hcell := hc m hlt
      have hcell' := hc' m hlt
      have hfl := hf.out m hlt
      have hfl' := hf'.out m hlt
      have x1 := cell_ext kr x0
      clear hc hc'
      have HS := Lib.hid (fun y (h : y = (f m + f' m) % q) => up_step (n := n) (X := fun i => (f i + f' i) % q) h)
      have c0 := RW.cell hu hlt
      have z0 := RW.frozen hu m
      have hsz := RW.lt hu
      simp only [Nat.lt_irrefl, if_false] at c0
      generalize f m = fm at *
      generalize f' m = gm at *
      have i0 : (0 : Int) ≤ (m : Int) := by omega
      have i1 : (m : Int) < (n : Int) := by omega
      go_wp2_with fail
      go_region_law (first
          | (go_simp; go_at_call 112; refine (addM fm gm q _ hq0 hfl hfl' hq).mono ?_; rintro e2 w5 ⟨y, HM, hlm, rfl, k5⟩; have k5' := (Ext.refl _).drew.trans k5; have d0 := cell_ext k5' c0; have z3 := kept_free k5' hsz z0)
          | fail)
      all_goals
        have hu5 := ((UW.below (B := 0) hu k5').set hlt y).congr (HS.out y HM.out)
        have k3 := (kr.trans k5').set (p := ⟨g, m, none⟩) hVg (.int .u64 (y : Int))
        clear hu c0 z0
        go_wp2
        exact ⟨⟨m + 1, by omega, by go_num, hu5, k3⟩, by simp [intOf]; omega⟩
    · have hfin := hu.congr (f' := fun i => (f i + f' i) % q) fun i hi => by rw [if_pos (by omega)]
      clear hu
      go_wp2
      go_ret
      exact ⟨g, rfl, hfin, kV.trans kr⟩
theorem sum_any (A A' : Option Addr) (n c c' q : Nat) (P : Option Addr) (f f' : Nat → Nat) (w : World) (hX : FX w A n c f) (hX' : FX w A' n c' f') (hn : n ≤ 1000) (hq0 : 0 < q) (hq : q < 18446744073709551616) (hf : Hid (∀ i, i < n → f i < q)) (hf' : Hid (∀ i, i < n → f' i < q)) :
    Calls Tryd.prog 68 #[.agg #[.int .u64 (q : Int), .pointer P], .slice A n c, .slice A' n c'] w fun ee w' => ∃ g, ee = .returned (.slice (some ⟨g, 0, none⟩) n n) ∧ UW w' g n (fun i => (f i + f' i) % q) ∧ Ext w w' := by
  have kV : Ext w (w.alloc (.cells #[.int .u64 (q : Int), .pointer P] 93)) := (Ext.refl w).alloc _
  have HX := Lib.hid (hX.ext kV)
  have HX' := Lib.hid (hX'.ext kV)
  clear hX hX'
  go_enter Tryd.func68, Tryd.ntmps68
  go_wp2_with fail
  refine (pairedSum_any A A' n c c' q P f f' _ HX.out HX'.out hn hq0 hq hf hf').mono ?_
  rintro ee w2 ⟨g, rfl, hu, k2⟩
  go_wp2
  go_ret
  exact ⟨g, rfl, hu, kV.trans k2⟩
set_option maxHeartbeats 4000000 in
theorem pairedDif_any (A A' : Option Addr) (n c c' q : Nat) (P : Option Addr) (f f' : Nat → Nat) (w : World) (hX : FX w A n c f) (hX' : FX w A' n c' f') (hn : n ≤ 1000) (hq0 : 0 < q) (hq : q < 18446744073709551616) (hf : Hid (∀ i, i < n → f i < q)) (hf' : Hid (∀ i, i < n → f' i < q)) :
    Calls Tryd.prog 111 #[.agg #[.int .u64 (q : Int), .pointer P], .slice A n c, .slice A' n c', .func (.func 113) #[] #[]] w fun ee w' => ∃ g, ee = .returned (.slice (some ⟨g, 0, none⟩) n n) ∧ UW w' g n (fun i => dif (f i) (f' i) q) ∧ Ext w w' := by
  have kV : Ext w (w.alloc (.cells #[.int .u64 (q : Int), .pointer P] 93)) := (Ext.refl w).alloc _
  have HX := Lib.hid (hX.ext kV)
  have HX' := Lib.hid (hX'.ext kV)
  clear hX hX'
  have hmk := make_u64 n (by omega)
  go_enter Tryd.func111, Tryd.ntmps111
  go_wp2
  clear hmk
  have x0 : (w.alloc (.cells #[.int .u64 (q : Int), .pointer P] 93)).cell? ⟨w.heap.size, 0, none⟩ = some (.int .u64 (q : Int)) := by simp
  have hs : (w.alloc (.cells #[.int .u64 (q : Int), .pointer P] 93)).heap.size = w.heap.size + 1 := by simp
  generalize w.alloc (.cells #[.int .u64 (q : Int), .pointer P] 93) = V at *
  have u0 := newU_uw V n
  have kU : Ext V (V.alloc (.cells (newU n) 79)) := (Ext.refl V).alloc _
  rw [hs] at u0
  obtain ⟨g, hg⟩ : ∃ g, g = w.heap.size + 1 := ⟨_, rfl⟩
  obtain ⟨b, hb⟩ : ∃ b, b = w.heap.size := ⟨_, rfl⟩
  rw [← hg] at u0 ⊢
  rw [← hb] at x0 ⊢
  have hVg : V.heap.size ≤ g := by omega
  have hbg : b ≠ g := by omega
  clear hg hs hb
  go_loopw [17] (fun i wr => ∃ m : Nat, m ≤ n ∧ i = .int .i64 (m : Int) ∧ UW wr g n (fun i => if i < m then dif (f i) (f' i) q else 0) ∧ Ext V wr) (fun i _ => n - (intOf i).toNat)
  case atStart => exact ⟨0, by omega, rfl, u0.congr fun i _ => by rw [if_neg (by omega)], kU⟩
  case round =>
    obtain ⟨m, hm, rfl, hu, kr⟩ := hrel
    clear u0 kU
    by_cases hlt : m < n
    · obtain ⟨ad, rfl, hc⟩ := (HX.out.ext kr).cells (by omega)
      obtain ⟨ad', rfl, hc'⟩ := (HX'.out.ext kr).cells (by omega)
      have hcell := hc m hlt
      have hcell' := hc' m hlt
      have hfl := hf.out m hlt
      have hfl' := hf'.out m hlt
      have x1 := cell_ext kr x0
      clear hc hc'
      have HS := Lib.hid (fun y (h : y = dif (f m) (f' m) q) => up_step (n := n) (X := fun i => dif (f i) (f' i) q) h)
      have c0 := RW.cell hu hlt
      have z0 := RW.frozen hu m
      have hsz := RW.lt hu
      simp only [Nat.lt_irrefl, if_false] at c0
      generalize f m = fm at *
      generalize f' m = gm at *
      have i0 : (0 : Int) ≤ (m : Int) := by omega
      have i1 : (m : Int) < (n : Int) := by omega
      go_wp2_with fail
      go_region_law (first
          | (go_simp; go_at_call 113; refine (subM fm gm q _ hq0 hfl hfl' hq).mono ?_; rintro e2 w5 ⟨y, HM, hlm, rfl, k5⟩; have k5' := (Ext.refl _).drew.trans k5; have d0 := cell_ext k5' c0; have z3 := kept_free k5' hsz z0)
          | fail)
      all_goals
        have hu5 := ((UW.below (B := 0) hu k5').set hlt y).congr (HS.out y HM.out)
        have k3 := (kr.trans k5').set (p := ⟨g, m, none⟩) hVg (.int .u64 (y : Int))
        clear hu c0 z0
        go_wp2
        exact ⟨⟨m + 1, by omega, by go_num, hu5, k3⟩, by simp [intOf]; omega⟩
    · have hfin := hu.congr (f' := fun i => dif (f i) (f' i) q) fun i hi => by rw [if_pos (by omega)]
      clear hu
      go_wp2
      go_ret
      exact ⟨g, rfl, hfin, kV.trans kr⟩
theorem difference_any (A A' : Option Addr) (n c c' q : Nat) (P : Option Addr) (f f' : Nat → Nat) (w : World) (hX : FX w A n c f) (hX' : FX w A' n c' f') (hn : n ≤ 1000) (hq0 : 0 < q) (hq : q < 18446744073709551616) (hf : Hid (∀ i, i < n → f i < q)) (hf' : Hid (∀ i, i < n → f' i < q)) :
    Calls Tryd.prog 69 #[.agg #[.int .u64 (q : Int), .pointer P], .slice A n c, .slice A' n c'] w fun ee w' => ∃ g, ee = .returned (.slice (some ⟨g, 0, none⟩) n n) ∧ UW w' g n (fun i => dif (f i) (f' i) q) ∧ Ext w w' := by
  have kV : Ext w (w.alloc (.cells #[.int .u64 (q : Int), .pointer P] 93)) := (Ext.refl w).alloc _
  have HX := Lib.hid (hX.ext kV)
  have HX' := Lib.hid (hX'.ext kV)
  clear hX hX'
  go_enter Tryd.func69, Tryd.ntmps69
  go_wp2_with fail
  refine (pairedDif_any A A' n c c' q P f f' _ HX.out HX'.out hn hq0 hq hf hf').mono ?_
  rintro ee w2 ⟨g, rfl, hu, k2⟩
  go_wp2
  go_ret
  exact ⟨g, rfl, hu, kV.trans k2⟩
end Go.Proofs.YtpgcapobbmbchaaDoor

/-
  What Lift, Drop, Neg, Turn, Add, Sub, Mul of package ring answer.
-/
namespace Go.Proofs.YtpgcapobbmbchaaDoor
open Go.RowKit
set_option linter.unusedVariables false
set_option maxRecDepth 100000

/-- What an element is answered as: lists that are made, and no error. -/
def Made (w : World) (n L : Nat) (R : Nat → (Nat → Nat) → Prop) (ee : Ending) (w' : World) : Prop :=
  ∃ (G : Nat) (As : Nat → Option Addr) (cs : Nat → Nat) (F : Nat → Nat → Nat), ee = .returned (.tuple #[.agg #[.slice (some ⟨G, 0, none⟩) L L], .int .i64 0]) ∧ PM w' G L n As cs F ∧ Hid (∀ j, j < L → R j (F j)) ∧ Ext w w'
/-- An error, and no element. -/
def Errs (w : World) (z : Int) (ee : Ending) (w' : World) : Prop := ee = .returned (.tuple #[.agg #[.slice none 0 0], .int .i64 z]) ∧ Ext w w'
theorem ret_cell {w : World} {x : Nat} {t : TypeId} {F : Nat → Value} (h : RW w x t 1 F) (v : Value) : (w.setCell ⟨x, 0, none⟩ v).cell? ⟨x, 0, none⟩ = some v := by
  have := (h.set (show 0 < 1 by omega) v).cell (i := 0) (by omega)
  rwa [if_pos rfl] at this
theorem PM.aside {w : World} {G L n x : Nat} {As : Nat → Option Addr} {cs : Nat → Nat} {F : Nat → Nat → Nat} {F' : Nat → Value} {B : Option Addr} {m k : Nat} (h : PM w G L n As cs F) (h' : RW w x 25 1 F') (hF : F' 0 = .slice B m k) (v : Value) : PM (w.setCell ⟨x, 0, none⟩ v) G L n As cs F :=
  ⟨RW.aside h.row h' (by decide) _ _, fun j hj => (h.lists j hj).aside ((h'.cell (i := 0) (by omega)).trans (by rw [hF])) v⟩
theorem chk_true {w : World} {P : Prop} {ee : Ending} {w' : World} (h : Chk w P ee w') (hp : P) : ee = .returned (.int .i64 0) ∧ Ext w w' := by
  rcases h with ⟨_, h1, h2⟩ | ⟨h, _⟩
  · exact ⟨h1, h2⟩
  · exact absurd hp h
theorem chk_false {w : World} {P : Prop} {ee : Ending} {w' : World} (h : Chk w P ee w') (hp : ¬ P) : ee = .returned (.int .i64 3) ∧ Ext w w' := by
  rcases h with ⟨h, _⟩ | ⟨_, h1, h2⟩
  · exact absurd h hp
  · exact ⟨h1, h2⟩
theorem rcheck0 (r n M : Nat) (q p : Nat → Nat) (a e : Nat → Nat → Nat) (w : World) (hR : Rg w r n M q p a e) :
    Calls Tryd.prog 64 #[.pointer (some ⟨r, 0, none⟩), .slice none 0 0] w fun ee w' => ee = .returned (.int .i64 0) ∧ Ext w w' :=
  (rcheck_any r n M q p a e none 0 0 (fun _ => none) (fun _ => 0) (fun _ => 0) (fun _ _ => none) (fun _ _ => 0) (fun _ _ => 0) (fun _ _ _ => 0) w hR (by omega) (Lib.hid fun h => by omega) (Lib.hid fun j h => by omega)).mono fun ee w' h => chk_true h fun j hj => by omega
/-- A polynomial with bounds on its lengths. -/
def PB (w : World) (A : Option Addr) (L c : Nat) (As : Nat → Option Addr) (ns cs : Nat → Nat) (f : Nat → Nat → Nat) : Prop := PX w A L c As ns cs f ∧ L ≤ 1000000000000000 ∧ ∀ i, i < L → ns i ≤ 1000000000000000
theorem PB.ext {w w' : World} {A : Option Addr} {L c : Nat} {As : Nat → Option Addr} {ns cs : Nat → Nat} {f : Nat → Nat → Nat} (h : PB w A L c As ns cs f) (k : Ext w w') : PB w' A L c As ns cs f := ⟨h.1.ext k, h.2.1, h.2.2⟩
/-- check of one element, behind the slice that holds it. -/
theorem rcheck1 (r n M : Nat) (q p : Nat → Nat) (a e : Nat → Nat → Nat) (A : Option Addr) (L c : Nat) (As : Nat → Option Addr) (ns cs : Nat → Nat) (f : Nat → Nat → Nat) (w : World) (x : Nat) (hx : w.cell? ⟨x, 0, none⟩ = some (.slice A L c)) (hR : Rg w r n M q p a e) (hP : Hid (PB w A L c As ns cs f)) :
    Calls Tryd.prog 64 #[.pointer (some ⟨r, 0, none⟩), .slice (some ⟨x, 0, none⟩) 1 1] w (Chk w (El n M q L ns f)) :=
  (rcheck_any r n M q p a e (some ⟨x, 0, none⟩) 1 1 (fun _ => A) (fun _ => L) (fun _ => c) (fun _ => As) (fun _ => ns) (fun _ => cs) (fun _ => f) w hR (by omega) (Lib.hid fun h => ⟨_, rfl, fun j hj => by rw [show j = 0 by omega]; exact hx⟩) (Lib.hid fun j h => hP.out)).mono fun ee w' h => by
    rcases h with ⟨h, h1, h2⟩ | ⟨h, h1, h2⟩
    · exact .inl ⟨h 0 (by omega), h1, h2⟩
    · exact .inr ⟨fun h' => h fun j hj => h', h1, h2⟩
theorem rcheck2 (r n M : Nat) (q p : Nat → Nat) (a e : Nat → Nat → Nat) (A A' : Option Addr) (L c L' c' : Nat) (As As' : Nat → Option Addr) (ns cs ns' cs' : Nat → Nat) (f f' : Nat → Nat → Nat) (w : World) (x : Nat) (hx : w.cell? ⟨x, 0, none⟩ = some (.slice A L c)) (hx' : w.cell? ⟨x, 1, none⟩ = some (.slice A' L' c')) (hR : Rg w r n M q p a e) (hP : Hid (PB w A L c As ns cs f)) (hP' : Hid (PB w A' L' c' As' ns' cs' f')) :
    Calls Tryd.prog 64 #[.pointer (some ⟨r, 0, none⟩), .slice (some ⟨x, 0, none⟩) 2 2] w (Chk w (El n M q L ns f ∧ El n M q L' ns' f')) :=
  (rcheck_any r n M q p a e (some ⟨x, 0, none⟩) 2 2 (fun j => if j = 0 then A else A') (fun j => if j = 0 then L else L') (fun j => if j = 0 then c else c') (fun j => if j = 0 then As else As') (fun j => if j = 0 then ns else ns') (fun j => if j = 0 then cs else cs') (fun j => if j = 0 then f else f') w hR (by omega) (Lib.hid fun h => ⟨_, rfl, fun j hj => by
      rcases (show j = 0 ∨ j = 1 by omega) with rfl | rfl
      · exact hx
      · exact hx'⟩) (Lib.hid fun j h => by
      rcases (show j = 0 ∨ j = 1 by omega) with rfl | rfl
      · exact hP.out
      · exact hP'.out)).mono fun ee w' h => by
    rcases h with ⟨h, h1, h2⟩ | ⟨h, h1, h2⟩
    · exact .inl ⟨⟨h 0 (by omega), h 1 (by omega)⟩, h1, h2⟩
    · exact .inr ⟨fun h' => h fun j hj => by
        rcases (show j = 0 ∨ j = 1 by omega) with rfl | rfl
        · exact h'.1
        · exact h'.2, h1, h2⟩
theorem lift1_any (b n c q p : Nat) (A : Option Addr) (j : Nat) (v : Nat → Int) (w : World) (hb : w.cell? ⟨b, 0, none⟩ = some (.slice A n c)) (hX : VX w A n c v) (hn : n ≤ 1000) (hq0 : 0 < q) (hq : q < 18446744073709551616) (hf : Hid (∀ i, i < n → -9223372036854775808 ≤ v i ∧ v i < 9223372036854775808)) :
    Calls Tryd.prog 80 (#[.agg #[.int .u64 (q : Int), .pointer (some ⟨p, 0, none⟩)], .int .i64 (j : Int)] ++ #[.pointer (some ⟨b, 0, none⟩)]) w fun ee w' => ∃ (A2 : Option Addr) (c2 : Nat) (F : Nat → Nat), ee = .returned (.slice A2 n c2) ∧ FX w' A2 n c2 F ∧ Hid (F = fun i => lif (v i) q) ∧ Ext w w' := by
  have kV : Ext w (w.alloc (.cells #[.int .u64 (q : Int), .pointer (some ⟨p, 0, none⟩)] 93)) := (Ext.refl w).alloc _
  have HX := Lib.hid (hX.ext kV)
  have x1 := cell_ext kV hb
  have hbl : b < w.heap.size := World.block_lt_of_cell? _ _ hb
  clear hX
  rw [show (#[Value.agg #[.int .u64 (q : Int), .pointer (some ⟨p, 0, none⟩)], .int .i64 (j : Int)] ++ #[.pointer (some ⟨b, 0, none⟩)] : Array Value) = #[.agg #[.int .u64 (q : Int), .pointer (some ⟨p, 0, none⟩)], .int .i64 (j : Int), .pointer (some ⟨b, 0, none⟩)] from rfl]
  go_enter Tryd.func80, Tryd.ntmps80
  go_wp2_with fail
  refine (lifted_any A n c q (some ⟨p, 0, none⟩) v _ HX.out hn hq0 hq hf).mono ?_
  rintro ee w2 ⟨g, rfl, hu, k2⟩
  go_wp2
  go_ret
  exact ⟨_, _, _, rfl, UW.fx hu, Lib.hid rfl, kV.trans k2⟩
theorem rLift_nil (A : Option Addr) (N c : Nat) (k : Int) (w : World) (k0 : -9223372036854775808 ≤ k) (k1 : k < 9223372036854775808) :
    Calls Tryd.prog 36 #[.pointer none, .slice A N c, .int .i64 k] w (Errs w 1) := by
  go_enter Tryd.func36, Tryd.ntmps36
  go_wp2_with fail
  refine (rcheck_nil _ _ _ _).mono ?_
  rintro ee w' ⟨rfl, rfl⟩
  go_wp2
  exact bodyPost_ret (v := .tuple #[.agg #[.slice none 0 0], .int .i64 1]) (by simp [results, Tryd.results36, go_sem]) rfl ⟨rfl, ((Ext.refl w).alloc _).alloc _⟩
set_option maxHeartbeats 4000000 in
theorem rLift_level (r n M : Nat) (q p : Nat → Nat) (a e : Nat → Nat → Nat) (A : Option Addr) (N c : Nat) (k : Int) (w : World) (hR : Rg w r n M q p a e) (k0 : -9223372036854775808 ≤ k) (k1 : k < 9223372036854775808) (hk : k < 0 ∨ (M : Int) ≤ k) :
    Calls Tryd.prog 36 #[.pointer (some ⟨r, 0, none⟩), .slice A N c, .int .i64 k] w (Errs w 10) := by
  have HR := Lib.hid hR
  clear hR
  go_enter Tryd.func36, Tryd.ntmps36
  go_wp2_with fail
  have kV : Ext w ((w.alloc (.cells #[.slice A N c] 50)).alloc (.cells #[.slice none 0 0] 25)) := ((Ext.refl w).alloc _).alloc _
  have hr0 : RW ((w.alloc (.cells #[.slice A N c] 50)).alloc (.cells #[.slice none 0 0] 25)) (w.alloc (.cells #[.slice A N c] 50)).heap.size 25 1 (fun _ => .slice none 0 0) := heap_alloc_new _ _
  rw [show (w.alloc (.cells #[.slice A N c] 50)).heap.size = w.heap.size + 1 by simp] at hr0
  refine (rcheck0 r n M q p a e _ (HR.out.ext kV)).mono ?_
  rintro ee w2 ⟨rfl, k2⟩
  have hr2 := hr0.ext k2
  have kw := kV.trans k2
  obtain ⟨gf, t1, _⟩ := (HR.out.ext kw).ex
  have c0 := hr2.cell (i := 0) (by omega)
  have z0 := hr2.frozen 0
  have hsz := hr2.lt
  by_cases h : k < 0
  · go_wp2_with fail
    have d0 := ret_cell hr2 (.slice none 0 0)
    have d1 := kw.set (p := ⟨w.heap.size + 1, 0, none⟩) (by show w.heap.size ≤ w.heap.size + 1; omega) (.slice none 0 0)
    generalize w2.setCell ⟨w.heap.size + 1, 0, none⟩ (.slice none 0 0) = w5 at *
    exact bodyPost_ret (v := .tuple #[.agg #[.slice none 0 0], .int .i64 10]) (by simp [results, Tryd.results36, go_sem, d0]) rfl ⟨rfl, d1⟩
  · have hk2 : (M : Int) ≤ k := by omega
    go_wp2_with fail
    have d0 := ret_cell hr2 (.slice none 0 0)
    have d1 := kw.set (p := ⟨w.heap.size + 1, 0, none⟩) (by show w.heap.size ≤ w.heap.size + 1; omega) (.slice none 0 0)
    generalize w2.setCell ⟨w.heap.size + 1, 0, none⟩ (.slice none 0 0) = w5 at *
    exact bodyPost_ret (v := .tuple #[.agg #[.slice none 0 0], .int .i64 10]) (by simp [results, Tryd.results36, go_sem, d0]) rfl ⟨rfl, d1⟩
set_option maxHeartbeats 4000000 in
theorem rLift_form (r n M : Nat) (q p : Nat → Nat) (a e : Nat → Nat → Nat) (A : Option Addr) (N c : Nat) (k : Nat) (w : World) (hR : Rg w r n M q p a e) (hk : k < M) (hN : N ≠ n) (hNl : N ≤ 1000000000000000) :
    Calls Tryd.prog 36 #[.pointer (some ⟨r, 0, none⟩), .slice A N c, .int .i64 (k : Int)] w (Errs w 3) := by
  have HR := Lib.hid hR
  have hl1 := hR.l1
  clear hR
  go_enter Tryd.func36, Tryd.ntmps36
  go_wp2_with fail
  have kV : Ext w ((w.alloc (.cells #[.slice A N c] 50)).alloc (.cells #[.slice none 0 0] 25)) := ((Ext.refl w).alloc _).alloc _
  have hr0 : RW ((w.alloc (.cells #[.slice A N c] 50)).alloc (.cells #[.slice none 0 0] 25)) (w.alloc (.cells #[.slice A N c] 50)).heap.size 25 1 (fun _ => .slice none 0 0) := heap_alloc_new _ _
  rw [show (w.alloc (.cells #[.slice A N c] 50)).heap.size = w.heap.size + 1 by simp] at hr0
  have hb : ((w.alloc (.cells #[.slice A N c] 50)).alloc (.cells #[.slice none 0 0] 25)).cell? ⟨w.heap.size, 0, none⟩ = some (.slice A N c) := by simp
  refine (rcheck0 r n M q p a e _ (HR.out.ext kV)).mono ?_
  rintro ee w2 ⟨rfl, k2⟩
  have hr2 := hr0.ext k2
  have kw := kV.trans k2
  have hb2 := cell_ext k2 hb
  obtain ⟨gf, t1, _⟩ := (HR.out.ext kw).ex
  have t0 := (HR.out.ext kw).size
  have hne : ((N : Int) != (n : Int)) = true := by simp; omega
  have c0 := hr2.cell (i := 0) (by omega)
  have z0 := hr2.frozen 0
  have hsz := hr2.lt
  have i1 : (k : Int) < (M : Int) := by omega
  have HX := Lib.hid (show ∀ (d : Nat) (v : Value), ((w2.drewN d).setCell ⟨w.heap.size + 1, 0, none⟩ v).cell? ⟨w.heap.size + 1, 0, none⟩ = some v ∧ Ext w ((w2.drewN d).setCell ⟨w.heap.size + 1, 0, none⟩ v) from fun d v => ⟨ret_cell (hr2.ext ((Ext.refl w2).drewN d)) v, (kw.drewN d).set (p := ⟨w.heap.size + 1, 0, none⟩) (by show w.heap.size ≤ w.heap.size + 1; omega) v⟩)
  go_wp2_with fail
  go_quiet (fail)
  go_wp2
  exact bodyPost_ret (v := .tuple #[.agg #[.slice none 0 0], .int .i64 3]) (by simp [results, Tryd.results36, go_sem, (HX.out _ _).1]) rfl ⟨rfl, (HX.out _ _).2⟩
set_option maxHeartbeats 4000000 in
theorem rLift_any (r n M : Nat) (q p : Nat → Nat) (a e : Nat → Nat → Nat) (A : Option Addr) (c : Nat) (k : Nat) (v : Nat → Int) (w : World) (hR : Rg w r n M q p a e) (hk : k < M) (hX : VX w A n c v) (hf : Hid (∀ i, i < n → -9223372036854775808 ≤ v i ∧ v i < 9223372036854775808)) :
    Calls Tryd.prog 36 #[.pointer (some ⟨r, 0, none⟩), .slice A n c, .int .i64 (k : Int)] w (Made w n (k + 1) (fun j F => F = fun i => lif (v i) (q j))) := by
  have HR := Lib.hid hR
  have HV := Lib.hid hX
  have hl1 := hR.l1
  have hn1 := hR.n1
  clear hR hX
  go_enter Tryd.func36, Tryd.ntmps36
  go_wp2_with fail
  have kV : Ext w ((w.alloc (.cells #[.slice A n c] 50)).alloc (.cells #[.slice none 0 0] 25)) := ((Ext.refl w).alloc _).alloc _
  have hr0 : RW ((w.alloc (.cells #[.slice A n c] 50)).alloc (.cells #[.slice none 0 0] 25)) (w.alloc (.cells #[.slice A n c] 50)).heap.size 25 1 (fun _ => .slice none 0 0) := heap_alloc_new _ _
  rw [show (w.alloc (.cells #[.slice A n c] 50)).heap.size = w.heap.size + 1 by simp] at hr0
  have hb : ((w.alloc (.cells #[.slice A n c] 50)).alloc (.cells #[.slice none 0 0] 25)).cell? ⟨w.heap.size, 0, none⟩ = some (.slice A n c) := by simp
  refine (rcheck0 r n M q p a e _ (HR.out.ext kV)).mono ?_
  rintro ee w2 ⟨rfl, k2⟩
  have hr2 := hr0.ext k2
  have kw := kV.trans k2
  have hb2 := cell_ext k2 hb
  obtain ⟨gf, t1, _⟩ := (HR.out.ext kw).ex
  have t0 := (HR.out.ext kw).size
  have hne : ((n : Int) != (n : Int)) = false := by simp
  have i1 : (k : Int) < (M : Int) := by omega
  have HB := Lib.hid hb2
  go_wp2_with fail
  go_quiet (fail)
  go_wp2_with fail
  refine (byPrime_any _ _ r n M k q p a e (fun j F => F = fun i => lif (v i) (q j)) _ (HR.out.ext (kw.drewN _)) hk (Lib.hid Tryd.call80) (Lib.hid fun j w1 hj k1 => ?_)).mono ?_
  · have hq := HR.out.ql j (by omega)
    exact lift1_any w.heap.size n c (q j) (p j) A j v w1 (cell_ext (((Ext.refl w2).drewN _).trans k1) HB.out) (HV.out.ext ((kw.drewN _).trans k1)) (by omega) (by omega) (by omega) hf
  rintro ee w3 ⟨G, As, cs, F, rfl, hpm, hF, k3⟩
  have k3' := ((Ext.refl w2).drewN _).trans k3
  have hr3 := hr2.ext k3'
  have c0 := hr3.cell (i := 0) (by omega)
  have z0 := hr3.frozen 0
  have hsz := hr3.lt
  go_wp2_with fail
  have d0 := ret_cell hr3 (.slice (some ⟨G, 0, none⟩) (k + 1) (k + 1))
  have d1 := (kw.trans k3').set (p := ⟨w.heap.size + 1, 0, none⟩) (by show w.heap.size ≤ w.heap.size + 1; omega) (.slice (some ⟨G, 0, none⟩) (k + 1) (k + 1))
  have d2 := hpm.aside hr3 rfl (.slice (some ⟨G, 0, none⟩) (k + 1) (k + 1))
  generalize w3.setCell ⟨w.heap.size + 1, 0, none⟩ (.slice (some ⟨G, 0, none⟩) (k + 1) (k + 1)) = w5 at *
  exact bodyPost_ret (v := .tuple #[.agg #[.slice (some ⟨G, 0, none⟩) (k + 1) (k + 1)], .int .i64 0]) (by simp [results, Tryd.results36, go_sem, d0]) rfl ⟨G, As, cs, F, rfl, d2, hF, d1⟩
end Go.Proofs.YtpgcapobbmbchaaDoor
