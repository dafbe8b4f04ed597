/-
  The law NatWholes walked.
-/
import Derived.Test.YtcfbemjnkiepdaaRNear
namespace Go.Proofs.Ytcfbemjnkiepdaa
open Go.RowKit
set_option linter.unusedVariables false

/-- What Near answers, told in one way: the same for program and reference. -/
def NearR (w : World) (N : Nat) (bz : Bool) (vs : List Nat) (er : Int) (e : Ending) (w' : World) : Prop :=
  ∃ A n c, e = .returned (.tuple #[.agg #[.bool bz, .slice A n c], .int .i64 er]) ∧ n ≤ N ∧ NX w' A n c vs ∧ Ext w w'
theorem near_told {w w' : World} {N X Y : Nat} {b bz : Bool} {vs : List Nat} {er : Int} {e : Ending} (hb : Hid ((Y = 0 ∧ bz = false ∧ vs = [] ∧ er = 1) ∨ (0 < Y ∧ bz = decide (nearZ b X Y < 0) ∧ vs = nw (nearZ b X Y).natAbs ∧ er = 0))) (h : NearPost w N b X Y e w') : NearR w N bz vs er e w' := by
  rcases h with ⟨h0, rfl, k⟩ | ⟨h0, A, n, c, rfl, hn, hx, k⟩
  · rcases hb.out with ⟨_, rfl, rfl, rfl⟩ | ⟨hh, _⟩
    · exact ⟨none, 0, 0, rfl, Nat.zero_le _, Rd.none_ _ _ _ _ _ _, k⟩
    · omega
  · rcases hb.out with ⟨hh, _⟩ | ⟨_, rfl, rfl, rfl⟩
    · omega
    · exact ⟨A, n, c, rfl, hn, hx, k⟩
theorem near_some (b : Bool) (X Y : Nat) : ∃ bz vs er, Hid ((Y = 0 ∧ bz = false ∧ vs = [] ∧ er = (1 : Int)) ∨ (0 < Y ∧ bz = decide (nearZ b X Y < 0) ∧ vs = nw (nearZ b X Y).natAbs ∧ er = 0)) := by
  rcases Nat.eq_zero_or_pos Y with h | h
  · exact ⟨_, _, _, Lib.hid (.inl ⟨h, rfl, rfl, rfl⟩)⟩
  · exact ⟨_, _, _, Lib.hid (.inr ⟨h, rfl, rfl, rfl⟩)⟩
theorem nearR {A A' : Option Addr} {n n' c c' : Nat} {b bz : Bool} {er : Int} {xs ys vs : List Nat} {w : World} (h : NX w A n c xs) (h' : NX w A' n' c' ys) (hn : n ≤ 40) (hn' : n' ≤ 40) (hb : Hid ((nv ys = 0 ∧ bz = false ∧ vs = [] ∧ er = 1) ∨ (0 < nv ys ∧ bz = decide (nearZ b (nv xs) (nv ys) < 0) ∧ vs = nw (nearZ b (nv xs) (nv ys)).natAbs ∧ er = 0))) :
    Calls Try.prog 50 #[.agg #[.bool b, .slice A n c], .slice A' n' c'] w (NearR w (n + 4) bz vs er) := (nearX h h' (by omega) (by omega)).mono fun e w' hh => near_told hb hh
theorem rnearR {A A' : Option Addr} {n n' c c' : Nat} {b bz : Bool} {er : Int} {xs ys vs : List Nat} {w : World} (h : NX w A n c xs) (h' : NX w A' n' c' ys) (hn : n ≤ 40) (hn' : n' ≤ 40) (hb : Hid ((nv ys = 0 ∧ bz = false ∧ vs = [] ∧ er = 1) ∨ (0 < nv ys ∧ bz = decide (nearZ b (nv xs) (nv ys) < 0) ∧ vs = nw (nearZ b (nv xs) (nv ys)).natAbs ∧ er = 0))) :
    Calls Try.prog 51 #[.agg #[.bool b, .slice A n c], .slice A' n' c'] w (NearR w 100000 bz vs er) := (rnear_any A A' n n' c c' b xs ys w h h' hn hn').mono fun e w' hh => near_told hb hh
theorem sameIntEq {A A' : Option Addr} {n n' c c' : Nat} {b : Bool} {xs : List Nat} {w : World} (h : NX w A n c xs) (h' : NX w A' n' c' xs) (hn : n ≤ 100000) (hn' : n' ≤ 100000) :
    Calls Try.prog 52 #[.agg #[.bool b, .slice A n c], .agg #[.bool b, .slice A' n' c']] w fun e w' => e = .returned (.bool true) ∧ Ext w w' := by
  have := sameIntX (b := b) (b' := b) h h' hn hn'
  rwa [show decide (b = b ∧ xs = xs) = true by simp] at this

set_option maxHeartbeats 4000000 in
theorem natWholes_walk (f0 f1 : Bool) (A0 A1 : Option Addr) (n0 n1 c0 c1 : Nat) (xs ys : List Nat) (w : World) (h0 : NX w A0 n0 c0 xs) (h1 : NX w A1 n1 c1 ys) :
    Calls Try.prog 11 #[.agg #[.bool f0, .slice A0 n0 c0], .agg #[.bool f1, .slice A1 n1 c1]] w fun e w' => e = .returned (.bool true) ∧ Ext w w' := by
  have HX := Lib.hid (box2 w f0 f1 (.slice A0 n0 c0) (.slice A1 n1 c1) 52)
  obtain ⟨bz, vs, er, HN⟩ := near_some f0 (nv xs) (nv ys)
  go_enter Try.func11, Try.ntmps11
  go_wp2_with fail
  generalize (w.alloc (Obj.cells #[Value.bool f0, Value.slice A0 n0 c0] 52)).alloc (Obj.cells #[Value.bool f1, Value.slice A1 n1 c1] 52) = V at *
  have HB := HX.out
  obtain ⟨xb, xs0, a0, a1, b0, b1, fr⟩ := HX.out
  have hR : NX V A0 n0 c0 xs := (Rd.below h0 xb).more (show w.heap.size ≤ V.heap.size by omega)
  have hR' : NX V A1 n1 c1 ys := (Rd.below h1 xb).more (show w.heap.size ≤ V.heap.size by omega)
  have eV : Ext w V := xb
  refine (fixed2_any V).mono ?_
  rintro e w1 ⟨rfl, k1⟩
  obtain ⟨_, _, a0', a1', b0', b1', _⟩ := HB.keep k1
  by_cases hf : n0 ≤ 30 ∧ n1 ≤ 30
  · go_wp2_with fail
    refine (few2_any w1 A0 A1 n0 n1 c0 c1 _ w1.heap.size rfl true (by simpa using hf)).mono ?_
    rintro e w2 ⟨rfl, k2⟩
    have g2 : Ext V w2 := k1.trans k2
    obtain ⟨_, _, a0'', a1'', b0'', b1'', _⟩ := HB.keep g2
    obtain ⟨hn0, hn1⟩ := hf
    go_wp2_with fail
    refine (nearR (hR.ext g2) (hR'.ext g2) (by omega) (by omega) HN).mono ?_
    rintro e w3 ⟨A3, n3, c3, rfl, hn3, x3, k3⟩
    have g3 : Ext V w3 := g2.trans k3
    obtain ⟨_, _, a03, a13, b03, b13, _⟩ := HB.keep g3
    have z3 : V.heap.size ≤ w3.heap.size := g3.size
    have m1 : ¬ (w.heap.size = w3.heap.size) := by omega
    have m2 : ¬ (w3.heap.size = w.heap.size) := by omega
    have m3 : ¬ (w.heap.size + 1 = w3.heap.size) := by omega
    have m4 : ¬ (w3.heap.size = w.heap.size + 1) := by omega
    have u0 : (w3.alloc (Obj.cells #[Value.bool bz, Value.slice A3 n3 c3] 52)).cell? ⟨w.heap.size, 0, none⟩ = some (.bool f0) := kept_cell ((Ext.refl w3).alloc _) (show _ < w3.heap.size by omega) a03
    have u1 : (w3.alloc (Obj.cells #[Value.bool bz, Value.slice A3 n3 c3] 52)).cell? ⟨w.heap.size, 1, none⟩ = some (.slice A0 n0 c0) := kept_cell ((Ext.refl w3).alloc _) (show _ < w3.heap.size by omega) a13
    have u2 : (w3.alloc (Obj.cells #[Value.bool bz, Value.slice A3 n3 c3] 52)).cell? ⟨w.heap.size + 1, 0, none⟩ = some (.bool f1) := kept_cell ((Ext.refl w3).alloc _) (show _ < w3.heap.size by omega) b03
    have u3 : (w3.alloc (Obj.cells #[Value.bool bz, Value.slice A3 n3 c3] 52)).cell? ⟨w.heap.size + 1, 1, none⟩ = some (.slice A1 n1 c1) := kept_cell ((Ext.refl w3).alloc _) (show _ < w3.heap.size by omega) b13
    go_wp2_with fail
    have kV3 : Ext w3 (w3.alloc (Obj.cells #[Value.bool bz, Value.slice A3 n3 c3] 52)) := (Ext.refl _).alloc _
    have p0 : (w3.alloc (Obj.cells #[Value.bool bz, Value.slice A3 n3 c3] 52)).cell? ⟨w3.heap.size, 0, none⟩ = some (.bool bz) := by simp
    have p1 : (w3.alloc (Obj.cells #[Value.bool bz, Value.slice A3 n3 c3] 52)).cell? ⟨w3.heap.size, 1, none⟩ = some (.slice A3 n3 c3) := by simp
    have ps : w3.heap.size + 1 ≤ (w3.alloc (Obj.cells #[Value.bool bz, Value.slice A3 n3 c3] 52)).heap.size := by simp
    generalize w3.alloc (Obj.cells #[Value.bool bz, Value.slice A3 n3 c3] 52) = V3 at *
    have gV3 : Ext V V3 := g3.trans kV3
    refine (rnearR (hR.ext gV3) (hR'.ext gV3) (by omega) (by omega) HN).mono ?_
    rintro e w4 ⟨A4, n4, c4, rfl, hn4, x4, k4⟩
    have z4 : V3.heap.size ≤ w4.heap.size := k4.size
    obtain ⟨_, _, a04, a14, b04, b14, _⟩ := HB.keep (gV3.trans k4)
    have v0 : (w4.alloc (Obj.cells #[Value.bool bz, Value.slice A4 n4 c4] 52)).cell? ⟨w.heap.size, 0, none⟩ = some (.bool f0) := kept_cell ((Ext.refl w4).alloc _) (show _ < w4.heap.size by omega) a04
    have v1 : (w4.alloc (Obj.cells #[Value.bool bz, Value.slice A4 n4 c4] 52)).cell? ⟨w.heap.size, 1, none⟩ = some (.slice A0 n0 c0) := kept_cell ((Ext.refl w4).alloc _) (show _ < w4.heap.size by omega) a14
    have v2 : (w4.alloc (Obj.cells #[Value.bool bz, Value.slice A4 n4 c4] 52)).cell? ⟨w.heap.size + 1, 0, none⟩ = some (.bool f1) := kept_cell ((Ext.refl w4).alloc _) (show _ < w4.heap.size by omega) b04
    have v3 : (w4.alloc (Obj.cells #[Value.bool bz, Value.slice A4 n4 c4] 52)).cell? ⟨w.heap.size + 1, 1, none⟩ = some (.slice A1 n1 c1) := kept_cell ((Ext.refl w4).alloc _) (show _ < w4.heap.size by omega) b14
    have m5 : ¬ (w.heap.size = w4.heap.size) := by omega
    have m6 : ¬ (w4.heap.size = w.heap.size) := by omega
    have m7 : ¬ (w.heap.size + 1 = w4.heap.size) := by omega
    have m8 : ¬ (w4.heap.size = w.heap.size + 1) := by omega
    go_wp2_with fail
    have kV4 : Ext w4 (w4.alloc (Obj.cells #[Value.bool bz, Value.slice A4 n4 c4] 52)) := (Ext.refl _).alloc _
    have q0 : (w4.alloc (Obj.cells #[Value.bool bz, Value.slice A4 n4 c4] 52)).cell? ⟨w4.heap.size, 0, none⟩ = some (.bool bz) := by simp
    have q1 : (w4.alloc (Obj.cells #[Value.bool bz, Value.slice A4 n4 c4] 52)).cell? ⟨w4.heap.size, 1, none⟩ = some (.slice A4 n4 c4) := by simp
    have qs : w4.heap.size + 1 ≤ (w4.alloc (Obj.cells #[Value.bool bz, Value.slice A4 n4 c4] 52)).heap.size := by simp
    generalize w4.alloc (Obj.cells #[Value.bool bz, Value.slice A4 n4 c4] 52) = V4 at *
    have gV4 : Ext V V4 := gV3.trans (k4.trans kV4)
    have hK : ∀ W', Ext V4 W' → W'.cell? ⟨w.heap.size, 0, none⟩ = some (.bool f0) ∧ W'.cell? ⟨w.heap.size, 1, none⟩ = some (.slice A0 n0 c0) ∧ W'.cell? ⟨w.heap.size + 1, 0, none⟩ = some (.bool f1) ∧ W'.cell? ⟨w.heap.size + 1, 1, none⟩ = some (.slice A1 n1 c1) ∧ W'.cell? ⟨w3.heap.size, 0, none⟩ = some (.bool bz) ∧ W'.cell? ⟨w3.heap.size, 1, none⟩ = some (.slice A3 n3 c3) ∧ W'.cell? ⟨w4.heap.size, 0, none⟩ = some (.bool bz) ∧ W'.cell? ⟨w4.heap.size, 1, none⟩ = some (.slice A4 n4 c4) := fun W' k =>
      ⟨kept_cell (gV4.trans k) (by omega) a0, kept_cell (gV4.trans k) (by omega) a1, kept_cell (gV4.trans k) (by omega) b0, kept_cell (gV4.trans k) (by omega) b1, kept_cell (k4.trans (kV4.trans k)) (by omega) p0, kept_cell (k4.trans (kV4.trans k)) (by omega) p1, kept_cell k (by omega) q0, kept_cell k (by omega) q1⟩
    have HKH := Lib.hid hK
    obtain ⟨e0, e1, e2, e3, e4, e5, e6, e7⟩ := hK V4 (Ext.refl _)
    clear hK a0 a1 b0 b1 p0 p1 q0 q1 a0' a1' b0' b1' a0'' a1'' b0'' b1'' a03 a13 b03 b13 a04 a14 b04 b14 u0 u1 u2 u3 v0 v1 v2 v3
    have IA : IX V4 f0 A0 n0 c0 (iv f0 (nv xs)) := ⟨xs, hR.ext gV4, rfl⟩
    have IB : IX V4 f1 A1 n1 c1 (iv f1 (nv ys)) := ⟨ys, hR'.ext gV4, rfl⟩
    have y3 := x3.ext (kV3.trans (k4.trans kV4))
    have y4 := x4.ext kV4
    clear x3 x4
    generalize iv f0 (nv xs) = zx at *
    generalize iv f1 (nv ys) = zy at *
    go_region_held3 (fun w' => w'.cell? ⟨w.heap.size, 0, none⟩ = some (.bool f0) ∧ w'.cell? ⟨w.heap.size, 1, none⟩ = some (.slice A0 n0 c0) ∧ w'.cell? ⟨w.heap.size + 1, 0, none⟩ = some (.bool f1) ∧ w'.cell? ⟨w.heap.size + 1, 1, none⟩ = some (.slice A1 n1 c1) ∧ w'.cell? ⟨w3.heap.size, 0, none⟩ = some (.bool bz) ∧ w'.cell? ⟨w3.heap.size, 1, none⟩ = some (.slice A3 n3 c3) ∧ w'.cell? ⟨w4.heap.size, 0, none⟩ = some (.bool bz) ∧ w'.cell? ⟨w4.heap.size, 1, none⟩ = some (.slice A4 n4 c4)) (go_keep)
      (first
        | (go_at_call 53; refine (sumX (IA.ext (Ext.refl V4).drew) (IB.ext (Ext.refl V4).drew) (by omega) (by omega)).mono ?_; rintro e w5 ⟨A5, n5, c5, rfl, hn5, x5, k5'⟩; have k5 : Ext V4 w5 := (Ext.refl V4).drew.trans k5'; obtain ⟨_, _, _, _, _, _, _, _⟩ := HKH.out w5 k5)
        | (go_at_call 54; refine (rsumX' (IA.ext k5) (IB.ext k5) (by omega) (by omega)).mono ?_; rintro e w6 ⟨A6, n6, c6, rfl, hn6, x6, k6'⟩; have k6 : Ext V4 w6 := k5.trans k6'; obtain ⟨_, _, _, _, _, _, _, _⟩ := HKH.out w6 k6)
        | (go_at_call 55; refine (timesX (IA.ext k7) (IB.ext k7) (by omega) (by omega)).mono ?_; rintro e w8 ⟨A8, n8, c8, rfl, hn8, x8, k8'⟩; have k8 : Ext V4 w8 := k7.trans k8'; obtain ⟨_, _, _, _, _, _, _, _⟩ := HKH.out w8 k8)
        | (go_at_call 56; refine (rtimesX' (IA.ext k8) (IB.ext k8) (by omega) (by omega)).mono ?_; rintro e w9 ⟨A9, n9, c9, rfl, hn9, x9, k9'⟩; have k9 : Ext V4 w9 := k8.trans k9'; obtain ⟨_, _, _, _, _, _, _, _⟩ := HKH.out w9 k9)
        | (go_at_call 52; refine (sameIntEq (y3.ext k10) (y4.ext k10) (by omega) (by omega)).mono ?_; rintro e w11 ⟨rfl, k11'⟩; have k11 : Ext V4 w11 := k10.trans k11'; obtain ⟨_, _, _, _, _, _, _, _⟩ := HKH.out w11 k11)
        | (go_at_call 52; refine (sameIntEq (x8.ext k9') x9 (by omega) (by omega)).mono ?_; rintro e w10 ⟨rfl, k10'⟩; have k10 : Ext V4 w10 := k9.trans k10'; obtain ⟨_, _, _, _, _, _, _, _⟩ := HKH.out w10 k10)
        | (go_at_call 52; refine (sameIntEq (x5.ext k6') x6 (by omega) (by omega)).mono ?_; rintro e w7 ⟨rfl, k7'⟩; have k7 : Ext V4 w7 := k6.trans k7'; obtain ⟨_, _, _, _, _, _, _, _⟩ := HKH.out w7 k7))
    go_wp2
    go_ret
    exact ⟨rfl, eV.trans (gV4.trans k11)⟩
  · go_wp2_with fail
    refine (few2_any w1 A0 A1 n0 n1 c0 c1 _ w1.heap.size rfl false (by simpa using hf)).mono ?_
    rintro e w2 ⟨rfl, k2⟩
    go_wp2
    go_ret
    exact ⟨rfl, eV.trans (k1.trans k2)⟩
end Go.Proofs.Ytcfbemjnkiepdaa
