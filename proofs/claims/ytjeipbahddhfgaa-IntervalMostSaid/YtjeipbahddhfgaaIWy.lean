/-
  How a place's span comes: an input's is told, a power's is bent.
-/
import Derived.Test.YtjeipbahddhfgaaIPl
import Derived.Deep.RegionHeld3
namespace Go.Proofs.Ytjeipbahddhfgaa
open Go.RowKit
set_option linter.unusedVariables false
set_option maxRecDepth 100000

set_option maxHeartbeats 1000000 in
theorem way1_any (x : Nd) (As Ad Ab Ah At : Option Addr) (cs cd cb ch ct : Nat) (s t : List Int) (S : Value) (w : World) (hk : Hid (x.k = 1)) :
    Calls Try.prog 52 #[.agg #[.int .i64 x.k, .int .i64 x.a, .int .i64 x.b, .slice As x.sh.length cs, .int .i64 x.lo, .int .i64 x.hi, .int .i64 x.sz, .slice Ad x.da.length cd, .slice Ab x.bi.length cb, .slice Ah s.length ch, .slice At t.length ct, S]] w fun e w' => e = .returned (.func (.func 88) #[.agg #[.int .i64 x.k, .int .i64 x.a, .int .i64 x.b, .slice As x.sh.length cs, .int .i64 x.lo, .int .i64 x.hi, .int .i64 x.sz, .slice Ad x.da.length cd, .slice Ab x.bi.length cb, .slice Ah s.length ch, .slice At t.length ct, S]] #[]) ∧ Ext w w' := by
  obtain ⟨k, a, b, sh, lo, hv, sz, da, bi⟩ := x
  dsimp only at *
  obtain rfl := hk.out
  obtain ⟨y0, y1, y2, y3, y4, y5, y6, y7, y8, y9, y10, y11⟩ := twelve_at w (.int .i64 1) (.int .i64 a) (.int .i64 b) (.slice As sh.length cs) (.int .i64 lo) (.int .i64 hv) (.int .i64 sz) (.slice Ad da.length cd) (.slice Ab bi.length cb) (.slice Ah s.length ch) (.slice At t.length ct) S 77
  go_enter Try.func52, Try.ntmps52
  go_wp2
  go_ret
  exact ⟨rfl, (Ext.refl w).alloc _⟩
set_option maxHeartbeats 1000000 in
theorem way8_any (x : Nd) (As Ad Ab Ah At : Option Addr) (cs cd cb ch ct : Nat) (s t : List Int) (S : Value) (w : World) (hk : Hid (x.k = 8)) :
    Calls Try.prog 52 #[.agg #[.int .i64 x.k, .int .i64 x.a, .int .i64 x.b, .slice As x.sh.length cs, .int .i64 x.lo, .int .i64 x.hi, .int .i64 x.sz, .slice Ad x.da.length cd, .slice Ab x.bi.length cb, .slice Ah s.length ch, .slice At t.length ct, S]] w fun e w' => e = .returned (.func (.func 89) #[.agg #[.int .i64 x.k, .int .i64 x.a, .int .i64 x.b, .slice As x.sh.length cs, .int .i64 x.lo, .int .i64 x.hi, .int .i64 x.sz, .slice Ad x.da.length cd, .slice Ab x.bi.length cb, .slice Ah s.length ch, .slice At t.length ct, S]] #[]) ∧ Ext w w' := by
  obtain ⟨k, a, b, sh, lo, hv, sz, da, bi⟩ := x
  dsimp only at *
  obtain rfl := hk.out
  obtain ⟨y0, y1, y2, y3, y4, y5, y6, y7, y8, y9, y10, y11⟩ := twelve_at w (.int .i64 8) (.int .i64 a) (.int .i64 b) (.slice As sh.length cs) (.int .i64 lo) (.int .i64 hv) (.int .i64 sz) (.slice Ad da.length cd) (.slice Ab bi.length cb) (.slice Ah s.length ch) (.slice At t.length ct) S 77
  go_enter Try.func52, Try.ntmps52
  go_wp2
  go_ret
  exact ⟨rfl, (Ext.refl w).alloc _⟩
set_option maxHeartbeats 1000000 in
theorem way0_any (x : Nd) (As Ad Ab Ah At : Option Addr) (cs cd cb ch ct : Nat) (s t : List Int) (S : Value) (w : World) (hk : Hid (x.k ≠ 1 ∧ x.k ≠ 8)) :
    Calls Try.prog 52 #[.agg #[.int .i64 x.k, .int .i64 x.a, .int .i64 x.b, .slice As x.sh.length cs, .int .i64 x.lo, .int .i64 x.hi, .int .i64 x.sz, .slice Ad x.da.length cd, .slice Ab x.bi.length cb, .slice Ah s.length ch, .slice At t.length ct, S]] w fun e w' => e = .returned (.func (.func 90) #[.agg #[.int .i64 x.k, .int .i64 x.a, .int .i64 x.b, .slice As x.sh.length cs, .int .i64 x.lo, .int .i64 x.hi, .int .i64 x.sz, .slice Ad x.da.length cd, .slice Ab x.bi.length cb, .slice Ah s.length ch, .slice At t.length ct, S]] #[]) ∧ Ext w w' := by
  obtain ⟨n1, n8⟩ := hk.out
  obtain ⟨y0, y1, y2, y3, y4, y5, y6, y7, y8, y9, y10, y11⟩ := twelve_at w (.int .i64 x.k) (.int .i64 x.a) (.int .i64 x.b) (.slice As x.sh.length cs) (.int .i64 x.lo) (.int .i64 x.hi) (.int .i64 x.sz) (.slice Ad x.da.length cd) (.slice Ab x.bi.length cb) (.slice Ah s.length ch) (.slice At t.length ct) S 77
  go_enter Try.func52, Try.ntmps52
  go_wp2
  go_ret
  exact ⟨rfl, (Ext.refl w).alloc _⟩
set_option maxHeartbeats 1000000 in
theorem told_any (x : Nd) (As Ad Ab Ah At : Option Addr) (cs cd cb ch ct : Nat) (s t : List Int) (S : Value) (v : Value) (w : World) :
    Calls Try.prog 88 #[.agg #[.int .i64 x.k, .int .i64 x.a, .int .i64 x.b, .slice As x.sh.length cs, .int .i64 x.lo, .int .i64 x.hi, .int .i64 x.sz, .slice Ad x.da.length cd, .slice Ab x.bi.length cb, .slice Ah s.length ch, .slice At t.length ct, S], v] w fun e w' => e = .returned (.agg #[.int .i64 x.lo, .int .i64 x.hi]) ∧ Ext w w' := by
  obtain ⟨y0, y1, y2, y3, y4, y5, y6, y7, y8, y9, y10, y11⟩ := twelve_at w (.int .i64 x.k) (.int .i64 x.a) (.int .i64 x.b) (.slice As x.sh.length cs) (.int .i64 x.lo) (.int .i64 x.hi) (.int .i64 x.sz) (.slice Ad x.da.length cd) (.slice Ab x.bi.length cb) (.slice Ah s.length ch) (.slice At t.length ct) S 77
  go_enter Try.func88, Try.ntmps88
  go_wp2
  refine bodyPost_ret (v := .agg #[.int .i64 x.lo, .int .i64 x.hi]) (by simp [results, Try.results88, go_sem]) rfl ⟨rfl, ?_⟩
  exact ((Ext.refl w).alloc _).alloc _
/-- The numbers at n whole numbers from v on. -/
def pwsF (da : List Int) (v : Int) (n : Nat) : List Int := (List.range n).map fun (j : Nat) => pwF da (v + j)
/-- Where a power turns, nearly. -/
def turnF (da : List Int) : Int := (-(da.getD 1 0)).tdiv (2 * da.getD 2 0)
/-- What a power's span is asked of. -/
def bendsF (da : List Int) (lo hi : Int) : List Int :=
  [pwF da lo, pwF da hi] ++ (if da.getD 2 0 = 0 then [] else pwsF da (max (turnF da - 1) lo) (min (turnF da + 1) hi - max (turnF da - 1) lo + 1).toNat)
theorem two_atJ0 (w : World) (v u : Value) (t : TypeId) : (w.alloc (.cells #[v, u] t)).cell? ⟨w.heap.size, 0, none⟩ = some v := by simp
theorem two_atJ1 (w : World) (v u : Value) (t : TypeId) : (w.alloc (.cells #[v, u] t)).cell? ⟨w.heap.size, 1, none⟩ = some u := by simp
theorem two_fzJ (w : World) (v u : Value) (t : TypeId) (i : Nat) : (w.alloc (.cells #[v, u] t)).frozen? ⟨w.heap.size, i, none⟩ = false := by simp
theorem own_newJ (w0 : World) (t : TypeId) (size n : Nat) (xs : List Value) (h : xs.length = n * size) (hn : n ≤ maxLen) : (w0.alloc (.cells xs.toArray t)).ownsRow w0.heap.size t size (.slice (some ⟨w0.heap.size, 0, none⟩) n n) n xs :=
  ⟨h, .inr ⟨w0.heap.size, n, xs.toArray, rfl, Nat.le_refl _, heap_alloc_new w0 _, Nat.le_refl _, hn, by simpa using h, by rw [← h]; simp⟩⟩
theorem own_extJ {w w' : World} {B : Nat} {t : TypeId} {s : Nat} {v : Value} {n : Nat} {xs : List Value} (h : w.ownsRow B t s v n xs) (k : Ext w w') : w'.ownsRow B t s v n xs := by
  refine ⟨h.1, ?_⟩
  rcases h.2 with h0 | ⟨g, cap, cur, e, hg, hh, h1⟩
  · exact .inl h0
  · exact .inr ⟨g, cap, cur, e, hg, (k.block g (Array.getElem?_eq_some_iff.1 hh).1).trans hh, h1⟩
theorem own_lowJ {w : World} {B B' : Nat} {t : TypeId} {s : Nat} {v : Value} {n : Nat} {xs : List Value} (h : w.ownsRow B t s v n xs) (hb : B' ≤ B) : w.ownsRow B' t s v n xs := by
  refine ⟨h.1, ?_⟩
  rcases h.2 with h0 | ⟨g, cap, cur, e, hg, h1⟩
  · exact .inl h0
  · exact .inr ⟨g, cap, cur, e, by omega, h1⟩
theorem one_cellJ {w : World} {u : Value} {t : TypeId} : ∀ (j : Nat) (x : Value), [u][j]? = some x → (w.alloc (.cells #[u] t)).cell? ((⟨w.heap.size, 0, none⟩ : Addr).add j) = some x := by
  intro j x hx
  rcases j with _ | j
  · simp at hx; subst hx; simp [Addr.add]
  · simp at hx
theorem one_intZ {z : Int} : ∀ u ∈ [Value.int .i64 z], u.oneCell' = true := by
  intro u hu; simp at hu; subst hu; rfl
theorem ext_grown {w0 w w' : World} {B : Nat} {t : TypeId} {s : Nat} {v : Value} {n : Nat} {xs : List Value} (h : Ext w0 w) (ho : w.ownsRow B t s v n xs) (hb : w0.heap.size ≤ B) (hg : w.grownBy w' v.ownBlock) : Ext w0 w' :=
  Below.grown h hg h.size (fun k e => by have := (ho.lt k e).1; omega)
theorem i64s_snoc (l : List Int) (z : Int) : i64s (l ++ [z]) = i64s l ++ [Value.int .i64 z] := by simp [i64s]
theorem pws_succ (da : List Int) (v : Int) (n : Nat) : pwsF da v (n + 1) = pwsF da v n ++ [pwF da (v + n)] := by
  unfold pwsF
  rw [List.range_succ, List.map_append]
  rfl
set_option maxHeartbeats 4000000 in
theorem ibent_any (x : Nd) (As Ad Ab Ah At : Option Addr) (cs cd cb ch ct : Nat) (s t : List Int) (S : Value) (Ak : Option Addr) (ck : Nat) (ks : List (Int × Int)) (w : World) (hX : Hid (PcX w x As Ad Ab Ah At cs cd cb ch ct s t)) (hK : Hid (SpX w Ak ck ks)) (hl : ks.length ≤ 100000) (i : Nat) (hi : x.a = (i : Int)) (lo hv : Int) (hp : Hid (ks[i]? = some (lo, hv))) (c0 c1 c2 : Int) (hd : Hid (x.da = [c0, c1, c2])) (hC : In20 c0 ∧ In20 c1 ∧ In20 c2) (hL : In20 lo) (hH : In20 hv) :
    Calls Try.prog 89 #[.agg #[.int .i64 x.k, .int .i64 x.a, .int .i64 x.b, .slice As x.sh.length cs, .int .i64 x.lo, .int .i64 x.hi, .int .i64 x.sz, .slice Ad x.da.length cd, .slice Ab x.bi.length cb, .slice Ah s.length ch, .slice At t.length ct, S], .slice Ak ks.length ck] w fun e w' => e = .returned (.agg #[.int .i64 (aroundF (bendsF x.da lo hv)).1, .int .i64 (aroundF (bendsF x.da lo hv)).2]) ∧ Ext w w' := by
  obtain ⟨k, a, b, sh, lo_, hi_, sz, da, bi⟩ := x
  dsimp only at *
  subst hi
  obtain ⟨y0, y1, y2, y3, y4, y5, y6, y7, y8, y9, y10, y11⟩ := twelve_at w (.int .i64 k) (.int .i64 (i : Int)) (.int .i64 b) (.slice As sh.length cs) (.int .i64 lo_) (.int .i64 hi_) (.int .i64 sz) (.slice Ad da.length cd) (.slice Ab bi.length cb) (.slice Ah s.length ch) (.slice At t.length ct) S 77
  obtain ⟨ad, rfl, hc⟩ := hX.out.nd.da.cells (by show 0 < da.length; rw [hd.out]; simp)
  obtain ⟨ak, rfl, hkc⟩ := (hK.out.ext (((Ext.refl w).alloc (.cells #[.int .i64 k, .int .i64 (i : Int), .int .i64 b, .slice As sh.length cs, .int .i64 lo_, .int .i64 hi_, .int .i64 sz, .slice (some ad) da.length cd, .slice Ab bi.length cb, .slice Ah s.length ch, .slice At t.length ct, S] 77)).alloc (.cells #[.int .i64 0, .int .i64 0] 53))).cells (by have := (List.getElem?_eq_some_iff.1 hp.out).1; omega)
  obtain ⟨u0, u1⟩ := hkc i (lo, hv) hp.out
  have hil := (List.getElem?_eq_some_iff.1 hp.out).1
  dsimp only at u0 u1
  have HC := Lib.hid hc
  have i0 : (0 : Int) ≤ (i : Int) := by omega
  have i1 : (i : Int) < (ks.length : Int) := by omega
  clear hc hkc
  obtain ⟨W1, hW1⟩ : ∃ W1, W1 = w.alloc (.cells #[.int .i64 k, .int .i64 (i : Int), .int .i64 b, .slice As sh.length cs, .int .i64 lo_, .int .i64 hi_, .int .i64 sz, .slice (some ad) da.length cd, .slice Ab bi.length cb, .slice Ah s.length ch, .slice At t.length ct, S] 77) := ⟨_, rfl⟩
  have s1 : W1.heap.size = w.heap.size + 1 := by rw [hW1]; simp
  have s2 : (W1.alloc (.cells #[.int .i64 0, .int .i64 0] 53)).heap.size = w.heap.size + 2 := by simp [s1]
  have e1 : Ext (W1.alloc (.cells #[.int .i64 0, .int .i64 0] 53)) ((W1.alloc (.cells #[.int .i64 0, .int .i64 0] 53)).alloc (.cells #[.int .i64 lo, .int .i64 hv] 53)) := (Ext.refl _).alloc _
  have n0 : ((W1.alloc (.cells #[.int .i64 0, .int .i64 0] 53)).alloc (.cells #[.int .i64 lo, .int .i64 hv] 53)).cell? ⟨w.heap.size + 2, 0, none⟩ = some (.int .i64 lo) := by rw [← s2]; exact two_atJ0 _ _ _ _
  have n1 : ((W1.alloc (.cells #[.int .i64 0, .int .i64 0] 53)).alloc (.cells #[.int .i64 lo, .int .i64 hv] 53)).cell? ⟨w.heap.size + 2, 1, none⟩ = some (.int .i64 hv) := by rw [← s2]; exact two_atJ1 _ _ _ _
  have r0 := cell_ext e1 (show (W1.alloc (.cells #[.int .i64 0, .int .i64 0] 53)).cell? ⟨w.heap.size + 1, 0, none⟩ = some (.int .i64 0) by rw [← s1]; exact two_atJ0 _ _ _ _)
  have r1 := cell_ext e1 (show (W1.alloc (.cells #[.int .i64 0, .int .i64 0] 53)).cell? ⟨w.heap.size + 1, 1, none⟩ = some (.int .i64 0) by rw [← s1]; exact two_atJ1 _ _ _ _)
  have q0 : ((W1.alloc (.cells #[.int .i64 0, .int .i64 0] 53)).alloc (.cells #[.int .i64 lo, .int .i64 hv] 53)).frozen? ⟨w.heap.size + 1, 0, none⟩ = false := (World.frozen?_of_block (w := W1.alloc (.cells #[.int .i64 0, .int .i64 0] 53)) (w' := (W1.alloc (.cells #[.int .i64 0, .int .i64 0] 53)).alloc (.cells #[.int .i64 lo, .int .i64 hv] 53)) (a := ⟨w.heap.size + 1, 0, none⟩) (e1.block _ (by show w.heap.size + 1 < _; omega))).trans (by rw [← s1]; exact two_fzJ _ _ _ _ _)
  have q1 : ((W1.alloc (.cells #[.int .i64 0, .int .i64 0] 53)).alloc (.cells #[.int .i64 lo, .int .i64 hv] 53)).frozen? ⟨w.heap.size + 1, 1, none⟩ = false := (World.frozen?_of_block (w := W1.alloc (.cells #[.int .i64 0, .int .i64 0] 53)) (w' := (W1.alloc (.cells #[.int .i64 0, .int .i64 0] 53)).alloc (.cells #[.int .i64 lo, .int .i64 hv] 53)) (a := ⟨w.heap.size + 1, 1, none⟩) (e1.block _ (by show w.heap.size + 1 < _; omega))).trans (by rw [← s1]; exact two_fzJ _ _ _ _ _)
  subst hW1
  clear s1 s2 e1
  have KA : Ext w (((w.alloc (.cells #[.int .i64 k, .int .i64 (i : Int), .int .i64 b, .slice As sh.length cs, .int .i64 lo_, .int .i64 hi_, .int .i64 sz, .slice (some ad) da.length cd, .slice Ab bi.length cb, .slice Ah s.length ch, .slice At t.length ct, S] 77)).alloc (.cells #[.int .i64 0, .int .i64 0] 53)).alloc (.cells #[.int .i64 lo, .int .i64 hv] 53)) := (((Ext.refl w).alloc _).alloc _).alloc _
  have hsz : (((w.alloc (.cells #[.int .i64 k, .int .i64 (i : Int), .int .i64 b, .slice As sh.length cs, .int .i64 lo_, .int .i64 hi_, .int .i64 sz, .slice (some ad) da.length cd, .slice Ab bi.length cb, .slice Ah s.length ch, .slice At t.length ct, S] 77)).alloc (.cells #[.int .i64 0, .int .i64 0] 53)).alloc (.cells #[.int .i64 lo, .int .i64 hv] 53)).heap.size = w.heap.size + 3 := by simp
  have k2 : Ext (w.alloc (.cells #[.int .i64 k, .int .i64 (i : Int), .int .i64 b, .slice As sh.length cs, .int .i64 lo_, .int .i64 hi_, .int .i64 sz, .slice (some ad) da.length cd, .slice Ab bi.length cb, .slice Ah s.length ch, .slice At t.length ct, S] 77)) (((w.alloc (.cells #[.int .i64 k, .int .i64 (i : Int), .int .i64 b, .slice As sh.length cs, .int .i64 lo_, .int .i64 hi_, .int .i64 sz, .slice (some ad) da.length cd, .slice Ab bi.length cb, .slice Ah s.length ch, .slice At t.length ct, S] 77)).alloc (.cells #[.int .i64 0, .int .i64 0] 53)).alloc (.cells #[.int .i64 lo, .int .i64 hv] 53)) := ((Ext.refl _).alloc _).alloc _
  go_enter Try.func89, Try.ntmps89
  go_wp2_with fail
  have hXW := Lib.hid ((hX.out.ext ((Ext.refl w).alloc (.cells #[.int .i64 k, .int .i64 (i : Int), .int .i64 b, .slice As sh.length cs, .int .i64 lo_, .int .i64 hi_, .int .i64 sz, .slice (some ad) da.length cd, .slice Ab bi.length cb, .slice Ah s.length ch, .slice At t.length ct, S] 77))).ext k2)
  generalize ((w.alloc (.cells #[.int .i64 k, .int .i64 (i : Int), .int .i64 b, .slice As sh.length cs, .int .i64 lo_, .int .i64 hi_, .int .i64 sz, .slice (some ad) da.length cd, .slice Ab bi.length cb, .slice Ah s.length ch, .slice At t.length ct, S] 77)).alloc (.cells #[.int .i64 0, .int .i64 0] 53)).alloc (.cells #[.int .i64 lo, .int .i64 hv] 53) = W at *
  replace y0 := cell_ext k2 y0
  replace y1 := cell_ext k2 y1
  replace y2 := cell_ext k2 y2
  replace y3 := cell_ext k2 y3
  replace y4 := cell_ext k2 y4
  replace y5 := cell_ext k2 y5
  replace y6 := cell_ext k2 y6
  replace y7 := cell_ext k2 y7
  replace y8 := cell_ext k2 y8
  replace y9 := cell_ext k2 y9
  replace y10 := cell_ext k2 y10
  replace y11 := cell_ext k2 y11
  clear u0 u1 k2
  refine wp_region_held_drew (S := (fun w' => Ext W w')) (by kernel_rfl) ?_ (fun hHeld => ?_)
  · (try dsimp only); repeat (first | exact Ext.refl _ | assumption | refine Ext.drew ?_ | refine Ext.drewN ?_ _ | refine Ext.alloc ?_ _)
  refine wpAnyH_take (i := 0) (oi := _) (v := ?_) rfl (by kernel_rfl) (by kernel_rfl) (by kernel_rfl) (fun _ _ _ h => h) (Or.inl ⟨by first | kernel_rfl | rfl, ?_⟩) (by assumption) ?_
  rotate_left
  · (intro wS hSw; (try dsimp only at hSw); have z0 := cell_ext hSw y0; have z1 := cell_ext hSw y1; have z2 := cell_ext hSw y2; have z3 := cell_ext hSw y3; have z4 := cell_ext hSw y4; have z5 := cell_ext hSw y5; have z6 := cell_ext hSw y6; have z7 := cell_ext hSw y7; have z8 := cell_ext hSw y8; have z9 := cell_ext hSw y9; have z10 := cell_ext hSw y10; have z11 := cell_ext hSw y11; have z12 := cell_ext hSw n0; have z13 := cell_ext hSw n1; (try go_simp); (try with_reducible rfl))
  try simp only [Act.put, s1, s2, s3]
  refine wpAnyH_take (i := 1) (oi := _) (v := ?_) rfl (by kernel_rfl) (by kernel_rfl) (by kernel_rfl) (fun _ _ _ h => h) (Or.inl ⟨by first | kernel_rfl | rfl, ?_⟩) (by assumption) ?_
  rotate_left
  · (intro wS hSw; (try dsimp only at hSw); have z0 := cell_ext hSw y0; have z1 := cell_ext hSw y1; have z2 := cell_ext hSw y2; have z3 := cell_ext hSw y3; have z4 := cell_ext hSw y4; have z5 := cell_ext hSw y5; have z6 := cell_ext hSw y6; have z7 := cell_ext hSw y7; have z8 := cell_ext hSw y8; have z9 := cell_ext hSw y9; have z10 := cell_ext hSw y10; have z11 := cell_ext hSw y11; have z12 := cell_ext hSw n0; have z13 := cell_ext hSw n1; (try go_simp); (try with_reducible rfl))
  try simp only [Act.put, s1, s2, s3]
  refine wpAnyH_take (i := 2) (oi := _) (v := ?_) rfl (by kernel_rfl) (by kernel_rfl) (by kernel_rfl) (fun _ _ _ h => h) (Or.inl ⟨by first | kernel_rfl | rfl, ?_⟩) (by assumption) ?_
  rotate_left
  · (intro wS hSw; (try dsimp only at hSw); have z0 := cell_ext hSw y0; have z1 := cell_ext hSw y1; have z2 := cell_ext hSw y2; have z3 := cell_ext hSw y3; have z4 := cell_ext hSw y4; have z5 := cell_ext hSw y5; have z6 := cell_ext hSw y6; have z7 := cell_ext hSw y7; have z8 := cell_ext hSw y8; have z9 := cell_ext hSw y9; have z10 := cell_ext hSw y10; have z11 := cell_ext hSw y11; have z12 := cell_ext hSw n0; have z13 := cell_ext hSw n1; (try go_simp); (try with_reducible rfl))
  try simp only [Act.put, s1, s2, s3]
  refine wpAnyH_take (i := 4) (oi := _) (v := ?_) rfl (by kernel_rfl) (by kernel_rfl) (by kernel_rfl) (fun _ _ _ h => h) (Or.inl ⟨by first | kernel_rfl | rfl, ?_⟩) (by assumption) ?_
  rotate_left
  · (intro wS hSw; (try dsimp only at hSw); have z0 := cell_ext hSw y0; have z1 := cell_ext hSw y1; have z2 := cell_ext hSw y2; have z3 := cell_ext hSw y3; have z4 := cell_ext hSw y4; have z5 := cell_ext hSw y5; have z6 := cell_ext hSw y6; have z7 := cell_ext hSw y7; have z8 := cell_ext hSw y8; have z9 := cell_ext hSw y9; have z10 := cell_ext hSw y10; have z11 := cell_ext hSw y11; have z12 := cell_ext hSw n0; have z13 := cell_ext hSw n1; (try go_simp); (try with_reducible rfl))
  try simp only [Act.put, s1, s2, s3]
  refine wpAnyH_take (i := 5) (oi := _) (v := ?_) rfl (by kernel_rfl) (by kernel_rfl) (by kernel_rfl) (fun _ _ _ h => h) (Or.inl ⟨by first | kernel_rfl | rfl, ?_⟩) (by assumption) ?_
  rotate_left
  · (intro wS hSw; (try dsimp only at hSw); have z0 := cell_ext hSw y0; have z1 := cell_ext hSw y1; have z2 := cell_ext hSw y2; have z3 := cell_ext hSw y3; have z4 := cell_ext hSw y4; have z5 := cell_ext hSw y5; have z6 := cell_ext hSw y6; have z7 := cell_ext hSw y7; have z8 := cell_ext hSw y8; have z9 := cell_ext hSw y9; have z10 := cell_ext hSw y10; have z11 := cell_ext hSw y11; have z12 := cell_ext hSw n0; have z13 := cell_ext hSw n1; (try go_simp); (try with_reducible rfl))
  try simp only [Act.put, s1, s2, s3]
  refine wpAnyH_take (i := 6) (oi := _) (v := ?_) rfl (by kernel_rfl) (by kernel_rfl) (by kernel_rfl) (fun _ _ _ h => h) (Or.inl ⟨by first | kernel_rfl | rfl, ?_⟩) (by assumption) ?_
  rotate_left
  · (intro wS hSw; (try dsimp only at hSw); have z0 := cell_ext hSw y0; have z1 := cell_ext hSw y1; have z2 := cell_ext hSw y2; have z3 := cell_ext hSw y3; have z4 := cell_ext hSw y4; have z5 := cell_ext hSw y5; have z6 := cell_ext hSw y6; have z7 := cell_ext hSw y7; have z8 := cell_ext hSw y8; have z9 := cell_ext hSw y9; have z10 := cell_ext hSw y10; have z11 := cell_ext hSw y11; have z12 := cell_ext hSw n0; have z13 := cell_ext hSw n1; (try go_simp); (try with_reducible rfl))
  try simp only [Act.put, s1, s2, s3]
  refine wpAnyH_ready (rs := [3]) (by kernel_rfl) (by simp) ?_
  refine AllReadyH.cons rfl (fun KQ hKQ => ?_) AllReadyH.nil
  go_simp
  (refine (ipower_any ⟨k, (i : Int), b, sh, lo_, hi_, sz, da, bi⟩ As (some ad) Ab Ah At cs cd cb ch ct s t S _ (Lib.hid (hXW.out.ext (by repeat (first | exact Ext.refl _ | assumption | refine Ext.drew ?_ | refine Ext.drewN ?_ _ | refine Ext.alloc ?_ _)))) c0 c1 c2 lo hd.out (Lib.hid ⟨hC, hL⟩)).mono ?_; rintro e5 w4 ⟨rfl, k4⟩); replace k4 : Ext W w4 := Ext.trans (by repeat (first | exact Ext.refl _ | assumption | refine Ext.drew ?_ | refine Ext.drewN ?_ _ | refine Ext.alloc ?_ _)) k4
  refine hKQ.out _ _ ?_ (fun hHeld => ?_)
  · (try dsimp only); repeat (first | exact Ext.refl _ | assumption | refine Ext.drew ?_ | refine Ext.drewN ?_ _ | refine Ext.alloc ?_ _)
  clear hKQ KQ
  try simp only [Act.put, s1, s2, s3]
  refine wpAnyH_ready (rs := [7]) (by kernel_rfl) (by simp) ?_
  refine AllReadyH.cons rfl (fun KQ hKQ => ?_) AllReadyH.nil
  go_simp
  (refine (ipower_any ⟨k, (i : Int), b, sh, lo_, hi_, sz, da, bi⟩ As (some ad) Ab Ah At cs cd cb ch ct s t S _ (Lib.hid (hXW.out.ext (by repeat (first | exact Ext.refl _ | assumption | refine Ext.drew ?_ | refine Ext.drewN ?_ _ | refine Ext.alloc ?_ _)))) c0 c1 c2 hv hd.out (Lib.hid ⟨hC, hH⟩)).mono ?_; rintro e5 w5 ⟨rfl, k5⟩); replace k5 : Ext W w5 := Ext.trans (by repeat (first | exact Ext.refl _ | assumption | refine Ext.drew ?_ | refine Ext.drewN ?_ _ | refine Ext.alloc ?_ _)) k5
  refine hKQ.out _ _ ?_ (fun hHeld => ?_)
  · (try dsimp only); repeat (first | exact Ext.refl _ | assumption | refine Ext.drew ?_ | refine Ext.drewN ?_ _ | refine Ext.alloc ?_ _)
  clear hKQ KQ
  try simp only [Act.put, s1, s2, s3]
  refine wpAnyH_ready (rs := [8]) (by kernel_rfl) (by simp) ?_
  refine AllReadyH.cons rfl (fun KQ hKQ => ?_) AllReadyH.nil
  go_simp
  refine hKQ.out _ _ ?_ (fun hHeld => ?_)
  · (try dsimp only); repeat (first | exact Ext.refl _ | assumption | refine Ext.drew ?_ | refine Ext.drewN ?_ _ | refine Ext.alloc ?_ _)
  clear hKQ KQ
  try simp only [Act.put, s1, s2, s3]
  refine wpAnyH_ready (rs := [9]) (by kernel_rfl) (by simp) ?_
  refine AllReadyH.cons rfl (fun KQ hKQ => ?_) AllReadyH.nil
  go_simp
  refine hKQ.out _ _ ?_ (fun hHeld => ?_)
  · (try dsimp only); repeat (first | exact Ext.refl _ | assumption | refine Ext.drew ?_ | refine Ext.drewN ?_ _ | refine Ext.alloc ?_ _)
  clear hKQ KQ
  try simp only [Act.put, s1, s2, s3]
  refine wpAnyH_done (by kernel_rfl) ?_ _
  obtain ⟨W6, hW6⟩ : ∃ W6, W6 = w5.alloc (.cells #[.int .i64 (pwF da lo), .int .i64 (pwF da hv)] 3) := ⟨_, rfl⟩
  have hE6 : Ext W W6 := by rw [hW6]; exact k5.alloc _
  have hW5 := k5.size
  have ho6 : W6.ownsRow w5.heap.size 3 1 (.slice (some ⟨w5.heap.size, 0, none⟩) 2 2) 2 (i64s [pwF da lo, pwF da hv]) := by rw [hW6]; exact own_newJ w5 _ 1 2 (i64s [pwF da lo, pwF da hv]) rfl (by unfold maxLen; omega)
  rw [← hW6]
  clear hW6 hHeld
  have HO := Lib.hid ho6
  clear ho6
  have z7 := cell_ext hE6 y7
  have z12 := cell_ext hE6 n0
  have z13 := cell_ext hE6 n1
  have g1 : W6.cell? ⟨ad.block, ad.off + 1, none⟩ = some (.int .i64 c1) := cell_ext (KA.trans hE6) (HC.out 1 c1 (by rw [hd.out]; rfl))
  have g2 : W6.cell? ⟨ad.block, ad.off + 2, none⟩ = some (.int .i64 c2) := cell_ext (KA.trans hE6) (HC.out 2 c2 (by rw [hd.out]; rfl))
  have l2 : (2 : Int) < (da.length : Int) := by rw [hd.out]; simp
  have l1 : (1 : Int) < (da.length : Int) := by omega
  by_cases hz : c2 = 0
  · have HL9 := Lib.hid (show aroundF [pwF da lo, pwF da hv] = aroundF (bendsF da lo hv) by unfold bendsF; rw [if_pos (by rw [hd.out]; exact hz)]; rfl)
    subst hz
    obtain ⟨A9, c9, e9, h9, _⟩ := rdZ_of_own HO.out
    injection e9 with e9 _ e99
    subst e9
    subst e99
    have hE9 := hE6
    go_wp2_with fail
    refine (around_any (some ⟨w5.heap.size, 0, none⟩) 2 2 [pwF da lo, pwF da hv] _ (Lib.hid h9) (by omega) (by omega)).mono ?_
    rintro e6 w6 ⟨rfl, k6⟩
    have k7 := Ext.trans hE9 k6
    have d0 := cell_ext k7 r0
    have d1 := cell_ext k7 r1
    have f0 : w6.frozen? ⟨w.heap.size + 1, 0, none⟩ = false := (World.frozen?_of_block (k7.block _ (by show w.heap.size + 1 < _; omega))).trans q0
    have f1 : w6.frozen? ⟨w.heap.size + 1, 1, none⟩ = false := (World.frozen?_of_block (k7.block _ (by show w.heap.size + 1 < _; omega))).trans q1
    go_wp2
    refine bodyPost_ret (v := .agg #[.int .i64 (aroundF [pwF da lo, pwF da hv]).1, .int .i64 (aroundF [pwF da lo, pwF da hv]).2]) (by simp [results, Try.results89, go_sem, d0, d1]) rfl ⟨by rw [HL9.out], ?_⟩
    exact Ext.set (p := ⟨w.heap.size + 1, 1, none⟩) (Ext.set (p := ⟨w.heap.size + 1, 0, none⟩) (KA.trans k7) (by simp) _) (by simp) _
  · obtain ⟨tn, htn⟩ : ∃ tn, tn = -(c1.tdiv (2 * c2)) := ⟨_, rfl⟩
    have tb : -1048576 ≤ tn ∧ tn ≤ 1048576 := by
      have m := Int.natAbs_tdiv_le_natAbs c1 (2 * c2)
      generalize c1.tdiv (2 * c2) = q at *
      obtain ⟨⟨_, _⟩, ⟨b1, b2⟩, _⟩ := hC
      omega
    obtain ⟨b1, b2⟩ := hC.2.1
    obtain ⟨b3, b4⟩ := hC.2.2
    obtain ⟨t0, t1⟩ := tb
    have hz2 : ¬ (2 * c2 = 0) := by omega
    have HT := Lib.hid (show turnF da = tn by rw [htn]; unfold turnF; rw [hd.out]; show (-c1).tdiv (2 * c2) = _; rw [Int.neg_tdiv])
    have hw : wrap64 (-(c1.tdiv (2 * c2))) = tn := by rw [← htn]; unfold wrap64; omega
    clear htn
    obtain ⟨v0, hv0⟩ : ∃ v0, v0 = max (tn - 1) lo := ⟨_, rfl⟩
    obtain ⟨N, hN⟩ : ∃ N, N = (min (tn + 1) hv - v0 + 1).toNat := ⟨_, rfl⟩
    obtain ⟨h3, h4⟩ := hL
    obtain ⟨h5, h6⟩ := hH
    have hN3 : N ≤ 3 := by omega
    have HL9 := Lib.hid (show aroundF ([pwF da lo, pwF da hv] ++ pwsF da v0 N) = aroundF (bendsF da lo hv) by unfold bendsF; rw [if_neg (by rw [hd.out]; exact hz), HT.out, ← hv0, ← hN])
    have HV := Lib.hid hv0
    have HN := Lib.hid hN
    have hv1 : lo ≤ v0 := by omega
    have hv2 : v0 ≤ 1048576 := by omega
    clear hv0 hN
    obtain ⟨i0', hii, hz0, hz1, hz2⟩ := info_partsJ info_intJ
    go_wp2_with fail
    go_quiet (fail)
    simp only [hw, show (c2 != 0) = true from by simp [hz]]
    clear hw
    go_wp2_with fail
    go_loopw [6, 8] (fun es v wr => ∃ j : Nat, j ≤ N ∧ v = .int .i64 (v0 + (j : Int)) ∧ Hid (Ext W wr) ∧ Hid (wr.ownsRow W.heap.size 3 1 es (2 + j) (i64s ([pwF da lo, pwF da hv] ++ pwsF da v0 j)))) (fun _ v _ => (v0 + N - intOf v).toNat)
    case atStart =>
      refine ⟨0, by omega, ?_, Lib.hid (by repeat (first | exact hE6 | refine Ext.drewN ?_ _)), Lib.hid (own_lowJ (own_extJ HO.out (by repeat (first | exact Ext.refl _ | refine Ext.drewN ?_ _))) (by omega))⟩
      have := HV.out
      congr 1
      (repeat' split) <;> omega
    case round =>
      obtain ⟨j, hj, rfl, hE, hO⟩ := hrel
      have z7 := cell_ext hE.out y7
      have z12 := cell_ext hE.out n0
      have z13 := cell_ext hE.out n1
      have z0 := cell_ext hE.out y0
      have z1 := cell_ext hE.out y1
      have z2 := cell_ext hE.out y2
      have z3 := cell_ext hE.out y3
      have z4 := cell_ext hE.out y4
      have z5 := cell_ext hE.out y5
      have z6 := cell_ext hE.out y6
      have z8 := cell_ext hE.out y8
      have z9 := cell_ext hE.out y9
      have z10 := cell_ext hE.out y10
      have z11 := cell_ext hE.out y11
      by_cases hlt : j < N
      · have hge : v0 + (j : Int) ≤ min (tn + 1) hv := by have := HN.out; omega
        go_wp2_with fail
        refine (ipower_any ⟨k, (i : Int), b, sh, lo_, hi_, sz, da, bi⟩ As (some ad) Ab Ah At cs cd cb ch ct s t S _ (Lib.hid (hXW.out.ext hE.out)) c0 c1 c2 (v0 + (j : Int)) hd.out (Lib.hid ⟨hC, by constructor <;> omega⟩)).mono ?_
        rintro e7 w7 ⟨rfl, k7⟩
        have hW7 := (hE.out.trans k7).size
        go_wp2_with (at_builtin; go_loud (refine wpList_append_own _ rfl _ _ 38 rfl W.heap.size 3 i0' (.int .i64 0) 1 8 Try.underlying38 hii hz0 hz1 hz2 rfl (by decide) _ _ _ rfl ((own_extJ hO.out k7).alloc _) ⟨_, 0, none⟩ 1 1 [.int .i64 (pwF da (v0 + (j : Int)))] rfl rfl one_cellJ one_intZ (by unfold maxLen; omega) (by omega) (by simp; omega) ?_; intro v3 w3 hown3 hgrow3 _))
        go_roundw
        case rel =>
          refine ⟨j + 1, by omega, by first | rfl | go_num | (congr 1; omega), Lib.hid (ext_grown ((hE.out.trans k7).alloc _) ((own_extJ hO.out k7).alloc _) (Nat.le_refl _) hgrow3), Lib.hid ?_⟩
          rw [pws_succ, ← List.append_assoc, i64s_snoc]
          exact hown3
        case measure => simp [intOf]; omega
      · obtain rfl : j = N := by omega
        obtain ⟨A9, c9, rfl, h9, _⟩ := rdZ_of_own hO.out
        have hE9 := hE.out
        have hge : min (tn + 1) hv < v0 + (j : Int) := by have := HN.out; omega
        clear hO
        go_wp2_with fail
        refine (around_any A9 (2 + j) c9 ([pwF da lo, pwF da hv] ++ pwsF da v0 j) _ (Lib.hid h9) (by omega) (by omega)).mono ?_
        rintro e6 w6 ⟨rfl, k6⟩
        have k7 := Ext.trans hE9 k6
        have d0 := cell_ext k7 r0
        have d1 := cell_ext k7 r1
        have f0 : w6.frozen? ⟨w.heap.size + 1, 0, none⟩ = false := (World.frozen?_of_block (k7.block _ (by show w.heap.size + 1 < _; omega))).trans q0
        have f1 : w6.frozen? ⟨w.heap.size + 1, 1, none⟩ = false := (World.frozen?_of_block (k7.block _ (by show w.heap.size + 1 < _; omega))).trans q1
        go_wp2
        refine bodyPost_ret (v := .agg #[.int .i64 (aroundF ([pwF da lo, pwF da hv] ++ pwsF da v0 j)).1, .int .i64 (aroundF ([pwF da lo, pwF da hv] ++ pwsF da v0 j)).2]) (by simp [results, Try.results89, go_sem, d0, d1]) rfl ⟨by rw [HL9.out], ?_⟩
        exact Ext.set (p := ⟨w.heap.size + 1, 1, none⟩) (Ext.set (p := ⟨w.heap.size + 1, 0, none⟩) (KA.trans k7) (by simp) _) (by simp) _
end Go.Proofs.Ytjeipbahddhfgaa
