/-
  Places of package interval; a power's number; least and greatest of numbers.
-/
import Derived.Test.YtjeipbahddhfgaaIMo
import Derived.BigQuiet
namespace Go.Proofs.Ytjeipbahddhfgaa
open Go.RowKit
set_option linter.unusedVariables false
set_option maxRecDepth 100000

theorem twelve_at (w : World) (a0 a1 a2 a3 a4 a5 a6 a7 a8 a9 a10 a11 : Value) (t : TypeId) : (w.alloc (.cells #[a0, a1, a2, a3, a4, a5, a6, a7, a8, a9, a10, a11] t)).cell? ⟨w.heap.size, 0, none⟩ = some a0 ∧ (w.alloc (.cells #[a0, a1, a2, a3, a4, a5, a6, a7, a8, a9, a10, a11] t)).cell? ⟨w.heap.size, 1, none⟩ = some a1 ∧ (w.alloc (.cells #[a0, a1, a2, a3, a4, a5, a6, a7, a8, a9, a10, a11] t)).cell? ⟨w.heap.size, 2, none⟩ = some a2 ∧ (w.alloc (.cells #[a0, a1, a2, a3, a4, a5, a6, a7, a8, a9, a10, a11] t)).cell? ⟨w.heap.size, 3, none⟩ = some a3 ∧ (w.alloc (.cells #[a0, a1, a2, a3, a4, a5, a6, a7, a8, a9, a10, a11] t)).cell? ⟨w.heap.size, 4, none⟩ = some a4 ∧ (w.alloc (.cells #[a0, a1, a2, a3, a4, a5, a6, a7, a8, a9, a10, a11] t)).cell? ⟨w.heap.size, 5, none⟩ = some a5 ∧ (w.alloc (.cells #[a0, a1, a2, a3, a4, a5, a6, a7, a8, a9, a10, a11] t)).cell? ⟨w.heap.size, 6, none⟩ = some a6 ∧ (w.alloc (.cells #[a0, a1, a2, a3, a4, a5, a6, a7, a8, a9, a10, a11] t)).cell? ⟨w.heap.size, 7, none⟩ = some a7 ∧ (w.alloc (.cells #[a0, a1, a2, a3, a4, a5, a6, a7, a8, a9, a10, a11] t)).cell? ⟨w.heap.size, 8, none⟩ = some a8 ∧ (w.alloc (.cells #[a0, a1, a2, a3, a4, a5, a6, a7, a8, a9, a10, a11] t)).cell? ⟨w.heap.size, 9, none⟩ = some a9 ∧ (w.alloc (.cells #[a0, a1, a2, a3, a4, a5, a6, a7, a8, a9, a10, a11] t)).cell? ⟨w.heap.size, 10, none⟩ = some a10 ∧ (w.alloc (.cells #[a0, a1, a2, a3, a4, a5, a6, a7, a8, a9, a10, a11] t)).cell? ⟨w.heap.size, 11, none⟩ = some a11 := by
  refine ⟨?_, ?_, ?_, ?_, ?_, ?_, ?_, ?_, ?_, ?_, ?_, ?_⟩ <;> simp
/-- A place's lists in memory. -/
structure PcX (w : World) (x : Nd) (As Ad Ab Ah At : Option Addr) (cs cd cb ch ct : Nat) (s t : List Int) : Prop where
  nd : NdX w x As Ad Ab cs cd cb
  sh : ZX w Ah s.length ch s
  tk : ZX w At t.length ct t
  ls : s.length ≤ 3
  lt : t.length ≤ 3
theorem PcX.ext {w w' : World} {x : Nd} {As Ad Ab Ah At : Option Addr} {cs cd cb ch ct : Nat} {s t : List Int} (h : PcX w x As Ad Ab Ah At cs cd cb ch ct s t) (k : Ext w w') : PcX w' x As Ad Ab Ah At cs cd cb ch ct s t := ⟨h.nd.ext k, h.sh.ext k, h.tk.ext k, h.ls, h.lt⟩
theorem abs_mul {a v A B : Int} (h1 : -A ≤ a) (h2 : a ≤ A) (h3 : -B ≤ v) (h4 : v ≤ B) : -(A * B) ≤ a * v ∧ a * v ≤ A * B := by
  have e : (a * v).natAbs = a.natAbs * v.natAbs := Int.natAbs_mul a v
  have e2 : (A * B).natAbs = A.natAbs * B.natAbs := Int.natAbs_mul A B
  have m : a.natAbs * v.natAbs ≤ A.natAbs * B.natAbs := Nat.mul_le_mul (by omega) (by omega)
  have p : 0 ≤ A * B := Int.mul_nonneg (by omega) (by omega)
  rw [← e, ← e2] at m
  generalize a * v = u at *
  generalize A * B = z at *
  omega
/-- Numbers within MaxValue. -/
def In20 (v : Int) : Prop := -1048576 ≤ v ∧ v ≤ 1048576
/-- A power's number. -/
def pwF (da : List Int) (v : Int) : Int := (da.getD 2 0 * v + da.getD 1 0) * v + da.getD 0 0
theorem pw_in {c0 c1 c2 v : Int} (h0 : In20 c0) (h1 : In20 c1) (h2 : In20 c2) (hv : In20 v) :
    (-1099511627776 ≤ c2 * v ∧ c2 * v ≤ 1099511627776) ∧ (-1152922604118474752 ≤ (c2 * v + c1) * v ∧ (c2 * v + c1) * v ≤ 1152922604118474752) := by
  obtain ⟨a1, a2⟩ := h1
  have m := abs_mul h2.1 h2.2 hv.1 hv.2
  have m2 := abs_mul (A := 1099512676352) (show -1099512676352 ≤ c2 * v + c1 by omega) (show c2 * v + c1 ≤ 1099512676352 by omega) hv.1 hv.2
  omega
set_option maxHeartbeats 1000000 in
theorem ipower_any (x : Nd) (As Ad Ab Ah At : Option Addr) (cs cd cb ch ct : Nat) (s t : List Int) (S : Value) (w : World) (hX : Hid (PcX w x As Ad Ab Ah At cs cd cb ch ct s t)) (c0 c1 c2 v : Int) (hd : x.da = [c0, c1, c2]) (hb : Hid ((In20 c0 ∧ In20 c1 ∧ In20 c2) ∧ In20 v)) :
    Calls Try.prog 57 #[.agg #[.int .i64 x.k, .int .i64 x.a, .int .i64 x.b, .slice As x.sh.length cs, .int .i64 x.lo, .int .i64 x.hi, .int .i64 x.sz, .slice Ad x.da.length cd, .slice Ab x.bi.length cb, .slice Ah s.length ch, .slice At t.length ct, S], .int .i64 v] w fun e w' => e = .returned (.int .i64 (pwF x.da v)) ∧ Ext w w' := by
  obtain ⟨y0, y1, y2, y3, y4, y5, y6, y7, y8, y9, y10, y11⟩ := twelve_at w (.int .i64 x.k) (.int .i64 x.a) (.int .i64 x.b) (.slice As x.sh.length cs) (.int .i64 x.lo) (.int .i64 x.hi) (.int .i64 x.sz) (.slice Ad x.da.length cd) (.slice Ab x.bi.length cb) (.slice Ah s.length ch) (.slice At t.length ct) S 77
  obtain ⟨⟨b0, b1, b2⟩, bv⟩ := hb.out
  obtain ⟨⟨q0, q1⟩, q2, q3⟩ := pw_in b0 b1 b2 bv
  obtain ⟨p0, p1⟩ := b0
  obtain ⟨p2, p3⟩ := b1
  obtain ⟨ad, rfl, hc⟩ := (hX.out.ext ((Ext.refl w).alloc (.cells #[.int .i64 x.k, .int .i64 x.a, .int .i64 x.b, .slice As x.sh.length cs, .int .i64 x.lo, .int .i64 x.hi, .int .i64 x.sz, .slice Ad x.da.length cd, .slice Ab x.bi.length cb, .slice Ah s.length ch, .slice At t.length ct, S] 77))).nd.da.cells (by rw [hd]; simp)
  have g0 := hc 0 c0 (by rw [hd]; rfl)
  have g1 : (w.alloc (.cells #[.int .i64 x.k, .int .i64 x.a, .int .i64 x.b, .slice As x.sh.length cs, .int .i64 x.lo, .int .i64 x.hi, .int .i64 x.sz, .slice (some ad) x.da.length cd, .slice Ab x.bi.length cb, .slice Ah s.length ch, .slice At t.length ct, S] 77)).cell? ⟨ad.block, ad.off + 1, none⟩ = some (.int .i64 c1) := hc 1 c1 (by rw [hd]; rfl)
  have g2 : (w.alloc (.cells #[.int .i64 x.k, .int .i64 x.a, .int .i64 x.b, .slice As x.sh.length cs, .int .i64 x.lo, .int .i64 x.hi, .int .i64 x.sz, .slice (some ad) x.da.length cd, .slice Ab x.bi.length cb, .slice Ah s.length ch, .slice At t.length ct, S] 77)).cell? ⟨ad.block, ad.off + 2, none⟩ = some (.int .i64 c2) := hc 2 c2 (by rw [hd]; rfl)
  rw [add0J] at g0
  have hl : x.da.length = 3 := by rw [hd]; rfl
  have e9 : pwF x.da v = (c2 * v + c1) * v + c0 := by rw [hd]; rfl
  rw [e9]
  clear e9 hc hb b2 bv
  have l2 : (2 : Int) < (x.da.length : Int) := by omega
  have l1 : (1 : Int) < (x.da.length : Int) := by omega
  have l0 : (0 : Int) < (x.da.length : Int) := by omega
  clear hd hl
  go_enter Try.func57, Try.ntmps57
  go_wp2
  go_quiet (fail)
  go_wp2
  go_ret
  exact ⟨by first | rfl | go_num, ((Ext.refl w).alloc _).drewN _⟩
def minR : List Int → Int → Int
  | [], m => m
  | z :: r, m => minR r (min m z)
def maxR : List Int → Int → Int
  | [], m => m
  | z :: r, m => maxR r (max m z)
/-- From the least number to the greatest. -/
def aroundF (l : List Int) : Int × Int := (minR l (l.getD 0 0), maxR l (l.getD 0 0))
theorem minR_head (l : List Int) (h : l.length ≠ 0) : minR l (l.getD 0 0) = minR (l.drop 1) (l.getD 0 0) := by
  cases l with
  | nil => exact absurd rfl h
  | cons z r => show minR r (min z z) = minR r z; rw [show min z z = z by omega]
theorem maxR_head (l : List Int) (h : l.length ≠ 0) : maxR l (l.getD 0 0) = maxR (l.drop 1) (l.getD 0 0) := by
  cases l with
  | nil => exact absurd rfl h
  | cons z r => show maxR r (max z z) = maxR r z; rw [show max z z = z by omega]
set_option maxHeartbeats 1000000 in
theorem imin_any (A : Option Addr) (n c : Nat) (l : List Int) (w : World) (hX : Hid (ZX w A n c l)) (h0 : 0 < n) (hn : n ≤ 100000) :
    Calls Try.prog 101 #[.slice A n c] w fun e w' => e = .returned (.int .i64 (minR l (l.getD 0 0))) ∧ w' = w := by
  have hlen := hX.out.len
  have HH := Lib.hid (minR_head l (by omega))
  obtain ⟨ad, d0, rfl, hd0, c0⟩ := hX.out.at_ h0
  have e0 : l.getD 0 0 = d0 := by rw [List.getD_eq_getElem?_getD, hd0]; rfl
  rw [HH.out, e0]
  clear HH hd0 e0
  rw [add0J] at c0
  have b0 : ¬ ((n : Int) < 1) := by omega
  go_enter Try.func101, Try.ntmps101
  go_wp2
  go_loop [3, 4] (fun m i => ∃ (k : Nat) (z : Int), 0 < k ∧ k ≤ n ∧ i = .int .i64 (k : Int) ∧ m = .int .i64 z ∧ Hid (minR (l.drop 1) d0 = minR (l.drop k) z)) (fun _ i => n - (intOf i).toNat)
  case atStart => exact ⟨1, d0, by omega, by omega, rfl, rfl, Lib.hid rfl⟩
  case round =>
    obtain ⟨k, z, hk0, hk, rfl, rfl, hF⟩ := hrel
    by_cases hlt : k < n
    · obtain ⟨ad', d, e, hd, hc⟩ := hX.out.at_ hlt
      injection e with e
      subst e
      have hS := Lib.hid (show minR (l.drop 1) d0 = minR (l.drop (k + 1)) (min z d) by rw [hF.out, drop_at hd]; rfl)
      clear hd hF
      have j0 : (0 : Int) ≤ (k : Int) := by omega
      have j1 : (k : Int) < (n : Int) := by omega
      go_wp2
      all_goals
        go_round
        case rel => exact ⟨k + 1, min z d, by omega, by omega, by go_num, by first | rfl | go_num | (congr 1; omega), hS⟩
        case measure => simp [intOf]; omega
    · obtain rfl : k = n := by omega
      have hS := Lib.hid (show minR (l.drop 1) d0 = z by rw [hF.out, List.drop_eq_nil_of_le (by omega)]; rfl)
      clear hF
      go_wp2
      go_ret
      exact ⟨by show Ending.returned (.int .i64 z) = Ending.returned (.int .i64 _); congr 2; simpa using hS.out.symm, rfl⟩
set_option maxHeartbeats 1000000 in
theorem imax_any (A : Option Addr) (n c : Nat) (l : List Int) (w : World) (hX : Hid (ZX w A n c l)) (h0 : 0 < n) (hn : n ≤ 100000) :
    Calls Try.prog 102 #[.slice A n c] w fun e w' => e = .returned (.int .i64 (maxR l (l.getD 0 0))) ∧ w' = w := by
  have hlen := hX.out.len
  have HH := Lib.hid (maxR_head l (by omega))
  obtain ⟨ad, d0, rfl, hd0, c0⟩ := hX.out.at_ h0
  have e0 : l.getD 0 0 = d0 := by rw [List.getD_eq_getElem?_getD, hd0]; rfl
  rw [HH.out, e0]
  clear HH hd0 e0
  rw [add0J] at c0
  have b0 : ¬ ((n : Int) < 1) := by omega
  go_enter Try.func102, Try.ntmps102
  go_wp2
  go_loop [3, 4] (fun m i => ∃ (k : Nat) (z : Int), 0 < k ∧ k ≤ n ∧ i = .int .i64 (k : Int) ∧ m = .int .i64 z ∧ Hid (maxR (l.drop 1) d0 = maxR (l.drop k) z)) (fun _ i => n - (intOf i).toNat)
  case atStart => exact ⟨1, d0, by omega, by omega, rfl, rfl, Lib.hid rfl⟩
  case round =>
    obtain ⟨k, z, hk0, hk, rfl, rfl, hF⟩ := hrel
    by_cases hlt : k < n
    · obtain ⟨ad', d, e, hd, hc⟩ := hX.out.at_ hlt
      injection e with e
      subst e
      have hS := Lib.hid (show maxR (l.drop 1) d0 = maxR (l.drop (k + 1)) (max z d) by rw [hF.out, drop_at hd]; rfl)
      clear hd hF
      have j0 : (0 : Int) ≤ (k : Int) := by omega
      have j1 : (k : Int) < (n : Int) := by omega
      go_wp2
      all_goals
        go_round
        case rel => exact ⟨k + 1, max z d, by omega, by omega, by go_num, by first | rfl | go_num | (congr 1; omega), hS⟩
        case measure => simp [intOf]; omega
    · obtain rfl : k = n := by omega
      have hS := Lib.hid (show maxR (l.drop 1) d0 = z by rw [hF.out, List.drop_eq_nil_of_le (by omega)]; rfl)
      clear hF
      go_wp2
      go_ret
      exact ⟨by show Ending.returned (.int .i64 z) = Ending.returned (.int .i64 _); congr 2; simpa using hS.out.symm, rfl⟩
set_option maxHeartbeats 1000000 in
theorem around_any (A : Option Addr) (n c : Nat) (l : List Int) (w : World) (hX : Hid (ZX w A n c l)) (h0 : 0 < n) (hn : n ≤ 100000) :
    Calls Try.prog 98 #[.slice A n c] w fun e w' => e = .returned (.agg #[.int .i64 (aroundF l).1, .int .i64 (aroundF l).2]) ∧ Ext w w' := by
  have y0 : (w.alloc (.cells #[.int .i64 0, .int .i64 0] 53)).cell? ⟨w.heap.size, 0, none⟩ = some (.int .i64 0) := by simp
  go_enter Try.func98, Try.ntmps98
  go_wp2_with fail
  refine (imin_any A n c l _ (Lib.hid (hX.out.ext (by repeat (first | exact Ext.refl _ | assumption | refine Ext.drew ?_ | refine Ext.drewN ?_ _ | refine Ext.alloc ?_ _)))) h0 hn).mono ?_
  rintro e1 w1 ⟨rfl, rfl⟩
  go_wp2_with fail
  refine (imax_any A n c l _ (Lib.hid (hX.out.ext (by repeat (first | exact Ext.refl _ | assumption | refine Ext.drew ?_ | refine Ext.drewN ?_ _ | refine Ext.alloc ?_ _)))) h0 hn).mono ?_
  rintro e1 w1 ⟨rfl, rfl⟩
  go_wp2
  refine bodyPost_ret (v := .agg #[.int .i64 (aroundF l).1, .int .i64 (aroundF l).2]) (by simp [results, Try.results98, go_sem, aroundF]) rfl ⟨rfl, ?_⟩
  exact (Ext.refl w).alloc _
end Go.Proofs.Ytjeipbahddhfgaa
