/-
  May a row be an input's numbers?
-/
import Derived.Test.YtjeipbahddhfgaaINu
namespace Go.Proofs.Ytjeipbahddhfgaa
open Go.RowKit
set_option linter.unusedVariables false
set_option maxRecDepth 100000

theorem outside_any (lo hv z : Int) (pa : Addr) (w : World) (y4 : w.cell? ⟨pa.block, pa.off + 4, none⟩ = some (.int .i64 lo)) (y5 : w.cell? ⟨pa.block, pa.off + 5, none⟩ = some (.int .i64 hv)) : Calls Try.prog 60 #[.int .i64 z, .pointer (some pa)] w fun e w' => e = .returned (.bool (!(decide (lo ≤ z) && decide (z ≤ hv)))) ∧ w' = w := by
  go_enter Try.func60, Try.ntmps60
  by_cases h2 : z < lo
  · have e : (!(decide (lo ≤ z) && decide (z ≤ hv))) = true := by simp; omega
    rw [e]
    go_wp2
    go_ret
    exact ⟨rfl, rfl⟩
  · by_cases h1 : hv < z
    · have e : (!(decide (lo ≤ z) && decide (z ≤ hv))) = true := by simp; omega
      rw [e]
      go_wp2
      go_ret
      exact ⟨rfl, rfl⟩
    · have e : (!(decide (lo ≤ z) && decide (z ≤ hv))) = false := by simp; omega
      rw [e]
      go_wp2
      go_ret
      exact ⟨rfl, rfl⟩
/-- Are all numbers from lo to hv? -/
def inB (lo hv : Int) (l : List Int) : Bool := l.all fun z => decide (lo ≤ z) && decide (z ≤ hv)
theorem inB_cons (lo hv z : Int) (l : List Int) : inB lo hv (z :: l) = ((decide (lo ≤ z) && decide (z ≤ hv)) && inB lo hv l) := rfl
set_option maxHeartbeats 1000000 in
theorem indexI_any (lo hv : Int) (pa : Addr) (A : Option Addr) (n c : Nat) (l : List Int) (w : World) (hX : Hid (ZX w A n c l)) (hn : n ≤ 100000) (y4 : w.cell? ⟨pa.block, pa.off + 4, none⟩ = some (.int .i64 lo)) (y5 : w.cell? ⟨pa.block, pa.off + 5, none⟩ = some (.int .i64 hv)) :
    Calls Try.prog 91 #[.slice A n c, .func (.func 60) #[] #[.pointer (some pa)]] w fun e w' => ∃ r : Int, e = .returned (.int .i64 r) ∧ (inB lo hv l = true → r < 0) ∧ (inB lo hv l = false → 0 ≤ r) ∧ r ≤ 100000 ∧ -1 ≤ r ∧ w' = w := by
  have hlen := hX.out.len
  go_enter Try.func91, Try.ntmps91
  go_wp2
  go_loop [8] (fun i => ∃ k : Nat, k ≤ n ∧ i = .int .i64 (k : Int) ∧ Hid (inB lo hv l = inB lo hv (l.drop k))) (fun i => n - (intOf i).toNat)
  case atStart => exact ⟨0, by omega, rfl, Lib.hid rfl⟩
  case round =>
    obtain ⟨k, hk, rfl, hF⟩ := hrel
    by_cases hlt : k < n
    · obtain ⟨ad, d, rfl, hd, hc⟩ := hX.out.at_ hlt
      have hdr := Lib.hid (drop_at hd)
      clear hd
      go_wp2_with fail
      refine (outside_any lo hv d pa w y4 y5).mono ?_
      rintro e w1 ⟨rfl, rfl⟩
      obtain ⟨b, hb⟩ : ∃ b, (decide (lo ≤ d) && decide (d ≤ hv)) = b := ⟨_, rfl⟩
      have hR := Lib.hid (show inB lo hv l = (b && inB lo hv (l.drop (k + 1))) by rw [hF.out, hdr.out, inB_cons, hb])
      rw [hb]
      clear hb
      cases b
      · go_wp2
        go_ret
        refine ⟨(k : Int), rfl, fun h => ?_, fun _ => by omega, by omega, by omega, rfl⟩
        rw [hR.out] at h
        cases h
      · go_wp2
        go_round
        case rel => exact ⟨k + 1, by omega, by go_num, Lib.hid (by rw [hR.out, Bool.true_and])⟩
        case measure => simp [intOf]; omega
    · obtain rfl : k = n := by omega
      have hR := Lib.hid (show inB lo hv l = true by rw [hF.out, List.drop_eq_nil_of_le (by omega)]; rfl)
      go_wp2
      go_ret
      refine ⟨-1, rfl, fun _ => by omega, fun h => ?_, by omega, by omega, rfl⟩
      rw [hR.out] at h
      cases h
theorem containsI_any (lo hv : Int) (pa : Addr) (A : Option Addr) (n c : Nat) (l : List Int) (w : World) (hX : Hid (ZX w A n c l)) (hn : n ≤ 100000) (y4 : w.cell? ⟨pa.block, pa.off + 4, none⟩ = some (.int .i64 lo)) (y5 : w.cell? ⟨pa.block, pa.off + 5, none⟩ = some (.int .i64 hv)) :
    Calls Try.prog 61 #[.slice A n c, .func (.func 60) #[] #[.pointer (some pa)]] w fun e w' => e = .returned (.bool (!inB lo hv l)) ∧ w' = w := by
  go_enter Try.func61, Try.ntmps61
  go_wp2_with fail
  refine (indexI_any lo hv pa A n c l w hX hn y4 y5).mono ?_
  rintro e w1 ⟨r, rfl, h1, h2, h3, h4, rfl⟩
  obtain ⟨b, hb⟩ : ∃ b, inB lo hv l = b := ⟨_, rfl⟩
  rw [hb] at h1 h2
  have HB := Lib.hid hb
  clear hb
  cases b
  · have h5 := h2 rfl
    clear h1 h2
    go_wp2
    go_ret
    exact ⟨by rw [HB.out]; rfl, rfl⟩
  · have h5 : ¬ (0 ≤ r) := by have := h1 rfl; omega
    clear h1 h2
    go_wp2
    go_ret
    exact ⟨by rw [HB.out]; show Ending.returned (.bool (decide (0 ≤ r))) = _; rw [decide_eq_false (by omega)]; rfl, rfl⟩
set_option maxHeartbeats 1000000 in
theorem takes_any (x : Nd) (As Ad Ab Ah At : Option Addr) (cs cd cb ch ct : Nat) (s t : List Int) (S : Value) (Ar : Option Addr) (n c : Nat) (l : List Int) (w : World) (hX : Hid (PcX w x As Ad Ab Ah At cs cd cb ch ct s t)) (hR : Hid (ZX w Ar n c l)) (hn : n ≤ 100000) :
    Calls Try.prog 38 #[.agg #[.int .i64 x.k, .int .i64 x.a, .int .i64 x.b, .slice As x.sh.length cs, .int .i64 x.lo, .int .i64 x.hi, .int .i64 x.sz, .slice Ad x.da.length cd, .slice Ab x.bi.length cb, .slice Ah s.length ch, .slice At t.length ct, S], .slice Ar n c] w fun e w' => e = .returned (.bool (decide ((n : Int) = entN s) && inB x.lo x.hi l)) ∧ Ext w w' := by
  obtain ⟨y0, y1, y2, y3, y4, y5, y6, y7, y8, y9, y10, y11⟩ := twelve_at w (.int .i64 x.k) (.int .i64 x.a) (.int .i64 x.b) (.slice As x.sh.length cs) (.int .i64 x.lo) (.int .i64 x.hi) (.int .i64 x.sz) (.slice Ad x.da.length cd) (.slice Ab x.bi.length cb) (.slice Ah s.length ch) (.slice At t.length ct) S 77
  have hle := entN_le s
  have k0 : Ext w (w.alloc (.cells #[.int .i64 x.k, .int .i64 x.a, .int .i64 x.b, .slice As x.sh.length cs, .int .i64 x.lo, .int .i64 x.hi, .int .i64 x.sz, .slice Ad x.da.length cd, .slice Ab x.bi.length cb, .slice Ah s.length ch, .slice At t.length ct, S] 77)) := (Ext.refl w).alloc _
  have HPC := Lib.hid (hX.out.ext k0)
  by_cases he : (n : Int) = entN s
  · rw [decide_eq_true he, Bool.true_and]
    obtain ⟨b, hb⟩ : ∃ b, inB x.lo x.hi l = b := ⟨_, rfl⟩
    rw [hb]
    have HB := Lib.hid hb
    have HE := Lib.hid he
    clear hb he hle
    go_enter Try.func38, Try.ntmps38
    go_wp2_with fail
    refine (ent_any Ah s.length ch s _ (Lib.hid HPC.out.sh)).mono ?_
    rintro e1 w1 ⟨rfl, hw1⟩
    obtain rfl := hw1.symm
    rw [← HE.out]
    go_wp2_with fail
    refine (containsI_any x.lo x.hi ⟨w.heap.size, 0, none⟩ Ar n c l _ (Lib.hid (hR.out.ext k0)) hn (by rw [Nat.zero_add]; exact y4) (by rw [Nat.zero_add]; exact y5)).mono ?_
    rintro e2 w2 ⟨rfl, hw2⟩
    rw [HB.out]
    obtain rfl := hw2.symm
    cases b
    · go_wp2
      go_ret
      exact ⟨rfl, k0⟩
    · go_wp2
      go_ret
      exact ⟨rfl, k0⟩
  · rw [decide_eq_false he, Bool.false_and]
    obtain ⟨z, hz⟩ : ∃ z, z = entN s := ⟨_, rfl⟩
    rw [← hz] at he hle
    have hne : ((n : Int) == z) = false := by simp; exact he
    have HZ := Lib.hid hz
    clear hz
    go_enter Try.func38, Try.ntmps38
    go_wp2_with fail
    refine (ent_any Ah s.length ch s _ (Lib.hid HPC.out.sh)).mono ?_
    rintro e1 w1 ⟨rfl, hw1⟩
    obtain rfl := hw1.symm
    rw [← HZ.out]
    go_wp2
    go_ret
    exact ⟨rfl, k0⟩
end Go.Proofs.Ytjeipbahddhfgaa
