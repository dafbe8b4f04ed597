/-
  Nodes and places in memory; the small questions of a place.
-/
import Derived.Test.YtdnjjpkajiehgaaZJLst
import Derived.Deep.QuietTactic
import Derived.Deep.RegionHeld3
namespace Go.Proofs.Ytdnjjpkajiehgaa
open Go.RowKit
set_option linter.unusedVariables false
set_option maxRecDepth 100000

/-- A node. -/
structure Nd where
  k : Int
  a : Int
  b : Int
  sh : List Int
  lo : Int
  hi : Int
  sz : Int
  da : List Int
  bi : List Int
/-- Shapes, wherever they lie. -/
structure SX (w : World) (A : Option Addr) (c : Nat) (shs : List (List Int)) : Prop where
  room : shs.length ≤ c
  cells : 0 < shs.length → ∃ ad, A = some ad ∧ ∀ (j : Nat) (s : List Int), shs[j]? = some s → ∃ B d, w.cell? (ad.add j) = some (.slice B s.length d) ∧ ZX w B s.length d s
theorem SX.ext {w w' : World} {A : Option Addr} {c : Nat} {shs : List (List Int)} (h : SX w A c shs) (k : Ext w w') : SX w' A c shs :=
  ⟨h.room, fun hn => by
    obtain ⟨ad, e, hc⟩ := h.cells hn
    exact ⟨ad, e, fun j s hs => by
      obtain ⟨B, d, h1, h2⟩ := hc j s hs
      exact ⟨B, d, cell_ext k h1, h2.ext k⟩⟩⟩
/-- A node's lists in memory. -/
structure NdX (w : World) (x : Nd) (As Ad Ab : Option Addr) (cs cd cb : Nat) : Prop where
  sh : ZX w As x.sh.length cs x.sh
  da : ZX w Ad x.da.length cd x.da
  bi : ZX w Ab x.bi.length cb x.bi
  lsh : x.sh.length ≤ 100000
  lda : x.da.length ≤ 100000
  lbi : x.bi.length ≤ 100000
theorem NdX.ext {w w' : World} {x : Nd} {As Ad Ab : Option Addr} {cs cd cb : Nat} (h : NdX w x As Ad Ab cs cd cb) (k : Ext w w') : NdX w' x As Ad Ab cs cd cb := ⟨h.sh.ext k, h.da.ext k, h.bi.ext k, h.lsh, h.lda, h.lbi⟩
/-- Shapes that may be. -/
def Rights (shs : List (List Int)) : Prop := ∀ s ∈ shs, 0 < entN s
/-- A place in memory. -/
structure Plc (w : World) (x : Nd) (As Ad Ab Ah : Option Addr) (cs cd cb ch : Nat) (shs : List (List Int)) : Prop where
  nd : NdX w x As Ad Ab cs cd cb
  ah : SX w Ah ch shs
  lah : shs.length ≤ 100000
  ok : Rights shs
theorem Plc.ext {w w' : World} {x : Nd} {As Ad Ab Ah : Option Addr} {cs cd cb ch : Nat} {shs : List (List Int)} (h : Plc w x As Ad Ab Ah cs cd cb ch shs) (k : Ext w w') : Plc w' x As Ad Ab Ah cs cd cb ch shs := ⟨h.nd.ext k, h.ah.ext k, h.lah, h.ok⟩
theorem entN_len {l : List Int} (h : 0 < entN l) : 0 < l.length ∧ l.length ≤ 3 := by
  unfold entN at h
  by_cases hc : l.length = 0 ∨ 3 < l.length
  · rw [if_pos hc] at h; omega
  · omega
theorem entF_dims : ∀ (l : List Int) (a : Int), 1 ≤ a → 0 < entF l a → ∀ d ∈ l, 1 ≤ d ∧ d ≤ 64
  | [], a, ha, h, d, hd => by cases hd
  | e :: r, a, ha, h, d, hd => by
    unfold entF at h
    by_cases hc : e < 1 ∨ 64 < a * e
    · rw [if_pos hc] at h; omega
    · rw [if_neg hc] at h
      have h1 : 1 * e ≤ a * e := Int.mul_le_mul ha (Int.le_refl _) (by omega) (by omega)
      rcases List.mem_cons.1 hd with rfl | hd
      · omega
      · exact entF_dims r _ (by omega) h d hd
theorem entN_dims {l : List Int} (h : 0 < entN l) : ∀ d ∈ l, 1 ≤ d ∧ d ≤ 64 := by
  have hl := entN_len h
  unfold entN at h
  rw [if_neg (by omega)] at h
  exact entF_dims l 1 (by omega) h
theorem ten_at (w : World) (a0 a1 a2 a3 a4 a5 a6 a7 a8 a9 : Value) (t : TypeId) : (w.alloc (.cells #[a0, a1, a2, a3, a4, a5, a6, a7, a8, a9] t)).cell? ⟨w.heap.size, 0, none⟩ = some a0 ∧ (w.alloc (.cells #[a0, a1, a2, a3, a4, a5, a6, a7, a8, a9] t)).cell? ⟨w.heap.size, 1, none⟩ = some a1 ∧ (w.alloc (.cells #[a0, a1, a2, a3, a4, a5, a6, a7, a8, a9] t)).cell? ⟨w.heap.size, 2, none⟩ = some a2 ∧ (w.alloc (.cells #[a0, a1, a2, a3, a4, a5, a6, a7, a8, a9] t)).cell? ⟨w.heap.size, 3, none⟩ = some a3 ∧ (w.alloc (.cells #[a0, a1, a2, a3, a4, a5, a6, a7, a8, a9] t)).cell? ⟨w.heap.size, 4, none⟩ = some a4 ∧ (w.alloc (.cells #[a0, a1, a2, a3, a4, a5, a6, a7, a8, a9] t)).cell? ⟨w.heap.size, 5, none⟩ = some a5 ∧ (w.alloc (.cells #[a0, a1, a2, a3, a4, a5, a6, a7, a8, a9] t)).cell? ⟨w.heap.size, 6, none⟩ = some a6 ∧ (w.alloc (.cells #[a0, a1, a2, a3, a4, a5, a6, a7, a8, a9] t)).cell? ⟨w.heap.size, 7, none⟩ = some a7 ∧ (w.alloc (.cells #[a0, a1, a2, a3, a4, a5, a6, a7, a8, a9] t)).cell? ⟨w.heap.size, 8, none⟩ = some a8 ∧ (w.alloc (.cells #[a0, a1, a2, a3, a4, a5, a6, a7, a8, a9] t)).cell? ⟨w.heap.size, 9, none⟩ = some a9 := by
  refine ⟨?_, ?_, ?_, ?_, ?_, ?_, ?_, ?_, ?_, ?_⟩ <;> simp
set_option maxHeartbeats 1000000 in
theorem hasShape_any (x : Nd) (As Ad Ab Ah : Option Addr) (cs cd cb ch : Nat) (shs : List (List Int)) (w : World) (hX : Hid (Plc w x As Ad Ab Ah cs cd cb ch shs)) :
    Calls Try.prog 91 #[.agg #[.int .i64 x.k, .int .i64 x.a, .int .i64 x.b, .slice As x.sh.length cs, .int .i64 x.lo, .int .i64 x.hi, .int .i64 x.sz, .slice Ad x.da.length cd, .slice Ab x.bi.length cb, .slice Ah shs.length ch]] w fun e w' => e = .returned (.bool (decide (0 < entN x.sh))) ∧ Ext w w' := by
  obtain ⟨y0, y1, y2, y3, y4, y5, y6, y7, y8, y9⟩ := ten_at w (.int .i64 x.k) (.int .i64 x.a) (.int .i64 x.b) (.slice As x.sh.length cs) (.int .i64 x.lo) (.int .i64 x.hi) (.int .i64 x.sz) (.slice Ad x.da.length cd) (.slice Ab x.bi.length cb) (.slice Ah shs.length ch) 71
  go_enter Try.func91, Try.ntmps91
  go_wp2_with fail
  refine (ent_any As x.sh.length cs x.sh _ (Lib.hid (hX.out.nd.sh.ext ((Ext.refl w).alloc _)))).mono ?_
  rintro e w1 ⟨rfl, rfl⟩
  go_wp2
  go_ret
  exact ⟨rfl, (Ext.refl w).alloc _⟩
set_option maxHeartbeats 1000000 in
theorem hasSize_any (x : Nd) (As Ad Ab Ah : Option Addr) (cs cd cb ch : Nat) (shs : List (List Int)) (w : World) (hX : Hid (Plc w x As Ad Ab Ah cs cd cb ch shs)) :
    Calls Try.prog 98 #[.agg #[.int .i64 x.k, .int .i64 x.a, .int .i64 x.b, .slice As x.sh.length cs, .int .i64 x.lo, .int .i64 x.hi, .int .i64 x.sz, .slice Ad x.da.length cd, .slice Ab x.bi.length cb, .slice Ah shs.length ch]] w fun e w' => e = .returned (.bool (decide (1 ≤ x.sz))) ∧ Ext w w' := by
  obtain ⟨y0, y1, y2, y3, y4, y5, y6, y7, y8, y9⟩ := ten_at w (.int .i64 x.k) (.int .i64 x.a) (.int .i64 x.b) (.slice As x.sh.length cs) (.int .i64 x.lo) (.int .i64 x.hi) (.int .i64 x.sz) (.slice Ad x.da.length cd) (.slice Ab x.bi.length cb) (.slice Ah shs.length ch) 71
  go_enter Try.func98, Try.ntmps98
  go_wp2
  go_ret
  exact ⟨rfl, (Ext.refl w).alloc _⟩
set_option maxHeartbeats 1000000 in
theorem hasAll_any (x : Nd) (As Ad Ab Ah : Option Addr) (cs cd cb ch : Nat) (shs : List (List Int)) (w : World) (hX : Hid (Plc w x As Ad Ab Ah cs cd cb ch shs)) :
    Calls Try.prog 100 #[.agg #[.int .i64 x.k, .int .i64 x.a, .int .i64 x.b, .slice As x.sh.length cs, .int .i64 x.lo, .int .i64 x.hi, .int .i64 x.sz, .slice Ad x.da.length cd, .slice Ab x.bi.length cb, .slice Ah shs.length ch]] w fun e w' => e = .returned (.bool true) ∧ Ext w w' := by
  obtain ⟨y0, y1, y2, y3, y4, y5, y6, y7, y8, y9⟩ := ten_at w (.int .i64 x.k) (.int .i64 x.a) (.int .i64 x.b) (.slice As x.sh.length cs) (.int .i64 x.lo) (.int .i64 x.hi) (.int .i64 x.sz) (.slice Ad x.da.length cd) (.slice Ab x.bi.length cb) (.slice Ah shs.length ch) 71
  go_enter Try.func100, Try.ntmps100
  go_wp2
  go_ret
  exact ⟨rfl, (Ext.refl w).alloc _⟩
set_option maxHeartbeats 1000000 in
theorem hasFactor_any (x : Nd) (As Ad Ab Ah : Option Addr) (cs cd cb ch : Nat) (shs : List (List Int)) (w : World) (hX : Hid (Plc w x As Ad Ab Ah cs cd cb ch shs)) :
    Calls Try.prog 102 #[.agg #[.int .i64 x.k, .int .i64 x.a, .int .i64 x.b, .slice As x.sh.length cs, .int .i64 x.lo, .int .i64 x.hi, .int .i64 x.sz, .slice Ad x.da.length cd, .slice Ab x.bi.length cb, .slice Ah shs.length ch]] w fun e w' => e = .returned (.bool (decide ((x.da.length : Int) = 1))) ∧ Ext w w' := by
  obtain ⟨y0, y1, y2, y3, y4, y5, y6, y7, y8, y9⟩ := ten_at w (.int .i64 x.k) (.int .i64 x.a) (.int .i64 x.b) (.slice As x.sh.length cs) (.int .i64 x.lo) (.int .i64 x.hi) (.int .i64 x.sz) (.slice Ad x.da.length cd) (.slice Ab x.bi.length cb) (.slice Ah shs.length ch) 71
  go_enter Try.func102, Try.ntmps102
  go_wp2
  go_ret
  exact ⟨rfl, (Ext.refl w).alloc _⟩
set_option maxHeartbeats 1000000 in
theorem hasPowers_any (x : Nd) (As Ad Ab Ah : Option Addr) (cs cd cb ch : Nat) (shs : List (List Int)) (w : World) (hX : Hid (Plc w x As Ad Ab Ah cs cd cb ch shs)) :
    Calls Try.prog 104 #[.agg #[.int .i64 x.k, .int .i64 x.a, .int .i64 x.b, .slice As x.sh.length cs, .int .i64 x.lo, .int .i64 x.hi, .int .i64 x.sz, .slice Ad x.da.length cd, .slice Ab x.bi.length cb, .slice Ah shs.length ch]] w fun e w' => e = .returned (.bool (decide ((x.da.length : Int) = 3))) ∧ Ext w w' := by
  obtain ⟨y0, y1, y2, y3, y4, y5, y6, y7, y8, y9⟩ := ten_at w (.int .i64 x.k) (.int .i64 x.a) (.int .i64 x.b) (.slice As x.sh.length cs) (.int .i64 x.lo) (.int .i64 x.hi) (.int .i64 x.sz) (.slice Ad x.da.length cd) (.slice Ab x.bi.length cb) (.slice Ah shs.length ch) 71
  go_enter Try.func104, Try.ntmps104
  go_wp2
  go_ret
  exact ⟨rfl, (Ext.refl w).alloc _⟩
theorem isCount_any (v : Int) (w : World) : Calls Try.prog 125 #[.int .i64 v] w fun e w' => e = .returned (.bool (decide (1 ≤ v) && decide (v ≤ 64))) ∧ w' = w := by
  go_enter Try.func125, Try.ntmps125
  by_cases h1 : v < 1
  · go_wp2
    go_ret
    exact ⟨by show Ending.returned (.bool false) = _; rw [decide_eq_false (show ¬ 1 ≤ v by omega)]; rfl, rfl⟩
  · go_wp2
    go_ret
    exact ⟨rfl, rfl⟩
set_option maxHeartbeats 1000000 in
theorem hasBiases_any (x : Nd) (As Ad Ab Ah : Option Addr) (cs cd cb ch : Nat) (shs : List (List Int)) (w : World) (hX : Hid (Plc w x As Ad Ab Ah cs cd cb ch shs)) :
    Calls Try.prog 94 #[.agg #[.int .i64 x.k, .int .i64 x.a, .int .i64 x.b, .slice As x.sh.length cs, .int .i64 x.lo, .int .i64 x.hi, .int .i64 x.sz, .slice Ad x.da.length cd, .slice Ab x.bi.length cb, .slice Ah shs.length ch]] w fun e w' => e = .returned (.bool (decide (1 ≤ (x.bi.length : Int)) && decide ((x.bi.length : Int) ≤ 64))) ∧ Ext w w' := by
  obtain ⟨y0, y1, y2, y3, y4, y5, y6, y7, y8, y9⟩ := ten_at w (.int .i64 x.k) (.int .i64 x.a) (.int .i64 x.b) (.slice As x.sh.length cs) (.int .i64 x.lo) (.int .i64 x.hi) (.int .i64 x.sz) (.slice Ad x.da.length cd) (.slice Ab x.bi.length cb) (.slice Ah shs.length ch) 71
  go_enter Try.func94, Try.ntmps94
  go_wp2_with fail
  refine (isCount_any _ _).mono ?_
  rintro e w1 ⟨rfl, rfl⟩
  go_wp2
  go_ret
  exact ⟨rfl, (Ext.refl w).alloc _⟩
set_option maxHeartbeats 1000000 in
theorem own_any (x : Nd) (As Ad Ab Ah : Option Addr) (cs cd cb ch : Nat) (shs : List (List Int)) (w : World) (hX : Hid (Plc w x As Ad Ab Ah cs cd cb ch shs)) :
    Calls Try.prog 92 #[.agg #[.int .i64 x.k, .int .i64 x.a, .int .i64 x.b, .slice As x.sh.length cs, .int .i64 x.lo, .int .i64 x.hi, .int .i64 x.sz, .slice Ad x.da.length cd, .slice Ab x.bi.length cb, .slice Ah shs.length ch]] w fun e w' => ∃ A c, e = .returned (.slice A x.sh.length c) ∧ ZX w' A x.sh.length c x.sh ∧ Frsh w.heap.size A ∧ Ext w w' := by
  obtain ⟨y0, y1, y2, y3, y4, y5, y6, y7, y8, y9⟩ := ten_at w (.int .i64 x.k) (.int .i64 x.a) (.int .i64 x.b) (.slice As x.sh.length cs) (.int .i64 x.lo) (.int .i64 x.hi) (.int .i64 x.sz) (.slice Ad x.da.length cd) (.slice Ab x.bi.length cb) (.slice Ah shs.length ch) 71
  go_enter Try.func92, Try.ntmps92
  go_wp2_with fail
  refine (clone_any As x.sh.length cs x.sh _ (Lib.hid (hX.out.nd.sh.ext ((Ext.refl w).alloc _))) hX.out.nd.lsh).mono ?_
  rintro e w1 ⟨A, c, rfl, h1, h2, h3⟩
  have H1 := Lib.hid (And.intro h1 h2)
  have H3 := Lib.hid h3
  clear h1 h2 h3
  go_wp2
  go_ret
  exact ⟨A, c, rfl, H1.out.1, fun ad e => by have := H1.out.2 ad e; simp at this; omega, ((Ext.refl w).alloc _).trans H3.out⟩
theorem Plc.shape {w : World} {x : Nd} {As Ad Ab Ah : Option Addr} {cs cd cb ch : Nat} {shs : List (List Int)} (h : Plc w x As Ad Ab Ah cs cd cb ch shs) {i : Nat} {s : List Int} (hs : shs[i]? = some s) :
    ∃ ad B d, Ah = some ad ∧ w.cell? (ad.add i) = some (.slice B s.length d) ∧ ZX w B s.length d s ∧ 0 < entN s := by
  have hi := (List.getElem?_eq_some_iff.1 hs).1
  obtain ⟨ad, e, hc⟩ := h.ah.cells (by omega)
  obtain ⟨B, d, h1, h2⟩ := hc i s hs
  exact ⟨ad, B, d, e, h1, h2, h.ok s (List.mem_of_getElem? hs)⟩
set_option maxHeartbeats 1000000 in
theorem taken_any (x : Nd) (As Ad Ab Ah : Option Addr) (cs cd cb ch : Nat) (shs : List (List Int)) (w : World) (hX : Hid (Plc w x As Ad Ab Ah cs cd cb ch shs)) (i : Nat) (s : List Int) (hi : x.a = (i : Int)) (hs : Hid (shs[i]? = some s)) :
    Calls Try.prog 103 #[.agg #[.int .i64 x.k, .int .i64 x.a, .int .i64 x.b, .slice As x.sh.length cs, .int .i64 x.lo, .int .i64 x.hi, .int .i64 x.sz, .slice Ad x.da.length cd, .slice Ab x.bi.length cb, .slice Ah shs.length ch]] w fun e w' => ∃ A c, e = .returned (.slice A s.length c) ∧ ZX w' A s.length c s ∧ Frsh w.heap.size A ∧ Ext w w' := by
  obtain ⟨y0, y1, y2, y3, y4, y5, y6, y7, y8, y9⟩ := ten_at w (.int .i64 x.k) (.int .i64 x.a) (.int .i64 x.b) (.slice As x.sh.length cs) (.int .i64 x.lo) (.int .i64 x.hi) (.int .i64 x.sz) (.slice Ad x.da.length cd) (.slice Ab x.bi.length cb) (.slice Ah shs.length ch) 71
  obtain ⟨ad, B, d, rfl, hc, hz, hr⟩ := (hX.out.ext ((Ext.refl w).alloc (.cells #[.int .i64 x.k, .int .i64 x.a, .int .i64 x.b, .slice As x.sh.length cs, .int .i64 x.lo, .int .i64 x.hi, .int .i64 x.sz, .slice Ad x.da.length cd, .slice Ab x.bi.length cb, .slice Ah shs.length ch] 71))).shape hs.out
  have HZ := Lib.hid hz
  have hl := entN_len hr
  have hil := (List.getElem?_eq_some_iff.1 hs.out).1
  have hll := hX.out.lah
  clear hz hr
  obtain ⟨k, a, b, sh, lo, hv, sz, da, bi⟩ := x
  dsimp only at *
  subst hi
  have i0 : (0 : Int) ≤ (i : Int) := by omega
  have i1 : (i : Int) < (shs.length : Int) := by omega
  go_enter Try.func103, Try.ntmps103
  go_wp2_with fail
  refine (clone_any B s.length d s _ HZ (by omega)).mono ?_
  rintro e w1 ⟨A, c, rfl, h1, h2, h3⟩
  have H1 := Lib.hid (And.intro h1 h2)
  have H3 := Lib.hid h3
  clear h1 h2 h3
  go_wp2
  go_ret
  exact ⟨A, c, rfl, H1.out.1, fun ad e => by have := H1.out.2 ad e; simp at this; omega, ((Ext.refl w).alloc _).trans H3.out⟩
end Go.Proofs.Ytdnjjpkajiehgaa

/-
  What a place has no more, what it stands behind, and whether its numbers are within.
-/
namespace Go.Proofs.Ytdnjjpkajiehgaa
open Go.RowKit
set_option linter.unusedVariables false
set_option maxRecDepth 100000

/-- What a node has: A, B, Shape, Lo or Hi, Size, Data, Bias. -/
def hasL (x : Nd) : List Bool := [decide (x.a ≠ 0), decide (x.b ≠ 0), decide (0 < x.sh.length), decide (x.lo ≠ 0) || decide (x.hi ≠ 0), decide (x.sz ≠ 0), decide (0 < x.da.length), decide (0 < x.bi.length)]
def okL : List Bool → List Bool → Bool
  | h :: hs, m :: ms => (!h || m) && okL hs ms
  | _, _ => true
/-- What a kind has. -/
def mayL (k : Int) : Option (List Bool) :=
  if k = 1 then some [false, false, true, true, false, false, false] else
  if k = 2 then some [false, false, true, false, false, true, false] else
  if k = 3 then some [true, false, false, false, false, true, true] else
  if k = 4 then some [true, false, true, false, false, true, true] else
  if k = 5 then some [true, false, false, false, true, false, false] else
  if k = 6 then some [true, true, false, false, false, false, false] else
  if k = 7 then some [true, false, false, false, false, true, false] else
  if k = 8 then some [true, false, false, false, false, true, false] else
  if k = 9 then some [true, false, true, false, false, false, false] else none
def near1 (z : Int) : Bool := decide (-1048576 ≤ z) && decide (z ≤ 1048576)
def nearOK (x : Nd) : Bool := decide (x.lo ≤ x.hi) && (near1 x.lo && (near1 x.hi && (nearB x.da && nearB x.bi)))
def ahB (v : Int) (n : Nat) : Bool := decide (0 ≤ v) && decide (v < (n : Int))
end Go.Proofs.Ytdnjjpkajiehgaa

/-
  Whether a place's numbers are within the bound.
-/
namespace Go.Proofs.Ytdnjjpkajiehgaa
open Go.RowKit
set_option linter.unusedVariables false
set_option maxRecDepth 100000

set_option maxHeartbeats 4000000 in
theorem within_any (x : Nd) (As Ad Ab Ah : Option Addr) (cs cd cb ch : Nat) (shs : List (List Int)) (w : World) (hX : Hid (Plc w x As Ad Ab Ah cs cd cb ch shs)) :
    Calls Try.prog 70 #[.agg #[.int .i64 x.k, .int .i64 x.a, .int .i64 x.b, .slice As x.sh.length cs, .int .i64 x.lo, .int .i64 x.hi, .int .i64 x.sz, .slice Ad x.da.length cd, .slice Ab x.bi.length cb, .slice Ah shs.length ch]] w fun e w' => e = .returned (.bool (nearOK x)) ∧ Ext w w' := by
  obtain ⟨y0, y1, y2, y3, y4, y5, y6, y7, y8, y9⟩ := ten_at w (.int .i64 x.k) (.int .i64 x.a) (.int .i64 x.b) (.slice As x.sh.length cs) (.int .i64 x.lo) (.int .i64 x.hi) (.int .i64 x.sz) (.slice Ad x.da.length cd) (.slice Ab x.bi.length cb) (.slice Ah shs.length ch) 71
  go_enter Try.func70, Try.ntmps70
  have L1 := hX.out.nd.lda
  have L2 := hX.out.nd.lbi
  by_cases h : x.lo ≤ x.hi
  · have H := Lib.hid h
    go_wp2_with fail
    refine (beyond_any x.lo _).mono ?_
    rintro e1 w1 ⟨rfl, rfl⟩
    obtain ⟨b, hb⟩ : ∃ b, (decide (-1048576 ≤ x.lo) && decide (x.lo ≤ 1048576)) = b := ⟨_, rfl⟩
    have B1 := Lib.hid (show near1 x.lo = b from hb)
    rw [hb]
    clear hb
    cases b
    · have HR := Lib.hid (show nearOK x = false by rw [nearOK, B1.out, Bool.false_and, Bool.and_false])
      go_wp2
      go_ret
      exact ⟨by show Ending.returned (.bool false) = _; rw [HR.out], (Ext.refl w).alloc _⟩
    · go_wp2_with fail
      refine (beyond_any x.hi _).mono ?_
      rintro e1 w1 ⟨rfl, rfl⟩
      obtain ⟨b, hb⟩ : ∃ b, (decide (-1048576 ≤ x.hi) && decide (x.hi ≤ 1048576)) = b := ⟨_, rfl⟩
      have B2 := Lib.hid (show near1 x.hi = b from hb)
      rw [hb]
      clear hb
      cases b
      · have HR := Lib.hid (show nearOK x = false by rw [nearOK, B2.out, Bool.false_and, Bool.and_false, Bool.and_false])
        go_wp2
        go_ret
        exact ⟨by show Ending.returned (.bool false) = _; rw [HR.out], (Ext.refl w).alloc _⟩
      · go_wp2_with fail
        refine (contains_any Ad x.da.length cd x.da _ (Lib.hid (hX.out.nd.da.ext ((Ext.refl w).alloc _))) L1).mono ?_
        rintro e1 w1 ⟨rfl, rfl⟩
        obtain ⟨b, hb⟩ : ∃ b, nearB x.da = b := ⟨_, rfl⟩
        have B3 := Lib.hid hb
        rw [hb]
        clear hb
        cases b
        · have HR := Lib.hid (show nearOK x = false by rw [nearOK, B3.out, Bool.false_and, Bool.and_false, Bool.and_false, Bool.and_false])
          go_wp2
          go_ret
          exact ⟨by show Ending.returned (.bool false) = _; rw [HR.out], (Ext.refl w).alloc _⟩
        · go_wp2_with fail
          refine (contains_any Ab x.bi.length cb x.bi _ (Lib.hid (hX.out.nd.bi.ext ((Ext.refl w).alloc _))) L2).mono ?_
          rintro e1 w1 ⟨rfl, rfl⟩
          obtain ⟨b, hb⟩ : ∃ b, nearB x.bi = b := ⟨_, rfl⟩
          have HR := Lib.hid (show nearOK x = b by rw [nearOK, decide_eq_true H.out, B1.out, B2.out, B3.out, hb]; cases b <;> rfl)
          rw [hb]
          clear hb
          cases b
          · go_wp2
            go_ret
            exact ⟨by show Ending.returned (.bool false) = _; rw [HR.out], (Ext.refl w).alloc _⟩
          · go_wp2
            go_ret
            exact ⟨by show Ending.returned (.bool true) = _; rw [HR.out], (Ext.refl w).alloc _⟩
  · have HR := Lib.hid (show nearOK x = false by rw [nearOK, decide_eq_false h, Bool.false_and])
    go_wp2
    go_ret
    exact ⟨by show Ending.returned (.bool false) = _; rw [HR.out], (Ext.refl w).alloc _⟩
end Go.Proofs.Ytdnjjpkajiehgaa
