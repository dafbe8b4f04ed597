import Derived.Test.YtjikdbcjabopnaaGreatDoorJ9
import Derived.Deep.RegionHeld3
import Derived.Test.YtjikdbcjabopnaaGreatDoorJTFac
namespace Go.Proofs.YtjikdbcjabopnaaGreatDoor
open Go.RowKit
set_option linter.unusedVariables false
set_option maxRecDepth 100000
def noSq (q x : Nat) : Bool := decide (x ^ ((q - 1) / 2) % q = q - 1)
def First (q x : Nat) : Prop := (x < q ∧ noSq q x = true ∧ ∀ y, y < x → noSq q y = false) ∨ (x = 0 ∧ ∀ y, y < q → noSq q y = false)
def lr (q sq : Nat) : Nat → Nat → Nat → Nat
 | 0, _, l => l
 | k + 1, r, l => lr q sq k (r * sq % q) (min l (r * sq % q))
set_option maxHeartbeats 1000000 in
theorem noSquare_any (q x : Nat) (w : World) (hq0 : 2 ≤ q) (hq : q < 18446744073709551616) (hx : x < 18446744073709551616) :
    Calls Tryz.prog 237 #[.agg #[.int .u64 (q : Int)], .int .u64 (x : Int)] w fun e w' => e = .returned (.bool (noSq q x)) ∧ Ext w w' := by
 have e1 : ((q : Int) - 1) / 2 = (((q - 1) / 2 : Nat) : Int) := by omega
 obtain ⟨d, hd⟩ : ∃ d, d = (q - 1) / 2 := ⟨_, rfl⟩
 rw [← hd] at e1
 have hdb : d < 18446744073709551616 := by omega
 have HN := Lib.hid (show noSq q x = decide (x ^ d % q = q - 1) by rw [noSq, hd])
 have hw1 : IntKind.u64.wrap ((q : Int) - 1) = (q : Int) - 1 := by rw [IntKind.wrap_u64]; omega
 have hw2 : IntKind.u64.wrap (((q : Int) - 1).tdiv 2) = (d : Int) := by
  rw [Int.tdiv_eq_ediv_of_nonneg (by omega), e1, IntKind.wrap_u64]; omega
 clear hd e1
 go_enter Tryz.func237, Tryz.ntmps237
 go_wp2_with fail
 have kV : Ext w (w.alloc (Obj.cells #[Value.int IntKind.u64 (q : Int)] 277)) := (Ext.refl w).alloc _
 have cV : (w.alloc (Obj.cells #[Value.int IntKind.u64 (q : Int)] 277)).cell? ⟨w.heap.size, 0, none⟩ = some (.int .u64 (q : Int)) := by simp
 generalize w.alloc (Obj.cells #[Value.int IntKind.u64 (q : Int)] 277) = V at *
 have hV : w.heap.size < V.heap.size := World.block_lt_of_cell? _ _ cV
 go_region_held3 (fun w' => w'.cell? ⟨w.heap.size, 0, none⟩ = some (.int .u64 (q : Int))) (go_keep)
  (first
   | (go_at_call 235; refine (powN x d q V.drew (by omega) hx hdb hq).mono ?_; rintro e w1 ⟨rfl, k1⟩; have k1' : Ext V w1 := (Ext.refl V).drew.trans k1; have c1 := kept_cell k1' hV cV)
   | fail)
 have hlt := Nat.mod_lt (x ^ d) (show 0 < q by omega)
 have HE := Lib.hid (show ((x : Int) ^ d % (q : Int) == (q : Int) - 1) = decide (x ^ d % q = q - 1) by
  rw [show (q : Int) - 1 = ((q - 1 : Nat) : Int) by omega, show (x : Int) ^ d % (q : Int) = ((x ^ d % q : Nat) : Int) by rw [Int.natCast_emod, Int.natCast_pow]]; exact eq_dec _ _)
 go_wp2
 go_ret
 exact ⟨congrArg Ending.returned (congrArg Value.bool (by rw [HN.out]; exact HE.out)), kV.trans k1'⟩
set_option maxHeartbeats 1000000 in
theorem firstBelow_any (q : Nat) (w : World) (hq0 : 2 ≤ q) (hq : q < 18446744073709551616) :
    Calls Tryz.prog 236 #[.int .u64 (q : Int), .func (.func 237) #[.agg #[.int .u64 (q : Int)]] #[]] w fun e w' => ∃ x, First q x ∧ e = .returned (.int .u64 (x : Int)) ∧ Ext w w' := by
 go_enter Tryz.func236, Tryz.ntmps236
 go_wp2
 go_loopw [7] (fun i wr => ∃ k : Nat, k ≤ q ∧ i = .int .u64 (k : Int) ∧ Ext w wr ∧ Hid (∀ y, y < k → noSq q y = false)) (fun i _ => q - (intOf i).toNat)
 case atStart => exact ⟨0, by omega, rfl, Ext.refl _, Lib.hid fun y hy => by omega⟩
 case round =>
  obtain ⟨k, hk, rfl, kr, hi⟩ := hrel
  by_cases hlt : k < q
  ·go_wp2_with fail
   refine (noSquare_any q k _ hq0 hq (by omega)).mono ?_
   rintro e w2 ⟨rfl, k2⟩
   cases hp : noSq q k
   ·have HI := Lib.hid (show ∀ y, y < k + 1 → noSq q y = false from fun y hy => by
       rcases Nat.lt_or_eq_of_le (Nat.le_of_lt_succ hy) with h | h
       ·exact hi.out y h
       ·rw [h]; exact hp)
    go_wp2
    exact ⟨⟨k + 1, by omega, by go_num, kr.trans k2, HI⟩, by simp [intOf] <;> omega⟩
   ·have HF := Lib.hid (show First q k from .inl ⟨hlt, hp, hi.out⟩)
    go_wp2
    go_ret
    exact ⟨k, HF.out, rfl, kr.trans k2⟩
  ·have HF := Lib.hid (show First q 0 from .inr ⟨rfl, fun y hy => hi.out y (by omega)⟩)
   go_wp2
   go_ret
   exact ⟨0, HF.out, rfl, kr⟩
set_option maxHeartbeats 1000000 in
theorem leastRoot_any (q r n : Nat) (w : World) (hq0 : 2 ≤ q) (hq : q < 18446744073709551616) (hr : r < q) (hn0 : 2 ≤ n) (hn : n ≤ 8192) :
    Calls Tryz.prog 238 #[.agg #[.int .u64 (q : Int)], .int .u64 (r : Int), .int .u64 (n : Int)] w fun e w' => e = .returned (.int .u64 ((lr q (r * r % q) (n / 2 - 1) r r : Nat) : Int)) ∧ Ext w w' := by
 go_enter Tryz.func238, Tryz.ntmps238
 go_wp2_with fail
 refine (mulN r r q _ (by omega) (by omega) (by omega) hq).mono ?_
 rintro e w1 ⟨rfl, k1⟩
 have kw : Ext w w1 := ((Ext.refl w).alloc _).trans k1
 have c0 : w1.cell? ⟨w.heap.size, 0, none⟩ = some (.int .u64 (q : Int)) := kept_cell k1 (by simp) (by simp)
 have hsz : w.heap.size < w1.heap.size := World.block_lt_of_cell? _ _ c0
 have hsl := Nat.mod_lt (r * r) (show 0 < q by omega)
 clear k1
 obtain ⟨sq, hsq⟩ : ∃ sq, sq = r * r % q := ⟨_, rfl⟩
 rw [← hsq] at hsl ⊢
 have HSQ := Lib.hid hsq
 clear hsq
 have hn2 : ((n : Int) / 2 - 1) = ((n / 2 - 1 : Nat) : Int) := by omega
 obtain ⟨M, hM⟩ : ∃ M, M = n / 2 - 1 := ⟨_, rfl⟩
 rw [← hM] at hn2
 have hMb : M ≤ 4095 := by omega
 have HM := Lib.hid hM
 have HR := Lib.hid (show lr q sq (n / 2 - 1) r r = lr q sq (M - 0) r r by rw [hM, Nat.sub_zero])
 clear hM
 go_wp2
 try rw [hn2]
 clear hn2
 go_loopw [1, 8, 18] (fun rv lv iv wr => ∃ k R L : Nat, k ≤ M ∧ R < q ∧ L < q ∧ rv = .int .u64 (R : Int) ∧ lv = .int .u64 (L : Int) ∧ iv = .int .u64 (k : Int) ∧ Ext w1 wr ∧ Hid (lr q sq (n / 2 - 1) r r = lr q sq (M - k) R L)) (fun _ _ iv _ => M - (intOf iv).toNat)
 case atStart => exact ⟨0, r, r, by omega, hr, hr, rfl, rfl, rfl, Ext.refl _, HR⟩
 case round =>
  obtain ⟨k, R, L, hk, hR, hL, rfl, rfl, rfl, kr, hi⟩ := hrel
  by_cases hlt : k < M
  ·have c0' := kept_cell kr hsz c0
   go_wp2_with fail
   refine (mulN R sq q _ (by omega) (by omega) (by omega) hq).mono ?_
   rintro e w2 ⟨rfl, k2⟩
   have hl2 := Nat.mod_lt (R * sq) (show 0 < q by omega)
   have HI := Lib.hid (show lr q sq (n / 2 - 1) r r = lr q sq (M - (k + 1)) (R * sq % q) (min L (R * sq % q)) by rw [hi.out, show M - k = (M - (k + 1)) + 1 by omega, lr])
   generalize R * sq % q = R2 at *
   go_wp2
   exact ⟨⟨k + 1, R2, min L R2, by omega, hl2, by omega, rfl, u64_eq (by omega), by go_num, kr.trans k2, HI⟩, by simp [intOf] <;> omega⟩
  ·have HE := Lib.hid (show lr q sq (n / 2 - 1) r r = L by rw [hi.out, show M - k = 0 by omega, lr])
   go_wp2
   go_ret
   exact ⟨by rw [← HSQ.out, HE.out]; rfl, kw.trans kr⟩
def RootPost (q n : Nat) (w : World) (e : Ending) (w' : World) : Prop :=
 ((stepS n = false ∨ q % n ≠ 1 ∨ isS q = false) ∧ e = .returned (.tuple #[.int .u64 0, .int .i64 1]) ∧ Ext w w') ∨
 (stepS n = true ∧ q % n = 1 ∧ isS q = true ∧ ∃ x, First q x ∧ e = .returned (.tuple #[.int .u64 ((lr q (x ^ ((q - 1) / n) % q * (x ^ ((q - 1) / n) % q) % q) (n / 2 - 1) (x ^ ((q - 1) / n) % q) (x ^ ((q - 1) / n) % q) : Nat) : Int), .int .i64 0]) ∧ Ext w w')
theorem isS_ge {q : Nat} (h : isS q = true) : 2 ≤ q := by
 rcases Nat.lt_or_ge q 2 with g | g
 ·rw [isS_one g] at h; cases h
 ·exact g
theorem First.lt {q x : Nat} (h : First q x) (hq : 2 ≤ q) : x < q := by
 rcases h with h | h
 ·exact h.1
 ·rw [h.1]; omega
set_option maxHeartbeats 1000000 in
theorem root_any (q n : Nat) (w : World) (hq : q < 18446744073709551616) (hn : n < 18446744073709551616) (hT : Tabs w) :
    Calls Tryz.prog 172 #[.int .u64 (q : Int), .int .u64 (n : Int)] w (RootPost q n w) := by
 have HT := Lib.hid hT
 clear hT
 cases h1 : stepS n
 ·go_enter Tryz.func172, Tryz.ntmps172
  go_wp2_with fail
  refine (order_any n w hn).mono ?_
  rw [h1]
  rintro e w' ⟨rfl, rfl⟩
  go_wp2
  go_ret2
  exact .inl ⟨.inl h1, rfl, Ext.refl _⟩
 obtain ⟨hn0, hn1⟩ := stepS_range h1
 by_cases h2 : q % n = 1
 ·have g2 : ((q : Int) % (n : Int) != 1) = false := by simp; omega
  go_enter Tryz.func172, Tryz.ntmps172
  go_wp2_with fail
  refine (order_any n w hn).mono ?_
  rw [h1]
  rintro e w' ⟨rfl, rfl⟩
  go_wp2_with fail
  refine (is_any q w hq HT.out).mono ?_
  rintro e w1 ⟨rfl, k1⟩
  cases h3 : isS q
  ·go_wp2
   go_ret2
   exact .inl ⟨.inr (.inr h3), rfl, k1⟩
  ·have hq0 := isS_ge h3
   have hdv : ((q : Int) - 1) / (n : Int) = (((q - 1) / n : Nat) : Int) := by rw [Int.natCast_ediv]; congr 1; omega
   obtain ⟨d, hd⟩ : ∃ d, d = (q - 1) / n := ⟨_, rfl⟩
   rw [← hd] at hdv
   have hdb : d < 18446744073709551616 := by
    rw [hd]; exact Nat.lt_of_le_of_lt (Nat.div_le_self _ _) (by omega)
   have HD := Lib.hid hd
   clear hd
   have hw1 : IntKind.u64.wrap ((q : Int) - 1) = (q : Int) - 1 := by rw [IntKind.wrap_u64]; omega
   have hw2 : IntKind.u64.wrap (((q : Int) - 1).tdiv (n : Int)) = (d : Int) := by
    rw [Int.tdiv_eq_ediv_of_nonneg (by omega), hdv, IntKind.wrap_u64]; omega
   have hnz : ((n : Int) == 0) = false := by simp; omega
   have hnz2 : ¬ ((n : Int) = 0) := by omega
   have hnz3 : ¬ (n = 0) := by omega
   clear hdv
   go_wp2_with fail
   have kV : Ext w1 (w1.alloc (Obj.cells #[Value.int IntKind.u64 (q : Int)] 277)) := (Ext.refl w1).alloc _
   have cV : (w1.alloc (Obj.cells #[Value.int IntKind.u64 (q : Int)] 277)).cell? ⟨w1.heap.size, 0, none⟩ = some (.int .u64 (q : Int)) := by simp
   generalize w1.alloc (Obj.cells #[Value.int IntKind.u64 (q : Int)] 277) = V at *
   have hV : w1.heap.size < V.heap.size := World.block_lt_of_cell? _ _ cV
   go_region_held3 (fun w' => w'.cell? ⟨w1.heap.size, 0, none⟩ = some (.int .u64 (q : Int))) (go_keep)
    (first
     | (go_at_call 235; refine (powN x d q _ (by omega) (by have := hFx.lt hq0; omega) hdb hq).mono ?_; rintro e w3 ⟨rfl, k3⟩; have k3' : Ext V w3 := k2'.trans k3; have c3 := kept_cell k3' hV cV)
     | (go_at_call 236; refine (firstBelow_any q _ hq0 hq).mono ?_; rintro e w2 ⟨x, hFx, rfl, k2⟩; have k2' : Ext V w2 := (Ext.refl V).drew.trans k2; have c2 := kept_cell k2' hV cV)
     | fail)
   have hlt := Nat.mod_lt (x ^ d) (show 0 < q by omega)
   obtain ⟨r, hr⟩ : ∃ r, r = x ^ d % q := ⟨_, rfl⟩
   rw [← hr] at hlt
   have hrz : (x : Int) ^ d % (q : Int) = (r : Int) := by rw [hr, Int.natCast_emod, Int.natCast_pow]
   rw [hrz]
   have HR := Lib.hid hr
   clear hr hrz
   go_wp2_with fail
   refine (leastRoot_any q r n _ hq0 hq hlt hn0 hn1).mono ?_
   rintro e w4 ⟨rfl, k4⟩
   have HG := Lib.hid (show ∀ e w', e = .returned (.tuple #[.int .u64 ((lr q (r * r % q) (n / 2 - 1) r r : Nat) : Int), .int .i64 0]) → Ext w w' → RootPost q n w e w' from fun e w' he hw => by
    refine .inr ⟨h1, h2, h3, x, hFx, ?_, hw⟩
    rw [← HD.out, ← HR.out]; exact he)
   generalize lr q (r * r % q) (n / 2 - 1) r r = z at *
   go_wp2
   go_ret2
   exact HG.out _ _ rfl (k1.trans (kV.trans (k3'.trans k4)))
 ·have g2 : ((q : Int) % (n : Int) != 1) = true := by simp; omega
  go_enter Tryz.func172, Tryz.ntmps172
  go_wp2_with fail
  refine (order_any n w hn).mono ?_
  rw [h1]
  rintro e w' ⟨rfl, rfl⟩
  go_wp2
  go_ret2
  exact .inl ⟨.inr (.inl h2), rfl, Ext.refl _⟩
def RW (w : World) (g : Nat) (t : TypeId) (n : Nat) (F : Nat → Value) : Prop := w.heap[g]? = some (.cells ((List.range n).map F).toArray t (0, 0))
section
variable {w w' : World} {g : Nat} {t : TypeId} {n : Nat} {F G : Nat → Value}
theorem RW.lt (h : RW w g t n F) : g < w.heap.size := (Array.getElem?_eq_some_iff.1 h).1
theorem RW.cell (h : RW w g t n F) {i : Nat} (hi : i < n) : w.cell? ⟨g, i, none⟩ = some (F i) := by
 rw [cell_of_row w g i _ t (0, 0) h]
 simp [hi]
theorem RW.frozen (h : RW w g t n F) (i : Nat) : w.frozen? ⟨g, i, none⟩ = false := by
 unfold RW at h
 simp [World.frozen?, h]
theorem RW.keep (h : RW w g t n F) (hg : w'.heap[g]? = w.heap[g]?) : RW w' g t n F := hg.trans h
theorem RW.below {B : Nat} (h : RW w g t n F) (hb : Below B w w') (hg : g < B) : RW w' g t n F := h.keep (hb.block g hg)
theorem RW.ext (h : RW w g t n F) (hb : Ext w w') : RW w' g t n F := h.below hb h.lt
theorem RW.congr (h : RW w g t n F) (e : ∀ i, i < n → F i = G i) : RW w g t n G := by
 have : (List.range n).map F = (List.range n).map G := List.map_congr_left fun i hi => e i (List.mem_range.1 hi)
 unfold RW at h ⊢
 rw [← this]; exact h
theorem RW.set (h : RW w g t n F) {i : Nat} (hi : i < n) (v : Value) : RW (w.setCell ⟨g, i, none⟩ v) g t n (fun j => if j = i then v else F j) := by
 unfold RW at h ⊢
 simp only [World.setCell, Array.getElem?_modify, h]
 simp only [if_true, Option.map_some, List.setIfInBounds_toArray]
 have e : (List.map F (List.range n)).set i v = List.map (fun j => if j = i then v else F j) (List.range n) := by
  apply List.ext_getElem?
  intro j
  rw [List.getElem?_set, List.getElem?_map, List.getElem?_map]
  by_cases hj : j < n
  ·by_cases hij : i = j
   ·subst hij; simp [hj]
   ·have : ¬ j = i := fun e => hij e.symm
    simp [hj, hij, this]
  ·by_cases hij : i = j
   ·omega
   ·simp [hj, hij]
 rw [← e]
 rfl
end
def UW (w : World) (g n : Nat) (f : Nat → Nat) : Prop := RW w g 22 n (fun i => .int .u64 (f i : Int))
theorem UW.set {w : World} {g n : Nat} {f : Nat → Nat} (h : UW w g n f) {i : Nat} (hi : i < n) (v : Nat) : UW (w.setCell ⟨g, i, none⟩ (.int .u64 (v : Int))) g n (fun j => if j = i then v else f j) :=
 (RW.set h hi _).congr fun j _ => by by_cases e : j = i <;> simp [e]
theorem UW.congr {w : World} {g n : Nat} {f f' : Nat → Nat} (h : UW w g n f) (e : ∀ i, i < n → f i = f' i) : UW w g n f' := RW.congr h fun i hi => by rw [e i hi]
structure FX (w : World) (A : Option Addr) (n c : Nat) (f : Nat → Nat) : Prop where
 room : n ≤ c
 cells : 0 < n → ∃ ad, A = some ad ∧ ∀ j, j < n → w.cell? (ad.add j) = some (.int .u64 (f j : Int))
theorem FX.ext {a b : World} {A : Option Addr} {n c : Nat} {f : Nat → Nat} (h : FX a A n c f) (k : Ext a b) : FX b A n c f :=
 ⟨h.room, fun hn => by
  obtain ⟨ad, e, hc⟩ := h.cells hn
  exact ⟨ad, e, fun j hj => cell_ext k (hc j hj)⟩⟩
theorem FX.congr {w : World} {A : Option Addr} {n c : Nat} {f f' : Nat → Nat} (h : FX w A n c f) (e : ∀ i, i < n → f i = f' i) : FX w A n c f' :=
 ⟨h.room, fun hn => by
  obtain ⟨ad, e', hc⟩ := h.cells hn
  exact ⟨ad, e', fun j hj => by rw [← e j hj]; exact hc j hj⟩⟩
theorem UW.fx {w : World} {g n : Nat} {f : Nat → Nat} (h : UW w g n f) : FX w (some ⟨g, 0, none⟩) n n f :=
 ⟨Nat.le_refl _, fun _ => ⟨_, rfl, fun j hj => by rw [Addr.add_lit, Nat.zero_add]; exact RW.cell h hj⟩⟩
theorem FX.drewN {w : World} {A : Option Addr} {n c : Nat} {f : Nat → Nat} (h : FX w A n c f) (m : Nat) : FX (w.drewN m) A n c f := ⟨h.room, h.cells⟩
def facF (q : Nat) (b : Nat → Nat) (i : Nat) : Value := if i % 2 = 0 then .int .u64 (b (i / 2) : Int) else .int .u64 (shr (b (i / 2)) q : Int)
def FC (w : World) (g n q : Nat) (b : Nat → Nat) : Prop := RW w g 229 (n * 2) (facF q b)
theorem FC.by_ {w : World} {g n q : Nat} {b : Nat → Nat} (h : FC w g n q b) {i : Nat} (hi : i < n) : w.cell? ⟨g, i * 2, none⟩ = some (.int .u64 (b i : Int)) := by
 rw [RW.cell h (by omega), facF, if_pos (by omega), Nat.mul_div_cancel _ (by omega)]
structure Tb (w : World) (B p n q : Nat) (a e : Nat → Nat) (gp ge : Nat) : Prop where
 hp : p < B
 hgp : gp < B
 hge : ge < B
 size : w.cell? ⟨p, 0, none⟩ = some (.int .i64 (n : Int))
 prime : w.cell? ⟨p, 1, none⟩ = some (.int .u64 (q : Int))
 powers : w.cell? ⟨p, 2, none⟩ = some (.slice (some ⟨gp, 0, none⟩) (2 * n) (2 * n))
 ends : w.cell? ⟨p, 3, none⟩ = some (.slice (some ⟨ge, 0, none⟩) n n)
 pw : FC w gp (2 * n) q a
 en : FC w ge n q e
theorem Tb.below {w w' : World} {B p n q : Nat} {a e : Nat → Nat} {gp ge : Nat} (h : Tb w B p n q a e gp ge) (k : Below B w w') : Tb w' B p n q a e gp ge :=
 ⟨h.hp, h.hgp, h.hge, (k.cell (p := ⟨p, 0, none⟩) h.hp).trans h.size, (k.cell (p := ⟨p, 1, none⟩) h.hp).trans h.prime, (k.cell (p := ⟨p, 2, none⟩) h.hp).trans h.powers, (k.cell (p := ⟨p, 3, none⟩) h.hp).trans h.ends, RW.below h.pw k h.hgp, RW.below h.en k h.hge⟩
theorem Tb.more {w : World} {B B' p n q : Nat} {a e : Nat → Nat} {gp ge : Nat} (h : Tb w B p n q a e gp ge) (hB : B ≤ B') : Tb w B' p n q a e gp ge :=
 ⟨Nat.lt_of_lt_of_le h.hp hB, Nat.lt_of_lt_of_le h.hgp hB, Nat.lt_of_lt_of_le h.hge hB, h.size, h.prime, h.powers, h.ends, h.pw, h.en⟩
theorem Tb.ext {w w' : World} {p n q : Nat} {a e : Nat → Nat} {gp ge : Nat} (h : Tb w w.heap.size p n q a e gp ge) (k : Ext w w') : Tb w' w'.heap.size p n q a e gp ge := (h.below k).more k.size
theorem pm_pow (a b q n : Nat) (h : a % q = b % q) : a ^ n % q = b ^ n % q := by
 rw [Nat.pow_mod, h, ← Nat.pow_mod]
def OddP (q r y : Nat) : Prop := ∃ m, y = r ^ (2 * m + 1) % q
theorem OddP.next {q r y : Nat} (h : OddP q r y) : OddP q r (y * (r * r % q) % q) := by
 obtain ⟨m, rfl⟩ := h
 refine ⟨m + 1, ?_⟩
 rw [← Nat.mul_mod, show 2 * (m + 1) + 1 = (2 * m + 1) + 2 by omega, Nat.pow_add r (2 * m + 1) 2, Nat.pow_two]
theorem lr_odd {q r : Nat} : ∀ k R L, OddP q r R → OddP q r L → OddP q r (lr q (r * r % q) k R L)
 | 0, R, L, _, h => by rw [lr]; exact h
 | k + 1, R, L, h, h' => by
  rw [lr]
  refine lr_odd k _ _ h.next ?_
  rcases Nat.le_total L (R * (r * r % q) % q) with g | g
  ·rw [Nat.min_eq_left g]; exact h'
  ·rw [Nat.min_eq_right g]; exact h.next
theorem neg_sq {q : Nat} (hq : 2 ≤ q) : (q - 1) * (q - 1) % q = 1 := by
 obtain ⟨p, rfl⟩ : ∃ p, q = p + 2 := ⟨q - 2, by omega⟩
 rw [show p + 2 - 1 = p + 1 by omega, show (p + 1) * (p + 1) = (p + 2) * p + 1 by rw [Nat.add_mul, Nat.mul_add, Nat.add_mul]; omega, Nat.mul_add_mod]
 exact Nat.mod_eq_of_lt (by omega)
theorem neg_odd {q : Nat} (hq : 2 ≤ q) (m : Nat) : (q - 1) ^ (2 * m + 1) % q = q - 1 := by
 rw [Nat.pow_succ, Nat.pow_mul, Nat.mul_mod, pm_pow _ 1 q m (by rw [Nat.pow_two, neg_sq hq]; exact (Nat.mod_eq_of_lt (by omega)).symm), Nat.one_pow, ← Nat.mul_mod, Nat.one_mul]
 exact Nat.mod_eq_of_lt (by omega)
theorem stepF_even {n : Nat} : ∀ f k, k % 2 = 0 → stepF n f k = true → n % 2 = 0
 | 0, k, _, h => by simp [stepF] at h
 | f + 1, k, hk, h => by
  unfold stepF at h
  rw [beq_iff] at h
  by_cases e : n = k
  ·rw [e]; exact hk
  ·rw [decide_eq_false e, cond_false] at h
   exact stepF_even f (2 * k) (by omega) h
theorem stepS_even {n : Nat} (h : stepS n = true) : n % 2 = 0 := stepF_even 13 2 rfl h
theorem root_good {q n x : Nat} (hq : 2 ≤ q) (hn : stepS n = true) (h1 : q % n = 1) (hx : noSq q x = true) :
    lr q (x ^ ((q - 1) / n) % q * (x ^ ((q - 1) / n) % q) % q) (n / 2 - 1) (x ^ ((q - 1) / n) % q) (x ^ ((q - 1) / n) % q) < q ∧
    lr q (x ^ ((q - 1) / n) % q * (x ^ ((q - 1) / n) % q) % q) (n / 2 - 1) (x ^ ((q - 1) / n) % q) (x ^ ((q - 1) / n) % q) ^ (n / 2) % q = q - 1 := by
 have hr : ∀ r, r = x ^ ((q - 1) / n) % q → lr q (r * r % q) (n / 2 - 1) r r < q ∧ lr q (r * r % q) (n / 2 - 1) r r ^ (n / 2) % q = q - 1 := fun r hr => by
  have hrq : r < q := by rw [hr]; exact Nat.mod_lt _ (by omega)
  obtain ⟨m, hm⟩ := lr_odd (q := q) (r := r) (n / 2 - 1) r r ⟨0, by rw [Nat.mul_zero, Nat.zero_add, Nat.pow_one]; exact (Nat.mod_eq_of_lt hrq).symm⟩ ⟨0, by rw [Nat.mul_zero, Nat.zero_add, Nat.pow_one]; exact (Nat.mod_eq_of_lt hrq).symm⟩
  rw [hm]
  refine ⟨Nat.mod_lt _ (by omega), ?_⟩
  have hev := stepS_even hn
  obtain ⟨hn0, _⟩ := stepS_range hn
  have hq1 : (q - 1) / n * n = q - 1 := by
   have h2 := Nat.div_add_mod q n
   have h3 : q - 1 = n * (q / n) := by omega
   rw [h3, Nat.mul_div_cancel_left _ (by omega), Nat.mul_comm]
  have hdh : (q - 1) / n * (n / 2) = (q - 1) / 2 := by
   have e2 : n = 2 * (n / 2) := by omega
   generalize (q - 1) / n = d at *
   generalize n / 2 = h at *
   subst e2
   have : d * (2 * h) = 2 * (d * h) := by rw [← Nat.mul_assoc, Nat.mul_comm d, Nat.mul_assoc]
   omega
  have hh : r ^ (n / 2) % q = q - 1 := by
   rw [hr, ← Nat.pow_mod, ← Nat.pow_mul, hdh]
   simpa [noSq] using hx
  rw [← Nat.pow_mod, ← Nat.pow_mul, Nat.mul_comm, Nat.pow_mul, pm_pow _ (q - 1) q (2 * m + 1) (by rw [hh]; exact (Nat.mod_eq_of_lt (by omega)).symm)]
  exact neg_odd hq m
 exact hr _ rfl
end Go.Proofs.YtjikdbcjabopnaaGreatDoor
