import Derived.Test.YtopbibfpjgjalaaGreatDoorZ35
import Derived.Test.YtopbibfpjgjalaaGreatDoorZ29
import Derived.Deep.DeepCutAuto
import Derived.Test.YtopbibfpjgjalaaGreatDoorZ17
import Derived.Test.YtopbibfpjgjalaaGreatDoorZ31
import Derived.Test.YtopbibfpjgjalaaGreatDoorZ3
import Derived.Deep.QuietTactic
import Derived.BigQuiet
import Derived.Carry
import Derived.ChangeSlices
import Derived.Lib.SmallJoins
import Derived.OpenShut
import Derived.Test.YtopbibfpjgjalaaGreatDoorZ1
import Derived.Test.YtopbibfpjgjalaaGreatDoorZTScat
import Derived.Test.YtopbibfpjgjalaaGreatDoorZTTrans
import Derived.Test.YtopbibfpjgjalaaGreatDoorZ30
import Derived.Test.YtopbibfpjgjalaaGreatDoorZ24
namespace Go.Proofs.YtopbibfpjgjalaaGreatDoor
open Go.RowKit
set_option linter.unusedVariables false
set_option maxRecDepth 100000
def nearQ (t by_ : Nat) (b : Bool) (X : Nat) : Int := nearZ (decide (iv b X * (t : Int) < 0)) (iv b X * (t : Int)).natAbs by_
theorem zzi {A A' : Option Addr} {n n' c c' : Nat} {b : Bool} {X T : Nat} {z : Int} {w : World} (hz : Hid (z = iv b X * (T : Int))) (h : NX w A n c (nw X)) (h' : NX w A' n' c' (nw T)) (hn : n ≤ 1000) (hn' : n' ≤ 1000) :
    Calls Tryz.prog 116 #[.agg #[.bool b, .slice A n c], .agg #[.bool false, .slice A' n' c']] w (fun e w' => ∃ A2 n2 c2, e = .returned (.agg #[.bool (decide (z < 0)), .slice A2 n2 c2]) ∧ n2 ≤ n + n' ∧ NX w' A2 n2 c2 (nw z.natAbs) ∧ Ext w w') := by
 refine (zov A A' n n' c c' b false (nw X) (nw T) w h h' (by omega) (by omega)).mono ?_
 rw [nv_nw, nv_nw]
 rintro e w' ⟨A2, n2, c2, rfl, h2, h3, h4⟩
 refine ⟨A2, n2, c2, ?_, h2, ?_, h4⟩
 ·rw [hz.out]; rfl
 ·rw [hz.out]; exact h3
theorem z1w {A A' : Option Addr} {n n' c c' : Nat} {b : Bool} {X Y : Nat} {z : Int} {w : World} (hz : Hid (z = nearZ b X Y)) (hY : 0 < Y) (h : NX w A n c (nw X)) (h' : NX w A' n' c' (nw Y)) (hn : n ≤ 1000) (hn' : n' ≤ 1000) :
    Calls Tryz.prog 115 #[.agg #[.bool b, .slice A n c], .slice A' n' c'] w (fun e w' => ∃ A2 n2 c2, e = .returned (.tuple #[.agg #[.bool (decide (z < 0)), .slice A2 n2 c2], .int .i64 0]) ∧ n2 ≤ n + 4 ∧ NX w' A2 n2 c2 (nw z.natAbs) ∧ Ext w w') := by
 refine (zui A A' n n' c c' b (nw X) (nw Y) w h h' hn hn').mono ?_
 rw [nv_nw, nv_nw]
 rintro e w' (⟨h0, _⟩ | ⟨_, A2, n2, c2, rfl, h2, h3, h4⟩)
 ·omega
 refine ⟨A2, n2, c2, ?_, h2, ?_, h4⟩
 ·rw [hz.out]
 ·rw [hz.out]; exact h3
theorem WK.over {w : World} {g n k N m c x : Nat} {A : Option Addr} {b : Nat → Bool} {X : Nat → Nat} {s : Bool} (h : WK w g n n N b X) (hk : k < n) (hm : m ≤ N) (hx : NX w A m c (nw x)) : WK (set2 w g (k * 2) (.bool s) (.slice A m c)) g n n N (fun i => if i = k then s else b i) (fun i => if i = k then x else X i) := by
 obtain ⟨As, ns, cs, h1, h2⟩ := h
 refine ⟨fun j => if j = k then A else As j, fun j => if j = k then m else ns j, fun j => if j = k then c else cs j, ?_, fun i hi => ?_⟩
 ·refine ((h1.set (show k * 2 < n * 2 by omega) _).set (show k * 2 + 1 < n * 2 by omega) _).congr fun i hi => ?_
  by_cases e1 : i = k * 2 + 1
  ·subst e1
   rw [if_pos rfl]
   unfold wfUp wfF
   dsimp only
   rw [if_pos hi, if_neg (by omega), show (k * 2 + 1) / 2 = k by omega, if_pos rfl, if_pos rfl, if_pos rfl]
  ·rw [if_neg e1]
   by_cases e2 : i = k * 2
   ·subst e2
    rw [if_pos rfl]
    unfold wfUp wfF
    dsimp only
    rw [if_pos hi, if_pos (by omega), show k * 2 / 2 = k by omega, if_pos rfl]
   ·rw [if_neg e2]
    unfold wfUp wfF
    dsimp only
    rw [if_pos hi, if_pos hi, if_neg (show ¬ i / 2 = k by omega), if_neg (show ¬ i / 2 = k by omega), if_neg (show ¬ i / 2 = k by omega), if_neg (show ¬ i / 2 = k by omega)]
 ·dsimp only
  by_cases e : i = k
  ·subst e
   rw [if_pos rfl, if_pos rfl, if_pos rfl, if_pos rfl]
   exact ⟨hm, NX.set2 h1 (fun _ => zdt) (by omega) hx _ _⟩
  ·rw [if_neg e, if_neg e, if_neg e, if_neg e]
   obtain ⟨h3, h4⟩ := h2 i hi
   exact ⟨h3, NX.set2 h1 (fun _ => zdt) (by omega) h4 _ _⟩
theorem WK.same {w : World} {g n N : Nat} {b b' : Nat → Bool} {X X' : Nat → Nat} (h : WK w g n n N b X) (hb : ∀ i, i < n → b i = b' i) (hX : ∀ i, i < n → X i = X' i) : WK w g n n N b' X' := by
 obtain ⟨As, ns, cs, h1, h2⟩ := h
 refine ⟨As, ns, cs, h1.congr fun i hi => ?_, fun i hi => by rw [← hX i hi]; exact h2 i hi⟩
 unfold wfUp wfF
 rw [if_pos hi, if_pos hi, hb (i / 2) (by omega)]
theorem WK.cells {w : World} {g n N : Nat} {b : Nat → Bool} {X : Nat → Nat} (h : WK w g n n N b X) {i : Nat} (hi : i < n) : w.frozen? ⟨g, i * 2, none⟩ = false ∧ w.frozen? ⟨g, i * 2 + 1, none⟩ = false ∧ g < w.heap.size := by
 obtain ⟨As, ns, cs, h1, h2⟩ := h
 exact ⟨h1.frozen _, h1.frozen _, h1.lt⟩
theorem zqf {q : Nat → Nat} : ∀ L, (∀ j, j < L → q j ≤ W64) → prodF q L ≤ W64 ^ L
 | 0, _ => Nat.le_refl _
 | L + 1, h => by
  have ih := zqf L (fun j hj => h j (by omega))
  have h1 := h L (by omega)
  rw [prodF, Nat.pow_succ]
  first
   | exact Nat.mul_le_mul ih h1
   | (rw [Nat.mul_comm]; exact Nat.mul_le_mul ih h1)
theorem zp0 {L : Nat} {q : Nat → Nat} (h : RowC L q) : prodF q L < W64 ^ 25 := by
 have h1 := zqf (q := q) L (fun j hj => by have := (zm6 h j hj).2; unfold W64; omega)
 have h2 : W64 ^ L ≤ W64 ^ 24 := Nat.pow_le_pow_right (by unfold W64; omega) h.2.1
 have h3 : W64 ^ 24 < W64 ^ 25 := Nat.pow_lt_pow_right (by unfold W64; omega) (by omega)
 omega
theorem z0c (X Q : Nat) : cenN X Q ≤ Q ∨ cenN X Q ≤ X := by
 unfold cenN
 by_cases h : X < Q - X
 ·rw [if_pos h]; exact .inr (Nat.le_refl _)
 ·rw [if_neg h]; exact .inl (Nat.sub_le _ _)
theorem zwm {w : World} {A : Option Addr} {n c X k : Nat} (h : NX w A n c (nw X)) (hX : X < W64 ^ k) : n ≤ k := by
 rw [← h.len]
 exact zgf (by unfold W64; omega) hX
def zw5 (T Y L : Nat) (q p : Nat → Nat) (f : Nat → Nat → Nat) (i : Nat) : Int := nearQ T Y (cenB (jnF q p (fun j => f j i) 0 L) (prodF q L)) (cenN (jnF q p (fun j => f j i) 0 L) (prodF q L))
theorem of10 {x : Nat} {w : World} (hx : x < 18446744073709551616) :
    Calls Tryz.prog 117 #[.int .u64 (x : Int)] w (fun e w' => ∃ A2 n2 c2, e = .returned (.slice A2 n2 c2) ∧ n2 ≤ 1 ∧ NX w' A2 n2 c2 (nw x) ∧ Ext w w') := by
 refine (zfe x w hx).mono ?_
 rintro e w' ⟨A2, n2, c2, rfl, h2, h3, h4, _⟩
 exact ⟨A2, n2, c2, rfl, h2, h3, h4⟩
def setAll (w : World) (g : Nat) : Nat → List Value → World
 | _, [] => w
 | i, v :: l => setAll (w.setCell ⟨g, i, none⟩ v) g (i + 1) l
theorem RW.setAll {g m : Nat} {t : TypeId} : ∀ (l : List Value) (w : World) (i : Nat) (F : Nat → Value), RW w g t m F → i + l.length ≤ m → RW (Go.Proofs.YtopbibfpjgjalaaGreatDoor.setAll w g i l) g t m (fun j => if i ≤ j ∧ j < i + l.length then l.getD (j - i) (.bool false) else F j)
 | [], w, i, F, h, _ => RW.congr h fun j _ => by rw [if_neg (by simp <;> omega)]
 | v :: l, w, i, F, h, hl => by
  have hl' : i + 1 + l.length ≤ m := by simp at hl; omega
  have ih := RW.setAll l (w.setCell ⟨g, i, none⟩ v) (i + 1) _ (h.set (show i < m by simp at hl; omega) v) hl'
  refine RW.congr ih fun j hj => ?_
  by_cases e : j = i
  ·subst e
   rw [if_neg (by omega), if_pos rfl, if_pos (by simp), Nat.sub_self]
   rfl
  ·by_cases e2 : i + 1 ≤ j ∧ j < i + 1 + l.length
   ·rw [if_pos e2, if_pos (by simp; omega), show j - i = (j - (i + 1)) + 1 by omega]
    rfl
   ·rw [if_neg e2, if_neg e, if_neg (by simp; omega)]
theorem Ext.setAll {a : World} {g : Nat} (hg : a.heap.size ≤ g) : ∀ (l : List Value) (w : World) (i : Nat), Ext a w → Ext a (Go.Proofs.YtopbibfpjgjalaaGreatDoor.setAll w g i l)
 | [], w, i, h => h
 | v :: l, w, i, h => Ext.setAll hg l _ (i + 1) (h.set (p := ⟨g, i, none⟩) hg v)
theorem OnB.setAll {g : Nat} {V : World} : ∀ (l : List Value) (W : World) (i : Nat), OnB g V W → OnB g V (Go.Proofs.YtopbibfpjgjalaaGreatDoor.setAll W g i l)
 | [], W, i, h => h
 | v :: l, W, i, h => OnB.setAll l _ (i + 1) (h.set i v)
theorem z2y {w V : World} {g : Nat} (hr : RW V g 91 8 dr0) (hE : Ext w V) (hg : w.heap.size ≤ g) (a0 a1 a2 a3 a4 a5 a6 a7 : Value) :
    ∃ W, ((((((((V.setCell ⟨g, 0, none⟩ a0).setCell ⟨g, 1, none⟩ a1).setCell ⟨g, 2, none⟩ a2).setCell ⟨g, 3, none⟩ a3).setCell ⟨g, 4, none⟩ a4).setCell ⟨g, 5, none⟩ a5).setCell ⟨g, 6, none⟩ a6).setCell ⟨g, 7, none⟩ a7) = W ∧ W.cell? ⟨g, 0, none⟩ = some a0 ∧ W.cell? ⟨g, 1, none⟩ = some a1 ∧ W.cell? ⟨g, 2, none⟩ = some a2 ∧ W.cell? ⟨g, 3, none⟩ = some a3 ∧ W.cell? ⟨g, 4, none⟩ = some a4 ∧ W.cell? ⟨g, 5, none⟩ = some a5 ∧ W.cell? ⟨g, 6, none⟩ = some a6 ∧ W.cell? ⟨g, 7, none⟩ = some a7 ∧ Ext w W ∧ OnB g V W := by
 have h1 := RW.setAll [a0, a1, a2, a3, a4, a5, a6, a7] V 0 dr0 hr (by simp)
 exact ⟨setAll V g 0 [a0, a1, a2, a3, a4, a5, a6, a7], rfl, h1.cell (i := 0) (by omega), h1.cell (i := 1) (by omega), h1.cell (i := 2) (by omega), h1.cell (i := 3) (by omega), h1.cell (i := 4) (by omega), h1.cell (i := 5) (by omega), h1.cell (i := 6) (by omega), h1.cell (i := 7) (by omega), Ext.setAll hg _ V 0 hE, OnB.setAll _ V 0 (OnB.refl g V)⟩
def DrwIs (w w' : World) (n T L : Nat) (q : Nat → Nat) (v : Nat → Int) (r b G : Nat) : Prop :=
 ∃ (p : Nat → Nat) (a e : Nat → Nat → Nat) (k rr u x : Nat) (As : Nat → Option Addr) (cs : Nat → Nat) (F : Nat → Nat → Nat), Rg w' r n L q p a e ∧ First T x ∧ Hid (rr = rootS T (2 * n) x) ∧ Bt w' b n T k rr u ∧ PM w' G L n As cs F ∧ Hid (∀ j, j < L → F j = fun i => lif (v i) (q j)) ∧ Ext w w'
set_option maxHeartbeats 8000000 in
theorem zo2 {n T L c : Nat} {Wd : Int} {A : Option Addr} {q : Nat → Nat} (d : Nat) (B : Option Addr) (v : Nat → Int) (t : Option Addr) (w : World) (hP : Hid (PA w (n : Int) T A L c Wd q)) (hL : L ≤ 100) (hN : n ≤ 32) (hX : VX w B n d v) (hv : Hid (∀ i, i < n → -9223372036854775808 ≤ v i ∧ v i < 9223372036854775808)) (hT : Tabs w)
    (hok : Hid (ParP (n : Int) T L q Wd)) (hs : Hid (Tern n v)) :
    Calls Tryz.prog 35 #[.agg #[.int .i64 (n : Int), .int .u64 (T : Int), .slice A L c, .int .i64 Wd], .slice B n d, .pointer t] w fun ee w' => ∃ r b G : Nat, ee = .returned (.tuple #[.agg #[.int .i64 (n : Int), .int .u64 (T : Int), .slice A L c, .int .i64 Wd, .pointer (some ⟨r, 0, none⟩), .pointer (some ⟨b, 0, none⟩), .slice (some ⟨G, 0, none⟩) L L, .pointer t], .int .i64 0]) ∧ DrwIs w w' n T L q v r b G := by
 have HX := Lib.hid hX
 have HT := Lib.hid hT
 clear hX hT
 have hn0 := hP.out.n0
 have hn1 := hP.out.n1
 have ht1 := hP.out.t1
 have k0 : Ext w ((w.alloc (.cells #[.int .i64 (n : Int), .int .u64 (T : Int), .slice A L c, .int .i64 Wd] 28)).alloc (.cells #[.int .i64 0, .int .u64 0, .slice none 0 0, .int .i64 0, .pointer none, .pointer none, .slice none 0 0, .pointer none] 91)) := ((Ext.refl w).alloc _).alloc _
 have ka : Ext (w.alloc (.cells #[.int .i64 (n : Int), .int .u64 (T : Int), .slice A L c, .int .i64 Wd] 28)) ((w.alloc (.cells #[.int .i64 (n : Int), .int .u64 (T : Int), .slice A L c, .int .i64 Wd] 28)).alloc (.cells #[.int .i64 0, .int .u64 0, .slice none 0 0, .int .i64 0, .pointer none, .pointer none, .slice none 0 0, .pointer none] 91)) := (Ext.refl _).alloc _
 obtain ⟨x0, x1, x2, x3⟩ := za6 w (.int .i64 (n : Int)) (.int .u64 (T : Int)) (.slice A L c) (.int .i64 Wd) 28
 have hr : RW ((w.alloc (.cells #[.int .i64 (n : Int), .int .u64 (T : Int), .slice A L c, .int .i64 Wd] 28)).alloc (.cells #[.int .i64 0, .int .u64 0, .slice none 0 0, .int .i64 0, .pointer none, .pointer none, .slice none 0 0, .pointer none] 91)) (w.heap.size + 1) 91 8 dr0 := by
  have : RW ((w.alloc (.cells #[.int .i64 (n : Int), .int .u64 (T : Int), .slice A L c, .int .i64 Wd] 28)).alloc (.cells #[.int .i64 0, .int .u64 0, .slice none 0 0, .int .i64 0, .pointer none, .pointer none, .slice none 0 0, .pointer none] 91)) (w.alloc (.cells #[.int .i64 (n : Int), .int .u64 (T : Int), .slice A L c, .int .i64 Wd] 28)).heap.size 91 8 dr0 := heap_alloc_new _ _
  rwa [show (w.alloc (.cells #[.int .i64 (n : Int), .int .u64 (T : Int), .slice A L c, .int .i64 Wd] 28)).heap.size = w.heap.size + 1 by simp] at this
 replace x0 := cE ka x0
 replace x1 := cE ka x1
 replace x2 := cE ka x2
 replace x3 := cE ka x3
 clear ka
 obtain ⟨hrow, hn8, hL1, hL8⟩ := zbx hok.out (by omega)
 have HROW := Lib.hid hrow
 clear hrow
 have hn3 : 3 ≤ n := by omega
 go_enter Tryz.func35, Tryz.ntmps35
 go_wp2_with fail
 generalize (w.alloc (.cells #[.int .i64 (n : Int), .int .u64 (T : Int), .slice A L c, .int .i64 Wd] 28)).alloc (.cells #[.int .i64 0, .int .u64 0, .slice none 0 0, .int .i64 0, .pointer none, .pointer none, .slice none 0 0, .pointer none] 91) = V0 at *
 refine (zl0 (z := 0) (hP.out.ext k0) (by omega) (HT.out.ext k0) (Lib.hid (.inl ⟨hok.out, rfl⟩))).mono ?_
 rintro ee V ⟨rfl, k1⟩
 replace x0 := cE k1 x0
 replace x1 := cE k1 x1
 replace x2 := cE k1 x2
 replace x3 := cE k1 x3
 replace hr := hr.ext k1
 replace k0 := k0.trans k1
 clear k1
 go_wp2_with fail
 refine (zjd (n : Int) n d B v V (HX.out.ext k0) (by omega) hv).mono ?_
 rintro ee V1 (⟨_, rfl, rfl⟩ | ⟨h, _⟩)
 case inr => exact absurd ⟨rfl, hs.out⟩ h
 go_wp2_with fail
 refine (zf3 (n : Int) A L c q V (by omega) (by omega) (by omega) (hP.out.fx.ext k0) (Lib.hid fun j hj => hP.out.words j hj) (HT.out.ext k0)).mono ?_
 rintro ee V1 (⟨h, _⟩ | ⟨_, r, p, a, e, rfl, hrg, k1⟩)
 ·exact absurd HROW.out h
 rw [Int.toNat_natCast] at hrg
 have HRG := Lib.hid hrg
 replace x0 := cE k1 x0
 replace x1 := cE k1 x1
 replace x2 := cE k1 x2
 replace x3 := cE k1 x3
 replace hr := hr.ext k1
 replace k0 := k0.trans k1
 clear k1 hrg
 go_wp2_with fail
 refine (zul (hP.out.ext k0) (by omega) (by omega) (HT.out.ext k0)).mono ?_
 rintro ee V2 (⟨h, _⟩ | ⟨_, b, k, rr, u, x, hfst, hrr, rfl, hbt, k1⟩)
 ·exact absurd hok.out h
 rw [Int.toNat_natCast] at hrr hbt
 have HBT := Lib.hid hbt
 have HFST := Lib.hid hfst
 have HRG := Lib.hid (HRG.out.ext k1)
 replace x0 := cE k1 x0
 replace x1 := cE k1 x1
 replace x2 := cE k1 x2
 replace x3 := cE k1 x3
 replace hr := hr.ext k1
 replace k0 := k0.trans k1
 clear k1 hbt hfst
 go_wp2_with fail
 refine (zet (n : Int) (T : Int) Wd A L c V2 (by omega)).mono ?_
 rintro ee V3 ⟨rfl, k1⟩
 have HBT := Lib.hid (HBT.out.ext k1)
 have HRG := Lib.hid (HRG.out.ext k1)
 replace x0 := cE k1 x0
 replace x1 := cE k1 x1
 replace x2 := cE k1 x2
 replace x3 := cE k1 x3
 replace hr := hr.ext k1
 replace k0 := k0.trans k1
 clear k1
 have e1 : ((L : Int) - 1) = ((L - 1 : Nat) : Int) := by omega
 rw [e1]
 go_wp2_with fail
 refine (zf1 r n L q p a e B d (L - 1) v V3 HRG.out (by omega) (HX.out.ext k0) hv).mono ?_
 rintro ee V4 ⟨G, As, cs, F, rfl, hpm, hF, k1⟩
 rw [show L - 1 + 1 = L by omega] at *
 have HPM := Lib.hid hpm
 have HBT := Lib.hid (HBT.out.ext k1)
 have HRG := Lib.hid (HRG.out.ext k1)
 replace x0 := cE k1 x0
 replace x1 := cE k1 x1
 replace x2 := cE k1 x2
 replace x3 := cE k1 x3
 replace hr := hr.ext k1
 replace k0 := k0.trans k1
 clear k1 hpm e1
 have ka : Ext V4 (V4.alloc (.cells #[.slice (some ⟨G, 0, none⟩) L L] 56)) := (Ext.refl V4).alloc _
 have xa := zam V4 (.slice (some ⟨G, 0, none⟩) L L) 56
 obtain ⟨V5, hV5⟩ : ∃ V5, V5 = V4.alloc (.cells #[.slice (some ⟨G, 0, none⟩) L L] 56) := ⟨_, rfl⟩
 have HV5 := Lib.hid hV5
 rw [← hV5] at ka xa
 clear hV5
 replace x0 := cE ka x0
 replace x1 := cE ka x1
 replace x2 := cE ka x2
 replace x3 := cE ka x3
 replace hr := hr.ext ka
 replace k0 := k0.trans ka
 have HLAY := Lib.hid (z2y hr k0 (Nat.le_succ _) (.int .i64 (n : Int)) (.int .u64 (T : Int)) (.slice A L c) (.int .i64 Wd) (.pointer (some ⟨r, 0, none⟩)) (.pointer (some ⟨b, 0, none⟩)) (.slice (some ⟨G, 0, none⟩) L L) (.pointer t))
 have HR := Lib.hid hr
 have c0 := hr.cell (i := 0) (by omega)
 have c1 := hr.cell (i := 1) (by omega)
 have c2 := hr.cell (i := 2) (by omega)
 have c3 := hr.cell (i := 3) (by omega)
 have c4 := hr.cell (i := 4) (by omega)
 have c5 := hr.cell (i := 5) (by omega)
 have c6 := hr.cell (i := 6) (by omega)
 have c7 := hr.cell (i := 7) (by omega)
 have f0 := hr.frozen 0
 have f1 := hr.frozen 1
 have f2 := hr.frozen 2
 have f3 := hr.frozen 3
 have f4 := hr.frozen 4
 have f5 := hr.frozen 5
 have f6 := hr.frozen 6
 have f7 := hr.frozen 7
 have hsz := hr.lt
 clear hr
 have hgo : V4.alloc (.cells #[.slice (some ⟨G, 0, none⟩) L L] 56) = V5 := HV5.out.symm
 go_wp2_with fail
 obtain ⟨W, hW, d0, d1, d2, d3, d4, d5, d6, d7, hE, hO⟩ := HLAY.out
 rw [hW]
 clear hW c0 c1 c2 c3 c4 c5 c6 c7 f0 f1 f2 f3 f4 f5 f6 f7 hgo
 have g1 := (HRG.out.ext ka).on HR.out hO
 have g2 := (HBT.out.ext ka).on HR.out hO
 have g3 := (HPM.out.ext ka).on HR.out hO hn3
 exact bodyPost_ret (v := .tuple #[.agg #[.int .i64 (n : Int), .int .u64 (T : Int), .slice A L c, .int .i64 Wd, .pointer (some ⟨r, 0, none⟩), .pointer (some ⟨b, 0, none⟩), .slice (some ⟨G, 0, none⟩) L L, .pointer t], .int .i64 0]) (by simp [results, Tryz.results35, go_sem, d0, d1, d2, d3, d4, d5, d6, d7]) rfl ⟨r, b, G, rfl, p, a, e, k, rr, u, x, As, cs, F, g1, HFST.out, hrr, g2, g3, hF, hE⟩
section
variable {V W : World} {g : Nat}
theorem sc_at (hr : RW V g 114 5 dr0) {o : Nat} {v : Value} (hc : V.cell? ⟨g, o, none⟩ = some v) : v = dr0 o := by
 have h1 := hc
 rw [cell_of_row V g o _ 114 (0, 0) hr] at h1
 by_cases h : o < 5
 ·simp [h] at h1
  exact h1.symm
 ·simp [h] at h1
theorem zwt (hr : RW V g 114 5 dr0) {b o : Nat} {v : Value} (hc : V.cell? ⟨b, o, none⟩ = some v) (h1 : v ≠ .int .i64 0) (h2 : v ≠ .int .u64 0) (h3 : v ≠ .slice none 0 0) (h4 : v ≠ .pointer none) : b ≠ g := fun e => by
 subst e
 have := sc_at hr hc
 rcases zmr o with h | ⟨_, h⟩ | h | h <;> rw [h] at this
 ·exact h1 this
 ·exact h2 this
 ·exact h3 this
 ·exact h4 this
theorem zpu (hr : RW V g 114 5 dr0) {x m : Nat} {t : TypeId} {F : Nat → Value} (hx : RW V x t m F) (ht : t ≠ 114) : x ≠ g := RW.ne hx hr ht
theorem Tb.onS (hr : RW V g 114 5 dr0) (ho : OnB g V W) {p n q : Nat} {a e : Nat → Nat} {gp ge : Nat} (h : Tb V V.heap.size p n q a e gp ge) (hn : 1 ≤ n) : Tb W W.heap.size p n q a e gp ge := by
 have np : p ≠ g := zwt hr h.size (by simp; omega) (by simp) (by simp) (by simp)
 have k : ∀ {x m : Nat} {F : Nat → Value}, RW V x 278 m F → RW W x 278 m F := fun hx => ho.rw_ hx (zpu hr hx (by decide))
 have hs := ho.size
 exact ⟨Nat.lt_of_lt_of_le h.hp hs, Nat.lt_of_lt_of_le h.hgp hs, Nat.lt_of_lt_of_le h.hge hs, zac ho h.size np, zac ho h.prime np, zac ho h.powers np, zac ho h.ends np, k h.pw, k h.en⟩
theorem Table.onS (hr : RW V g 114 5 dr0) (ho : OnB g V W) {p n q k r v : Nat} (h : Table V p n q k r v) : Table W p n q k r v := by
 obtain ⟨a, e, gp, ge, h1, h2, h3⟩ := h.ex
 exact ⟨a, e, gp, ge, h1.onS hr ho (by rw [h2.nk]; exact Nat.two_pow_pos _), h2, h3⟩
theorem Tab.onS (hr : RW V g 114 5 dr0) (ho : OnB g V W) {p n q : Nat} {a e : Nat → Nat} (h : Tab V p n q a e) : Tab W p n q a e := by
 refine ⟨h.n0, h.n1, h.q0, h.q1, h.nk, h.al, h.el, ?_, fun hq => ?_⟩
 ·obtain ⟨gp, ge, ht⟩ := h.tb
  exact ⟨gp, ge, ht.onS hr ho (by have := h.n0; omega)⟩
 ·obtain ⟨k, r, v', ht⟩ := h.root hq
  exact ⟨k, r, v', ht.onS hr ho⟩
theorem Rg.onS (hr : RW V g 114 5 dr0) (ho : OnB g V W) {r n L : Nat} {q p : Nat → Nat} {a e : Nat → Nat → Nat} (h : Rg V r n L q p a e) : Rg W r n L q p a e := by
 have np : r ≠ g := zwt hr h.size (by have := h.n0; simp; omega) (by simp) (by simp) (by simp)
 obtain ⟨gf, h1, h2⟩ := h.ex
 exact ⟨h.l0, h.l1, h.n0, h.n1, h.ql, zac ho h.size np, ⟨gf, zac ho h1 np, ho.rw_ h2 (zpu hr h2 (by decide))⟩, fun j hj => (h.tab j hj).onS hr ho⟩
end
theorem zws {w V : World} {g : Nat} (hr : RW V g 114 5 dr0) (hE : Ext w V) (hg : w.heap.size ≤ g) (a0 a1 a2 a3 a4 : Value) :
    ∃ W, (((((V.setCell ⟨g, 0, none⟩ a0).setCell ⟨g, 1, none⟩ a1).setCell ⟨g, 2, none⟩ a2).setCell ⟨g, 3, none⟩ a3).setCell ⟨g, 4, none⟩ a4) = W ∧ W.cell? ⟨g, 0, none⟩ = some a0 ∧ W.cell? ⟨g, 1, none⟩ = some a1 ∧ W.cell? ⟨g, 2, none⟩ = some a2 ∧ W.cell? ⟨g, 3, none⟩ = some a3 ∧ W.cell? ⟨g, 4, none⟩ = some a4 ∧ Ext w W ∧ OnB g V W := by
 have h1 := RW.setAll [a0, a1, a2, a3, a4] V 0 dr0 hr (by simp)
 exact ⟨setAll V g 0 [a0, a1, a2, a3, a4], rfl, h1.cell (i := 0) (by omega), h1.cell (i := 1) (by omega), h1.cell (i := 2) (by omega), h1.cell (i := 3) (by omega), h1.cell (i := 4) (by omega), Ext.setAll hg _ V 0 hE, OnB.setAll _ V 0 (OnB.refl g V)⟩
abbrev schZ : Value := .agg #[.int .i64 0, .int .u64 0, .slice none 0 0, .int .i64 0, .pointer none]
set_option maxHeartbeats 4000000 in
theorem zpv {N : Int} {T L c : Nat} {Wd : Int} {A : Option Addr} {q : Nat → Nat} (w : World) (hP : Hid (PA w N T A L c Wd q)) (hL : L ≤ 100) (hT : Tabs w) (hz : Hid (¬ ParP N T L q Wd)) :
    Calls Tryz.prog 50 #[.agg #[.int .i64 N, .int .u64 (T : Int), .slice A L c, .int .i64 Wd]] w fun ee w' => ee = .returned (.tuple #[schZ, .int .i64 8]) ∧ Ext w w' := by
 have HT := Lib.hid hT
 clear hT
 have hn0 := hP.out.n0
 have hn1 := hP.out.n1
 have ht1 := hP.out.t1
 have k0 : Ext w ((w.alloc (.cells #[.int .i64 N, .int .u64 (T : Int), .slice A L c, .int .i64 Wd] 28)).alloc (.cells #[.int .i64 0, .int .u64 0, .slice none 0 0, .int .i64 0, .pointer none] 114)) := ((Ext.refl w).alloc _).alloc _
 have ka : Ext (w.alloc (.cells #[.int .i64 N, .int .u64 (T : Int), .slice A L c, .int .i64 Wd] 28)) ((w.alloc (.cells #[.int .i64 N, .int .u64 (T : Int), .slice A L c, .int .i64 Wd] 28)).alloc (.cells #[.int .i64 0, .int .u64 0, .slice none 0 0, .int .i64 0, .pointer none] 114)) := (Ext.refl _).alloc _
 obtain ⟨x0, x1, x2, x3⟩ := za6 w (.int .i64 N) (.int .u64 (T : Int)) (.slice A L c) (.int .i64 Wd) 28
 have hr : RW ((w.alloc (.cells #[.int .i64 N, .int .u64 (T : Int), .slice A L c, .int .i64 Wd] 28)).alloc (.cells #[.int .i64 0, .int .u64 0, .slice none 0 0, .int .i64 0, .pointer none] 114)) (w.heap.size + 1) 114 5 dr0 := by
  have : RW ((w.alloc (.cells #[.int .i64 N, .int .u64 (T : Int), .slice A L c, .int .i64 Wd] 28)).alloc (.cells #[.int .i64 0, .int .u64 0, .slice none 0 0, .int .i64 0, .pointer none] 114)) (w.alloc (.cells #[.int .i64 N, .int .u64 (T : Int), .slice A L c, .int .i64 Wd] 28)).heap.size 114 5 dr0 := heap_alloc_new _ _
  rwa [show (w.alloc (.cells #[.int .i64 N, .int .u64 (T : Int), .slice A L c, .int .i64 Wd] 28)).heap.size = w.heap.size + 1 by simp] at this
 replace x0 := cE ka x0
 replace x1 := cE ka x1
 replace x2 := cE ka x2
 replace x3 := cE ka x3
 clear ka
 go_enter Tryz.func50, Tryz.ntmps50
 go_wp2_with fail
 generalize ((w.alloc (.cells #[.int .i64 N, .int .u64 (T : Int), .slice A L c, .int .i64 Wd] 28)).alloc (.cells #[.int .i64 0, .int .u64 0, .slice none 0 0, .int .i64 0, .pointer none] 114)) = V0 at *
 refine (zl0 (z := 8) (hP.out.ext k0) (by omega) (HT.out.ext k0) (Lib.hid (.inr ⟨hz.out, rfl⟩))).mono ?_
 rintro ee V ⟨rfl, k1⟩
 replace x0 := cE k1 x0
 replace hr := hr.ext k1
 replace k0 := k0.trans k1
 clear k1 x1 x2 x3
 have HR := Lib.hid hr
 have c0 := hr.cell (i := 0) (by omega)
 have c1 := hr.cell (i := 1) (by omega)
 have c2 := hr.cell (i := 2) (by omega)
 have c3 := hr.cell (i := 3) (by omega)
 have c4 := hr.cell (i := 4) (by omega)
 have f0 := hr.frozen 0
 have f1 := hr.frozen 1
 have f2 := hr.frozen 2
 have f3 := hr.frozen 3
 have f4 := hr.frozen 4
 have hsz := hr.lt
 have HLAY := Lib.hid (zws hr k0 (Nat.le_succ _) (.int .i64 0) (.int .u64 0) (.slice none 0 0) (.int .i64 0) (.pointer none))
 clear hr
 go_wp2_with fail
 obtain ⟨W, hW, d0, d1, d2, d3, d4, hE, _⟩ := HLAY.out
 rw [hW]
 clear hW c0 c1 c2 c3 c4 f0 f1 f2 f3 f4
 exact bodyPost_ret (v := .tuple #[schZ, .int .i64 8]) (by simp [results, Tryz.results50, go_sem, d0, d1, d2, d3, d4]) rfl ⟨rfl, hE⟩
set_option maxHeartbeats 4000000 in
theorem zdd {n T L c : Nat} {Wd : Int} {A : Option Addr} {q : Nat → Nat} (w : World) (hP : Hid (PA w (n : Int) T A L c Wd q)) (hL : L ≤ 100) (hN : n ≤ 32) (hT : Tabs w) (hok : Hid (ParP (n : Int) T L q Wd)) :
    Calls Tryz.prog 50 #[.agg #[.int .i64 (n : Int), .int .u64 (T : Int), .slice A L c, .int .i64 Wd]] w fun ee w' => ∃ (r : Nat) (p : Nat → Nat) (a e : Nat → Nat → Nat), ee = .returned (.tuple #[.agg #[.int .i64 (n : Int), .int .u64 (T : Int), .slice A L c, .int .i64 Wd, .pointer (some ⟨r, 0, none⟩)], .int .i64 0]) ∧ Rg w' r n L q p a e ∧ Ext w w' := by
 have HT := Lib.hid hT
 clear hT
 have hn0 := hP.out.n0
 have hn1 := hP.out.n1
 have ht1 := hP.out.t1
 have k0 : Ext w ((w.alloc (.cells #[.int .i64 (n : Int), .int .u64 (T : Int), .slice A L c, .int .i64 Wd] 28)).alloc (.cells #[.int .i64 0, .int .u64 0, .slice none 0 0, .int .i64 0, .pointer none] 114)) := ((Ext.refl w).alloc _).alloc _
 have ka : Ext (w.alloc (.cells #[.int .i64 (n : Int), .int .u64 (T : Int), .slice A L c, .int .i64 Wd] 28)) ((w.alloc (.cells #[.int .i64 (n : Int), .int .u64 (T : Int), .slice A L c, .int .i64 Wd] 28)).alloc (.cells #[.int .i64 0, .int .u64 0, .slice none 0 0, .int .i64 0, .pointer none] 114)) := (Ext.refl _).alloc _
 obtain ⟨x0, x1, x2, x3⟩ := za6 w (.int .i64 (n : Int)) (.int .u64 (T : Int)) (.slice A L c) (.int .i64 Wd) 28
 have hr : RW ((w.alloc (.cells #[.int .i64 (n : Int), .int .u64 (T : Int), .slice A L c, .int .i64 Wd] 28)).alloc (.cells #[.int .i64 0, .int .u64 0, .slice none 0 0, .int .i64 0, .pointer none] 114)) (w.heap.size + 1) 114 5 dr0 := by
  have : RW ((w.alloc (.cells #[.int .i64 (n : Int), .int .u64 (T : Int), .slice A L c, .int .i64 Wd] 28)).alloc (.cells #[.int .i64 0, .int .u64 0, .slice none 0 0, .int .i64 0, .pointer none] 114)) (w.alloc (.cells #[.int .i64 (n : Int), .int .u64 (T : Int), .slice A L c, .int .i64 Wd] 28)).heap.size 114 5 dr0 := heap_alloc_new _ _
  rwa [show (w.alloc (.cells #[.int .i64 (n : Int), .int .u64 (T : Int), .slice A L c, .int .i64 Wd] 28)).heap.size = w.heap.size + 1 by simp] at this
 replace x0 := cE ka x0
 replace x1 := cE ka x1
 replace x2 := cE ka x2
 replace x3 := cE ka x3
 clear ka
 obtain ⟨hrow, hn8, hL1, hL8⟩ := zbx hok.out (by omega)
 have HROW := Lib.hid hrow
 clear hrow
 go_enter Tryz.func50, Tryz.ntmps50
 go_wp2_with fail
 generalize ((w.alloc (.cells #[.int .i64 (n : Int), .int .u64 (T : Int), .slice A L c, .int .i64 Wd] 28)).alloc (.cells #[.int .i64 0, .int .u64 0, .slice none 0 0, .int .i64 0, .pointer none] 114)) = V0 at *
 refine (zl0 (z := 0) (hP.out.ext k0) (by omega) (HT.out.ext k0) (Lib.hid (.inl ⟨hok.out, rfl⟩))).mono ?_
 rintro ee V ⟨rfl, k1⟩
 replace x0 := cE k1 x0
 replace x1 := cE k1 x1
 replace x2 := cE k1 x2
 replace x3 := cE k1 x3
 replace hr := hr.ext k1
 replace k0 := k0.trans k1
 clear k1
 go_wp2_with fail
 refine (zf3 (n : Int) A L c q V (by omega) (by omega) (by omega) (hP.out.fx.ext k0) (Lib.hid fun j hj => hP.out.words j hj) (HT.out.ext k0)).mono ?_
 rintro ee V1 (⟨h, _⟩ | ⟨_, r, p, a, e, rfl, hrg, k1⟩)
 ·exact absurd HROW.out h
 rw [Int.toNat_natCast] at hrg
 have HRG := Lib.hid hrg
 replace x0 := cE k1 x0
 replace x1 := cE k1 x1
 replace x2 := cE k1 x2
 replace x3 := cE k1 x3
 replace hr := hr.ext k1
 replace k0 := k0.trans k1
 clear k1 hrg
 have HR := Lib.hid hr
 have c0 := hr.cell (i := 0) (by omega)
 have c1 := hr.cell (i := 1) (by omega)
 have c2 := hr.cell (i := 2) (by omega)
 have c3 := hr.cell (i := 3) (by omega)
 have c4 := hr.cell (i := 4) (by omega)
 have f0 := hr.frozen 0
 have f1 := hr.frozen 1
 have f2 := hr.frozen 2
 have f3 := hr.frozen 3
 have f4 := hr.frozen 4
 have hsz := hr.lt
 have HLAY := Lib.hid (zws hr k0 (Nat.le_succ _) (.int .i64 (n : Int)) (.int .u64 (T : Int)) (.slice A L c) (.int .i64 Wd) (.pointer (some ⟨r, 0, none⟩)))
 clear hr
 go_wp2_with fail
 obtain ⟨W, hW, d0, d1, d2, d3, d4, hE, hO⟩ := HLAY.out
 rw [hW]
 clear hW c0 c1 c2 c3 c4 f0 f1 f2 f3 f4
 have g1 := HRG.out.onS HR.out hO
 exact bodyPost_ret (v := .tuple #[.agg #[.int .i64 (n : Int), .int .u64 (T : Int), .slice A L c, .int .i64 Wd, .pointer (some ⟨r, 0, none⟩)], .int .i64 0]) (by simp [results, Tryz.results50, go_sem, d0, d1, d2, d3, d4]) rfl ⟨r, p, a, e, rfl, g1, hE⟩
structure Own (w0 w : World) (G L n : Nat) (gs : Nat → Nat) (F : Nat → Nat → Nat) : Prop where
 row : RW w G 22 L (fun j => .slice (some ⟨gs j, 0, none⟩) n n)
 lists : ∀ j, j < L → UW w (gs j) n (F j)
 new : ∀ j, j < L → w0.heap.size ≤ gs j
 apart : ∀ j, j < L → ∀ i, i < j → gs i < gs j
theorem Own.pm {w0 w : World} {G L n : Nat} {gs : Nat → Nat} {F : Nat → Nat → Nat} (h : Own w0 w G L n gs F) : PM w G L n (fun j => some ⟨gs j, 0, none⟩) (fun _ => n) F := ⟨h.row, fun j hj => UW.fx (h.lists j hj)⟩
theorem zlv (w : World) (n : Nat) : UW (w.alloc (.cells (newU n) 26)) w.heap.size n (fun _ => 0) := heap_alloc_new _ _
set_option maxHeartbeats 4000000 in
theorem zpa (n T L c : Nat) (Wd : Int) (A : Option Addr) (r b : Option Addr) (S : Option Addr) (Sl Sz : Nat) (t : Option Addr) (w : World) (hn : n ≤ 1000) (hL : L ≤ 1000) (hT : T < 18446744073709551616) :
    Calls Tryz.prog 49 #[.agg #[.int .i64 (n : Int), .int .u64 (T : Int), .slice A L c, .int .i64 Wd, .pointer r, .pointer b, .slice S Sl Sz, .pointer t]] w fun ee w' => ∃ (G : Nat) (gs : Nat → Nat), ee = .returned (.agg #[.slice (some ⟨G, 0, none⟩) L L]) ∧ Own w w' G L n gs (fun _ _ => 0) ∧ w.heap.size ≤ G ∧ Ext w w' := by
 have hmk := zh0 L (by omega)
 have hmk2 := zb2 n (by omega)
 have kD : Ext w (w.alloc (.cells #[.int .i64 (n : Int), .int .u64 (T : Int), .slice A L c, .int .i64 Wd, .pointer r, .pointer b, .slice S Sl Sz, .pointer t] 91)) := (Ext.refl w).alloc _
 have x0 : (w.alloc (.cells #[.int .i64 (n : Int), .int .u64 (T : Int), .slice A L c, .int .i64 Wd, .pointer r, .pointer b, .slice S Sl Sz, .pointer t] 91)).cell? ⟨w.heap.size, 0, none⟩ = some (.int .i64 (n : Int)) := by simp
 have x2 : (w.alloc (.cells #[.int .i64 (n : Int), .int .u64 (T : Int), .slice A L c, .int .i64 Wd, .pointer r, .pointer b, .slice S Sl Sz, .pointer t] 91)).cell? ⟨w.heap.size, 2, none⟩ = some (.slice A L c) := by simp
 go_enter Tryz.func49, Tryz.ntmps49
 go_wp2
 clear hmk
 obtain ⟨V, hV⟩ : ∃ V, V = w.alloc (.cells #[.int .i64 (n : Int), .int .u64 (T : Int), .slice A L c, .int .i64 Wd, .pointer r, .pointer b, .slice S Sl Sz, .pointer t] 91) := ⟨_, rfl⟩
 rw [← hV] at kD x0 x2 ⊢
 have hVs : V.heap.size = w.heap.size + 1 := by rw [hV]; simp
 clear hV
 have hrs : RW (V.alloc (.cells #[.slice none 0 0] 56)) V.heap.size 56 1 (fun _ => .slice none 0 0) := heap_alloc_new V _
 have kA : Ext V (V.alloc (.cells #[.slice none 0 0] 56)) := (Ext.refl V).alloc _
 have hrs2 := RW.ext hrs ((Ext.refl _).alloc (.cells (newS L) 22))
 have hls := zhg (V.alloc (.cells #[.slice none 0 0] 56)) L
 rw [show (V.alloc (.cells #[.slice none 0 0] 56)).heap.size = V.heap.size + 1 by simp] at hls
 have kB := kA.alloc (.cells (newS L) 22)
 have y0 := x0
 rw [hVs] at hrs2 hls
 generalize (V.alloc (.cells #[.slice none 0 0] 56)).alloc (.cells (newS L) 22) = V2 at *
 clear hrs kA x0 x2
 obtain ⟨G, hG⟩ : ∃ G, G = w.heap.size + 1 + 1 := ⟨_, rfl⟩
 rw [← hG] at hls ⊢
 have hGw : w.heap.size ≤ G := by omega
 have hV2 : V.heap.size ≤ G := by omega
 clear hG hVs
 have kW := kD
 go_loopw [12] (fun i wr => ∃ (k : Nat) (gs : Nat → Nat), k ≤ L ∧ i = .int .i64 (k : Int) ∧ RW wr G 22 L (fun j => if j < k then .slice (some ⟨gs j, 0, none⟩) n n else .slice none 0 0) ∧ Hid (∀ j, j < k → UW wr (gs j) n (fun _ => 0) ∧ w.heap.size ≤ gs j ∧ ∀ i, i < j → gs i < gs j) ∧ RW wr (w.heap.size + 1) 56 1 (fun _ => .slice none 0 0) ∧ Ext V wr) (fun i _ => L - (intOf i).toNat)
 case atStart => exact ⟨0, fun _ => 0, by omega, rfl, hls.congr fun i _ => by rw [if_neg (by omega)], Lib.hid fun j hj => by omega, hrs2, kB⟩
 case round =>
  obtain ⟨k, gs, hk, rfl, hrw, hall, hr0, kr⟩ := hrel
  clear hls hrs2
  by_cases hlt : k < L
  ·have z0 := cE kr y0
   have c0 := hrw.cell (i := k) (by omega)
   have f0 := hrw.frozen k
   have hsz := hrw.lt
   simp only [Nat.lt_irrefl, if_false] at c0
   have i0 : (0 : Int) ≤ (k : Int) := by omega
   have i1 : (k : Int) < (L : Int) := by omega
   go_wp2_with fail
   have hs : (wr.setCell ⟨G, k, none⟩ (.slice (some ⟨wr.heap.size, 0, none⟩) n n)).heap.size = wr.heap.size := by simp [World.setCell]
   have ka : Ext (wr.setCell ⟨G, k, none⟩ (.slice (some ⟨wr.heap.size, 0, none⟩) n n)) ((wr.setCell ⟨G, k, none⟩ (.slice (some ⟨wr.heap.size, 0, none⟩) n n)).alloc (.cells (newU n) 26)) := (Ext.refl _).alloc _
   have h1 := (RW.ext (hrw.set hlt (.slice (some ⟨wr.heap.size, 0, none⟩) n n)) ka).congr (G := fun j => if j < k + 1 then .slice (some ⟨(fun j => if j = k then wr.heap.size else gs j) j, 0, none⟩) n n else .slice none 0 0) fun j _ => by
    by_cases h1 : j = k
    ·subst h1; rw [if_pos rfl, if_pos (by omega)]; simp only [if_true]
    ·simp only [if_neg h1]
     by_cases h2 : j < k
     ·rw [if_pos h2, if_pos (by omega)]
     ·rw [if_neg h2, if_neg (by omega)]
   have hnew := zlv (wr.setCell ⟨G, k, none⟩ (.slice (some ⟨wr.heap.size, 0, none⟩) n n)) n
   rw [hs] at hnew
   have hw0 := kW.size
   have hkr := kr.size
   have HALL := Lib.hid (show ∀ j, j < k + 1 → UW ((wr.setCell ⟨G, k, none⟩ (.slice (some ⟨wr.heap.size, 0, none⟩) n n)).alloc (.cells (newU n) 26)) ((fun j => if j = k then wr.heap.size else gs j) j) n (fun _ => 0) ∧ w.heap.size ≤ ((fun j => if j = k then wr.heap.size else gs j) j) ∧ ∀ i, i < j → ((fun j => if j = k then wr.heap.size else gs j) i) < ((fun j => if j = k then wr.heap.size else gs j) j) from fun j hj => by
    by_cases hjk : j = k
    ·subst hjk
     simp only [if_true]
     refine ⟨hnew, by omega, fun i hi => ?_⟩
     rw [if_neg (by omega)]
     exact RW.lt (hall.out i hi).1
    ·simp only [if_neg hjk]
     obtain ⟨a1, a2, a3⟩ := hall.out j (by omega)
     refine ⟨RW.ext (RW.aside a1 hrw (by decide) k _) ka, a2, fun i hi => ?_⟩
     rw [if_neg (by omega)]
     exact a3 i hi)
   have hr3 := RW.ext (RW.aside hr0 hrw (by decide) k (.slice (some ⟨wr.heap.size, 0, none⟩) n n)) ka
   have k3 := (kr.set (p := ⟨G, k, none⟩) hV2 (.slice (some ⟨wr.heap.size, 0, none⟩) n n)).trans ka
   exact ⟨⟨k + 1, _, by omega, by go_num, h1, HALL, hr3, k3⟩, by simp [intOf]; omega⟩
  ·obtain rfl : k = L := by omega
   have hall' := hall.out
   have hown : Own w wr G k n gs (fun _ _ => 0) := ⟨hrw.congr fun j hj => by rw [if_pos hj], fun j hj => (hall' j hj).1, fun j hj => (hall' j hj).2.1, fun j hj => (hall' j hj).2.2⟩
   have HOWN := Lib.hid hown
   have HR0 := Lib.hid hr0
   have c0 := hr0.cell (i := 0) (by omega)
   have z0 := hr0.frozen 0
   have hsz := hr0.lt
   have HK := Lib.hid (show Ext w (wr.setCell ⟨w.heap.size + 1, 0, none⟩ (.slice (some ⟨G, 0, none⟩) k k)) from (kW.trans kr).set (p := ⟨w.heap.size + 1, 0, none⟩) (by show w.heap.size ≤ w.heap.size + 1; omega) _)
   clear hown hall' hrw
   go_wp2_with fail
   have d0 := zas HR0.out (.slice (some ⟨G, 0, none⟩) k k)
   have hfin : Own w (wr.setCell ⟨w.heap.size + 1, 0, none⟩ (.slice (some ⟨G, 0, none⟩) k k)) G k n gs (fun _ _ => 0) := ⟨RW.aside HOWN.out.row HR0.out (by decide) _ _, fun j hj => RW.aside (HOWN.out.lists j hj) HR0.out (by decide) _ _, HOWN.out.new, HOWN.out.apart⟩
   have hkk := HK.out
   generalize wr.setCell ⟨w.heap.size + 1, 0, none⟩ (.slice (some ⟨G, 0, none⟩) k k) = w9 at *
   exact bodyPost_ret (v := .agg #[.slice (some ⟨G, 0, none⟩) k k]) (by simp [results, Tryz.results49, go_sem, d0]) rfl ⟨G, gs, rfl, hfin, hGw, hkk⟩
theorem M.neg {q a b : Int} (h : M q a b) : M q (-a) (-b) := by
 have := (M.rfl (q := q) (a := -1)).mul h
 rwa [Int.neg_one_mul, Int.neg_one_mul] at this
theorem zb5 {q : Int} {n : Nat} {a a' b b' : Nat → Int} (ha : ∀ i, i < n → M q (a i) (a' i)) (hb : ∀ i, i < n → M q (b i) (b' i)) (m : Nat) : M q (nega n a b m) (nega n a' b' m) := by
 unfold nega
 refine S_M fun i hi => S_M fun l hl => ?_
 by_cases h1 : i + l = m
 ·rw [if_pos h1, if_pos h1]; exact (ha i hi).mul (hb l hl)
 ·rw [if_neg h1, if_neg h1]
  by_cases h2 : i + l = m + n
  ·rw [if_pos h2, if_pos h2]; exact ((ha i hi).mul (hb l hl)).neg
  ·rw [if_neg h2, if_neg h2]; exact M.rfl
theorem zen (n : Nat) (a b : Nat → Int) (m : Nat) : nega n a b m = nega n b a m := by
 unfold nega
 rw [zms]
 exact zat fun i hi => zat fun l hl => by rw [Nat.add_comm l i, Int.mul_comm (a l) (b i)]
theorem zjw (n : Nat) (a b c : Nat → Int) (m : Nat) : nega n (fun i => a i + b i) c m = nega n a c m + nega n b c m := by
 unfold nega
 rw [S_add]
 refine zat fun i hi => ?_
 rw [S_add]
 refine zat fun l hl => ?_
 by_cases h1 : i + l = m
 ·simp only [if_pos h1]; rw [Int.add_mul]
 ·simp only [if_neg h1]
  by_cases h2 : i + l = m + n
  ·simp only [if_pos h2]; rw [Int.add_mul]; omega
  ·simp only [if_neg h2]; rfl
theorem zru (n : Nat) (a c : Nat → Int) (m : Nat) : nega n (fun i => -(a i)) c m = -(nega n a c m) := by
 unfold nega
 rw [← Int.neg_one_mul, S_mul]
 refine zat fun i hi => ?_
 rw [S_mul]
 refine zat fun l hl => ?_
 by_cases h1 : i + l = m
 ·simp only [if_pos h1]; rw [Int.neg_one_mul, Int.neg_mul]
 ·simp only [if_neg h1]
  by_cases h2 : i + l = m + n
  ·simp only [if_pos h2]; rw [Int.neg_one_mul, Int.neg_mul]
  ·simp only [if_neg h2]; rfl
theorem zki {q w v r : Int} {k : Nat} (hw : M q (w ^ (2 ^ k)) (-1)) (hv : M q (v ^ (2 ^ k)) (-1)) (hwv : M q (w * v) 1) (hr : M q (((2 ^ k : Nat) : Int) * r) 1) (a s u : Nat → Int) {i : Nat} (hi : i < 2 ^ k) :
    M q (nega (2 ^ k) (nega (2 ^ k) a s) u i) (nega (2 ^ k) s (nega (2 ^ k) a u) i) := by
 refine zua hw hv hwv hr (fun j hj => ?_) hi
 have h1 := zc4 hw (nega (2 ^ k) a s) u j
 have h2 := zc4 hw s (nega (2 ^ k) a u) j
 have h3 := (zc4 hw a s j).mul (M.rfl (q := q) (a := vals w (2 ^ k) u j))
 have h4 := (M.rfl (q := q) (a := vals w (2 ^ k) s j)).mul (zc4 hw a u j)
 have e : vals w (2 ^ k) a j * vals w (2 ^ k) s j * vals w (2 ^ k) u j = vals w (2 ^ k) s j * (vals w (2 ^ k) a j * vals w (2 ^ k) u j) := by
  rw [Int.mul_comm (vals w (2 ^ k) a j) (vals w (2 ^ k) s j), Int.mul_assoc]
 exact ((h1.trans h3).trans (M.of e)).trans ((h2.trans h4).symm)
theorem zyv {q : Int} {n : Nat} (hA : ∀ (a s u : Nat → Int) (i : Nat), i < n → M q (nega n (nega n a s) u i) (nega n s (nega n a u) i)) (a s e0 u e f d : Nat → Int) {i : Nat} (hi : i < n) :
    M q ((nega n (fun t => -(nega n a s t + e0 t)) u i + e i + d i) + nega n s (fun t => nega n a u t + f t) i) (d i + (e i + nega n s f i - nega n e0 u i)) := by
 have h1 : nega n (fun t => -(nega n a s t + e0 t)) u i = -(nega n (nega n a s) u i + nega n e0 u i) := by
  rw [zru n (fun t => nega n a s t + e0 t) u i, zjw n (nega n a s) e0 u i]
 have h2 : nega n s (fun t => nega n a u t + f t) i = nega n s (nega n a u) i + nega n s f i := by
  rw [zen, zjw, zen n (nega n a u) s i, zen n f s i]
 have h3 := hA a s u i hi
 rw [h1, h2]
 have h4 : M q ((-(nega n (nega n a s) u i + nega n e0 u i) + e i + d i) + (nega n s (nega n a u) i + nega n s f i)) ((-(nega n s (nega n a u) i + nega n e0 u i) + e i + d i) + (nega n s (nega n a u) i + nega n s f i)) :=
  ((((h3.add M.rfl).neg).add M.rfl).add M.rfl).add M.rfl
 refine h4.trans (M.of ?_)
 omega
theorem S_abs {n C : Nat} {f : Nat → Int} (h : ∀ i, i < n → (f i).natAbs ≤ C) : (S n f).natAbs ≤ n * C := by
 induction n with
 | zero => simp [S]
 | succ n ih =>
  have h1 := ih fun i hi => h i (by omega)
  have h2 := h n (by omega)
  have h3 := Int.natAbs_add_le (S n f) (f n)
  show (S n f + f n).natAbs ≤ _
  rw [Nat.succ_mul]
  omega
theorem zmz {n m A B : Nat} {a b : Nat → Int} (hm : m < n) (ha : ∀ i, i < n → (a i).natAbs ≤ A) (hb : ∀ i, i < n → (b i).natAbs ≤ B) : (nega n a b m).natAbs ≤ n * (A * B) := by
 unfold nega
 refine S_abs fun i hi => ?_
 have key : ∀ l, l < n → (a i * b l).natAbs ≤ A * B := fun l hl => by rw [Int.natAbs_mul]; exact Nat.mul_le_mul (ha i hi) (hb l hl)
 by_cases h : i ≤ m
 ·rw [S_one (k := m - i) (by omega) _ (fun l hl hne => by rw [if_neg (by omega), if_neg (by omega)]), if_pos (by omega)]
  exact key _ (by omega)
 ·rw [S_one (k := m + n - i) (by omega) _ (fun l hl hne => by rw [if_neg (by omega), if_neg (by omega)]), if_neg (by omega), if_pos (by omega), Int.natAbs_neg]
  exact key _ (by omega)
theorem ztx {n W : Nat} {s e0 u e f : Nat → Int} {i : Nat} (hi : i < n) (hs : ∀ i, i < n → (s i).natAbs ≤ 1) (hu : ∀ i, i < n → (u i).natAbs ≤ 1) (h0 : ∀ i, i < n → (e0 i).natAbs ≤ W) (he : ∀ i, i < n → (e i).natAbs ≤ W) (hf : ∀ i, i < n → (f i).natAbs ≤ W) :
    (e i + nega n s f i - nega n e0 u i).natAbs ≤ W * (2 * n + 1) := by
 have h1 := zmz hi hs hf
 have h2 := zmz hi h0 hu
 have h3 := he i hi
 rw [Nat.one_mul] at h1
 rw [Nat.mul_one] at h2
 have h4 : W * (2 * n + 1) = W + n * W + n * W := by rw [Nat.mul_add, Nat.mul_one, Nat.two_mul, Nat.mul_add, Nat.mul_comm W n]; omega
 omega
theorem jn_is {q p r : Nat → Nat} {Z : Int} : ∀ L, (∀ j, j < L → 2 ≤ q j ∧ Nat.gcd (prodF q j) (q j) = 1 ∧ zd2 (prodF q j % q j) (q j) (p j) ∧ r j < q j ∧ M (q j : Int) (r j : Int) Z) → M (prodF q L : Int) (jnF q p r 0 L : Int) Z
 | 0, _ => by
  unfold M prodF jnF
  rw [show ((1 : Nat) : Int) = 1 by rfl, Int.emod_one, Int.emod_one]
 | L + 1, h => by
  have ih := jn_is (p := p) (r := r) (Z := Z) L (fun j hj => h j (by omega))
  obtain ⟨h2, hg, hp, hr, hz⟩ := h L (by omega)
  rw [jnF, prodF]
  generalize jnF q p r 0 L = X at *
  generalize prodF q L = P at *
  generalize q L = Q at *
  generalize p L = b at *
  generalize r L = y at *
  have hg2 : Nat.gcd (P % Q) Q = 1 := by rw [← hg, Nat.gcd_comm P Q, Nat.gcd_rec Q P]
  have hb := hp.2.1 hg2
  rw [Nat.mul_mod_mod, Nat.mod_eq_of_lt (show 1 < Q by omega)] at hb
  have hXQ := Nat.mod_lt X (show 0 < Q by omega)
  -- modulo Q
  have hd : M (Q : Int) ((dif y (X % Q) Q : Nat) : Int) ((y : Int) - (X : Int)) := by
   unfold dif
   show ((((y + Q - X % Q) % Q : Nat) : Int)) % _ = _
   rw [Int.natCast_emod, Int.natCast_sub (by omega), Int.natCast_add, Int.natCast_emod, Int.emod_emod_of_dvd _ (Int.dvd_refl _)]
   have e1 : ((y : Int) + (Q : Int) - (X : Int) % (Q : Int)) % (Q : Int) = ((y : Int) - (X : Int)) % (Q : Int) := by
    rw [show (y : Int) + (Q : Int) - (X : Int) % (Q : Int) = ((y : Int) - (X : Int) % (Q : Int)) + (Q : Int) by omega, Int.add_emod_right, Int.sub_emod, Int.emod_emod_of_dvd _ (Int.dvd_refl _), ← Int.sub_emod]
   exact e1
  have hb' : M (Q : Int) ((b : Int) * (P : Int)) 1 := by
   unfold M
   have : ((b * P % Q : Nat) : Int) = ((1 : Nat) : Int) := by rw [hb]
   rw [Int.natCast_emod, Int.natCast_mul] at this
   rw [this, Int.emod_eq_of_lt (by omega) (by omega)]
   rfl
  have hc : M (Q : Int) ((crtF X Q P b y : Nat) : Int) Z := by
   unfold crtF
   rw [Int.natCast_add, Int.natCast_mul, Int.natCast_emod, Int.natCast_mul]
   have s1 : M (Q : Int) (((dif y (X % Q) Q : Nat) : Int) * (b : Int) % (Q : Int)) (((y : Int) - (X : Int)) * (b : Int)) := by
    have : M (Q : Int) (((dif y (X % Q) Q : Nat) : Int) * (b : Int) % (Q : Int)) (((dif y (X % Q) Q : Nat) : Int) * (b : Int)) := Int.emod_emod_of_dvd _ (Int.dvd_refl _)
    exact this.trans (hd.mul M.rfl)
   have s2 := (M.rfl (q := (Q : Int)) (a := (X : Int))).add (s1.mul (M.rfl (a := (P : Int))))
   refine s2.trans ?_
   have s3 : M (Q : Int) (((y : Int) - (X : Int)) * (b : Int) * (P : Int)) ((y : Int) - (X : Int)) := by
    have := (M.rfl (q := (Q : Int)) (a := (y : Int) - (X : Int))).mul hb'
    rwa [Int.mul_one, ← Int.mul_assoc] at this
   refine ((M.rfl (a := (X : Int))).add s3).trans ?_
   rw [show (X : Int) + ((y : Int) - (X : Int)) = y by omega]
   exact hz
  have hP : M (P : Int) ((crtF X Q P b y : Nat) : Int) Z := by
   unfold crtF
   rw [Int.natCast_add, Int.natCast_mul]
   unfold M
   rw [Int.add_mul_emod_self_right]
   exact ih
  -- both together
  have d1 : (P : Int) ∣ ((crtF X Q P b y : Nat) : Int) - Z := Int.dvd_of_emod_eq_zero (Int.emod_eq_emod_iff_emod_sub_eq_zero.1 hP)
  have d2 : (Q : Int) ∣ ((crtF X Q P b y : Nat) : Int) - Z := Int.dvd_of_emod_eq_zero (Int.emod_eq_emod_iff_emod_sub_eq_zero.1 hc)
  have d3 : Q * P ∣ (((crtF X Q P b y : Nat) : Int) - Z).natAbs :=
   Nat.Coprime.mul_dvd_of_dvd_of_dvd (show Nat.Coprime Q P by unfold Nat.Coprime; rw [Nat.gcd_comm]; exact hg) (Int.ofNat_dvd_left.1 d2) (Int.ofNat_dvd_left.1 d1)
  exact Int.emod_eq_emod_iff_emod_sub_eq_zero.2 (Int.emod_eq_zero_of_dvd (Int.ofNat_dvd_left.2 d3))
theorem z04 {X Q : Nat} {Z : Int} (hX : X < Q) (h : M (Q : Int) (X : Int) Z) (h0 : -(Q : Int) < 2 * Z) (h1 : 2 * Z < (Q : Int)) : iv (cenB X Q) (cenN X Q) = Z := by
 unfold M at h
 rw [Int.emod_eq_of_lt (by omega) (by omega)] at h
 unfold cenB cenN iv
 by_cases hz : 0 ≤ Z
 ·rw [Int.emod_eq_of_lt hz (by omega)] at h
  have hx : X < Q - X := by omega
  rw [if_pos hx, decide_eq_true hx]
  simp
  omega
 ·have e : Z % (Q : Int) = Z + Q := by rw [← Int.add_emod_right, Int.emod_eq_of_lt (by omega) (by omega)]
  rw [e] at h
  have hx : ¬ X < Q - X := by omega
  rw [if_neg hx, decide_eq_false hx]
  simp
  omega
theorem z0h {T Q D r X : Nat} {b : Bool} {z ν : Int} (hQ : Q = T * D + r) (hv : iv b X = (D : Int) * z + ν) (h0 : -(Q : Int) ≤ 2 * ((T : Int) * ν - (r : Int) * z)) (h1 : 2 * ((T : Int) * ν - (r : Int) * z) < (Q : Int)) (hQ0 : 0 < Q) : nearQ T Q b X = z := by
 unfold nearQ nearZ
 have e0 : iv (decide (iv b X * (T : Int) < 0)) (iv b X * (T : Int)).natAbs = iv b X * (T : Int) := by
  unfold iv
  by_cases h : (if b = true then -(X : Int) else (X : Int)) * (T : Int) < 0
  ·rw [decide_eq_true h]; simp; omega
  ·rw [decide_eq_false h]; simp; omega
 rw [e0, hv]
 have e1 : 2 * (((D : Int) * z + ν) * (T : Int)) + (Q : Int) = (Q + 2 * ((T : Int) * ν - (r : Int) * z)) + z * (2 * (Q : Int)) := by
  have hq : (Q : Int) = (T : Int) * (D : Int) + (r : Int) := by rw [hQ, Int.natCast_add, Int.natCast_mul]
  have a1 : ((D : Int) * z + ν) * (T : Int) = (T : Int) * (D : Int) * z + (T : Int) * ν := by
   rw [Int.add_mul, Int.mul_comm ((D : Int) * z) (T : Int), Int.mul_assoc, Int.mul_comm ν (T : Int)]
  have a2 : z * (2 * (Q : Int)) = 2 * ((T : Int) * (D : Int) * z) + 2 * ((r : Int) * z) := by
   rw [hq, Int.mul_comm z, Int.mul_assoc 2, Int.add_mul, Int.mul_add]
  rw [a1, a2]
  omega
 rw [e1, Int.add_mul_ediv_right _ _ (by omega), Int.ediv_eq_zero_of_lt (by omega) (by omega), Int.zero_add]
theorem zu3 {w : World} {r n L : Nat} {q p : Nat → Nat} {a e : Nat → Nat → Nat} (h : Rg w r n L q p a e) (hs : ∀ j, j < L → ∃ x, x < q j ∧ noSq (q j) x = true) {j : Nat} (hj : j < L) : ∀ (a s u : Nat → Int) (i : Nat), i < n → M (q j : Int) (nega n (nega n a s) u i) (nega n s (nega n a u) i) := by
 obtain ⟨k, r', v, ht⟩ := (h.tab j hj).root (hs j hj)
 obtain ⟨a', e', gp, ge, _, hG, hE⟩ := ht.ex
 obtain ⟨u', hu, _⟩ := hE
 intro a s u i hi
 have hn := hG.nk
 have h1 := hG.hr
 have h2 := hG.hv
 have h3 := hG.rv
 rw [hn] at h1 h2 hu hi ⊢
 exact zki h1 h2 h3 hu a s u hi
theorem z0z {n : Nat} {q : Int} (hA : ∀ (a s u : Nat → Int) (i : Nat), i < n → M q (nega n (nega n a s) u i) (nega n s (nega n a u) i)) {A B s u e0 e f d F0 F1 H : Nat → Int}
    (hB : ∀ i, i < n → M q (B i) (-(nega n A s i + e0 i))) (h0 : ∀ i, i < n → M q (F0 i) (nega n B u i + e i + d i)) (h1 : ∀ i, i < n → M q (F1 i) (nega n A u i + f i)) (hH : ∀ i, i < n → M q (H i) (F0 i + nega n s F1 i)) :
    ∀ i, i < n → M q (H i) (d i + (e i + nega n s f i - nega n e0 u i)) := fun i hi => by
 refine (hH i hi).trans ?_
 refine ((h0 i hi).add (zb5 (fun _ _ => M.rfl) h1 i)).trans ?_
 refine ((((zb5 hB (fun _ _ => M.rfl) i).add M.rfl).add M.rfl).add M.rfl).trans ?_
 exact zyv hA A s e0 u e f d hi
theorem zys {q p r : Nat → Nat} {L T E : Nat} {z ν : Int} (hj : ∀ j, j < L → 2 ≤ q j ∧ Nat.gcd (prodF q j) (q j) = 1 ∧ zd2 (prodF q j % q j) (q j) (p j) ∧ r j < q j ∧ M (q j : Int) (r j : Int) (((prodF q L / T : Nat) : Int) * z + ν)) (hX : jnF q p r 0 L < prodF q L) (hT : 0 < T) (hz : 2 * z.natAbs + 1 ≤ T) (hν : ν.natAbs ≤ E) (h1 : 2 * E < prodF q L / T) (h2 : 2 * (T * E) + T * T < prodF q L) :
    nearQ T (prodF q L) (cenB (jnF q p r 0 L) (prodF q L)) (cenN (jnF q p r 0 L) (prodF q L)) = z := by
 have hm := jn_is L hj
 have hd := Nat.div_add_mod (prodF q L) T
 have hr := Nat.mod_lt (prodF q L) hT
 generalize jnF q p r 0 L = X at *
 generalize hQ : prodF q L = Q at *
 clear hj hQ
 generalize Q / T = D at *
 generalize Q % T = R at *
 have a1 : ((D : Int) * z).natAbs = D * z.natAbs := by rw [Int.natAbs_mul, Int.natAbs_natCast]
 have a2 : D * (2 * z.natAbs + 1) ≤ D * T := Nat.mul_le_mul_left _ hz
 have a3 : D * (2 * z.natAbs + 1) = 2 * (D * z.natAbs) + D := by rw [Nat.mul_add, Nat.mul_one, Nat.mul_left_comm]
 have a4 : ((T : Int) * ν).natAbs ≤ T * E := by rw [Int.natAbs_mul, Int.natAbs_natCast]; exact Nat.mul_le_mul_left _ hν
 have a5 : ((R : Int) * z).natAbs = R * z.natAbs := by rw [Int.natAbs_mul, Int.natAbs_natCast]
 have a6 : R * (2 * z.natAbs) ≤ T * T := Nat.mul_le_mul (by omega) (by omega)
 have a7 : R * (2 * z.natAbs) = 2 * (R * z.natAbs) := Nat.mul_left_comm _ _ _
 have a8 : T * D = D * T := Nat.mul_comm _ _
 have hv := z04 hX hm (by omega) (by omega)
 exact z0h hd.symm hv (by omega) (by omega) (by omega)
theorem lif_M {v : Int} {q : Nat} (hq : 0 < q) : M (q : Int) ((lif v q : Nat) : Int) v := by
 have := Int.emod_nonneg v (show (q : Int) ≠ 0 by omega)
 unfold M lif
 rw [Int.toNat_of_nonneg this, Int.emod_emod]
theorem zqk {n : Nat} {q : Int} {D : Int} {b c : Nat → Int} (hn : 0 < n) (h0 : M q (b 0) D) (hb : ∀ i, 0 < i → i < n → M q (b i) 0) {i : Nat} (hi : i < n) : M q (nega n b c i) (D * c i) := by
 have h1 : M q (nega n b c i) (nega n (fun t => if t = 0 then D else 0) c i) := zb5 (fun t ht => by
  by_cases h : t = 0
  ·subst h; rw [if_pos rfl]; exact h0
  ·rw [if_neg h]; exact hb t (by omega) ht) (fun _ _ => M.rfl) i
 refine h1.trans (M.of ?_)
 unfold nega
 rw [S_one (k := 0) hn _ (fun t ht hne => by
  simp only [if_neg hne, Int.zero_mul, Int.neg_zero, ite_self]
  exact zsh n)]
 rw [S_one (k := i) hi _ (fun l hl hne => by rw [if_neg (by omega), if_neg (by omega)]), if_pos (by omega)]
 rfl
end Go.Proofs.YtopbibfpjgjalaaGreatDoor
