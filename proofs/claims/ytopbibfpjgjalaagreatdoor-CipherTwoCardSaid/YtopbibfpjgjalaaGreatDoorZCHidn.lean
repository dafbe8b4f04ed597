import Derived.Test.YtopbibfpjgjalaaGreatDoorZ43
namespace Go.Proofs.YtopbibfpjgjalaaGreatDoor
open Go.RowKit
set_option linter.unusedVariables false
set_option linter.unusedSimpArgs false
set_option maxRecDepth 100000
theorem s1 {α : Type} {l : List α} {i : Nat} {a : α} : l.toArray.setIfInBounds i a = (l.set i a).toArray := List.setIfInBounds_toArray ..
theorem s2 {α : Type} {x : α} {xs : List α} {b : α} : (x :: xs).set 0 b = b :: xs := rfl
theorem s3 {α : Type} {x : α} {xs : List α} {i : Nat} {b : α} : (x :: xs).set (i + 1) b = x :: xs.set i b := rfl
theorem xa {a b : World} {o : Obj} (h : Ext a b) : Ext a (b.alloc o) := h.alloc o
theorem xd {a b : World} (h : Ext a b) : Ext a b.drew := h.drew
theorem zae (w : World) (v : Value) (x : Nat) (hx : x = w.heap.size) : RW (w.alloc (.cells #[v] 56)) x 56 1 (fun _ => v) := by
 subst hx
 exact zab w v
theorem zay (w : World) (a b : Value) : RW (w.alloc (.cells #[a, b] 56)) w.heap.size 56 2 (fun i => if i = 0 then a else b) := (heap_alloc_new w _ : RW (w.alloc (.cells #[a, b] 56)) w.heap.size 56 2 (fun i => if i = 0 then a else b))
theorem zaj (w : World) (a b : Value) (x : Nat) (hx : x = w.heap.size) : RW (w.alloc (.cells #[a, b] 56)) x 56 2 (fun i => if i = 0 then a else b) := by
 subst hx
 exact zay w a b
theorem one_ex {w X : World} {v : Value} {x : Nat} (he : Ext (w.alloc (.cells #[v] 56)) X) (hx : x = w.heap.size) : RW X x 56 1 (fun _ => v) := RW.ext (zae w v x hx) he
theorem two_ex {w X : World} {a b : Value} {x : Nat} (he : Ext (w.alloc (.cells #[a, b] 56)) X) (hx : x = w.heap.size) : RW X x 56 2 (fun i => if i = 0 then a else b) := RW.ext (zaj w a b x hx) he
def HidA (n L : Nat) (q : Nat → Nat) (FB Fu Fe Fs F : Nat → Nat → Nat) : Prop := ∃ F1, JoinR L (RMul n q) FB (fun _ => Fu) 1 F1 ∧ JoinR L (RAdd n q) F1 (fun k => if k = 0 then Fe else Fs) 2 F
def HidB (n L : Nat) (q : Nat → Nat) (FA Fu Ff F : Nat → Nat → Nat) : Prop := ∃ F1, JoinR L (RMul n q) FA (fun _ => Fu) 1 F1 ∧ JoinR L (RAdd n q) F1 (fun _ => Ff) 1 F
def Cip2 (w : World) (x n L : Nat) (R0 R1 : (Nat → Nat → Nat) → Prop) : Prop := ∃ (G0 G1 : Nat) (A0 A1 : Nat → Option Addr) (c0 c1 : Nat → Nat) (F0 F1 : Nat → Nat → Nat), RW w x 56 2 (fun i => if i = 0 then .slice (some ⟨G0, 0, none⟩) L L else .slice (some ⟨G1, 0, none⟩) L L) ∧ PM w G0 L n A0 c0 F0 ∧ PM w G1 L n A1 c1 F1 ∧ Hid (R0 F0) ∧ Hid (R1 F1)
def zy5 (w : World) (n L : Nat) (R0 R1 : (Nat → Nat → Nat) → Prop) (ee : Ending) (w' : World) : Prop := ∃ x : Nat, ee = .returned (.agg #[.slice (some ⟨x, 0, none⟩) 2 2]) ∧ Cip2 w' x n L R0 R1 ∧ Ext w w'
set_option maxHeartbeats 16000000 in
theorem zni (r n L : Nat) (N Wd : Int) (T Lq cq : Nat) (Aq : Option Addr) (q pp : Nat → Nat) (a e : Nat → Nat → Nat) (GB GA Gu Ge Gf Gs : Nat) (As1 As2 As3 As4 As5 As6 : Nat → Option Addr) (cs1 cs2 cs3 cs4 cs5 cs6 : Nat → Nat) (FB FA Fu Fe Ff Fs : Nat → Nat → Nat) (w : World) (hn0 : 2 ≤ n) (hn : n ≤ 32) (hL0 : 1 ≤ L) (hL : L ≤ 24) (hR : Rg w r n L q pp a e)
    (hB : PM w GB L n As1 cs1 FB) (hA : PM w GA L n As2 cs2 FA) (hu : PM w Gu L n As3 cs3 Fu) (he : PM w Ge L n As4 cs4 Fe) (hf : PM w Gf L n As5 cs5 Ff) (hs : PM w Gs L n As6 cs6 Fs)
    (qB : Hid (∀ j, j < L → ∀ i, i < n → FB j i < q j)) (qA : Hid (∀ j, j < L → ∀ i, i < n → FA j i < q j)) (qu : Hid (∀ j, j < L → ∀ i, i < n → Fu j i < q j)) (qe : Hid (∀ j, j < L → ∀ i, i < n → Fe j i < q j)) (qf : Hid (∀ j, j < L → ∀ i, i < n → Ff j i < q j)) (qs : Hid (∀ j, j < L → ∀ i, i < n → Fs j i < q j)) (hsq : Hid (∀ j, j < L → ∃ x, x < q j ∧ noSq (q j) x = true)) :
    Calls Tryz.prog 55 #[.agg #[.int .i64 N, .int .u64 (T : Int), .slice Aq Lq cq, .int .i64 Wd, .pointer (some ⟨r, 0, none⟩)], .agg #[.slice (some ⟨GB, 0, none⟩) L L, .slice (some ⟨GA, 0, none⟩) L L], .agg #[.slice (some ⟨Gu, 0, none⟩) L L, .slice (some ⟨Ge, 0, none⟩) L L, .slice (some ⟨Gf, 0, none⟩) L L], .agg #[.slice (some ⟨Gs, 0, none⟩) L L]] w (zy5 w n L (HidA n L q FB Fu Fe Fs) (HidB n L q FA Fu Ff)) := by
 have k0 : Ext w (((((w.alloc (.cells #[.int .i64 N, .int .u64 (T : Int), .slice Aq Lq cq, .int .i64 Wd, .pointer (some ⟨r, 0, none⟩)] 114)).alloc (.cells #[.slice (some ⟨GB, 0, none⟩) L L, .slice (some ⟨GA, 0, none⟩) L L] 58)).alloc (.cells #[.slice (some ⟨Gu, 0, none⟩) L L, .slice (some ⟨Ge, 0, none⟩) L L, .slice (some ⟨Gf, 0, none⟩) L L] 121)).alloc (.cells #[.slice (some ⟨Gs, 0, none⟩) L L] 56)).alloc (.cells #[.slice none 0 0] 62)) := (((((Ext.refl w).alloc _).alloc _).alloc _).alloc _).alloc _
 obtain ⟨_, _, _, _, x4⟩ := zbt w (.int .i64 N) (.int .u64 (T : Int)) (.slice Aq Lq cq) (.int .i64 Wd) (.pointer (some ⟨r, 0, none⟩)) 114
 have xk : ∀ v0 v1 : Value, ((w.alloc (.cells #[.int .i64 N, .int .u64 (T : Int), .slice Aq Lq cq, .int .i64 Wd, .pointer (some ⟨r, 0, none⟩)] 114)).alloc (.cells #[v0, v1] 58)).cell? ⟨(w.alloc (.cells #[.int .i64 N, .int .u64 (T : Int), .slice Aq Lq cq, .int .i64 Wd, .pointer (some ⟨r, 0, none⟩)] 114)).heap.size, 0, none⟩ = some v0 ∧ ((w.alloc (.cells #[.int .i64 N, .int .u64 (T : Int), .slice Aq Lq cq, .int .i64 Wd, .pointer (some ⟨r, 0, none⟩)] 114)).alloc (.cells #[v0, v1] 58)).cell? ⟨(w.alloc (.cells #[.int .i64 N, .int .u64 (T : Int), .slice Aq Lq cq, .int .i64 Wd, .pointer (some ⟨r, 0, none⟩)] 114)).heap.size, 1, none⟩ = some v1 := fun v0 v1 => ⟨by simp, by simp⟩
 rw [show (w.alloc (.cells #[.int .i64 N, .int .u64 (T : Int), .slice Aq Lq cq, .int .i64 Wd, .pointer (some ⟨r, 0, none⟩)] 114)).heap.size = w.heap.size + 1 by simp] at xk
 obtain ⟨k0', k1'⟩ := xk (.slice (some ⟨GB, 0, none⟩) L L) (.slice (some ⟨GA, 0, none⟩) L L)
 obtain ⟨v0, v1, v2⟩ := zie ((w.alloc (.cells #[.int .i64 N, .int .u64 (T : Int), .slice Aq Lq cq, .int .i64 Wd, .pointer (some ⟨r, 0, none⟩)] 114)).alloc (.cells #[.slice (some ⟨GB, 0, none⟩) L L, .slice (some ⟨GA, 0, none⟩) L L] 58)) (.slice (some ⟨Gu, 0, none⟩) L L) (.slice (some ⟨Ge, 0, none⟩) L L) (.slice (some ⟨Gf, 0, none⟩) L L) 121
 rw [show ((w.alloc (.cells #[.int .i64 N, .int .u64 (T : Int), .slice Aq Lq cq, .int .i64 Wd, .pointer (some ⟨r, 0, none⟩)] 114)).alloc (.cells #[.slice (some ⟨GB, 0, none⟩) L L, .slice (some ⟨GA, 0, none⟩) L L] 58)).heap.size = w.heap.size + 2 by simp] at v0 v1 v2
 have s0 := zam (((w.alloc (.cells #[.int .i64 N, .int .u64 (T : Int), .slice Aq Lq cq, .int .i64 Wd, .pointer (some ⟨r, 0, none⟩)] 114)).alloc (.cells #[.slice (some ⟨GB, 0, none⟩) L L, .slice (some ⟨GA, 0, none⟩) L L] 58)).alloc (.cells #[.slice (some ⟨Gu, 0, none⟩) L L, .slice (some ⟨Ge, 0, none⟩) L L, .slice (some ⟨Gf, 0, none⟩) L L] 121)) (.slice (some ⟨Gs, 0, none⟩) L L) 56
 rw [show (((w.alloc (.cells #[.int .i64 N, .int .u64 (T : Int), .slice Aq Lq cq, .int .i64 Wd, .pointer (some ⟨r, 0, none⟩)] 114)).alloc (.cells #[.slice (some ⟨GB, 0, none⟩) L L, .slice (some ⟨GA, 0, none⟩) L L] 58)).alloc (.cells #[.slice (some ⟨Gu, 0, none⟩) L L, .slice (some ⟨Ge, 0, none⟩) L L, .slice (some ⟨Gf, 0, none⟩) L L] 121)).heap.size = w.heap.size + 3 by simp] at s0
 have hr : RW (((((w.alloc (.cells #[.int .i64 N, .int .u64 (T : Int), .slice Aq Lq cq, .int .i64 Wd, .pointer (some ⟨r, 0, none⟩)] 114)).alloc (.cells #[.slice (some ⟨GB, 0, none⟩) L L, .slice (some ⟨GA, 0, none⟩) L L] 58)).alloc (.cells #[.slice (some ⟨Gu, 0, none⟩) L L, .slice (some ⟨Ge, 0, none⟩) L L, .slice (some ⟨Gf, 0, none⟩) L L] 121)).alloc (.cells #[.slice (some ⟨Gs, 0, none⟩) L L] 56)).alloc (.cells #[.slice none 0 0] 62)) (w.heap.size + 4) 62 1 (fun _ => .slice none 0 0) := by
  have : RW (((((w.alloc (.cells #[.int .i64 N, .int .u64 (T : Int), .slice Aq Lq cq, .int .i64 Wd, .pointer (some ⟨r, 0, none⟩)] 114)).alloc (.cells #[.slice (some ⟨GB, 0, none⟩) L L, .slice (some ⟨GA, 0, none⟩) L L] 58)).alloc (.cells #[.slice (some ⟨Gu, 0, none⟩) L L, .slice (some ⟨Ge, 0, none⟩) L L, .slice (some ⟨Gf, 0, none⟩) L L] 121)).alloc (.cells #[.slice (some ⟨Gs, 0, none⟩) L L] 56)).alloc (.cells #[.slice none 0 0] 62)) ((((w.alloc (.cells #[.int .i64 N, .int .u64 (T : Int), .slice Aq Lq cq, .int .i64 Wd, .pointer (some ⟨r, 0, none⟩)] 114)).alloc (.cells #[.slice (some ⟨GB, 0, none⟩) L L, .slice (some ⟨GA, 0, none⟩) L L] 58)).alloc (.cells #[.slice (some ⟨Gu, 0, none⟩) L L, .slice (some ⟨Ge, 0, none⟩) L L, .slice (some ⟨Gf, 0, none⟩) L L] 121)).alloc (.cells #[.slice (some ⟨Gs, 0, none⟩) L L] 56)).heap.size 62 1 (fun _ => .slice none 0 0) := heap_alloc_new _ _
  rwa [show ((((w.alloc (.cells #[.int .i64 N, .int .u64 (T : Int), .slice Aq Lq cq, .int .i64 Wd, .pointer (some ⟨r, 0, none⟩)] 114)).alloc (.cells #[.slice (some ⟨GB, 0, none⟩) L L, .slice (some ⟨GA, 0, none⟩) L L] 58)).alloc (.cells #[.slice (some ⟨Gu, 0, none⟩) L L, .slice (some ⟨Ge, 0, none⟩) L L, .slice (some ⟨Gf, 0, none⟩) L L] 121)).alloc (.cells #[.slice (some ⟨Gs, 0, none⟩) L L] 56)).heap.size = w.heap.size + 4 by simp] at this
 have ka : Ext (w.alloc (.cells #[.int .i64 N, .int .u64 (T : Int), .slice Aq Lq cq, .int .i64 Wd, .pointer (some ⟨r, 0, none⟩)] 114)) (((((w.alloc (.cells #[.int .i64 N, .int .u64 (T : Int), .slice Aq Lq cq, .int .i64 Wd, .pointer (some ⟨r, 0, none⟩)] 114)).alloc (.cells #[.slice (some ⟨GB, 0, none⟩) L L, .slice (some ⟨GA, 0, none⟩) L L] 58)).alloc (.cells #[.slice (some ⟨Gu, 0, none⟩) L L, .slice (some ⟨Ge, 0, none⟩) L L, .slice (some ⟨Gf, 0, none⟩) L L] 121)).alloc (.cells #[.slice (some ⟨Gs, 0, none⟩) L L] 56)).alloc (.cells #[.slice none 0 0] 62)) := ((((Ext.refl _).alloc _).alloc _).alloc _).alloc _
 have kb : Ext ((w.alloc (.cells #[.int .i64 N, .int .u64 (T : Int), .slice Aq Lq cq, .int .i64 Wd, .pointer (some ⟨r, 0, none⟩)] 114)).alloc (.cells #[.slice (some ⟨GB, 0, none⟩) L L, .slice (some ⟨GA, 0, none⟩) L L] 58)) (((((w.alloc (.cells #[.int .i64 N, .int .u64 (T : Int), .slice Aq Lq cq, .int .i64 Wd, .pointer (some ⟨r, 0, none⟩)] 114)).alloc (.cells #[.slice (some ⟨GB, 0, none⟩) L L, .slice (some ⟨GA, 0, none⟩) L L] 58)).alloc (.cells #[.slice (some ⟨Gu, 0, none⟩) L L, .slice (some ⟨Ge, 0, none⟩) L L, .slice (some ⟨Gf, 0, none⟩) L L] 121)).alloc (.cells #[.slice (some ⟨Gs, 0, none⟩) L L] 56)).alloc (.cells #[.slice none 0 0] 62)) := (((Ext.refl _).alloc _).alloc _).alloc _
 have kc : Ext (((w.alloc (.cells #[.int .i64 N, .int .u64 (T : Int), .slice Aq Lq cq, .int .i64 Wd, .pointer (some ⟨r, 0, none⟩)] 114)).alloc (.cells #[.slice (some ⟨GB, 0, none⟩) L L, .slice (some ⟨GA, 0, none⟩) L L] 58)).alloc (.cells #[.slice (some ⟨Gu, 0, none⟩) L L, .slice (some ⟨Ge, 0, none⟩) L L, .slice (some ⟨Gf, 0, none⟩) L L] 121)) (((((w.alloc (.cells #[.int .i64 N, .int .u64 (T : Int), .slice Aq Lq cq, .int .i64 Wd, .pointer (some ⟨r, 0, none⟩)] 114)).alloc (.cells #[.slice (some ⟨GB, 0, none⟩) L L, .slice (some ⟨GA, 0, none⟩) L L] 58)).alloc (.cells #[.slice (some ⟨Gu, 0, none⟩) L L, .slice (some ⟨Ge, 0, none⟩) L L, .slice (some ⟨Gf, 0, none⟩) L L] 121)).alloc (.cells #[.slice (some ⟨Gs, 0, none⟩) L L] 56)).alloc (.cells #[.slice none 0 0] 62)) := ((Ext.refl _).alloc _).alloc _
 have kd : Ext ((((w.alloc (.cells #[.int .i64 N, .int .u64 (T : Int), .slice Aq Lq cq, .int .i64 Wd, .pointer (some ⟨r, 0, none⟩)] 114)).alloc (.cells #[.slice (some ⟨GB, 0, none⟩) L L, .slice (some ⟨GA, 0, none⟩) L L] 58)).alloc (.cells #[.slice (some ⟨Gu, 0, none⟩) L L, .slice (some ⟨Ge, 0, none⟩) L L, .slice (some ⟨Gf, 0, none⟩) L L] 121)).alloc (.cells #[.slice (some ⟨Gs, 0, none⟩) L L] 56)) (((((w.alloc (.cells #[.int .i64 N, .int .u64 (T : Int), .slice Aq Lq cq, .int .i64 Wd, .pointer (some ⟨r, 0, none⟩)] 114)).alloc (.cells #[.slice (some ⟨GB, 0, none⟩) L L, .slice (some ⟨GA, 0, none⟩) L L] 58)).alloc (.cells #[.slice (some ⟨Gu, 0, none⟩) L L, .slice (some ⟨Ge, 0, none⟩) L L, .slice (some ⟨Gf, 0, none⟩) L L] 121)).alloc (.cells #[.slice (some ⟨Gs, 0, none⟩) L L] 56)).alloc (.cells #[.slice none 0 0] 62)) := (Ext.refl _).alloc _
 replace x4 := cE ka x4
 replace k0' := cE kb k0'
 replace k1' := cE kb k1'
 replace v0 := cE kc v0
 replace v1 := cE kc v1
 replace v2 := cE kc v2
 replace s0 := cE kd s0
 have HR := Lib.hid (hR.ext k0)
 have HB := Lib.hid (hB.ext k0)
 have HA := Lib.hid (hA.ext k0)
 have HU := Lib.hid (hu.ext k0)
 have HE := Lib.hid (he.ext k0)
 have HF := Lib.hid (hf.ext k0)
 have HS := Lib.hid (hs.ext k0)
 have hVs : (((((w.alloc (.cells #[.int .i64 N, .int .u64 (T : Int), .slice Aq Lq cq, .int .i64 Wd, .pointer (some ⟨r, 0, none⟩)] 114)).alloc (.cells #[.slice (some ⟨GB, 0, none⟩) L L, .slice (some ⟨GA, 0, none⟩) L L] 58)).alloc (.cells #[.slice (some ⟨Gu, 0, none⟩) L L, .slice (some ⟨Ge, 0, none⟩) L L, .slice (some ⟨Gf, 0, none⟩) L L] 121)).alloc (.cells #[.slice (some ⟨Gs, 0, none⟩) L L] 56)).alloc (.cells #[.slice none 0 0] 62)).heap.size = w.heap.size + 5 := by simp
 clear ka kb kc kd xk hR hB hA hu he hf hs
 go_enter Tryz.func55, Tryz.ntmps55
 go_upto_region 1 with fail
 generalize (((((w.alloc (.cells #[.int .i64 N, .int .u64 (T : Int), .slice Aq Lq cq, .int .i64 Wd, .pointer (some ⟨r, 0, none⟩)] 114)).alloc (.cells #[.slice (some ⟨GB, 0, none⟩) L L, .slice (some ⟨GA, 0, none⟩) L L] 58)).alloc (.cells #[.slice (some ⟨Gu, 0, none⟩) L L, .slice (some ⟨Ge, 0, none⟩) L L, .slice (some ⟨Gf, 0, none⟩) L L] 121)).alloc (.cells #[.slice (some ⟨Gs, 0, none⟩) L L] 56)).alloc (.cells #[.slice none 0 0] 62)) = V at *
 obtain ⟨D, hD⟩ : ∃ D, D = w.heap.size := ⟨_, rfl⟩
 obtain ⟨K, hK⟩ : ∃ D, D = w.heap.size + 1 := ⟨_, rfl⟩
 obtain ⟨Vb, hVb⟩ : ∃ D, D = w.heap.size + 2 := ⟨_, rfl⟩
 obtain ⟨Sb, hSb⟩ : ∃ D, D = w.heap.size + 3 := ⟨_, rfl⟩
 obtain ⟨R, hRR⟩ : ∃ D, D = w.heap.size + 4 := ⟨_, rfl⟩
 have gD : D < V.heap.size := by omega
 have gK : K < V.heap.size := by omega
 have gV : Vb < V.heap.size := by omega
 have gS : Sb < V.heap.size := by omega
 have gR : w.heap.size ≤ R := by omega
 rw [← hRR] at hr
 rw [← hSb] at s0
 rw [← hVb] at v0 v1 v2
 rw [← hK] at k0' k1'
 rw [← hD] at x4
 simp only [← hRR]
 simp only [← hSb]
 simp only [← hVb]
 simp only [← hK]
 simp only [← hD]
 clear hD hK hVb hSb hRR hVs
 go_cut [9] (fun s9 wx => ∃ b, s9 = .pointer (some ⟨b, 0, none⟩) ∧ LocY V wx b L n (HidA n L q FB Fu Fe Fs))
 case first =>
  have kk : Ext V V := Ext.refl V
  have HJM := Lib.hid (fun w' (h : Ext V w') x (hr1 : RW w' x 56 1 (fun _ => .slice (some ⟨Gu, 0, none⟩) L L)) => zbm n L L r x 1 GB q pp a e As1 cs1 FB (fun _ => Gu) (fun _ => As3) (fun _ => cs3) (fun _ => Fu) w' hn0 hn hL0 hL (Nat.le_refl L) (by omega) (HR.out.ext h) (HB.out.ext h) qB ⟨hr1, fun _ _ => HU.out.ext h⟩ (Lib.hid fun _ _ => qu.out) hsq)
  have HJA := Lib.hid (fun w' (h : Ext V w') x G1 A1 c1 F1 (hp1 : PM w' G1 L n A1 c1 F1) (hq1 : Hid (∀ j, j < L → ∀ i, i < n → F1 j i < q j)) (hr1 : RW w' x 56 2 (fun i => if i = 0 then .slice (some ⟨Ge, 0, none⟩) L L else .slice (some ⟨Gs, 0, none⟩) L L)) => zcn n L L r x 2 G1 q pp a e A1 c1 F1 (fun k => if k = 0 then Ge else Gs) (fun k => if k = 0 then As4 else As6) (fun k => if k = 0 then cs4 else cs6) (fun k => if k = 0 then Fe else Fs) w' hn0 hn hL0 hL (Nat.le_refl L) (by omega) (HR.out.ext h) hp1 hq1 ⟨hr1.congr fun i hi => by first | rfl | (by_cases h0 : i = 0; (· simp only [if_pos h0]); (· simp only [if_neg h0])), fun k hk => (by rcases (show k = 0 ∨ k = 1 by omega) with rfl | rfl; (· exact HE.out.ext h); (· exact HS.out.ext h))⟩ (Lib.hid fun k hk => (by rcases (show k = 0 ∨ k = 1 by omega) with rfl | rfl; (· exact qe.out); (· exact qs.out))))
  have HLT := Lib.hid (fun F1 (h : JoinR L (RMul n q) FB (fun _ => Fu) 1 F1) => h.lt (n := n) (q := q) (fun j f f' F hj h i hi => (h i hi).1) qB.out)
  have HMK := Lib.hid (fun F1 F2 (h1 : JoinR L (RMul n q) FB (fun _ => Fu) 1 F1) (h2 : JoinR L (RAdd n q) F1 (fun k => if k = 0 then Fe else Fs) 2 F2) => (show HidA n L q FB Fu Fe Fs F2 from ⟨F1, h1, h2⟩))
  refine wp_region_held_drew (S := (fun w' => Ext V w')) (by kernel_rfl) ?_ (fun hHeld => ?_)
  ·(try dsimp only); (with_reducible repeat first | exact kk | apply xa | apply xd)
  refine wpAnyH_take (i := 0) (oi := _) (v := ?_) rfl (by kernel_rfl) (by kernel_rfl) (by kernel_rfl) (fun _ _ _ h => h) (Or.inl ⟨by rfl, ?_⟩) (by assumption) ?_
  rotate_left
  ·(intro wS hSw; (try dsimp only at hSw); have t0 := cE hSw x4; have t1 := cE hSw k0'; have t2 := cE hSw v0; have t3 := cE hSw v1; have t4 := cE hSw s0; (try go_simp); (try with_reducible rfl))
  try simp only [Act.put, s1, s2, s3]
  refine wpAnyH_take (i := 1) (oi := _) (v := ?_) rfl (by kernel_rfl) (by kernel_rfl) (by kernel_rfl) (fun _ _ _ h => h) (Or.inl ⟨by rfl, ?_⟩) (by assumption) ?_
  rotate_left
  ·(intro wS hSw; (try dsimp only at hSw); have t0 := cE hSw x4; have t1 := cE hSw k0'; have t2 := cE hSw v0; have t3 := cE hSw v1; have t4 := cE hSw s0; (try go_simp); (try with_reducible rfl))
  try simp only [Act.put, s1, s2, s3]
  refine wpAnyH_take (i := 2) (oi := _) (v := ?_) rfl (by kernel_rfl) (by kernel_rfl) (by kernel_rfl) (fun _ _ _ h => h) (Or.inl ⟨by rfl, ?_⟩) (by assumption) ?_
  rotate_left
  ·(intro wS hSw; (try dsimp only at hSw); have t0 := cE hSw x4; have t1 := cE hSw k0'; have t2 := cE hSw v0; have t3 := cE hSw v1; have t4 := cE hSw s0; (try go_simp); (try with_reducible rfl))
  try simp only [Act.put, s1, s2, s3]
  refine wpAnyH_take (i := 3) (oi := _) (v := ?_) rfl (by kernel_rfl) (by kernel_rfl) (by kernel_rfl) (fun _ _ _ h => h) (Or.inl ⟨by rfl, ?_⟩) (by assumption) ?_
  rotate_left
  ·(intro wS hSw; (try dsimp only at hSw); have t0 := cE hSw x4; have t1 := cE hSw k0'; have t2 := cE hSw v0; have t3 := cE hSw v1; have t4 := cE hSw s0; (try go_simp); (try with_reducible rfl))
  try simp only [Act.put, s1, s2, s3]
  refine wpAnyH_take (i := 4) (oi := _) (v := ?_) rfl (by kernel_rfl) (by kernel_rfl) (by kernel_rfl) (fun _ _ _ h => h) (Or.inl ⟨by rfl, ?_⟩) (by assumption) ?_
  rotate_left
  ·(intro wS hSw; (try dsimp only at hSw); have t0 := cE hSw x4; have t1 := cE hSw k0'; have t2 := cE hSw v0; have t3 := cE hSw v1; have t4 := cE hSw s0; (try go_simp); (try with_reducible rfl))
  try simp only [Act.put, s1, s2, s3]
  refine wpAnyH_take (i := 5) (oi := _) (v := ?_) rfl (by kernel_rfl) (by kernel_rfl) (by kernel_rfl) (fun _ _ _ h => h) (Or.inl ⟨by rfl, ?_⟩) (by assumption) ?_
  rotate_left
  ·(intro wS hSw; (try dsimp only at hSw); have t0 := cE hSw x4; have t1 := cE hSw k0'; have t2 := cE hSw v0; have t3 := cE hSw v1; have t4 := cE hSw s0; (try go_simp); (try with_reducible rfl))
  try simp only [Act.put, s1, s2, s3]
  refine wpAnyH_take (i := 6) (oi := _) (v := ?_) rfl (by kernel_rfl) (by kernel_rfl) (by kernel_rfl) (fun _ _ _ h => h) (Or.inl ⟨by rfl, ?_⟩) (by assumption) ?_
  rotate_left
  ·(intro wS hSw; (try dsimp only at hSw); have t0 := cE hSw x4; have t1 := cE hSw k0'; have t2 := cE hSw v0; have t3 := cE hSw v1; have t4 := cE hSw s0; (try go_simp); (try with_reducible rfl))
  try simp only [Act.put, s1, s2, s3]
  refine wpAnyH_take (i := 7) (oi := _) (v := ?_) rfl (by kernel_rfl) (by kernel_rfl) (by kernel_rfl) (fun _ _ _ h => h) (Or.inl ⟨by rfl, ?_⟩) (by assumption) ?_
  rotate_left
  ·(intro wS hSw; (try dsimp only at hSw); have t0 := cE hSw x4; have t1 := cE hSw k0'; have t2 := cE hSw v0; have t3 := cE hSw v1; have t4 := cE hSw s0; (try go_simp); (try with_reducible rfl))
  try simp only [Act.put, s1, s2, s3]
  refine wpAnyH_take (i := 8) (oi := _) (v := ?_) rfl (by kernel_rfl) (by kernel_rfl) (by kernel_rfl) (fun _ _ _ h => h) (Or.inl ⟨by rfl, ?_⟩) (by assumption) ?_
  rotate_left
  ·(intro wS hSw; (try dsimp only at hSw); have t0 := cE hSw x4; have t1 := cE hSw k0'; have t2 := cE hSw v0; have t3 := cE hSw v1; have t4 := cE hSw s0; (try go_simp); (try with_reducible rfl))
  try simp only [Act.put, s1, s2, s3]
  refine wpAnyH_take (i := 9) (oi := _) (v := ?_) rfl (by kernel_rfl) (by kernel_rfl) (by kernel_rfl) (fun _ _ _ h => h) (Or.inl ⟨by rfl, ?_⟩) (by assumption) ?_
  rotate_left
  ·(intro wS hSw; (try dsimp only at hSw); have t0 := cE hSw x4; have t1 := cE hSw k0'; have t2 := cE hSw v0; have t3 := cE hSw v1; have t4 := cE hSw s0; (try go_simp); (try with_reducible rfl))
  try simp only [Act.put, s1, s2, s3]
  refine wpAnyH_take (i := 12) (oi := _) (v := ?_) rfl (by kernel_rfl) (by kernel_rfl) (by kernel_rfl) (fun _ _ _ h => h) (Or.inl ⟨by rfl, ?_⟩) (by assumption) ?_
  rotate_left
  ·(intro wS hSw; (try dsimp only at hSw); have t0 := cE hSw x4; have t1 := cE hSw k0'; have t2 := cE hSw v0; have t3 := cE hSw v1; have t4 := cE hSw s0; (try go_simp); (try with_reducible rfl))
  try simp only [Act.put, s1, s2, s3]
  refine wpAnyH_take (i := 13) (oi := _) (v := ?_) rfl (by kernel_rfl) (by kernel_rfl) (by kernel_rfl) (fun _ _ _ h => h) (Or.inl ⟨by rfl, ?_⟩) (by assumption) ?_
  rotate_left
  ·(intro wS hSw; (try dsimp only at hSw); have t0 := cE hSw x4; have t1 := cE hSw k0'; have t2 := cE hSw v0; have t3 := cE hSw v1; have t4 := cE hSw s0; (try go_simp); (try with_reducible rfl))
  try simp only [Act.put, s1, s2, s3]
  refine wpAnyH_take (i := 14) (oi := _) (v := ?_) rfl (by kernel_rfl) (by kernel_rfl) (by kernel_rfl) (fun _ _ _ h => h) (Or.inl ⟨by rfl, ?_⟩) (by assumption) ?_
  rotate_left
  ·(intro wS hSw; (try dsimp only at hSw); have t0 := cE hSw x4; have t1 := cE hSw k0'; have t2 := cE hSw v0; have t3 := cE hSw v1; have t4 := cE hSw s0; (try go_simp); (try with_reducible rfl))
  try simp only [Act.put, s1, s2, s3]
  refine wpAnyH_ready (rs := [10, 15, 17]) (by kernel_rfl) (by simp) ?_
  refine AllReadyH.cons rfl (fun KQ hKQ => ?_) ?_
  ·go_simp
   refine hKQ.out _ _ ?_ (fun hHeld => ?_)
   ·(try dsimp only); (with_reducible repeat first | exact kk | apply xa | apply xd)
   clear hKQ KQ
   try simp only [Act.put, s1, s2, s3]
   refine wpAnyH_ready (rs := [11, 15, 17]) (by kernel_rfl) (by simp) ?_
   refine AllReadyH.cons rfl (fun KQ hKQ => ?_) ?_
   ·go_simp
    (with_reducible refine (HJM.out _ ?_ _ ?_).mono ?_); (with_reducible repeat first | exact kk | apply xa | apply xd); (with_reducible exact one_ex (by with_reducible repeat first | exact Ext.refl _ | apply xa | apply xd) (by simp)); rintro e5 w5 ⟨G5, A5, c5, F5, rfl, hp5, hF5, k5⟩; have hold := kk.size; (first | (have hE := RW.ext (RW.ext (zay _ (.slice (some ⟨Ge, 0, none⟩) L L) (.slice (some ⟨Gs, 0, none⟩) L L)) (by with_reducible repeat first | exact Ext.refl _ | apply xa | apply xd)) k5; (try simp only [World.size_alloc] at hE)) | skip); (first | (have h9 := RW.ext (RW.ext (zab _ (.slice none 0 0)) (by with_reducible repeat first | exact Ext.refl _ | apply xa | apply xd)) k5; (try simp only [World.size_alloc] at h9)) | skip); replace kk : Ext V w5 := (Ext.trans (by with_reducible repeat first | exact kk | apply xa | apply xd) k5); have hsz := kk.size; dsimp only
    refine hKQ.out _ _ ?_ (fun hHeld => ?_)
    ·(try dsimp only); (with_reducible repeat first | exact kk | apply xa | apply xd)
    clear hKQ KQ
    try simp only [Act.put, s1, s2, s3]
    refine wpAnyH_ready (rs := [15, 17]) (by kernel_rfl) (by simp) ?_
    refine AllReadyH.cons rfl (fun KQ hKQ => ?_) ?_
    ·go_simp
     refine hKQ.out _ _ ?_ (fun hHeld => ?_)
     ·(try dsimp only); (with_reducible repeat first | exact kk | apply xa | apply xd)
     clear hKQ KQ
     try simp only [Act.put, s1, s2, s3]
     refine wpAnyH_ready (rs := [16, 17]) (by kernel_rfl) (by simp) ?_
     refine AllReadyH.cons rfl (fun KQ hKQ => ?_) ?_
     ·go_simp
      (with_reducible refine (HJA.out _ ?_ _ G5 A5 c5 F5 ?_ (Lib.hid (HLT.out _ hF5.out)) ?_).mono ?_); (with_reducible repeat first | exact kk | apply xa | apply xd); (exact (PM.ext hp5 (by with_reducible repeat first | exact Ext.refl _ | apply xa | apply xd))); (first | (with_reducible exact RW.ext hE (by with_reducible repeat first | exact Ext.refl _ | apply xa | apply xd)) | (with_reducible exact two_ex (by with_reducible repeat first | exact Ext.refl _ | apply xa | apply xd) (by simp))); rintro e6 w6 ⟨G6, A6, c6, F6, rfl, hp6, hF6, k6⟩; have hold := kk.size; (first | (have h9n := RW.ext (RW.ext h9 (by with_reducible repeat first | exact Ext.refl _ | apply xa | apply xd)) k6; have h9c := h9n.cell (i := 0) (by omega); have h9z := h9n.frozen 0; have h9s := h9n.lt) | (have h9n := RW.ext (RW.ext (zab _ (.slice none 0 0)) (by with_reducible repeat first | exact Ext.refl _ | apply xa | apply xd)) k6; (try simp only [World.size_alloc] at h9n); have h9c := h9n.cell (i := 0) (by omega); have h9z := h9n.frozen 0; have h9s := h9n.lt) | skip); replace kk : Ext V w6 := (Ext.trans (by with_reducible repeat first | exact kk | apply xa | apply xd) k6); have hsz := kk.size; dsimp only
      refine hKQ.out _ _ ?_ (fun hHeld => ?_)
      ·(try dsimp only); (with_reducible repeat first | exact kk | apply xa | apply xd)
      clear hKQ KQ
      try simp only [Act.put, s1, s2, s3]
      refine wpAnyH_ready (rs := [17]) (by kernel_rfl) (by simp) ?_
      refine AllReadyH.cons rfl (fun KQ hKQ => ?_) AllReadyH.nil
      go_simp
      refine hKQ.out _ _ ?_ (fun hHeld => ?_)
      ·(try dsimp only); (with_reducible repeat first | exact kk | apply xa | apply xd)
      clear hKQ KQ
      try simp only [Act.put, s1, s2, s3]
      refine wpAnyH_ready (rs := [18]) (by kernel_rfl) (by simp) ?_
      refine AllReadyH.cons rfl (fun KQ hKQ => ?_) AllReadyH.nil
      go_simp
      refine hKQ.out _ _ ?_ (fun hHeld => ?_)
      ·(try dsimp only); (first | ((with_reducible repeat first | exact kk | apply xa | apply xd); done) | (exact Ext.set (p := ⟨_, 0, none⟩) (by with_reducible repeat first | exact kk | apply xa | apply xd) (by show _ ≤ _; (try simp only [World.size_alloc]); omega) _))
      clear hKQ KQ
      try simp only [Act.put, s1, s2, s3]
      refine wpAnyH_done (by kernel_rfl) ?_ _
      (go_wp2_with fail; go_meet; (first | exact ⟨_, rfl, zah kk hp6 (HMK.out _ _ hF5.out hF6.out)⟩ | exact ⟨_, rfl, zag kk h9n (by omega) hp6 (HMK.out _ _ hF5.out hF6.out)⟩))
     refine AllReadyH.cons rfl (fun KQ hKQ => ?_) AllReadyH.nil
     go_simp
     refine hKQ.out _ _ ?_ (fun hHeld => ?_)
     ·(try dsimp only); (with_reducible repeat first | exact kk | apply xa | apply xd)
     clear hKQ KQ
     try simp only [Act.put, s1, s2, s3]
     refine wpAnyH_ready (rs := [16]) (by kernel_rfl) (by simp) ?_
     refine AllReadyH.cons rfl (fun KQ hKQ => ?_) AllReadyH.nil
     go_simp
     (with_reducible refine (HJA.out _ ?_ _ G5 A5 c5 F5 ?_ (Lib.hid (HLT.out _ hF5.out)) ?_).mono ?_); (with_reducible repeat first | exact kk | apply xa | apply xd); (exact (PM.ext hp5 (by with_reducible repeat first | exact Ext.refl _ | apply xa | apply xd))); (first | (with_reducible exact RW.ext hE (by with_reducible repeat first | exact Ext.refl _ | apply xa | apply xd)) | (with_reducible exact two_ex (by with_reducible repeat first | exact Ext.refl _ | apply xa | apply xd) (by simp))); rintro e6 w6 ⟨G6, A6, c6, F6, rfl, hp6, hF6, k6⟩; have hold := kk.size; (first | (have h9n := RW.ext (RW.ext h9 (by with_reducible repeat first | exact Ext.refl _ | apply xa | apply xd)) k6; have h9c := h9n.cell (i := 0) (by omega); have h9z := h9n.frozen 0; have h9s := h9n.lt) | (have h9n := RW.ext (RW.ext (zab _ (.slice none 0 0)) (by with_reducible repeat first | exact Ext.refl _ | apply xa | apply xd)) k6; (try simp only [World.size_alloc] at h9n); have h9c := h9n.cell (i := 0) (by omega); have h9z := h9n.frozen 0; have h9s := h9n.lt) | skip); replace kk : Ext V w6 := (Ext.trans (by with_reducible repeat first | exact kk | apply xa | apply xd) k6); have hsz := kk.size; dsimp only
     refine hKQ.out _ _ ?_ (fun hHeld => ?_)
     ·(try dsimp only); (with_reducible repeat first | exact kk | apply xa | apply xd)
     clear hKQ KQ
     try simp only [Act.put, s1, s2, s3]
     refine wpAnyH_ready (rs := [18]) (by kernel_rfl) (by simp) ?_
     refine AllReadyH.cons rfl (fun KQ hKQ => ?_) AllReadyH.nil
     go_simp
     refine hKQ.out _ _ ?_ (fun hHeld => ?_)
     ·(try dsimp only); (first | ((with_reducible repeat first | exact kk | apply xa | apply xd); done) | (exact Ext.set (p := ⟨_, 0, none⟩) (by with_reducible repeat first | exact kk | apply xa | apply xd) (by show _ ≤ _; (try simp only [World.size_alloc]); omega) _))
     clear hKQ KQ
     try simp only [Act.put, s1, s2, s3]
     refine wpAnyH_done (by kernel_rfl) ?_ _
     (go_wp2_with fail; go_meet; (first | exact ⟨_, rfl, zah kk hp6 (HMK.out _ _ hF5.out hF6.out)⟩ | exact ⟨_, rfl, zag kk h9n (by omega) hp6 (HMK.out _ _ hF5.out hF6.out)⟩))
    refine AllReadyH.cons rfl (fun KQ hKQ => ?_) AllReadyH.nil
    go_simp
    refine hKQ.out _ _ ?_ (fun hHeld => ?_)
    ·(try dsimp only); (with_reducible repeat first | exact kk | apply xa | apply xd)
    clear hKQ KQ
    try simp only [Act.put, s1, s2, s3]
    refine wpAnyH_ready (rs := [15]) (by kernel_rfl) (by simp) ?_
    refine AllReadyH.cons rfl (fun KQ hKQ => ?_) AllReadyH.nil
    go_simp
    refine hKQ.out _ _ ?_ (fun hHeld => ?_)
    ·(try dsimp only); (with_reducible repeat first | exact kk | apply xa | apply xd)
    clear hKQ KQ
    try simp only [Act.put, s1, s2, s3]
    refine wpAnyH_ready (rs := [16]) (by kernel_rfl) (by simp) ?_
    refine AllReadyH.cons rfl (fun KQ hKQ => ?_) AllReadyH.nil
    go_simp
    (with_reducible refine (HJA.out _ ?_ _ G5 A5 c5 F5 ?_ (Lib.hid (HLT.out _ hF5.out)) ?_).mono ?_); (with_reducible repeat first | exact kk | apply xa | apply xd); (exact (PM.ext hp5 (by with_reducible repeat first | exact Ext.refl _ | apply xa | apply xd))); (first | (with_reducible exact RW.ext hE (by with_reducible repeat first | exact Ext.refl _ | apply xa | apply xd)) | (with_reducible exact two_ex (by with_reducible repeat first | exact Ext.refl _ | apply xa | apply xd) (by simp))); rintro e6 w6 ⟨G6, A6, c6, F6, rfl, hp6, hF6, k6⟩; have hold := kk.size; (first | (have h9n := RW.ext (RW.ext h9 (by with_reducible repeat first | exact Ext.refl _ | apply xa | apply xd)) k6; have h9c := h9n.cell (i := 0) (by omega); have h9z := h9n.frozen 0; have h9s := h9n.lt) | (have h9n := RW.ext (RW.ext (zab _ (.slice none 0 0)) (by with_reducible repeat first | exact Ext.refl _ | apply xa | apply xd)) k6; (try simp only [World.size_alloc] at h9n); have h9c := h9n.cell (i := 0) (by omega); have h9z := h9n.frozen 0; have h9s := h9n.lt) | skip); replace kk : Ext V w6 := (Ext.trans (by with_reducible repeat first | exact kk | apply xa | apply xd) k6); have hsz := kk.size; dsimp only
    refine hKQ.out _ _ ?_ (fun hHeld => ?_)
    ·(try dsimp only); (with_reducible repeat first | exact kk | apply xa | apply xd)
    clear hKQ KQ
    try simp only [Act.put, s1, s2, s3]
    refine wpAnyH_ready (rs := [18]) (by kernel_rfl) (by simp) ?_
    refine AllReadyH.cons rfl (fun KQ hKQ => ?_) AllReadyH.nil
    go_simp
    refine hKQ.out _ _ ?_ (fun hHeld => ?_)
    ·(try dsimp only); (first | ((with_reducible repeat first | exact kk | apply xa | apply xd); done) | (exact Ext.set (p := ⟨_, 0, none⟩) (by with_reducible repeat first | exact kk | apply xa | apply xd) (by show _ ≤ _; (try simp only [World.size_alloc]); omega) _))
    clear hKQ KQ
    try simp only [Act.put, s1, s2, s3]
    refine wpAnyH_done (by kernel_rfl) ?_ _
    (go_wp2_with fail; go_meet; (first | exact ⟨_, rfl, zah kk hp6 (HMK.out _ _ hF5.out hF6.out)⟩ | exact ⟨_, rfl, zag kk h9n (by omega) hp6 (HMK.out _ _ hF5.out hF6.out)⟩))
   refine AllReadyH.cons rfl (fun KQ hKQ => ?_) ?_
   ·go_simp
    refine hKQ.out _ _ ?_ (fun hHeld => ?_)
    ·(try dsimp only); (with_reducible repeat first | exact kk | apply xa | apply xd)
    clear hKQ KQ
    try simp only [Act.put, s1, s2, s3]
    refine wpAnyH_ready (rs := [11, 17]) (by kernel_rfl) (by simp) ?_
    refine AllReadyH.cons rfl (fun KQ hKQ => ?_) ?_
    ·go_simp
     (with_reducible refine (HJM.out _ ?_ _ ?_).mono ?_); (with_reducible repeat first | exact kk | apply xa | apply xd); (with_reducible exact one_ex (by with_reducible repeat first | exact Ext.refl _ | apply xa | apply xd) (by simp)); rintro e5 w5 ⟨G5, A5, c5, F5, rfl, hp5, hF5, k5⟩; have hold := kk.size; (first | (have hE := RW.ext (RW.ext (zay _ (.slice (some ⟨Ge, 0, none⟩) L L) (.slice (some ⟨Gs, 0, none⟩) L L)) (by with_reducible repeat first | exact Ext.refl _ | apply xa | apply xd)) k5; (try simp only [World.size_alloc] at hE)) | skip); (first | (have h9 := RW.ext (RW.ext (zab _ (.slice none 0 0)) (by with_reducible repeat first | exact Ext.refl _ | apply xa | apply xd)) k5; (try simp only [World.size_alloc] at h9)) | skip); replace kk : Ext V w5 := (Ext.trans (by with_reducible repeat first | exact kk | apply xa | apply xd) k5); have hsz := kk.size; dsimp only
     refine hKQ.out _ _ ?_ (fun hHeld => ?_)
     ·(try dsimp only); (with_reducible repeat first | exact kk | apply xa | apply xd)
     clear hKQ KQ
     try simp only [Act.put, s1, s2, s3]
     refine wpAnyH_ready (rs := [16, 17]) (by kernel_rfl) (by simp) ?_
     refine AllReadyH.cons rfl (fun KQ hKQ => ?_) ?_
     ·go_simp
      (with_reducible refine (HJA.out _ ?_ _ G5 A5 c5 F5 ?_ (Lib.hid (HLT.out _ hF5.out)) ?_).mono ?_); (with_reducible repeat first | exact kk | apply xa | apply xd); (exact (PM.ext hp5 (by with_reducible repeat first | exact Ext.refl _ | apply xa | apply xd))); (first | (with_reducible exact RW.ext hE (by with_reducible repeat first | exact Ext.refl _ | apply xa | apply xd)) | (with_reducible exact two_ex (by with_reducible repeat first | exact Ext.refl _ | apply xa | apply xd) (by simp))); rintro e6 w6 ⟨G6, A6, c6, F6, rfl, hp6, hF6, k6⟩; have hold := kk.size; (first | (have h9n := RW.ext (RW.ext h9 (by with_reducible repeat first | exact Ext.refl _ | apply xa | apply xd)) k6; have h9c := h9n.cell (i := 0) (by omega); have h9z := h9n.frozen 0; have h9s := h9n.lt) | (have h9n := RW.ext (RW.ext (zab _ (.slice none 0 0)) (by with_reducible repeat first | exact Ext.refl _ | apply xa | apply xd)) k6; (try simp only [World.size_alloc] at h9n); have h9c := h9n.cell (i := 0) (by omega); have h9z := h9n.frozen 0; have h9s := h9n.lt) | skip); replace kk : Ext V w6 := (Ext.trans (by with_reducible repeat first | exact kk | apply xa | apply xd) k6); have hsz := kk.size; dsimp only
      refine hKQ.out _ _ ?_ (fun hHeld => ?_)
      ·(try dsimp only); (with_reducible repeat first | exact kk | apply xa | apply xd)
      clear hKQ KQ
      try simp only [Act.put, s1, s2, s3]
      refine wpAnyH_ready (rs := [17]) (by kernel_rfl) (by simp) ?_
      refine AllReadyH.cons rfl (fun KQ hKQ => ?_) AllReadyH.nil
      go_simp
      refine hKQ.out _ _ ?_ (fun hHeld => ?_)
      ·(try dsimp only); (with_reducible repeat first | exact kk | apply xa | apply xd)
      clear hKQ KQ
      try simp only [Act.put, s1, s2, s3]
      refine wpAnyH_ready (rs := [18]) (by kernel_rfl) (by simp) ?_
      refine AllReadyH.cons rfl (fun KQ hKQ => ?_) AllReadyH.nil
      go_simp
      refine hKQ.out _ _ ?_ (fun hHeld => ?_)
      ·(try dsimp only); (first | ((with_reducible repeat first | exact kk | apply xa | apply xd); done) | (exact Ext.set (p := ⟨_, 0, none⟩) (by with_reducible repeat first | exact kk | apply xa | apply xd) (by show _ ≤ _; (try simp only [World.size_alloc]); omega) _))
      clear hKQ KQ
      try simp only [Act.put, s1, s2, s3]
      refine wpAnyH_done (by kernel_rfl) ?_ _
      (go_wp2_with fail; go_meet; (first | exact ⟨_, rfl, zah kk hp6 (HMK.out _ _ hF5.out hF6.out)⟩ | exact ⟨_, rfl, zag kk h9n (by omega) hp6 (HMK.out _ _ hF5.out hF6.out)⟩))
     refine AllReadyH.cons rfl (fun KQ hKQ => ?_) AllReadyH.nil
     go_simp
     refine hKQ.out _ _ ?_ (fun hHeld => ?_)
     ·(try dsimp only); (with_reducible repeat first | exact kk | apply xa | apply xd)
     clear hKQ KQ
     try simp only [Act.put, s1, s2, s3]
     refine wpAnyH_ready (rs := [16]) (by kernel_rfl) (by simp) ?_
     refine AllReadyH.cons rfl (fun KQ hKQ => ?_) AllReadyH.nil
     go_simp
     (with_reducible refine (HJA.out _ ?_ _ G5 A5 c5 F5 ?_ (Lib.hid (HLT.out _ hF5.out)) ?_).mono ?_); (with_reducible repeat first | exact kk | apply xa | apply xd); (exact (PM.ext hp5 (by with_reducible repeat first | exact Ext.refl _ | apply xa | apply xd))); (first | (with_reducible exact RW.ext hE (by with_reducible repeat first | exact Ext.refl _ | apply xa | apply xd)) | (with_reducible exact two_ex (by with_reducible repeat first | exact Ext.refl _ | apply xa | apply xd) (by simp))); rintro e6 w6 ⟨G6, A6, c6, F6, rfl, hp6, hF6, k6⟩; have hold := kk.size; (first | (have h9n := RW.ext (RW.ext h9 (by with_reducible repeat first | exact Ext.refl _ | apply xa | apply xd)) k6; have h9c := h9n.cell (i := 0) (by omega); have h9z := h9n.frozen 0; have h9s := h9n.lt) | (have h9n := RW.ext (RW.ext (zab _ (.slice none 0 0)) (by with_reducible repeat first | exact Ext.refl _ | apply xa | apply xd)) k6; (try simp only [World.size_alloc] at h9n); have h9c := h9n.cell (i := 0) (by omega); have h9z := h9n.frozen 0; have h9s := h9n.lt) | skip); replace kk : Ext V w6 := (Ext.trans (by with_reducible repeat first | exact kk | apply xa | apply xd) k6); have hsz := kk.size; dsimp only
     refine hKQ.out _ _ ?_ (fun hHeld => ?_)
     ·(try dsimp only); (with_reducible repeat first | exact kk | apply xa | apply xd)
     clear hKQ KQ
     try simp only [Act.put, s1, s2, s3]
     refine wpAnyH_ready (rs := [18]) (by kernel_rfl) (by simp) ?_
     refine AllReadyH.cons rfl (fun KQ hKQ => ?_) AllReadyH.nil
     go_simp
     refine hKQ.out _ _ ?_ (fun hHeld => ?_)
     ·(try dsimp only); (first | ((with_reducible repeat first | exact kk | apply xa | apply xd); done) | (exact Ext.set (p := ⟨_, 0, none⟩) (by with_reducible repeat first | exact kk | apply xa | apply xd) (by show _ ≤ _; (try simp only [World.size_alloc]); omega) _))
     clear hKQ KQ
     try simp only [Act.put, s1, s2, s3]
     refine wpAnyH_done (by kernel_rfl) ?_ _
     (go_wp2_with fail; go_meet; (first | exact ⟨_, rfl, zah kk hp6 (HMK.out _ _ hF5.out hF6.out)⟩ | exact ⟨_, rfl, zag kk h9n (by omega) hp6 (HMK.out _ _ hF5.out hF6.out)⟩))
    refine AllReadyH.cons rfl (fun KQ hKQ => ?_) AllReadyH.nil
    go_simp
    refine hKQ.out _ _ ?_ (fun hHeld => ?_)
    ·(try dsimp only); (with_reducible repeat first | exact kk | apply xa | apply xd)
    clear hKQ KQ
    try simp only [Act.put, s1, s2, s3]
    refine wpAnyH_ready (rs := [11]) (by kernel_rfl) (by simp) ?_
    refine AllReadyH.cons rfl (fun KQ hKQ => ?_) AllReadyH.nil
    go_simp
    (with_reducible refine (HJM.out _ ?_ _ ?_).mono ?_); (with_reducible repeat first | exact kk | apply xa | apply xd); (with_reducible exact one_ex (by with_reducible repeat first | exact Ext.refl _ | apply xa | apply xd) (by simp)); rintro e5 w5 ⟨G5, A5, c5, F5, rfl, hp5, hF5, k5⟩; have hold := kk.size; (first | (have hE := RW.ext (RW.ext (zay _ (.slice (some ⟨Ge, 0, none⟩) L L) (.slice (some ⟨Gs, 0, none⟩) L L)) (by with_reducible repeat first | exact Ext.refl _ | apply xa | apply xd)) k5; (try simp only [World.size_alloc] at hE)) | skip); (first | (have h9 := RW.ext (RW.ext (zab _ (.slice none 0 0)) (by with_reducible repeat first | exact Ext.refl _ | apply xa | apply xd)) k5; (try simp only [World.size_alloc] at h9)) | skip); replace kk : Ext V w5 := (Ext.trans (by with_reducible repeat first | exact kk | apply xa | apply xd) k5); have hsz := kk.size; dsimp only
    refine hKQ.out _ _ ?_ (fun hHeld => ?_)
    ·(try dsimp only); (with_reducible repeat first | exact kk | apply xa | apply xd)
    clear hKQ KQ
    try simp only [Act.put, s1, s2, s3]
    refine wpAnyH_ready (rs := [16]) (by kernel_rfl) (by simp) ?_
    refine AllReadyH.cons rfl (fun KQ hKQ => ?_) AllReadyH.nil
    go_simp
    (with_reducible refine (HJA.out _ ?_ _ G5 A5 c5 F5 ?_ (Lib.hid (HLT.out _ hF5.out)) ?_).mono ?_); (with_reducible repeat first | exact kk | apply xa | apply xd); (exact (PM.ext hp5 (by with_reducible repeat first | exact Ext.refl _ | apply xa | apply xd))); (first | (with_reducible exact RW.ext hE (by with_reducible repeat first | exact Ext.refl _ | apply xa | apply xd)) | (with_reducible exact two_ex (by with_reducible repeat first | exact Ext.refl _ | apply xa | apply xd) (by simp))); rintro e6 w6 ⟨G6, A6, c6, F6, rfl, hp6, hF6, k6⟩; have hold := kk.size; (first | (have h9n := RW.ext (RW.ext h9 (by with_reducible repeat first | exact Ext.refl _ | apply xa | apply xd)) k6; have h9c := h9n.cell (i := 0) (by omega); have h9z := h9n.frozen 0; have h9s := h9n.lt) | (have h9n := RW.ext (RW.ext (zab _ (.slice none 0 0)) (by with_reducible repeat first | exact Ext.refl _ | apply xa | apply xd)) k6; (try simp only [World.size_alloc] at h9n); have h9c := h9n.cell (i := 0) (by omega); have h9z := h9n.frozen 0; have h9s := h9n.lt) | skip); replace kk : Ext V w6 := (Ext.trans (by with_reducible repeat first | exact kk | apply xa | apply xd) k6); have hsz := kk.size; dsimp only
    refine hKQ.out _ _ ?_ (fun hHeld => ?_)
    ·(try dsimp only); (with_reducible repeat first | exact kk | apply xa | apply xd)
    clear hKQ KQ
    try simp only [Act.put, s1, s2, s3]
    refine wpAnyH_ready (rs := [18]) (by kernel_rfl) (by simp) ?_
    refine AllReadyH.cons rfl (fun KQ hKQ => ?_) AllReadyH.nil
    go_simp
    refine hKQ.out _ _ ?_ (fun hHeld => ?_)
    ·(try dsimp only); (first | ((with_reducible repeat first | exact kk | apply xa | apply xd); done) | (exact Ext.set (p := ⟨_, 0, none⟩) (by with_reducible repeat first | exact kk | apply xa | apply xd) (by show _ ≤ _; (try simp only [World.size_alloc]); omega) _))
    clear hKQ KQ
    try simp only [Act.put, s1, s2, s3]
    refine wpAnyH_done (by kernel_rfl) ?_ _
    (go_wp2_with fail; go_meet; (first | exact ⟨_, rfl, zah kk hp6 (HMK.out _ _ hF5.out hF6.out)⟩ | exact ⟨_, rfl, zag kk h9n (by omega) hp6 (HMK.out _ _ hF5.out hF6.out)⟩))
   refine AllReadyH.cons rfl (fun KQ hKQ => ?_) AllReadyH.nil
   go_simp
   refine hKQ.out _ _ ?_ (fun hHeld => ?_)
   ·(try dsimp only); (with_reducible repeat first | exact kk | apply xa | apply xd)
   clear hKQ KQ
   try simp only [Act.put, s1, s2, s3]
   refine wpAnyH_ready (rs := [11, 15]) (by kernel_rfl) (by simp) ?_
   refine AllReadyH.cons rfl (fun KQ hKQ => ?_) ?_
   ·go_simp
    (with_reducible refine (HJM.out _ ?_ _ ?_).mono ?_); (with_reducible repeat first | exact kk | apply xa | apply xd); (with_reducible exact one_ex (by with_reducible repeat first | exact Ext.refl _ | apply xa | apply xd) (by simp)); rintro e5 w5 ⟨G5, A5, c5, F5, rfl, hp5, hF5, k5⟩; have hold := kk.size; (first | (have hE := RW.ext (RW.ext (zay _ (.slice (some ⟨Ge, 0, none⟩) L L) (.slice (some ⟨Gs, 0, none⟩) L L)) (by with_reducible repeat first | exact Ext.refl _ | apply xa | apply xd)) k5; (try simp only [World.size_alloc] at hE)) | skip); (first | (have h9 := RW.ext (RW.ext (zab _ (.slice none 0 0)) (by with_reducible repeat first | exact Ext.refl _ | apply xa | apply xd)) k5; (try simp only [World.size_alloc] at h9)) | skip); replace kk : Ext V w5 := (Ext.trans (by with_reducible repeat first | exact kk | apply xa | apply xd) k5); have hsz := kk.size; dsimp only
    refine hKQ.out _ _ ?_ (fun hHeld => ?_)
    ·(try dsimp only); (with_reducible repeat first | exact kk | apply xa | apply xd)
    clear hKQ KQ
    try simp only [Act.put, s1, s2, s3]
    refine wpAnyH_ready (rs := [15]) (by kernel_rfl) (by simp) ?_
    refine AllReadyH.cons rfl (fun KQ hKQ => ?_) AllReadyH.nil
    go_simp
    refine hKQ.out _ _ ?_ (fun hHeld => ?_)
    ·(try dsimp only); (with_reducible repeat first | exact kk | apply xa | apply xd)
    clear hKQ KQ
    try simp only [Act.put, s1, s2, s3]
    refine wpAnyH_ready (rs := [16]) (by kernel_rfl) (by simp) ?_
    refine AllReadyH.cons rfl (fun KQ hKQ => ?_) AllReadyH.nil
    go_simp
    (with_reducible refine (HJA.out _ ?_ _ G5 A5 c5 F5 ?_ (Lib.hid (HLT.out _ hF5.out)) ?_).mono ?_); (with_reducible repeat first | exact kk | apply xa | apply xd); (exact (PM.ext hp5 (by with_reducible repeat first | exact Ext.refl _ | apply xa | apply xd))); (first | (with_reducible exact RW.ext hE (by with_reducible repeat first | exact Ext.refl _ | apply xa | apply xd)) | (with_reducible exact two_ex (by with_reducible repeat first | exact Ext.refl _ | apply xa | apply xd) (by simp))); rintro e6 w6 ⟨G6, A6, c6, F6, rfl, hp6, hF6, k6⟩; have hold := kk.size; (first | (have h9n := RW.ext (RW.ext h9 (by with_reducible repeat first | exact Ext.refl _ | apply xa | apply xd)) k6; have h9c := h9n.cell (i := 0) (by omega); have h9z := h9n.frozen 0; have h9s := h9n.lt) | (have h9n := RW.ext (RW.ext (zab _ (.slice none 0 0)) (by with_reducible repeat first | exact Ext.refl _ | apply xa | apply xd)) k6; (try simp only [World.size_alloc] at h9n); have h9c := h9n.cell (i := 0) (by omega); have h9z := h9n.frozen 0; have h9s := h9n.lt) | skip); replace kk : Ext V w6 := (Ext.trans (by with_reducible repeat first | exact kk | apply xa | apply xd) k6); have hsz := kk.size; dsimp only
    refine hKQ.out _ _ ?_ (fun hHeld => ?_)
    ·(try dsimp only); (with_reducible repeat first | exact kk | apply xa | apply xd)
    clear hKQ KQ
    try simp only [Act.put, s1, s2, s3]
    refine wpAnyH_ready (rs := [18]) (by kernel_rfl) (by simp) ?_
    refine AllReadyH.cons rfl (fun KQ hKQ => ?_) AllReadyH.nil
    go_simp
    refine hKQ.out _ _ ?_ (fun hHeld => ?_)
    ·(try dsimp only); (first | ((with_reducible repeat first | exact kk | apply xa | apply xd); done) | (exact Ext.set (p := ⟨_, 0, none⟩) (by with_reducible repeat first | exact kk | apply xa | apply xd) (by show _ ≤ _; (try simp only [World.size_alloc]); omega) _))
    clear hKQ KQ
    try simp only [Act.put, s1, s2, s3]
    refine wpAnyH_done (by kernel_rfl) ?_ _
    (go_wp2_with fail; go_meet; (first | exact ⟨_, rfl, zah kk hp6 (HMK.out _ _ hF5.out hF6.out)⟩ | exact ⟨_, rfl, zag kk h9n (by omega) hp6 (HMK.out _ _ hF5.out hF6.out)⟩))
   refine AllReadyH.cons rfl (fun KQ hKQ => ?_) AllReadyH.nil
   go_simp
   refine hKQ.out _ _ ?_ (fun hHeld => ?_)
   ·(try dsimp only); (with_reducible repeat first | exact kk | apply xa | apply xd)
   clear hKQ KQ
   try simp only [Act.put, s1, s2, s3]
   refine wpAnyH_ready (rs := [11]) (by kernel_rfl) (by simp) ?_
   refine AllReadyH.cons rfl (fun KQ hKQ => ?_) AllReadyH.nil
   go_simp
   (with_reducible refine (HJM.out _ ?_ _ ?_).mono ?_); (with_reducible repeat first | exact kk | apply xa | apply xd); (with_reducible exact one_ex (by with_reducible repeat first | exact Ext.refl _ | apply xa | apply xd) (by simp)); rintro e5 w5 ⟨G5, A5, c5, F5, rfl, hp5, hF5, k5⟩; have hold := kk.size; (first | (have hE := RW.ext (RW.ext (zay _ (.slice (some ⟨Ge, 0, none⟩) L L) (.slice (some ⟨Gs, 0, none⟩) L L)) (by with_reducible repeat first | exact Ext.refl _ | apply xa | apply xd)) k5; (try simp only [World.size_alloc] at hE)) | skip); (first | (have h9 := RW.ext (RW.ext (zab _ (.slice none 0 0)) (by with_reducible repeat first | exact Ext.refl _ | apply xa | apply xd)) k5; (try simp only [World.size_alloc] at h9)) | skip); replace kk : Ext V w5 := (Ext.trans (by with_reducible repeat first | exact kk | apply xa | apply xd) k5); have hsz := kk.size; dsimp only
   refine hKQ.out _ _ ?_ (fun hHeld => ?_)
   ·(try dsimp only); (with_reducible repeat first | exact kk | apply xa | apply xd)
   clear hKQ KQ
   try simp only [Act.put, s1, s2, s3]
   refine wpAnyH_ready (rs := [16]) (by kernel_rfl) (by simp) ?_
   refine AllReadyH.cons rfl (fun KQ hKQ => ?_) AllReadyH.nil
   go_simp
   (with_reducible refine (HJA.out _ ?_ _ G5 A5 c5 F5 ?_ (Lib.hid (HLT.out _ hF5.out)) ?_).mono ?_); (with_reducible repeat first | exact kk | apply xa | apply xd); (exact (PM.ext hp5 (by with_reducible repeat first | exact Ext.refl _ | apply xa | apply xd))); (first | (with_reducible exact RW.ext hE (by with_reducible repeat first | exact Ext.refl _ | apply xa | apply xd)) | (with_reducible exact two_ex (by with_reducible repeat first | exact Ext.refl _ | apply xa | apply xd) (by simp))); rintro e6 w6 ⟨G6, A6, c6, F6, rfl, hp6, hF6, k6⟩; have hold := kk.size; (first | (have h9n := RW.ext (RW.ext h9 (by with_reducible repeat first | exact Ext.refl _ | apply xa | apply xd)) k6; have h9c := h9n.cell (i := 0) (by omega); have h9z := h9n.frozen 0; have h9s := h9n.lt) | (have h9n := RW.ext (RW.ext (zab _ (.slice none 0 0)) (by with_reducible repeat first | exact Ext.refl _ | apply xa | apply xd)) k6; (try simp only [World.size_alloc] at h9n); have h9c := h9n.cell (i := 0) (by omega); have h9z := h9n.frozen 0; have h9s := h9n.lt) | skip); replace kk : Ext V w6 := (Ext.trans (by with_reducible repeat first | exact kk | apply xa | apply xd) k6); have hsz := kk.size; dsimp only
   refine hKQ.out _ _ ?_ (fun hHeld => ?_)
   ·(try dsimp only); (with_reducible repeat first | exact kk | apply xa | apply xd)
   clear hKQ KQ
   try simp only [Act.put, s1, s2, s3]
   refine wpAnyH_ready (rs := [18]) (by kernel_rfl) (by simp) ?_
   refine AllReadyH.cons rfl (fun KQ hKQ => ?_) AllReadyH.nil
   go_simp
   refine hKQ.out _ _ ?_ (fun hHeld => ?_)
   ·(try dsimp only); (first | ((with_reducible repeat first | exact kk | apply xa | apply xd); done) | (exact Ext.set (p := ⟨_, 0, none⟩) (by with_reducible repeat first | exact kk | apply xa | apply xd) (by show _ ≤ _; (try simp only [World.size_alloc]); omega) _))
   clear hKQ KQ
   try simp only [Act.put, s1, s2, s3]
   refine wpAnyH_done (by kernel_rfl) ?_ _
   (go_wp2_with fail; go_meet; (first | exact ⟨_, rfl, zah kk hp6 (HMK.out _ _ hF5.out hF6.out)⟩ | exact ⟨_, rfl, zag kk h9n (by omega) hp6 (HMK.out _ _ hF5.out hF6.out)⟩))
  refine AllReadyH.cons rfl (fun KQ hKQ => ?_) ?_
  ·go_simp
   refine hKQ.out _ _ ?_ (fun hHeld => ?_)
   ·(try dsimp only); (with_reducible repeat first | exact kk | apply xa | apply xd)
   clear hKQ KQ
   try simp only [Act.put, s1, s2, s3]
   refine wpAnyH_ready (rs := [10, 17]) (by kernel_rfl) (by simp) ?_
   refine AllReadyH.cons rfl (fun KQ hKQ => ?_) ?_
   ·go_simp
    refine hKQ.out _ _ ?_ (fun hHeld => ?_)
    ·(try dsimp only); (with_reducible repeat first | exact kk | apply xa | apply xd)
    clear hKQ KQ
    try simp only [Act.put, s1, s2, s3]
    refine wpAnyH_ready (rs := [11, 17]) (by kernel_rfl) (by simp) ?_
    refine AllReadyH.cons rfl (fun KQ hKQ => ?_) ?_
    ·go_simp
     (with_reducible refine (HJM.out _ ?_ _ ?_).mono ?_); (with_reducible repeat first | exact kk | apply xa | apply xd); (with_reducible exact one_ex (by with_reducible repeat first | exact Ext.refl _ | apply xa | apply xd) (by simp)); rintro e5 w5 ⟨G5, A5, c5, F5, rfl, hp5, hF5, k5⟩; have hold := kk.size; (first | (have hE := RW.ext (RW.ext (zay _ (.slice (some ⟨Ge, 0, none⟩) L L) (.slice (some ⟨Gs, 0, none⟩) L L)) (by with_reducible repeat first | exact Ext.refl _ | apply xa | apply xd)) k5; (try simp only [World.size_alloc] at hE)) | skip); (first | (have h9 := RW.ext (RW.ext (zab _ (.slice none 0 0)) (by with_reducible repeat first | exact Ext.refl _ | apply xa | apply xd)) k5; (try simp only [World.size_alloc] at h9)) | skip); replace kk : Ext V w5 := (Ext.trans (by with_reducible repeat first | exact kk | apply xa | apply xd) k5); have hsz := kk.size; dsimp only
     refine hKQ.out _ _ ?_ (fun hHeld => ?_)
     ·(try dsimp only); (with_reducible repeat first | exact kk | apply xa | apply xd)
     clear hKQ KQ
     try simp only [Act.put, s1, s2, s3]
     refine wpAnyH_ready (rs := [16, 17]) (by kernel_rfl) (by simp) ?_
     refine AllReadyH.cons rfl (fun KQ hKQ => ?_) ?_
     ·go_simp
      (with_reducible refine (HJA.out _ ?_ _ G5 A5 c5 F5 ?_ (Lib.hid (HLT.out _ hF5.out)) ?_).mono ?_); (with_reducible repeat first | exact kk | apply xa | apply xd); (exact (PM.ext hp5 (by with_reducible repeat first | exact Ext.refl _ | apply xa | apply xd))); (first | (with_reducible exact RW.ext hE (by with_reducible repeat first | exact Ext.refl _ | apply xa | apply xd)) | (with_reducible exact two_ex (by with_reducible repeat first | exact Ext.refl _ | apply xa | apply xd) (by simp))); rintro e6 w6 ⟨G6, A6, c6, F6, rfl, hp6, hF6, k6⟩; have hold := kk.size; (first | (have h9n := RW.ext (RW.ext h9 (by with_reducible repeat first | exact Ext.refl _ | apply xa | apply xd)) k6; have h9c := h9n.cell (i := 0) (by omega); have h9z := h9n.frozen 0; have h9s := h9n.lt) | (have h9n := RW.ext (RW.ext (zab _ (.slice none 0 0)) (by with_reducible repeat first | exact Ext.refl _ | apply xa | apply xd)) k6; (try simp only [World.size_alloc] at h9n); have h9c := h9n.cell (i := 0) (by omega); have h9z := h9n.frozen 0; have h9s := h9n.lt) | skip); replace kk : Ext V w6 := (Ext.trans (by with_reducible repeat first | exact kk | apply xa | apply xd) k6); have hsz := kk.size; dsimp only
      refine hKQ.out _ _ ?_ (fun hHeld => ?_)
      ·(try dsimp only); (with_reducible repeat first | exact kk | apply xa | apply xd)
      clear hKQ KQ
      try simp only [Act.put, s1, s2, s3]
      refine wpAnyH_ready (rs := [17]) (by kernel_rfl) (by simp) ?_
      refine AllReadyH.cons rfl (fun KQ hKQ => ?_) AllReadyH.nil
      go_simp
      refine hKQ.out _ _ ?_ (fun hHeld => ?_)
      ·(try dsimp only); (with_reducible repeat first | exact kk | apply xa | apply xd)
      clear hKQ KQ
      try simp only [Act.put, s1, s2, s3]
      refine wpAnyH_ready (rs := [18]) (by kernel_rfl) (by simp) ?_
      refine AllReadyH.cons rfl (fun KQ hKQ => ?_) AllReadyH.nil
      go_simp
      refine hKQ.out _ _ ?_ (fun hHeld => ?_)
      ·(try dsimp only); (first | ((with_reducible repeat first | exact kk | apply xa | apply xd); done) | (exact Ext.set (p := ⟨_, 0, none⟩) (by with_reducible repeat first | exact kk | apply xa | apply xd) (by show _ ≤ _; (try simp only [World.size_alloc]); omega) _))
      clear hKQ KQ
      try simp only [Act.put, s1, s2, s3]
      refine wpAnyH_done (by kernel_rfl) ?_ _
      (go_wp2_with fail; go_meet; (first | exact ⟨_, rfl, zah kk hp6 (HMK.out _ _ hF5.out hF6.out)⟩ | exact ⟨_, rfl, zag kk h9n (by omega) hp6 (HMK.out _ _ hF5.out hF6.out)⟩))
     refine AllReadyH.cons rfl (fun KQ hKQ => ?_) AllReadyH.nil
     go_simp
     refine hKQ.out _ _ ?_ (fun hHeld => ?_)
     ·(try dsimp only); (with_reducible repeat first | exact kk | apply xa | apply xd)
     clear hKQ KQ
     try simp only [Act.put, s1, s2, s3]
     refine wpAnyH_ready (rs := [16]) (by kernel_rfl) (by simp) ?_
     refine AllReadyH.cons rfl (fun KQ hKQ => ?_) AllReadyH.nil
     go_simp
     (with_reducible refine (HJA.out _ ?_ _ G5 A5 c5 F5 ?_ (Lib.hid (HLT.out _ hF5.out)) ?_).mono ?_); (with_reducible repeat first | exact kk | apply xa | apply xd); (exact (PM.ext hp5 (by with_reducible repeat first | exact Ext.refl _ | apply xa | apply xd))); (first | (with_reducible exact RW.ext hE (by with_reducible repeat first | exact Ext.refl _ | apply xa | apply xd)) | (with_reducible exact two_ex (by with_reducible repeat first | exact Ext.refl _ | apply xa | apply xd) (by simp))); rintro e6 w6 ⟨G6, A6, c6, F6, rfl, hp6, hF6, k6⟩; have hold := kk.size; (first | (have h9n := RW.ext (RW.ext h9 (by with_reducible repeat first | exact Ext.refl _ | apply xa | apply xd)) k6; have h9c := h9n.cell (i := 0) (by omega); have h9z := h9n.frozen 0; have h9s := h9n.lt) | (have h9n := RW.ext (RW.ext (zab _ (.slice none 0 0)) (by with_reducible repeat first | exact Ext.refl _ | apply xa | apply xd)) k6; (try simp only [World.size_alloc] at h9n); have h9c := h9n.cell (i := 0) (by omega); have h9z := h9n.frozen 0; have h9s := h9n.lt) | skip); replace kk : Ext V w6 := (Ext.trans (by with_reducible repeat first | exact kk | apply xa | apply xd) k6); have hsz := kk.size; dsimp only
     refine hKQ.out _ _ ?_ (fun hHeld => ?_)
     ·(try dsimp only); (with_reducible repeat first | exact kk | apply xa | apply xd)
     clear hKQ KQ
     try simp only [Act.put, s1, s2, s3]
     refine wpAnyH_ready (rs := [18]) (by kernel_rfl) (by simp) ?_
     refine AllReadyH.cons rfl (fun KQ hKQ => ?_) AllReadyH.nil
     go_simp
     refine hKQ.out _ _ ?_ (fun hHeld => ?_)
     ·(try dsimp only); (first | ((with_reducible repeat first | exact kk | apply xa | apply xd); done) | (exact Ext.set (p := ⟨_, 0, none⟩) (by with_reducible repeat first | exact kk | apply xa | apply xd) (by show _ ≤ _; (try simp only [World.size_alloc]); omega) _))
     clear hKQ KQ
     try simp only [Act.put, s1, s2, s3]
     refine wpAnyH_done (by kernel_rfl) ?_ _
     (go_wp2_with fail; go_meet; (first | exact ⟨_, rfl, zah kk hp6 (HMK.out _ _ hF5.out hF6.out)⟩ | exact ⟨_, rfl, zag kk h9n (by omega) hp6 (HMK.out _ _ hF5.out hF6.out)⟩))
    refine AllReadyH.cons rfl (fun KQ hKQ => ?_) AllReadyH.nil
    go_simp
    refine hKQ.out _ _ ?_ (fun hHeld => ?_)
    ·(try dsimp only); (with_reducible repeat first | exact kk | apply xa | apply xd)
    clear hKQ KQ
    try simp only [Act.put, s1, s2, s3]
    refine wpAnyH_ready (rs := [11]) (by kernel_rfl) (by simp) ?_
    refine AllReadyH.cons rfl (fun KQ hKQ => ?_) AllReadyH.nil
    go_simp
    (with_reducible refine (HJM.out _ ?_ _ ?_).mono ?_); (with_reducible repeat first | exact kk | apply xa | apply xd); (with_reducible exact one_ex (by with_reducible repeat first | exact Ext.refl _ | apply xa | apply xd) (by simp)); rintro e5 w5 ⟨G5, A5, c5, F5, rfl, hp5, hF5, k5⟩; have hold := kk.size; (first | (have hE := RW.ext (RW.ext (zay _ (.slice (some ⟨Ge, 0, none⟩) L L) (.slice (some ⟨Gs, 0, none⟩) L L)) (by with_reducible repeat first | exact Ext.refl _ | apply xa | apply xd)) k5; (try simp only [World.size_alloc] at hE)) | skip); (first | (have h9 := RW.ext (RW.ext (zab _ (.slice none 0 0)) (by with_reducible repeat first | exact Ext.refl _ | apply xa | apply xd)) k5; (try simp only [World.size_alloc] at h9)) | skip); replace kk : Ext V w5 := (Ext.trans (by with_reducible repeat first | exact kk | apply xa | apply xd) k5); have hsz := kk.size; dsimp only
    refine hKQ.out _ _ ?_ (fun hHeld => ?_)
    ·(try dsimp only); (with_reducible repeat first | exact kk | apply xa | apply xd)
    clear hKQ KQ
    try simp only [Act.put, s1, s2, s3]
    refine wpAnyH_ready (rs := [16]) (by kernel_rfl) (by simp) ?_
    refine AllReadyH.cons rfl (fun KQ hKQ => ?_) AllReadyH.nil
    go_simp
    (with_reducible refine (HJA.out _ ?_ _ G5 A5 c5 F5 ?_ (Lib.hid (HLT.out _ hF5.out)) ?_).mono ?_); (with_reducible repeat first | exact kk | apply xa | apply xd); (exact (PM.ext hp5 (by with_reducible repeat first | exact Ext.refl _ | apply xa | apply xd))); (first | (with_reducible exact RW.ext hE (by with_reducible repeat first | exact Ext.refl _ | apply xa | apply xd)) | (with_reducible exact two_ex (by with_reducible repeat first | exact Ext.refl _ | apply xa | apply xd) (by simp))); rintro e6 w6 ⟨G6, A6, c6, F6, rfl, hp6, hF6, k6⟩; have hold := kk.size; (first | (have h9n := RW.ext (RW.ext h9 (by with_reducible repeat first | exact Ext.refl _ | apply xa | apply xd)) k6; have h9c := h9n.cell (i := 0) (by omega); have h9z := h9n.frozen 0; have h9s := h9n.lt) | (have h9n := RW.ext (RW.ext (zab _ (.slice none 0 0)) (by with_reducible repeat first | exact Ext.refl _ | apply xa | apply xd)) k6; (try simp only [World.size_alloc] at h9n); have h9c := h9n.cell (i := 0) (by omega); have h9z := h9n.frozen 0; have h9s := h9n.lt) | skip); replace kk : Ext V w6 := (Ext.trans (by with_reducible repeat first | exact kk | apply xa | apply xd) k6); have hsz := kk.size; dsimp only
    refine hKQ.out _ _ ?_ (fun hHeld => ?_)
    ·(try dsimp only); (with_reducible repeat first | exact kk | apply xa | apply xd)
    clear hKQ KQ
    try simp only [Act.put, s1, s2, s3]
    refine wpAnyH_ready (rs := [18]) (by kernel_rfl) (by simp) ?_
    refine AllReadyH.cons rfl (fun KQ hKQ => ?_) AllReadyH.nil
    go_simp
    refine hKQ.out _ _ ?_ (fun hHeld => ?_)
    ·(try dsimp only); (first | ((with_reducible repeat first | exact kk | apply xa | apply xd); done) | (exact Ext.set (p := ⟨_, 0, none⟩) (by with_reducible repeat first | exact kk | apply xa | apply xd) (by show _ ≤ _; (try simp only [World.size_alloc]); omega) _))
    clear hKQ KQ
    try simp only [Act.put, s1, s2, s3]
    refine wpAnyH_done (by kernel_rfl) ?_ _
    (go_wp2_with fail; go_meet; (first | exact ⟨_, rfl, zah kk hp6 (HMK.out _ _ hF5.out hF6.out)⟩ | exact ⟨_, rfl, zag kk h9n (by omega) hp6 (HMK.out _ _ hF5.out hF6.out)⟩))
   refine AllReadyH.cons rfl (fun KQ hKQ => ?_) AllReadyH.nil
   go_simp
   refine hKQ.out _ _ ?_ (fun hHeld => ?_)
   ·(try dsimp only); (with_reducible repeat first | exact kk | apply xa | apply xd)
   clear hKQ KQ
   try simp only [Act.put, s1, s2, s3]
   refine wpAnyH_ready (rs := [10]) (by kernel_rfl) (by simp) ?_
   refine AllReadyH.cons rfl (fun KQ hKQ => ?_) AllReadyH.nil
   go_simp
   refine hKQ.out _ _ ?_ (fun hHeld => ?_)
   ·(try dsimp only); (with_reducible repeat first | exact kk | apply xa | apply xd)
   clear hKQ KQ
   try simp only [Act.put, s1, s2, s3]
   refine wpAnyH_ready (rs := [11]) (by kernel_rfl) (by simp) ?_
   refine AllReadyH.cons rfl (fun KQ hKQ => ?_) AllReadyH.nil
   go_simp
   (with_reducible refine (HJM.out _ ?_ _ ?_).mono ?_); (with_reducible repeat first | exact kk | apply xa | apply xd); (with_reducible exact one_ex (by with_reducible repeat first | exact Ext.refl _ | apply xa | apply xd) (by simp)); rintro e5 w5 ⟨G5, A5, c5, F5, rfl, hp5, hF5, k5⟩; have hold := kk.size; (first | (have hE := RW.ext (RW.ext (zay _ (.slice (some ⟨Ge, 0, none⟩) L L) (.slice (some ⟨Gs, 0, none⟩) L L)) (by with_reducible repeat first | exact Ext.refl _ | apply xa | apply xd)) k5; (try simp only [World.size_alloc] at hE)) | skip); (first | (have h9 := RW.ext (RW.ext (zab _ (.slice none 0 0)) (by with_reducible repeat first | exact Ext.refl _ | apply xa | apply xd)) k5; (try simp only [World.size_alloc] at h9)) | skip); replace kk : Ext V w5 := (Ext.trans (by with_reducible repeat first | exact kk | apply xa | apply xd) k5); have hsz := kk.size; dsimp only
   refine hKQ.out _ _ ?_ (fun hHeld => ?_)
   ·(try dsimp only); (with_reducible repeat first | exact kk | apply xa | apply xd)
   clear hKQ KQ
   try simp only [Act.put, s1, s2, s3]
   refine wpAnyH_ready (rs := [16]) (by kernel_rfl) (by simp) ?_
   refine AllReadyH.cons rfl (fun KQ hKQ => ?_) AllReadyH.nil
   go_simp
   (with_reducible refine (HJA.out _ ?_ _ G5 A5 c5 F5 ?_ (Lib.hid (HLT.out _ hF5.out)) ?_).mono ?_); (with_reducible repeat first | exact kk | apply xa | apply xd); (exact (PM.ext hp5 (by with_reducible repeat first | exact Ext.refl _ | apply xa | apply xd))); (first | (with_reducible exact RW.ext hE (by with_reducible repeat first | exact Ext.refl _ | apply xa | apply xd)) | (with_reducible exact two_ex (by with_reducible repeat first | exact Ext.refl _ | apply xa | apply xd) (by simp))); rintro e6 w6 ⟨G6, A6, c6, F6, rfl, hp6, hF6, k6⟩; have hold := kk.size; (first | (have h9n := RW.ext (RW.ext h9 (by with_reducible repeat first | exact Ext.refl _ | apply xa | apply xd)) k6; have h9c := h9n.cell (i := 0) (by omega); have h9z := h9n.frozen 0; have h9s := h9n.lt) | (have h9n := RW.ext (RW.ext (zab _ (.slice none 0 0)) (by with_reducible repeat first | exact Ext.refl _ | apply xa | apply xd)) k6; (try simp only [World.size_alloc] at h9n); have h9c := h9n.cell (i := 0) (by omega); have h9z := h9n.frozen 0; have h9s := h9n.lt) | skip); replace kk : Ext V w6 := (Ext.trans (by with_reducible repeat first | exact kk | apply xa | apply xd) k6); have hsz := kk.size; dsimp only
   refine hKQ.out _ _ ?_ (fun hHeld => ?_)
   ·(try dsimp only); (with_reducible repeat first | exact kk | apply xa | apply xd)
   clear hKQ KQ
   try simp only [Act.put, s1, s2, s3]
   refine wpAnyH_ready (rs := [18]) (by kernel_rfl) (by simp) ?_
   refine AllReadyH.cons rfl (fun KQ hKQ => ?_) AllReadyH.nil
   go_simp
   refine hKQ.out _ _ ?_ (fun hHeld => ?_)
   ·(try dsimp only); (first | ((with_reducible repeat first | exact kk | apply xa | apply xd); done) | (exact Ext.set (p := ⟨_, 0, none⟩) (by with_reducible repeat first | exact kk | apply xa | apply xd) (by show _ ≤ _; (try simp only [World.size_alloc]); omega) _))
   clear hKQ KQ
   try simp only [Act.put, s1, s2, s3]
   refine wpAnyH_done (by kernel_rfl) ?_ _
   (go_wp2_with fail; go_meet; (first | exact ⟨_, rfl, zah kk hp6 (HMK.out _ _ hF5.out hF6.out)⟩ | exact ⟨_, rfl, zag kk h9n (by omega) hp6 (HMK.out _ _ hF5.out hF6.out)⟩))
  refine AllReadyH.cons rfl (fun KQ hKQ => ?_) AllReadyH.nil
  go_simp
  refine hKQ.out _ _ ?_ (fun hHeld => ?_)
  ·(try dsimp only); (with_reducible repeat first | exact kk | apply xa | apply xd)
  clear hKQ KQ
  try simp only [Act.put, s1, s2, s3]
  refine wpAnyH_ready (rs := [10, 15]) (by kernel_rfl) (by simp) ?_
  refine AllReadyH.cons rfl (fun KQ hKQ => ?_) ?_
  ·go_simp
   refine hKQ.out _ _ ?_ (fun hHeld => ?_)
   ·(try dsimp only); (with_reducible repeat first | exact kk | apply xa | apply xd)
   clear hKQ KQ
   try simp only [Act.put, s1, s2, s3]
   refine wpAnyH_ready (rs := [11, 15]) (by kernel_rfl) (by simp) ?_
   refine AllReadyH.cons rfl (fun KQ hKQ => ?_) ?_
   ·go_simp
    (with_reducible refine (HJM.out _ ?_ _ ?_).mono ?_); (with_reducible repeat first | exact kk | apply xa | apply xd); (with_reducible exact one_ex (by with_reducible repeat first | exact Ext.refl _ | apply xa | apply xd) (by simp)); rintro e5 w5 ⟨G5, A5, c5, F5, rfl, hp5, hF5, k5⟩; have hold := kk.size; (first | (have hE := RW.ext (RW.ext (zay _ (.slice (some ⟨Ge, 0, none⟩) L L) (.slice (some ⟨Gs, 0, none⟩) L L)) (by with_reducible repeat first | exact Ext.refl _ | apply xa | apply xd)) k5; (try simp only [World.size_alloc] at hE)) | skip); (first | (have h9 := RW.ext (RW.ext (zab _ (.slice none 0 0)) (by with_reducible repeat first | exact Ext.refl _ | apply xa | apply xd)) k5; (try simp only [World.size_alloc] at h9)) | skip); replace kk : Ext V w5 := (Ext.trans (by with_reducible repeat first | exact kk | apply xa | apply xd) k5); have hsz := kk.size; dsimp only
    refine hKQ.out _ _ ?_ (fun hHeld => ?_)
    ·(try dsimp only); (with_reducible repeat first | exact kk | apply xa | apply xd)
    clear hKQ KQ
    try simp only [Act.put, s1, s2, s3]
    refine wpAnyH_ready (rs := [15]) (by kernel_rfl) (by simp) ?_
    refine AllReadyH.cons rfl (fun KQ hKQ => ?_) AllReadyH.nil
    go_simp
    refine hKQ.out _ _ ?_ (fun hHeld => ?_)
    ·(try dsimp only); (with_reducible repeat first | exact kk | apply xa | apply xd)
    clear hKQ KQ
    try simp only [Act.put, s1, s2, s3]
    refine wpAnyH_ready (rs := [16]) (by kernel_rfl) (by simp) ?_
    refine AllReadyH.cons rfl (fun KQ hKQ => ?_) AllReadyH.nil
    go_simp
    (with_reducible refine (HJA.out _ ?_ _ G5 A5 c5 F5 ?_ (Lib.hid (HLT.out _ hF5.out)) ?_).mono ?_); (with_reducible repeat first | exact kk | apply xa | apply xd); (exact (PM.ext hp5 (by with_reducible repeat first | exact Ext.refl _ | apply xa | apply xd))); (first | (with_reducible exact RW.ext hE (by with_reducible repeat first | exact Ext.refl _ | apply xa | apply xd)) | (with_reducible exact two_ex (by with_reducible repeat first | exact Ext.refl _ | apply xa | apply xd) (by simp))); rintro e6 w6 ⟨G6, A6, c6, F6, rfl, hp6, hF6, k6⟩; have hold := kk.size; (first | (have h9n := RW.ext (RW.ext h9 (by with_reducible repeat first | exact Ext.refl _ | apply xa | apply xd)) k6; have h9c := h9n.cell (i := 0) (by omega); have h9z := h9n.frozen 0; have h9s := h9n.lt) | (have h9n := RW.ext (RW.ext (zab _ (.slice none 0 0)) (by with_reducible repeat first | exact Ext.refl _ | apply xa | apply xd)) k6; (try simp only [World.size_alloc] at h9n); have h9c := h9n.cell (i := 0) (by omega); have h9z := h9n.frozen 0; have h9s := h9n.lt) | skip); replace kk : Ext V w6 := (Ext.trans (by with_reducible repeat first | exact kk | apply xa | apply xd) k6); have hsz := kk.size; dsimp only
    refine hKQ.out _ _ ?_ (fun hHeld => ?_)
    ·(try dsimp only); (with_reducible repeat first | exact kk | apply xa | apply xd)
    clear hKQ KQ
    try simp only [Act.put, s1, s2, s3]
    refine wpAnyH_ready (rs := [18]) (by kernel_rfl) (by simp) ?_
    refine AllReadyH.cons rfl (fun KQ hKQ => ?_) AllReadyH.nil
    go_simp
    refine hKQ.out _ _ ?_ (fun hHeld => ?_)
    ·(try dsimp only); (first | ((with_reducible repeat first | exact kk | apply xa | apply xd); done) | (exact Ext.set (p := ⟨_, 0, none⟩) (by with_reducible repeat first | exact kk | apply xa | apply xd) (by show _ ≤ _; (try simp only [World.size_alloc]); omega) _))
    clear hKQ KQ
    try simp only [Act.put, s1, s2, s3]
    refine wpAnyH_done (by kernel_rfl) ?_ _
    (go_wp2_with fail; go_meet; (first | exact ⟨_, rfl, zah kk hp6 (HMK.out _ _ hF5.out hF6.out)⟩ | exact ⟨_, rfl, zag kk h9n (by omega) hp6 (HMK.out _ _ hF5.out hF6.out)⟩))
   refine AllReadyH.cons rfl (fun KQ hKQ => ?_) AllReadyH.nil
   go_simp
   refine hKQ.out _ _ ?_ (fun hHeld => ?_)
   ·(try dsimp only); (with_reducible repeat first | exact kk | apply xa | apply xd)
   clear hKQ KQ
   try simp only [Act.put, s1, s2, s3]
   refine wpAnyH_ready (rs := [11]) (by kernel_rfl) (by simp) ?_
   refine AllReadyH.cons rfl (fun KQ hKQ => ?_) AllReadyH.nil
   go_simp
   (with_reducible refine (HJM.out _ ?_ _ ?_).mono ?_); (with_reducible repeat first | exact kk | apply xa | apply xd); (with_reducible exact one_ex (by with_reducible repeat first | exact Ext.refl _ | apply xa | apply xd) (by simp)); rintro e5 w5 ⟨G5, A5, c5, F5, rfl, hp5, hF5, k5⟩; have hold := kk.size; (first | (have hE := RW.ext (RW.ext (zay _ (.slice (some ⟨Ge, 0, none⟩) L L) (.slice (some ⟨Gs, 0, none⟩) L L)) (by with_reducible repeat first | exact Ext.refl _ | apply xa | apply xd)) k5; (try simp only [World.size_alloc] at hE)) | skip); (first | (have h9 := RW.ext (RW.ext (zab _ (.slice none 0 0)) (by with_reducible repeat first | exact Ext.refl _ | apply xa | apply xd)) k5; (try simp only [World.size_alloc] at h9)) | skip); replace kk : Ext V w5 := (Ext.trans (by with_reducible repeat first | exact kk | apply xa | apply xd) k5); have hsz := kk.size; dsimp only
   refine hKQ.out _ _ ?_ (fun hHeld => ?_)
   ·(try dsimp only); (with_reducible repeat first | exact kk | apply xa | apply xd)
   clear hKQ KQ
   try simp only [Act.put, s1, s2, s3]
   refine wpAnyH_ready (rs := [16]) (by kernel_rfl) (by simp) ?_
   refine AllReadyH.cons rfl (fun KQ hKQ => ?_) AllReadyH.nil
   go_simp
   (with_reducible refine (HJA.out _ ?_ _ G5 A5 c5 F5 ?_ (Lib.hid (HLT.out _ hF5.out)) ?_).mono ?_); (with_reducible repeat first | exact kk | apply xa | apply xd); (exact (PM.ext hp5 (by with_reducible repeat first | exact Ext.refl _ | apply xa | apply xd))); (first | (with_reducible exact RW.ext hE (by with_reducible repeat first | exact Ext.refl _ | apply xa | apply xd)) | (with_reducible exact two_ex (by with_reducible repeat first | exact Ext.refl _ | apply xa | apply xd) (by simp))); rintro e6 w6 ⟨G6, A6, c6, F6, rfl, hp6, hF6, k6⟩; have hold := kk.size; (first | (have h9n := RW.ext (RW.ext h9 (by with_reducible repeat first | exact Ext.refl _ | apply xa | apply xd)) k6; have h9c := h9n.cell (i := 0) (by omega); have h9z := h9n.frozen 0; have h9s := h9n.lt) | (have h9n := RW.ext (RW.ext (zab _ (.slice none 0 0)) (by with_reducible repeat first | exact Ext.refl _ | apply xa | apply xd)) k6; (try simp only [World.size_alloc] at h9n); have h9c := h9n.cell (i := 0) (by omega); have h9z := h9n.frozen 0; have h9s := h9n.lt) | skip); replace kk : Ext V w6 := (Ext.trans (by with_reducible repeat first | exact kk | apply xa | apply xd) k6); have hsz := kk.size; dsimp only
   refine hKQ.out _ _ ?_ (fun hHeld => ?_)
   ·(try dsimp only); (with_reducible repeat first | exact kk | apply xa | apply xd)
   clear hKQ KQ
   try simp only [Act.put, s1, s2, s3]
   refine wpAnyH_ready (rs := [18]) (by kernel_rfl) (by simp) ?_
   refine AllReadyH.cons rfl (fun KQ hKQ => ?_) AllReadyH.nil
   go_simp
   refine hKQ.out _ _ ?_ (fun hHeld => ?_)
   ·(try dsimp only); (first | ((with_reducible repeat first | exact kk | apply xa | apply xd); done) | (exact Ext.set (p := ⟨_, 0, none⟩) (by with_reducible repeat first | exact kk | apply xa | apply xd) (by show _ ≤ _; (try simp only [World.size_alloc]); omega) _))
   clear hKQ KQ
   try simp only [Act.put, s1, s2, s3]
   refine wpAnyH_done (by kernel_rfl) ?_ _
   (go_wp2_with fail; go_meet; (first | exact ⟨_, rfl, zah kk hp6 (HMK.out _ _ hF5.out hF6.out)⟩ | exact ⟨_, rfl, zag kk h9n (by omega) hp6 (HMK.out _ _ hF5.out hF6.out)⟩))
  refine AllReadyH.cons rfl (fun KQ hKQ => ?_) AllReadyH.nil
  go_simp
  refine hKQ.out _ _ ?_ (fun hHeld => ?_)
  ·(try dsimp only); (with_reducible repeat first | exact kk | apply xa | apply xd)
  clear hKQ KQ
  try simp only [Act.put, s1, s2, s3]
  refine wpAnyH_ready (rs := [10]) (by kernel_rfl) (by simp) ?_
  refine AllReadyH.cons rfl (fun KQ hKQ => ?_) AllReadyH.nil
  go_simp
  refine hKQ.out _ _ ?_ (fun hHeld => ?_)
  ·(try dsimp only); (with_reducible repeat first | exact kk | apply xa | apply xd)
  clear hKQ KQ
  try simp only [Act.put, s1, s2, s3]
  refine wpAnyH_ready (rs := [11]) (by kernel_rfl) (by simp) ?_
  refine AllReadyH.cons rfl (fun KQ hKQ => ?_) AllReadyH.nil
  go_simp
  (with_reducible refine (HJM.out _ ?_ _ ?_).mono ?_); (with_reducible repeat first | exact kk | apply xa | apply xd); (with_reducible exact one_ex (by with_reducible repeat first | exact Ext.refl _ | apply xa | apply xd) (by simp)); rintro e5 w5 ⟨G5, A5, c5, F5, rfl, hp5, hF5, k5⟩; have hold := kk.size; (first | (have hE := RW.ext (RW.ext (zay _ (.slice (some ⟨Ge, 0, none⟩) L L) (.slice (some ⟨Gs, 0, none⟩) L L)) (by with_reducible repeat first | exact Ext.refl _ | apply xa | apply xd)) k5; (try simp only [World.size_alloc] at hE)) | skip); (first | (have h9 := RW.ext (RW.ext (zab _ (.slice none 0 0)) (by with_reducible repeat first | exact Ext.refl _ | apply xa | apply xd)) k5; (try simp only [World.size_alloc] at h9)) | skip); replace kk : Ext V w5 := (Ext.trans (by with_reducible repeat first | exact kk | apply xa | apply xd) k5); have hsz := kk.size; dsimp only
  refine hKQ.out _ _ ?_ (fun hHeld => ?_)
  ·(try dsimp only); (with_reducible repeat first | exact kk | apply xa | apply xd)
  clear hKQ KQ
  try simp only [Act.put, s1, s2, s3]
  refine wpAnyH_ready (rs := [16]) (by kernel_rfl) (by simp) ?_
  refine AllReadyH.cons rfl (fun KQ hKQ => ?_) AllReadyH.nil
  go_simp
  (with_reducible refine (HJA.out _ ?_ _ G5 A5 c5 F5 ?_ (Lib.hid (HLT.out _ hF5.out)) ?_).mono ?_); (with_reducible repeat first | exact kk | apply xa | apply xd); (exact (PM.ext hp5 (by with_reducible repeat first | exact Ext.refl _ | apply xa | apply xd))); (first | (with_reducible exact RW.ext hE (by with_reducible repeat first | exact Ext.refl _ | apply xa | apply xd)) | (with_reducible exact two_ex (by with_reducible repeat first | exact Ext.refl _ | apply xa | apply xd) (by simp))); rintro e6 w6 ⟨G6, A6, c6, F6, rfl, hp6, hF6, k6⟩; have hold := kk.size; (first | (have h9n := RW.ext (RW.ext h9 (by with_reducible repeat first | exact Ext.refl _ | apply xa | apply xd)) k6; have h9c := h9n.cell (i := 0) (by omega); have h9z := h9n.frozen 0; have h9s := h9n.lt) | (have h9n := RW.ext (RW.ext (zab _ (.slice none 0 0)) (by with_reducible repeat first | exact Ext.refl _ | apply xa | apply xd)) k6; (try simp only [World.size_alloc] at h9n); have h9c := h9n.cell (i := 0) (by omega); have h9z := h9n.frozen 0; have h9s := h9n.lt) | skip); replace kk : Ext V w6 := (Ext.trans (by with_reducible repeat first | exact kk | apply xa | apply xd) k6); have hsz := kk.size; dsimp only
  refine hKQ.out _ _ ?_ (fun hHeld => ?_)
  ·(try dsimp only); (with_reducible repeat first | exact kk | apply xa | apply xd)
  clear hKQ KQ
  try simp only [Act.put, s1, s2, s3]
  refine wpAnyH_ready (rs := [18]) (by kernel_rfl) (by simp) ?_
  refine AllReadyH.cons rfl (fun KQ hKQ => ?_) AllReadyH.nil
  go_simp
  refine hKQ.out _ _ ?_ (fun hHeld => ?_)
  ·(try dsimp only); (first | ((with_reducible repeat first | exact kk | apply xa | apply xd); done) | (exact Ext.set (p := ⟨_, 0, none⟩) (by with_reducible repeat first | exact kk | apply xa | apply xd) (by show _ ≤ _; (try simp only [World.size_alloc]); omega) _))
  clear hKQ KQ
  try simp only [Act.put, s1, s2, s3]
  refine wpAnyH_done (by kernel_rfl) ?_ _
  (go_wp2_with fail; go_meet; (first | exact ⟨_, rfl, zah kk hp6 (HMK.out _ _ hF5.out hF6.out)⟩ | exact ⟨_, rfl, zag kk h9n (by omega) hp6 (HMK.out _ _ hF5.out hF6.out)⟩))
 case rest =>
  obtain ⟨b9, rfl, hl9⟩ := hcut
  rename World => V2
  obtain ⟨G9, A9, c9, F9, hr9, hp9, hF9, hb9, k9⟩ := hl9
  replace x4 := cE k9 x4
  replace k1' := cE k9 k1'
  replace v0 := cE k9 v0
  replace v2 := cE k9 v2
  replace hr := hr.ext k9
  replace k0 := k0.trans k9
  have HR := Lib.hid (HR.out.ext k9)
  have HA := Lib.hid (HA.out.ext k9)
  have HU := Lib.hid (HU.out.ext k9)
  have HF := Lib.hid (HF.out.ext k9)
  have HR9 := Lib.hid hr9
  have HP9 := Lib.hid hp9
  have gD := Nat.lt_of_lt_of_le gD k9.size
  have gK := Nat.lt_of_lt_of_le gK k9.size
  have gV := Nat.lt_of_lt_of_le gV k9.size
  clear hr9 hp9 hb9 k9 k0' v1 s0 gS
  go_wp2_with fail
  go_cut [10] (fun s10 wx => ∃ b, s10 = .pointer (some ⟨b, 0, none⟩) ∧ LocY V2 wx b L n (HidB n L q FA Fu Ff))
  case first =>
   have kk : Ext V2 V2 := Ext.refl V2
   have HJM := Lib.hid (fun w' (h : Ext V2 w') x (hr1 : RW w' x 56 1 (fun _ => .slice (some ⟨Gu, 0, none⟩) L L)) => zbm n L L r x 1 GA q pp a e As2 cs2 FA (fun _ => Gu) (fun _ => As3) (fun _ => cs3) (fun _ => Fu) w' hn0 hn hL0 hL (Nat.le_refl L) (by omega) (HR.out.ext h) (HA.out.ext h) qA ⟨hr1, fun _ _ => HU.out.ext h⟩ (Lib.hid fun _ _ => qu.out) hsq)
   have HJA := Lib.hid (fun w' (h : Ext V2 w') x G1 A1 c1 F1 (hp1 : PM w' G1 L n A1 c1 F1) (hq1 : Hid (∀ j, j < L → ∀ i, i < n → F1 j i < q j)) (hr1 : RW w' x 56 1 (fun _ => .slice (some ⟨Gf, 0, none⟩) L L)) => zcn n L L r x 1 G1 q pp a e A1 c1 F1 (fun _ => Gf) (fun _ => As5) (fun _ => cs5) (fun _ => Ff) w' hn0 hn hL0 hL (Nat.le_refl L) (by omega) (HR.out.ext h) hp1 hq1 ⟨hr1.congr fun i hi => by first | rfl | (by_cases h0 : i = 0; (· simp only [if_pos h0]); (· simp only [if_neg h0])), fun k hk => (HF.out.ext h)⟩ (Lib.hid fun k hk => qf.out))
   have HLT := Lib.hid (fun F1 (h : JoinR L (RMul n q) FA (fun _ => Fu) 1 F1) => h.lt (n := n) (q := q) (fun j f f' F hj h i hi => (h i hi).1) qA.out)
   have HMK := Lib.hid (fun F1 F2 (h1 : JoinR L (RMul n q) FA (fun _ => Fu) 1 F1) (h2 : JoinR L (RAdd n q) F1 (fun _ => Ff) 1 F2) => (show HidB n L q FA Fu Ff F2 from ⟨F1, h1, h2⟩))
   refine wp_region_held_drew (S := (fun w' => Ext V2 w')) (by kernel_rfl) ?_ (fun hHeld => ?_)
   ·(try dsimp only); (with_reducible repeat first | exact kk | apply xa | apply xd)
   refine wpAnyH_take (i := 0) (oi := _) (v := ?_) rfl (by kernel_rfl) (by kernel_rfl) (by kernel_rfl) (fun _ _ _ h => h) (Or.inl ⟨by rfl, ?_⟩) (by assumption) ?_
   rotate_left
   ·(intro wS hSw; (try dsimp only at hSw); have t0 := cE hSw x4; have t1 := cE hSw k1'; have t2 := cE hSw v0; have t3 := cE hSw v2; (try go_simp); (try with_reducible rfl))
   try simp only [Act.put, s1, s2, s3]
   refine wpAnyH_take (i := 1) (oi := _) (v := ?_) rfl (by kernel_rfl) (by kernel_rfl) (by kernel_rfl) (fun _ _ _ h => h) (Or.inl ⟨by rfl, ?_⟩) (by assumption) ?_
   rotate_left
   ·(intro wS hSw; (try dsimp only at hSw); have t0 := cE hSw x4; have t1 := cE hSw k1'; have t2 := cE hSw v0; have t3 := cE hSw v2; (try go_simp); (try with_reducible rfl))
   try simp only [Act.put, s1, s2, s3]
   refine wpAnyH_take (i := 2) (oi := _) (v := ?_) rfl (by kernel_rfl) (by kernel_rfl) (by kernel_rfl) (fun _ _ _ h => h) (Or.inl ⟨by rfl, ?_⟩) (by assumption) ?_
   rotate_left
   ·(intro wS hSw; (try dsimp only at hSw); have t0 := cE hSw x4; have t1 := cE hSw k1'; have t2 := cE hSw v0; have t3 := cE hSw v2; (try go_simp); (try with_reducible rfl))
   try simp only [Act.put, s1, s2, s3]
   refine wpAnyH_take (i := 3) (oi := _) (v := ?_) rfl (by kernel_rfl) (by kernel_rfl) (by kernel_rfl) (fun _ _ _ h => h) (Or.inl ⟨by rfl, ?_⟩) (by assumption) ?_
   rotate_left
   ·(intro wS hSw; (try dsimp only at hSw); have t0 := cE hSw x4; have t1 := cE hSw k1'; have t2 := cE hSw v0; have t3 := cE hSw v2; (try go_simp); (try with_reducible rfl))
   try simp only [Act.put, s1, s2, s3]
   refine wpAnyH_take (i := 4) (oi := _) (v := ?_) rfl (by kernel_rfl) (by kernel_rfl) (by kernel_rfl) (fun _ _ _ h => h) (Or.inl ⟨by rfl, ?_⟩) (by assumption) ?_
   rotate_left
   ·(intro wS hSw; (try dsimp only at hSw); have t0 := cE hSw x4; have t1 := cE hSw k1'; have t2 := cE hSw v0; have t3 := cE hSw v2; (try go_simp); (try with_reducible rfl))
   try simp only [Act.put, s1, s2, s3]
   refine wpAnyH_take (i := 5) (oi := _) (v := ?_) rfl (by kernel_rfl) (by kernel_rfl) (by kernel_rfl) (fun _ _ _ h => h) (Or.inl ⟨by rfl, ?_⟩) (by assumption) ?_
   rotate_left
   ·(intro wS hSw; (try dsimp only at hSw); have t0 := cE hSw x4; have t1 := cE hSw k1'; have t2 := cE hSw v0; have t3 := cE hSw v2; (try go_simp); (try with_reducible rfl))
   try simp only [Act.put, s1, s2, s3]
   refine wpAnyH_take (i := 6) (oi := _) (v := ?_) rfl (by kernel_rfl) (by kernel_rfl) (by kernel_rfl) (fun _ _ _ h => h) (Or.inl ⟨by rfl, ?_⟩) (by assumption) ?_
   rotate_left
   ·(intro wS hSw; (try dsimp only at hSw); have t0 := cE hSw x4; have t1 := cE hSw k1'; have t2 := cE hSw v0; have t3 := cE hSw v2; (try go_simp); (try with_reducible rfl))
   try simp only [Act.put, s1, s2, s3]
   refine wpAnyH_take (i := 7) (oi := _) (v := ?_) rfl (by kernel_rfl) (by kernel_rfl) (by kernel_rfl) (fun _ _ _ h => h) (Or.inl ⟨by rfl, ?_⟩) (by assumption) ?_
   rotate_left
   ·(intro wS hSw; (try dsimp only at hSw); have t0 := cE hSw x4; have t1 := cE hSw k1'; have t2 := cE hSw v0; have t3 := cE hSw v2; (try go_simp); (try with_reducible rfl))
   try simp only [Act.put, s1, s2, s3]
   refine wpAnyH_take (i := 8) (oi := _) (v := ?_) rfl (by kernel_rfl) (by kernel_rfl) (by kernel_rfl) (fun _ _ _ h => h) (Or.inl ⟨by rfl, ?_⟩) (by assumption) ?_
   rotate_left
   ·(intro wS hSw; (try dsimp only at hSw); have t0 := cE hSw x4; have t1 := cE hSw k1'; have t2 := cE hSw v0; have t3 := cE hSw v2; (try go_simp); (try with_reducible rfl))
   try simp only [Act.put, s1, s2, s3]
   refine wpAnyH_take (i := 9) (oi := _) (v := ?_) rfl (by kernel_rfl) (by kernel_rfl) (by kernel_rfl) (fun _ _ _ h => h) (Or.inl ⟨by rfl, ?_⟩) (by assumption) ?_
   rotate_left
   ·(intro wS hSw; (try dsimp only at hSw); have t0 := cE hSw x4; have t1 := cE hSw k1'; have t2 := cE hSw v0; have t3 := cE hSw v2; (try go_simp); (try with_reducible rfl))
   try simp only [Act.put, s1, s2, s3]
   refine wpAnyH_take (i := 12) (oi := _) (v := ?_) rfl (by kernel_rfl) (by kernel_rfl) (by kernel_rfl) (fun _ _ _ h => h) (Or.inl ⟨by rfl, ?_⟩) (by assumption) ?_
   rotate_left
   ·(intro wS hSw; (try dsimp only at hSw); have t0 := cE hSw x4; have t1 := cE hSw k1'; have t2 := cE hSw v0; have t3 := cE hSw v2; (try go_simp); (try with_reducible rfl))
   try simp only [Act.put, s1, s2, s3]
   refine wpAnyH_take (i := 13) (oi := _) (v := ?_) rfl (by kernel_rfl) (by kernel_rfl) (by kernel_rfl) (fun _ _ _ h => h) (Or.inl ⟨by rfl, ?_⟩) (by assumption) ?_
   rotate_left
   ·(intro wS hSw; (try dsimp only at hSw); have t0 := cE hSw x4; have t1 := cE hSw k1'; have t2 := cE hSw v0; have t3 := cE hSw v2; (try go_simp); (try with_reducible rfl))
   try simp only [Act.put, s1, s2, s3]
   refine wpAnyH_ready (rs := [10, 14, 16]) (by kernel_rfl) (by simp) ?_
   refine AllReadyH.cons rfl (fun KQ hKQ => ?_) ?_
   ·go_simp
    refine hKQ.out _ _ ?_ (fun hHeld => ?_)
    ·(try dsimp only); (with_reducible repeat first | exact kk | apply xa | apply xd)
    clear hKQ KQ
    try simp only [Act.put, s1, s2, s3]
    refine wpAnyH_ready (rs := [11, 14, 16]) (by kernel_rfl) (by simp) ?_
    refine AllReadyH.cons rfl (fun KQ hKQ => ?_) ?_
    ·go_simp
     (with_reducible refine (HJM.out _ ?_ _ ?_).mono ?_); (with_reducible repeat first | exact kk | apply xa | apply xd); (with_reducible exact one_ex (by with_reducible repeat first | exact Ext.refl _ | apply xa | apply xd) (by simp)); rintro e5 w5 ⟨G5, A5, c5, F5, rfl, hp5, hF5, k5⟩; have hold := kk.size; (first | (have hE := RW.ext (RW.ext (zab _ (.slice (some ⟨Gf, 0, none⟩) L L)) (by with_reducible repeat first | exact Ext.refl _ | apply xa | apply xd)) k5; (try simp only [World.size_alloc] at hE)) | skip); (first | (have h9 := RW.ext (RW.ext (zab _ (.slice none 0 0)) (by with_reducible repeat first | exact Ext.refl _ | apply xa | apply xd)) k5; (try simp only [World.size_alloc] at h9)) | skip); replace kk : Ext V2 w5 := (Ext.trans (by with_reducible repeat first | exact kk | apply xa | apply xd) k5); have hsz := kk.size; dsimp only
     refine hKQ.out _ _ ?_ (fun hHeld => ?_)
     ·(try dsimp only); (with_reducible repeat first | exact kk | apply xa | apply xd)
     clear hKQ KQ
     try simp only [Act.put, s1, s2, s3]
     refine wpAnyH_ready (rs := [14, 16]) (by kernel_rfl) (by simp) ?_
     refine AllReadyH.cons rfl (fun KQ hKQ => ?_) ?_
     ·go_simp
      refine hKQ.out _ _ ?_ (fun hHeld => ?_)
      ·(try dsimp only); (with_reducible repeat first | exact kk | apply xa | apply xd)
      clear hKQ KQ
      try simp only [Act.put, s1, s2, s3]
      refine wpAnyH_ready (rs := [15, 16]) (by kernel_rfl) (by simp) ?_
      refine AllReadyH.cons rfl (fun KQ hKQ => ?_) ?_
      ·go_simp
       (with_reducible refine (HJA.out _ ?_ _ G5 A5 c5 F5 ?_ (Lib.hid (HLT.out _ hF5.out)) ?_).mono ?_); (with_reducible repeat first | exact kk | apply xa | apply xd); (exact (PM.ext hp5 (by with_reducible repeat first | exact Ext.refl _ | apply xa | apply xd))); (first | (with_reducible exact RW.ext hE (by with_reducible repeat first | exact Ext.refl _ | apply xa | apply xd)) | (with_reducible exact one_ex (by with_reducible repeat first | exact Ext.refl _ | apply xa | apply xd) (by simp))); rintro e6 w6 ⟨G6, A6, c6, F6, rfl, hp6, hF6, k6⟩; have hold := kk.size; (first | (have h9n := RW.ext (RW.ext h9 (by with_reducible repeat first | exact Ext.refl _ | apply xa | apply xd)) k6; have h9c := h9n.cell (i := 0) (by omega); have h9z := h9n.frozen 0; have h9s := h9n.lt) | (have h9n := RW.ext (RW.ext (zab _ (.slice none 0 0)) (by with_reducible repeat first | exact Ext.refl _ | apply xa | apply xd)) k6; (try simp only [World.size_alloc] at h9n); have h9c := h9n.cell (i := 0) (by omega); have h9z := h9n.frozen 0; have h9s := h9n.lt) | skip); replace kk : Ext V2 w6 := (Ext.trans (by with_reducible repeat first | exact kk | apply xa | apply xd) k6); have hsz := kk.size; dsimp only
       refine hKQ.out _ _ ?_ (fun hHeld => ?_)
       ·(try dsimp only); (with_reducible repeat first | exact kk | apply xa | apply xd)
       clear hKQ KQ
       try simp only [Act.put, s1, s2, s3]
       refine wpAnyH_ready (rs := [16]) (by kernel_rfl) (by simp) ?_
       refine AllReadyH.cons rfl (fun KQ hKQ => ?_) AllReadyH.nil
       go_simp
       refine hKQ.out _ _ ?_ (fun hHeld => ?_)
       ·(try dsimp only); (with_reducible repeat first | exact kk | apply xa | apply xd)
       clear hKQ KQ
       try simp only [Act.put, s1, s2, s3]
       refine wpAnyH_ready (rs := [17]) (by kernel_rfl) (by simp) ?_
       refine AllReadyH.cons rfl (fun KQ hKQ => ?_) AllReadyH.nil
       go_simp
       refine hKQ.out _ _ ?_ (fun hHeld => ?_)
       ·(try dsimp only); (first | ((with_reducible repeat first | exact kk | apply xa | apply xd); done) | (exact Ext.set (p := ⟨_, 0, none⟩) (by with_reducible repeat first | exact kk | apply xa | apply xd) (by show _ ≤ _; (try simp only [World.size_alloc]); omega) _))
       clear hKQ KQ
       try simp only [Act.put, s1, s2, s3]
       refine wpAnyH_done (by kernel_rfl) ?_ _
       (go_wp2_with fail; go_meet; (first | exact ⟨_, rfl, zah kk hp6 (HMK.out _ _ hF5.out hF6.out)⟩ | exact ⟨_, rfl, zag kk h9n (by omega) hp6 (HMK.out _ _ hF5.out hF6.out)⟩))
      refine AllReadyH.cons rfl (fun KQ hKQ => ?_) AllReadyH.nil
      go_simp
      refine hKQ.out _ _ ?_ (fun hHeld => ?_)
      ·(try dsimp only); (with_reducible repeat first | exact kk | apply xa | apply xd)
      clear hKQ KQ
      try simp only [Act.put, s1, s2, s3]
      refine wpAnyH_ready (rs := [15]) (by kernel_rfl) (by simp) ?_
      refine AllReadyH.cons rfl (fun KQ hKQ => ?_) AllReadyH.nil
      go_simp
      (with_reducible refine (HJA.out _ ?_ _ G5 A5 c5 F5 ?_ (Lib.hid (HLT.out _ hF5.out)) ?_).mono ?_); (with_reducible repeat first | exact kk | apply xa | apply xd); (exact (PM.ext hp5 (by with_reducible repeat first | exact Ext.refl _ | apply xa | apply xd))); (first | (with_reducible exact RW.ext hE (by with_reducible repeat first | exact Ext.refl _ | apply xa | apply xd)) | (with_reducible exact one_ex (by with_reducible repeat first | exact Ext.refl _ | apply xa | apply xd) (by simp))); rintro e6 w6 ⟨G6, A6, c6, F6, rfl, hp6, hF6, k6⟩; have hold := kk.size; (first | (have h9n := RW.ext (RW.ext h9 (by with_reducible repeat first | exact Ext.refl _ | apply xa | apply xd)) k6; have h9c := h9n.cell (i := 0) (by omega); have h9z := h9n.frozen 0; have h9s := h9n.lt) | (have h9n := RW.ext (RW.ext (zab _ (.slice none 0 0)) (by with_reducible repeat first | exact Ext.refl _ | apply xa | apply xd)) k6; (try simp only [World.size_alloc] at h9n); have h9c := h9n.cell (i := 0) (by omega); have h9z := h9n.frozen 0; have h9s := h9n.lt) | skip); replace kk : Ext V2 w6 := (Ext.trans (by with_reducible repeat first | exact kk | apply xa | apply xd) k6); have hsz := kk.size; dsimp only
      refine hKQ.out _ _ ?_ (fun hHeld => ?_)
      ·(try dsimp only); (with_reducible repeat first | exact kk | apply xa | apply xd)
      clear hKQ KQ
      try simp only [Act.put, s1, s2, s3]
      refine wpAnyH_ready (rs := [17]) (by kernel_rfl) (by simp) ?_
      refine AllReadyH.cons rfl (fun KQ hKQ => ?_) AllReadyH.nil
      go_simp
      refine hKQ.out _ _ ?_ (fun hHeld => ?_)
      ·(try dsimp only); (first | ((with_reducible repeat first | exact kk | apply xa | apply xd); done) | (exact Ext.set (p := ⟨_, 0, none⟩) (by with_reducible repeat first | exact kk | apply xa | apply xd) (by show _ ≤ _; (try simp only [World.size_alloc]); omega) _))
      clear hKQ KQ
      try simp only [Act.put, s1, s2, s3]
      refine wpAnyH_done (by kernel_rfl) ?_ _
      (go_wp2_with fail; go_meet; (first | exact ⟨_, rfl, zah kk hp6 (HMK.out _ _ hF5.out hF6.out)⟩ | exact ⟨_, rfl, zag kk h9n (by omega) hp6 (HMK.out _ _ hF5.out hF6.out)⟩))
     refine AllReadyH.cons rfl (fun KQ hKQ => ?_) AllReadyH.nil
     go_simp
     refine hKQ.out _ _ ?_ (fun hHeld => ?_)
     ·(try dsimp only); (with_reducible repeat first | exact kk | apply xa | apply xd)
     clear hKQ KQ
     try simp only [Act.put, s1, s2, s3]
     refine wpAnyH_ready (rs := [14]) (by kernel_rfl) (by simp) ?_
     refine AllReadyH.cons rfl (fun KQ hKQ => ?_) AllReadyH.nil
     go_simp
     refine hKQ.out _ _ ?_ (fun hHeld => ?_)
     ·(try dsimp only); (with_reducible repeat first | exact kk | apply xa | apply xd)
     clear hKQ KQ
     try simp only [Act.put, s1, s2, s3]
     refine wpAnyH_ready (rs := [15]) (by kernel_rfl) (by simp) ?_
     refine AllReadyH.cons rfl (fun KQ hKQ => ?_) AllReadyH.nil
     go_simp
     (with_reducible refine (HJA.out _ ?_ _ G5 A5 c5 F5 ?_ (Lib.hid (HLT.out _ hF5.out)) ?_).mono ?_); (with_reducible repeat first | exact kk | apply xa | apply xd); (exact (PM.ext hp5 (by with_reducible repeat first | exact Ext.refl _ | apply xa | apply xd))); (first | (with_reducible exact RW.ext hE (by with_reducible repeat first | exact Ext.refl _ | apply xa | apply xd)) | (with_reducible exact one_ex (by with_reducible repeat first | exact Ext.refl _ | apply xa | apply xd) (by simp))); rintro e6 w6 ⟨G6, A6, c6, F6, rfl, hp6, hF6, k6⟩; have hold := kk.size; (first | (have h9n := RW.ext (RW.ext h9 (by with_reducible repeat first | exact Ext.refl _ | apply xa | apply xd)) k6; have h9c := h9n.cell (i := 0) (by omega); have h9z := h9n.frozen 0; have h9s := h9n.lt) | (have h9n := RW.ext (RW.ext (zab _ (.slice none 0 0)) (by with_reducible repeat first | exact Ext.refl _ | apply xa | apply xd)) k6; (try simp only [World.size_alloc] at h9n); have h9c := h9n.cell (i := 0) (by omega); have h9z := h9n.frozen 0; have h9s := h9n.lt) | skip); replace kk : Ext V2 w6 := (Ext.trans (by with_reducible repeat first | exact kk | apply xa | apply xd) k6); have hsz := kk.size; dsimp only
     refine hKQ.out _ _ ?_ (fun hHeld => ?_)
     ·(try dsimp only); (with_reducible repeat first | exact kk | apply xa | apply xd)
     clear hKQ KQ
     try simp only [Act.put, s1, s2, s3]
     refine wpAnyH_ready (rs := [17]) (by kernel_rfl) (by simp) ?_
     refine AllReadyH.cons rfl (fun KQ hKQ => ?_) AllReadyH.nil
     go_simp
     refine hKQ.out _ _ ?_ (fun hHeld => ?_)
     ·(try dsimp only); (first | ((with_reducible repeat first | exact kk | apply xa | apply xd); done) | (exact Ext.set (p := ⟨_, 0, none⟩) (by with_reducible repeat first | exact kk | apply xa | apply xd) (by show _ ≤ _; (try simp only [World.size_alloc]); omega) _))
     clear hKQ KQ
     try simp only [Act.put, s1, s2, s3]
     refine wpAnyH_done (by kernel_rfl) ?_ _
     (go_wp2_with fail; go_meet; (first | exact ⟨_, rfl, zah kk hp6 (HMK.out _ _ hF5.out hF6.out)⟩ | exact ⟨_, rfl, zag kk h9n (by omega) hp6 (HMK.out _ _ hF5.out hF6.out)⟩))
    refine AllReadyH.cons rfl (fun KQ hKQ => ?_) ?_
    ·go_simp
     refine hKQ.out _ _ ?_ (fun hHeld => ?_)
     ·(try dsimp only); (with_reducible repeat first | exact kk | apply xa | apply xd)
     clear hKQ KQ
     try simp only [Act.put, s1, s2, s3]
     refine wpAnyH_ready (rs := [11, 16]) (by kernel_rfl) (by simp) ?_
     refine AllReadyH.cons rfl (fun KQ hKQ => ?_) ?_
     ·go_simp
      (with_reducible refine (HJM.out _ ?_ _ ?_).mono ?_); (with_reducible repeat first | exact kk | apply xa | apply xd); (with_reducible exact one_ex (by with_reducible repeat first | exact Ext.refl _ | apply xa | apply xd) (by simp)); rintro e5 w5 ⟨G5, A5, c5, F5, rfl, hp5, hF5, k5⟩; have hold := kk.size; (first | (have hE := RW.ext (RW.ext (zab _ (.slice (some ⟨Gf, 0, none⟩) L L)) (by with_reducible repeat first | exact Ext.refl _ | apply xa | apply xd)) k5; (try simp only [World.size_alloc] at hE)) | skip); (first | (have h9 := RW.ext (RW.ext (zab _ (.slice none 0 0)) (by with_reducible repeat first | exact Ext.refl _ | apply xa | apply xd)) k5; (try simp only [World.size_alloc] at h9)) | skip); replace kk : Ext V2 w5 := (Ext.trans (by with_reducible repeat first | exact kk | apply xa | apply xd) k5); have hsz := kk.size; dsimp only
      refine hKQ.out _ _ ?_ (fun hHeld => ?_)
      ·(try dsimp only); (with_reducible repeat first | exact kk | apply xa | apply xd)
      clear hKQ KQ
      try simp only [Act.put, s1, s2, s3]
      refine wpAnyH_ready (rs := [15, 16]) (by kernel_rfl) (by simp) ?_
      refine AllReadyH.cons rfl (fun KQ hKQ => ?_) ?_
      ·go_simp
       (with_reducible refine (HJA.out _ ?_ _ G5 A5 c5 F5 ?_ (Lib.hid (HLT.out _ hF5.out)) ?_).mono ?_); (with_reducible repeat first | exact kk | apply xa | apply xd); (exact (PM.ext hp5 (by with_reducible repeat first | exact Ext.refl _ | apply xa | apply xd))); (first | (with_reducible exact RW.ext hE (by with_reducible repeat first | exact Ext.refl _ | apply xa | apply xd)) | (with_reducible exact one_ex (by with_reducible repeat first | exact Ext.refl _ | apply xa | apply xd) (by simp))); rintro e6 w6 ⟨G6, A6, c6, F6, rfl, hp6, hF6, k6⟩; have hold := kk.size; (first | (have h9n := RW.ext (RW.ext h9 (by with_reducible repeat first | exact Ext.refl _ | apply xa | apply xd)) k6; have h9c := h9n.cell (i := 0) (by omega); have h9z := h9n.frozen 0; have h9s := h9n.lt) | (have h9n := RW.ext (RW.ext (zab _ (.slice none 0 0)) (by with_reducible repeat first | exact Ext.refl _ | apply xa | apply xd)) k6; (try simp only [World.size_alloc] at h9n); have h9c := h9n.cell (i := 0) (by omega); have h9z := h9n.frozen 0; have h9s := h9n.lt) | skip); replace kk : Ext V2 w6 := (Ext.trans (by with_reducible repeat first | exact kk | apply xa | apply xd) k6); have hsz := kk.size; dsimp only
       refine hKQ.out _ _ ?_ (fun hHeld => ?_)
       ·(try dsimp only); (with_reducible repeat first | exact kk | apply xa | apply xd)
       clear hKQ KQ
       try simp only [Act.put, s1, s2, s3]
       refine wpAnyH_ready (rs := [16]) (by kernel_rfl) (by simp) ?_
       refine AllReadyH.cons rfl (fun KQ hKQ => ?_) AllReadyH.nil
       go_simp
       refine hKQ.out _ _ ?_ (fun hHeld => ?_)
       ·(try dsimp only); (with_reducible repeat first | exact kk | apply xa | apply xd)
       clear hKQ KQ
       try simp only [Act.put, s1, s2, s3]
       refine wpAnyH_ready (rs := [17]) (by kernel_rfl) (by simp) ?_
       refine AllReadyH.cons rfl (fun KQ hKQ => ?_) AllReadyH.nil
       go_simp
       refine hKQ.out _ _ ?_ (fun hHeld => ?_)
       ·(try dsimp only); (first | ((with_reducible repeat first | exact kk | apply xa | apply xd); done) | (exact Ext.set (p := ⟨_, 0, none⟩) (by with_reducible repeat first | exact kk | apply xa | apply xd) (by show _ ≤ _; (try simp only [World.size_alloc]); omega) _))
       clear hKQ KQ
       try simp only [Act.put, s1, s2, s3]
       refine wpAnyH_done (by kernel_rfl) ?_ _
       (go_wp2_with fail; go_meet; (first | exact ⟨_, rfl, zah kk hp6 (HMK.out _ _ hF5.out hF6.out)⟩ | exact ⟨_, rfl, zag kk h9n (by omega) hp6 (HMK.out _ _ hF5.out hF6.out)⟩))
      refine AllReadyH.cons rfl (fun KQ hKQ => ?_) AllReadyH.nil
      go_simp
      refine hKQ.out _ _ ?_ (fun hHeld => ?_)
      ·(try dsimp only); (with_reducible repeat first | exact kk | apply xa | apply xd)
      clear hKQ KQ
      try simp only [Act.put, s1, s2, s3]
      refine wpAnyH_ready (rs := [15]) (by kernel_rfl) (by simp) ?_
      refine AllReadyH.cons rfl (fun KQ hKQ => ?_) AllReadyH.nil
      go_simp
      (with_reducible refine (HJA.out _ ?_ _ G5 A5 c5 F5 ?_ (Lib.hid (HLT.out _ hF5.out)) ?_).mono ?_); (with_reducible repeat first | exact kk | apply xa | apply xd); (exact (PM.ext hp5 (by with_reducible repeat first | exact Ext.refl _ | apply xa | apply xd))); (first | (with_reducible exact RW.ext hE (by with_reducible repeat first | exact Ext.refl _ | apply xa | apply xd)) | (with_reducible exact one_ex (by with_reducible repeat first | exact Ext.refl _ | apply xa | apply xd) (by simp))); rintro e6 w6 ⟨G6, A6, c6, F6, rfl, hp6, hF6, k6⟩; have hold := kk.size; (first | (have h9n := RW.ext (RW.ext h9 (by with_reducible repeat first | exact Ext.refl _ | apply xa | apply xd)) k6; have h9c := h9n.cell (i := 0) (by omega); have h9z := h9n.frozen 0; have h9s := h9n.lt) | (have h9n := RW.ext (RW.ext (zab _ (.slice none 0 0)) (by with_reducible repeat first | exact Ext.refl _ | apply xa | apply xd)) k6; (try simp only [World.size_alloc] at h9n); have h9c := h9n.cell (i := 0) (by omega); have h9z := h9n.frozen 0; have h9s := h9n.lt) | skip); replace kk : Ext V2 w6 := (Ext.trans (by with_reducible repeat first | exact kk | apply xa | apply xd) k6); have hsz := kk.size; dsimp only
      refine hKQ.out _ _ ?_ (fun hHeld => ?_)
      ·(try dsimp only); (with_reducible repeat first | exact kk | apply xa | apply xd)
      clear hKQ KQ
      try simp only [Act.put, s1, s2, s3]
      refine wpAnyH_ready (rs := [17]) (by kernel_rfl) (by simp) ?_
      refine AllReadyH.cons rfl (fun KQ hKQ => ?_) AllReadyH.nil
      go_simp
      refine hKQ.out _ _ ?_ (fun hHeld => ?_)
      ·(try dsimp only); (first | ((with_reducible repeat first | exact kk | apply xa | apply xd); done) | (exact Ext.set (p := ⟨_, 0, none⟩) (by with_reducible repeat first | exact kk | apply xa | apply xd) (by show _ ≤ _; (try simp only [World.size_alloc]); omega) _))
      clear hKQ KQ
      try simp only [Act.put, s1, s2, s3]
      refine wpAnyH_done (by kernel_rfl) ?_ _
      (go_wp2_with fail; go_meet; (first | exact ⟨_, rfl, zah kk hp6 (HMK.out _ _ hF5.out hF6.out)⟩ | exact ⟨_, rfl, zag kk h9n (by omega) hp6 (HMK.out _ _ hF5.out hF6.out)⟩))
     refine AllReadyH.cons rfl (fun KQ hKQ => ?_) AllReadyH.nil
     go_simp
     refine hKQ.out _ _ ?_ (fun hHeld => ?_)
     ·(try dsimp only); (with_reducible repeat first | exact kk | apply xa | apply xd)
     clear hKQ KQ
     try simp only [Act.put, s1, s2, s3]
     refine wpAnyH_ready (rs := [11]) (by kernel_rfl) (by simp) ?_
     refine AllReadyH.cons rfl (fun KQ hKQ => ?_) AllReadyH.nil
     go_simp
     (with_reducible refine (HJM.out _ ?_ _ ?_).mono ?_); (with_reducible repeat first | exact kk | apply xa | apply xd); (with_reducible exact one_ex (by with_reducible repeat first | exact Ext.refl _ | apply xa | apply xd) (by simp)); rintro e5 w5 ⟨G5, A5, c5, F5, rfl, hp5, hF5, k5⟩; have hold := kk.size; (first | (have hE := RW.ext (RW.ext (zab _ (.slice (some ⟨Gf, 0, none⟩) L L)) (by with_reducible repeat first | exact Ext.refl _ | apply xa | apply xd)) k5; (try simp only [World.size_alloc] at hE)) | skip); (first | (have h9 := RW.ext (RW.ext (zab _ (.slice none 0 0)) (by with_reducible repeat first | exact Ext.refl _ | apply xa | apply xd)) k5; (try simp only [World.size_alloc] at h9)) | skip); replace kk : Ext V2 w5 := (Ext.trans (by with_reducible repeat first | exact kk | apply xa | apply xd) k5); have hsz := kk.size; dsimp only
     refine hKQ.out _ _ ?_ (fun hHeld => ?_)
     ·(try dsimp only); (with_reducible repeat first | exact kk | apply xa | apply xd)
     clear hKQ KQ
     try simp only [Act.put, s1, s2, s3]
     refine wpAnyH_ready (rs := [15]) (by kernel_rfl) (by simp) ?_
     refine AllReadyH.cons rfl (fun KQ hKQ => ?_) AllReadyH.nil
     go_simp
     (with_reducible refine (HJA.out _ ?_ _ G5 A5 c5 F5 ?_ (Lib.hid (HLT.out _ hF5.out)) ?_).mono ?_); (with_reducible repeat first | exact kk | apply xa | apply xd); (exact (PM.ext hp5 (by with_reducible repeat first | exact Ext.refl _ | apply xa | apply xd))); (first | (with_reducible exact RW.ext hE (by with_reducible repeat first | exact Ext.refl _ | apply xa | apply xd)) | (with_reducible exact one_ex (by with_reducible repeat first | exact Ext.refl _ | apply xa | apply xd) (by simp))); rintro e6 w6 ⟨G6, A6, c6, F6, rfl, hp6, hF6, k6⟩; have hold := kk.size; (first | (have h9n := RW.ext (RW.ext h9 (by with_reducible repeat first | exact Ext.refl _ | apply xa | apply xd)) k6; have h9c := h9n.cell (i := 0) (by omega); have h9z := h9n.frozen 0; have h9s := h9n.lt) | (have h9n := RW.ext (RW.ext (zab _ (.slice none 0 0)) (by with_reducible repeat first | exact Ext.refl _ | apply xa | apply xd)) k6; (try simp only [World.size_alloc] at h9n); have h9c := h9n.cell (i := 0) (by omega); have h9z := h9n.frozen 0; have h9s := h9n.lt) | skip); replace kk : Ext V2 w6 := (Ext.trans (by with_reducible repeat first | exact kk | apply xa | apply xd) k6); have hsz := kk.size; dsimp only
     refine hKQ.out _ _ ?_ (fun hHeld => ?_)
     ·(try dsimp only); (with_reducible repeat first | exact kk | apply xa | apply xd)
     clear hKQ KQ
     try simp only [Act.put, s1, s2, s3]
     refine wpAnyH_ready (rs := [17]) (by kernel_rfl) (by simp) ?_
     refine AllReadyH.cons rfl (fun KQ hKQ => ?_) AllReadyH.nil
     go_simp
     refine hKQ.out _ _ ?_ (fun hHeld => ?_)
     ·(try dsimp only); (first | ((with_reducible repeat first | exact kk | apply xa | apply xd); done) | (exact Ext.set (p := ⟨_, 0, none⟩) (by with_reducible repeat first | exact kk | apply xa | apply xd) (by show _ ≤ _; (try simp only [World.size_alloc]); omega) _))
     clear hKQ KQ
     try simp only [Act.put, s1, s2, s3]
     refine wpAnyH_done (by kernel_rfl) ?_ _
     (go_wp2_with fail; go_meet; (first | exact ⟨_, rfl, zah kk hp6 (HMK.out _ _ hF5.out hF6.out)⟩ | exact ⟨_, rfl, zag kk h9n (by omega) hp6 (HMK.out _ _ hF5.out hF6.out)⟩))
    refine AllReadyH.cons rfl (fun KQ hKQ => ?_) AllReadyH.nil
    go_simp
    refine hKQ.out _ _ ?_ (fun hHeld => ?_)
    ·(try dsimp only); (with_reducible repeat first | exact kk | apply xa | apply xd)
    clear hKQ KQ
    try simp only [Act.put, s1, s2, s3]
    refine wpAnyH_ready (rs := [11, 14]) (by kernel_rfl) (by simp) ?_
    refine AllReadyH.cons rfl (fun KQ hKQ => ?_) ?_
    ·go_simp
     (with_reducible refine (HJM.out _ ?_ _ ?_).mono ?_); (with_reducible repeat first | exact kk | apply xa | apply xd); (with_reducible exact one_ex (by with_reducible repeat first | exact Ext.refl _ | apply xa | apply xd) (by simp)); rintro e5 w5 ⟨G5, A5, c5, F5, rfl, hp5, hF5, k5⟩; have hold := kk.size; (first | (have hE := RW.ext (RW.ext (zab _ (.slice (some ⟨Gf, 0, none⟩) L L)) (by with_reducible repeat first | exact Ext.refl _ | apply xa | apply xd)) k5; (try simp only [World.size_alloc] at hE)) | skip); (first | (have h9 := RW.ext (RW.ext (zab _ (.slice none 0 0)) (by with_reducible repeat first | exact Ext.refl _ | apply xa | apply xd)) k5; (try simp only [World.size_alloc] at h9)) | skip); replace kk : Ext V2 w5 := (Ext.trans (by with_reducible repeat first | exact kk | apply xa | apply xd) k5); have hsz := kk.size; dsimp only
     refine hKQ.out _ _ ?_ (fun hHeld => ?_)
     ·(try dsimp only); (with_reducible repeat first | exact kk | apply xa | apply xd)
     clear hKQ KQ
     try simp only [Act.put, s1, s2, s3]
     refine wpAnyH_ready (rs := [14]) (by kernel_rfl) (by simp) ?_
     refine AllReadyH.cons rfl (fun KQ hKQ => ?_) AllReadyH.nil
     go_simp
     refine hKQ.out _ _ ?_ (fun hHeld => ?_)
     ·(try dsimp only); (with_reducible repeat first | exact kk | apply xa | apply xd)
     clear hKQ KQ
     try simp only [Act.put, s1, s2, s3]
     refine wpAnyH_ready (rs := [15]) (by kernel_rfl) (by simp) ?_
     refine AllReadyH.cons rfl (fun KQ hKQ => ?_) AllReadyH.nil
     go_simp
     (with_reducible refine (HJA.out _ ?_ _ G5 A5 c5 F5 ?_ (Lib.hid (HLT.out _ hF5.out)) ?_).mono ?_); (with_reducible repeat first | exact kk | apply xa | apply xd); (exact (PM.ext hp5 (by with_reducible repeat first | exact Ext.refl _ | apply xa | apply xd))); (first | (with_reducible exact RW.ext hE (by with_reducible repeat first | exact Ext.refl _ | apply xa | apply xd)) | (with_reducible exact one_ex (by with_reducible repeat first | exact Ext.refl _ | apply xa | apply xd) (by simp))); rintro e6 w6 ⟨G6, A6, c6, F6, rfl, hp6, hF6, k6⟩; have hold := kk.size; (first | (have h9n := RW.ext (RW.ext h9 (by with_reducible repeat first | exact Ext.refl _ | apply xa | apply xd)) k6; have h9c := h9n.cell (i := 0) (by omega); have h9z := h9n.frozen 0; have h9s := h9n.lt) | (have h9n := RW.ext (RW.ext (zab _ (.slice none 0 0)) (by with_reducible repeat first | exact Ext.refl _ | apply xa | apply xd)) k6; (try simp only [World.size_alloc] at h9n); have h9c := h9n.cell (i := 0) (by omega); have h9z := h9n.frozen 0; have h9s := h9n.lt) | skip); replace kk : Ext V2 w6 := (Ext.trans (by with_reducible repeat first | exact kk | apply xa | apply xd) k6); have hsz := kk.size; dsimp only
     refine hKQ.out _ _ ?_ (fun hHeld => ?_)
     ·(try dsimp only); (with_reducible repeat first | exact kk | apply xa | apply xd)
     clear hKQ KQ
     try simp only [Act.put, s1, s2, s3]
     refine wpAnyH_ready (rs := [17]) (by kernel_rfl) (by simp) ?_
     refine AllReadyH.cons rfl (fun KQ hKQ => ?_) AllReadyH.nil
     go_simp
     refine hKQ.out _ _ ?_ (fun hHeld => ?_)
     ·(try dsimp only); (first | ((with_reducible repeat first | exact kk | apply xa | apply xd); done) | (exact Ext.set (p := ⟨_, 0, none⟩) (by with_reducible repeat first | exact kk | apply xa | apply xd) (by show _ ≤ _; (try simp only [World.size_alloc]); omega) _))
     clear hKQ KQ
     try simp only [Act.put, s1, s2, s3]
     refine wpAnyH_done (by kernel_rfl) ?_ _
     (go_wp2_with fail; go_meet; (first | exact ⟨_, rfl, zah kk hp6 (HMK.out _ _ hF5.out hF6.out)⟩ | exact ⟨_, rfl, zag kk h9n (by omega) hp6 (HMK.out _ _ hF5.out hF6.out)⟩))
    refine AllReadyH.cons rfl (fun KQ hKQ => ?_) AllReadyH.nil
    go_simp
    refine hKQ.out _ _ ?_ (fun hHeld => ?_)
    ·(try dsimp only); (with_reducible repeat first | exact kk | apply xa | apply xd)
    clear hKQ KQ
    try simp only [Act.put, s1, s2, s3]
    refine wpAnyH_ready (rs := [11]) (by kernel_rfl) (by simp) ?_
    refine AllReadyH.cons rfl (fun KQ hKQ => ?_) AllReadyH.nil
    go_simp
    (with_reducible refine (HJM.out _ ?_ _ ?_).mono ?_); (with_reducible repeat first | exact kk | apply xa | apply xd); (with_reducible exact one_ex (by with_reducible repeat first | exact Ext.refl _ | apply xa | apply xd) (by simp)); rintro e5 w5 ⟨G5, A5, c5, F5, rfl, hp5, hF5, k5⟩; have hold := kk.size; (first | (have hE := RW.ext (RW.ext (zab _ (.slice (some ⟨Gf, 0, none⟩) L L)) (by with_reducible repeat first | exact Ext.refl _ | apply xa | apply xd)) k5; (try simp only [World.size_alloc] at hE)) | skip); (first | (have h9 := RW.ext (RW.ext (zab _ (.slice none 0 0)) (by with_reducible repeat first | exact Ext.refl _ | apply xa | apply xd)) k5; (try simp only [World.size_alloc] at h9)) | skip); replace kk : Ext V2 w5 := (Ext.trans (by with_reducible repeat first | exact kk | apply xa | apply xd) k5); have hsz := kk.size; dsimp only
    refine hKQ.out _ _ ?_ (fun hHeld => ?_)
    ·(try dsimp only); (with_reducible repeat first | exact kk | apply xa | apply xd)
    clear hKQ KQ
    try simp only [Act.put, s1, s2, s3]
    refine wpAnyH_ready (rs := [15]) (by kernel_rfl) (by simp) ?_
    refine AllReadyH.cons rfl (fun KQ hKQ => ?_) AllReadyH.nil
    go_simp
    (with_reducible refine (HJA.out _ ?_ _ G5 A5 c5 F5 ?_ (Lib.hid (HLT.out _ hF5.out)) ?_).mono ?_); (with_reducible repeat first | exact kk | apply xa | apply xd); (exact (PM.ext hp5 (by with_reducible repeat first | exact Ext.refl _ | apply xa | apply xd))); (first | (with_reducible exact RW.ext hE (by with_reducible repeat first | exact Ext.refl _ | apply xa | apply xd)) | (with_reducible exact one_ex (by with_reducible repeat first | exact Ext.refl _ | apply xa | apply xd) (by simp))); rintro e6 w6 ⟨G6, A6, c6, F6, rfl, hp6, hF6, k6⟩; have hold := kk.size; (first | (have h9n := RW.ext (RW.ext h9 (by with_reducible repeat first | exact Ext.refl _ | apply xa | apply xd)) k6; have h9c := h9n.cell (i := 0) (by omega); have h9z := h9n.frozen 0; have h9s := h9n.lt) | (have h9n := RW.ext (RW.ext (zab _ (.slice none 0 0)) (by with_reducible repeat first | exact Ext.refl _ | apply xa | apply xd)) k6; (try simp only [World.size_alloc] at h9n); have h9c := h9n.cell (i := 0) (by omega); have h9z := h9n.frozen 0; have h9s := h9n.lt) | skip); replace kk : Ext V2 w6 := (Ext.trans (by with_reducible repeat first | exact kk | apply xa | apply xd) k6); have hsz := kk.size; dsimp only
    refine hKQ.out _ _ ?_ (fun hHeld => ?_)
    ·(try dsimp only); (with_reducible repeat first | exact kk | apply xa | apply xd)
    clear hKQ KQ
    try simp only [Act.put, s1, s2, s3]
    refine wpAnyH_ready (rs := [17]) (by kernel_rfl) (by simp) ?_
    refine AllReadyH.cons rfl (fun KQ hKQ => ?_) AllReadyH.nil
    go_simp
    refine hKQ.out _ _ ?_ (fun hHeld => ?_)
    ·(try dsimp only); (first | ((with_reducible repeat first | exact kk | apply xa | apply xd); done) | (exact Ext.set (p := ⟨_, 0, none⟩) (by with_reducible repeat first | exact kk | apply xa | apply xd) (by show _ ≤ _; (try simp only [World.size_alloc]); omega) _))
    clear hKQ KQ
    try simp only [Act.put, s1, s2, s3]
    refine wpAnyH_done (by kernel_rfl) ?_ _
    (go_wp2_with fail; go_meet; (first | exact ⟨_, rfl, zah kk hp6 (HMK.out _ _ hF5.out hF6.out)⟩ | exact ⟨_, rfl, zag kk h9n (by omega) hp6 (HMK.out _ _ hF5.out hF6.out)⟩))
   refine AllReadyH.cons rfl (fun KQ hKQ => ?_) ?_
   ·go_simp
    refine hKQ.out _ _ ?_ (fun hHeld => ?_)
    ·(try dsimp only); (with_reducible repeat first | exact kk | apply xa | apply xd)
    clear hKQ KQ
    try simp only [Act.put, s1, s2, s3]
    refine wpAnyH_ready (rs := [10, 16]) (by kernel_rfl) (by simp) ?_
    refine AllReadyH.cons rfl (fun KQ hKQ => ?_) ?_
    ·go_simp
     refine hKQ.out _ _ ?_ (fun hHeld => ?_)
     ·(try dsimp only); (with_reducible repeat first | exact kk | apply xa | apply xd)
     clear hKQ KQ
     try simp only [Act.put, s1, s2, s3]
     refine wpAnyH_ready (rs := [11, 16]) (by kernel_rfl) (by simp) ?_
     refine AllReadyH.cons rfl (fun KQ hKQ => ?_) ?_
     ·go_simp
      (with_reducible refine (HJM.out _ ?_ _ ?_).mono ?_); (with_reducible repeat first | exact kk | apply xa | apply xd); (with_reducible exact one_ex (by with_reducible repeat first | exact Ext.refl _ | apply xa | apply xd) (by simp)); rintro e5 w5 ⟨G5, A5, c5, F5, rfl, hp5, hF5, k5⟩; have hold := kk.size; (first | (have hE := RW.ext (RW.ext (zab _ (.slice (some ⟨Gf, 0, none⟩) L L)) (by with_reducible repeat first | exact Ext.refl _ | apply xa | apply xd)) k5; (try simp only [World.size_alloc] at hE)) | skip); (first | (have h9 := RW.ext (RW.ext (zab _ (.slice none 0 0)) (by with_reducible repeat first | exact Ext.refl _ | apply xa | apply xd)) k5; (try simp only [World.size_alloc] at h9)) | skip); replace kk : Ext V2 w5 := (Ext.trans (by with_reducible repeat first | exact kk | apply xa | apply xd) k5); have hsz := kk.size; dsimp only
      refine hKQ.out _ _ ?_ (fun hHeld => ?_)
      ·(try dsimp only); (with_reducible repeat first | exact kk | apply xa | apply xd)
      clear hKQ KQ
      try simp only [Act.put, s1, s2, s3]
      refine wpAnyH_ready (rs := [15, 16]) (by kernel_rfl) (by simp) ?_
      refine AllReadyH.cons rfl (fun KQ hKQ => ?_) ?_
      ·go_simp
       (with_reducible refine (HJA.out _ ?_ _ G5 A5 c5 F5 ?_ (Lib.hid (HLT.out _ hF5.out)) ?_).mono ?_); (with_reducible repeat first | exact kk | apply xa | apply xd); (exact (PM.ext hp5 (by with_reducible repeat first | exact Ext.refl _ | apply xa | apply xd))); (first | (with_reducible exact RW.ext hE (by with_reducible repeat first | exact Ext.refl _ | apply xa | apply xd)) | (with_reducible exact one_ex (by with_reducible repeat first | exact Ext.refl _ | apply xa | apply xd) (by simp))); rintro e6 w6 ⟨G6, A6, c6, F6, rfl, hp6, hF6, k6⟩; have hold := kk.size; (first | (have h9n := RW.ext (RW.ext h9 (by with_reducible repeat first | exact Ext.refl _ | apply xa | apply xd)) k6; have h9c := h9n.cell (i := 0) (by omega); have h9z := h9n.frozen 0; have h9s := h9n.lt) | (have h9n := RW.ext (RW.ext (zab _ (.slice none 0 0)) (by with_reducible repeat first | exact Ext.refl _ | apply xa | apply xd)) k6; (try simp only [World.size_alloc] at h9n); have h9c := h9n.cell (i := 0) (by omega); have h9z := h9n.frozen 0; have h9s := h9n.lt) | skip); replace kk : Ext V2 w6 := (Ext.trans (by with_reducible repeat first | exact kk | apply xa | apply xd) k6); have hsz := kk.size; dsimp only
       refine hKQ.out _ _ ?_ (fun hHeld => ?_)
       ·(try dsimp only); (with_reducible repeat first | exact kk | apply xa | apply xd)
       clear hKQ KQ
       try simp only [Act.put, s1, s2, s3]
       refine wpAnyH_ready (rs := [16]) (by kernel_rfl) (by simp) ?_
       refine AllReadyH.cons rfl (fun KQ hKQ => ?_) AllReadyH.nil
       go_simp
       refine hKQ.out _ _ ?_ (fun hHeld => ?_)
       ·(try dsimp only); (with_reducible repeat first | exact kk | apply xa | apply xd)
       clear hKQ KQ
       try simp only [Act.put, s1, s2, s3]
       refine wpAnyH_ready (rs := [17]) (by kernel_rfl) (by simp) ?_
       refine AllReadyH.cons rfl (fun KQ hKQ => ?_) AllReadyH.nil
       go_simp
       refine hKQ.out _ _ ?_ (fun hHeld => ?_)
       ·(try dsimp only); (first | ((with_reducible repeat first | exact kk | apply xa | apply xd); done) | (exact Ext.set (p := ⟨_, 0, none⟩) (by with_reducible repeat first | exact kk | apply xa | apply xd) (by show _ ≤ _; (try simp only [World.size_alloc]); omega) _))
       clear hKQ KQ
       try simp only [Act.put, s1, s2, s3]
       refine wpAnyH_done (by kernel_rfl) ?_ _
       (go_wp2_with fail; go_meet; (first | exact ⟨_, rfl, zah kk hp6 (HMK.out _ _ hF5.out hF6.out)⟩ | exact ⟨_, rfl, zag kk h9n (by omega) hp6 (HMK.out _ _ hF5.out hF6.out)⟩))
      refine AllReadyH.cons rfl (fun KQ hKQ => ?_) AllReadyH.nil
      go_simp
      refine hKQ.out _ _ ?_ (fun hHeld => ?_)
      ·(try dsimp only); (with_reducible repeat first | exact kk | apply xa | apply xd)
      clear hKQ KQ
      try simp only [Act.put, s1, s2, s3]
      refine wpAnyH_ready (rs := [15]) (by kernel_rfl) (by simp) ?_
      refine AllReadyH.cons rfl (fun KQ hKQ => ?_) AllReadyH.nil
      go_simp
      (with_reducible refine (HJA.out _ ?_ _ G5 A5 c5 F5 ?_ (Lib.hid (HLT.out _ hF5.out)) ?_).mono ?_); (with_reducible repeat first | exact kk | apply xa | apply xd); (exact (PM.ext hp5 (by with_reducible repeat first | exact Ext.refl _ | apply xa | apply xd))); (first | (with_reducible exact RW.ext hE (by with_reducible repeat first | exact Ext.refl _ | apply xa | apply xd)) | (with_reducible exact one_ex (by with_reducible repeat first | exact Ext.refl _ | apply xa | apply xd) (by simp))); rintro e6 w6 ⟨G6, A6, c6, F6, rfl, hp6, hF6, k6⟩; have hold := kk.size; (first | (have h9n := RW.ext (RW.ext h9 (by with_reducible repeat first | exact Ext.refl _ | apply xa | apply xd)) k6; have h9c := h9n.cell (i := 0) (by omega); have h9z := h9n.frozen 0; have h9s := h9n.lt) | (have h9n := RW.ext (RW.ext (zab _ (.slice none 0 0)) (by with_reducible repeat first | exact Ext.refl _ | apply xa | apply xd)) k6; (try simp only [World.size_alloc] at h9n); have h9c := h9n.cell (i := 0) (by omega); have h9z := h9n.frozen 0; have h9s := h9n.lt) | skip); replace kk : Ext V2 w6 := (Ext.trans (by with_reducible repeat first | exact kk | apply xa | apply xd) k6); have hsz := kk.size; dsimp only
      refine hKQ.out _ _ ?_ (fun hHeld => ?_)
      ·(try dsimp only); (with_reducible repeat first | exact kk | apply xa | apply xd)
      clear hKQ KQ
      try simp only [Act.put, s1, s2, s3]
      refine wpAnyH_ready (rs := [17]) (by kernel_rfl) (by simp) ?_
      refine AllReadyH.cons rfl (fun KQ hKQ => ?_) AllReadyH.nil
      go_simp
      refine hKQ.out _ _ ?_ (fun hHeld => ?_)
      ·(try dsimp only); (first | ((with_reducible repeat first | exact kk | apply xa | apply xd); done) | (exact Ext.set (p := ⟨_, 0, none⟩) (by with_reducible repeat first | exact kk | apply xa | apply xd) (by show _ ≤ _; (try simp only [World.size_alloc]); omega) _))
      clear hKQ KQ
      try simp only [Act.put, s1, s2, s3]
      refine wpAnyH_done (by kernel_rfl) ?_ _
      (go_wp2_with fail; go_meet; (first | exact ⟨_, rfl, zah kk hp6 (HMK.out _ _ hF5.out hF6.out)⟩ | exact ⟨_, rfl, zag kk h9n (by omega) hp6 (HMK.out _ _ hF5.out hF6.out)⟩))
     refine AllReadyH.cons rfl (fun KQ hKQ => ?_) AllReadyH.nil
     go_simp
     refine hKQ.out _ _ ?_ (fun hHeld => ?_)
     ·(try dsimp only); (with_reducible repeat first | exact kk | apply xa | apply xd)
     clear hKQ KQ
     try simp only [Act.put, s1, s2, s3]
     refine wpAnyH_ready (rs := [11]) (by kernel_rfl) (by simp) ?_
     refine AllReadyH.cons rfl (fun KQ hKQ => ?_) AllReadyH.nil
     go_simp
     (with_reducible refine (HJM.out _ ?_ _ ?_).mono ?_); (with_reducible repeat first | exact kk | apply xa | apply xd); (with_reducible exact one_ex (by with_reducible repeat first | exact Ext.refl _ | apply xa | apply xd) (by simp)); rintro e5 w5 ⟨G5, A5, c5, F5, rfl, hp5, hF5, k5⟩; have hold := kk.size; (first | (have hE := RW.ext (RW.ext (zab _ (.slice (some ⟨Gf, 0, none⟩) L L)) (by with_reducible repeat first | exact Ext.refl _ | apply xa | apply xd)) k5; (try simp only [World.size_alloc] at hE)) | skip); (first | (have h9 := RW.ext (RW.ext (zab _ (.slice none 0 0)) (by with_reducible repeat first | exact Ext.refl _ | apply xa | apply xd)) k5; (try simp only [World.size_alloc] at h9)) | skip); replace kk : Ext V2 w5 := (Ext.trans (by with_reducible repeat first | exact kk | apply xa | apply xd) k5); have hsz := kk.size; dsimp only
     refine hKQ.out _ _ ?_ (fun hHeld => ?_)
     ·(try dsimp only); (with_reducible repeat first | exact kk | apply xa | apply xd)
     clear hKQ KQ
     try simp only [Act.put, s1, s2, s3]
     refine wpAnyH_ready (rs := [15]) (by kernel_rfl) (by simp) ?_
     refine AllReadyH.cons rfl (fun KQ hKQ => ?_) AllReadyH.nil
     go_simp
     (with_reducible refine (HJA.out _ ?_ _ G5 A5 c5 F5 ?_ (Lib.hid (HLT.out _ hF5.out)) ?_).mono ?_); (with_reducible repeat first | exact kk | apply xa | apply xd); (exact (PM.ext hp5 (by with_reducible repeat first | exact Ext.refl _ | apply xa | apply xd))); (first | (with_reducible exact RW.ext hE (by with_reducible repeat first | exact Ext.refl _ | apply xa | apply xd)) | (with_reducible exact one_ex (by with_reducible repeat first | exact Ext.refl _ | apply xa | apply xd) (by simp))); rintro e6 w6 ⟨G6, A6, c6, F6, rfl, hp6, hF6, k6⟩; have hold := kk.size; (first | (have h9n := RW.ext (RW.ext h9 (by with_reducible repeat first | exact Ext.refl _ | apply xa | apply xd)) k6; have h9c := h9n.cell (i := 0) (by omega); have h9z := h9n.frozen 0; have h9s := h9n.lt) | (have h9n := RW.ext (RW.ext (zab _ (.slice none 0 0)) (by with_reducible repeat first | exact Ext.refl _ | apply xa | apply xd)) k6; (try simp only [World.size_alloc] at h9n); have h9c := h9n.cell (i := 0) (by omega); have h9z := h9n.frozen 0; have h9s := h9n.lt) | skip); replace kk : Ext V2 w6 := (Ext.trans (by with_reducible repeat first | exact kk | apply xa | apply xd) k6); have hsz := kk.size; dsimp only
     refine hKQ.out _ _ ?_ (fun hHeld => ?_)
     ·(try dsimp only); (with_reducible repeat first | exact kk | apply xa | apply xd)
     clear hKQ KQ
     try simp only [Act.put, s1, s2, s3]
     refine wpAnyH_ready (rs := [17]) (by kernel_rfl) (by simp) ?_
     refine AllReadyH.cons rfl (fun KQ hKQ => ?_) AllReadyH.nil
     go_simp
     refine hKQ.out _ _ ?_ (fun hHeld => ?_)
     ·(try dsimp only); (first | ((with_reducible repeat first | exact kk | apply xa | apply xd); done) | (exact Ext.set (p := ⟨_, 0, none⟩) (by with_reducible repeat first | exact kk | apply xa | apply xd) (by show _ ≤ _; (try simp only [World.size_alloc]); omega) _))
     clear hKQ KQ
     try simp only [Act.put, s1, s2, s3]
     refine wpAnyH_done (by kernel_rfl) ?_ _
     (go_wp2_with fail; go_meet; (first | exact ⟨_, rfl, zah kk hp6 (HMK.out _ _ hF5.out hF6.out)⟩ | exact ⟨_, rfl, zag kk h9n (by omega) hp6 (HMK.out _ _ hF5.out hF6.out)⟩))
    refine AllReadyH.cons rfl (fun KQ hKQ => ?_) AllReadyH.nil
    go_simp
    refine hKQ.out _ _ ?_ (fun hHeld => ?_)
    ·(try dsimp only); (with_reducible repeat first | exact kk | apply xa | apply xd)
    clear hKQ KQ
    try simp only [Act.put, s1, s2, s3]
    refine wpAnyH_ready (rs := [10]) (by kernel_rfl) (by simp) ?_
    refine AllReadyH.cons rfl (fun KQ hKQ => ?_) AllReadyH.nil
    go_simp
    refine hKQ.out _ _ ?_ (fun hHeld => ?_)
    ·(try dsimp only); (with_reducible repeat first | exact kk | apply xa | apply xd)
    clear hKQ KQ
    try simp only [Act.put, s1, s2, s3]
    refine wpAnyH_ready (rs := [11]) (by kernel_rfl) (by simp) ?_
    refine AllReadyH.cons rfl (fun KQ hKQ => ?_) AllReadyH.nil
    go_simp
    (with_reducible refine (HJM.out _ ?_ _ ?_).mono ?_); (with_reducible repeat first | exact kk | apply xa | apply xd); (with_reducible exact one_ex (by with_reducible repeat first | exact Ext.refl _ | apply xa | apply xd) (by simp)); rintro e5 w5 ⟨G5, A5, c5, F5, rfl, hp5, hF5, k5⟩; have hold := kk.size; (first | (have hE := RW.ext (RW.ext (zab _ (.slice (some ⟨Gf, 0, none⟩) L L)) (by with_reducible repeat first | exact Ext.refl _ | apply xa | apply xd)) k5; (try simp only [World.size_alloc] at hE)) | skip); (first | (have h9 := RW.ext (RW.ext (zab _ (.slice none 0 0)) (by with_reducible repeat first | exact Ext.refl _ | apply xa | apply xd)) k5; (try simp only [World.size_alloc] at h9)) | skip); replace kk : Ext V2 w5 := (Ext.trans (by with_reducible repeat first | exact kk | apply xa | apply xd) k5); have hsz := kk.size; dsimp only
    refine hKQ.out _ _ ?_ (fun hHeld => ?_)
    ·(try dsimp only); (with_reducible repeat first | exact kk | apply xa | apply xd)
    clear hKQ KQ
    try simp only [Act.put, s1, s2, s3]
    refine wpAnyH_ready (rs := [15]) (by kernel_rfl) (by simp) ?_
    refine AllReadyH.cons rfl (fun KQ hKQ => ?_) AllReadyH.nil
    go_simp
    (with_reducible refine (HJA.out _ ?_ _ G5 A5 c5 F5 ?_ (Lib.hid (HLT.out _ hF5.out)) ?_).mono ?_); (with_reducible repeat first | exact kk | apply xa | apply xd); (exact (PM.ext hp5 (by with_reducible repeat first | exact Ext.refl _ | apply xa | apply xd))); (first | (with_reducible exact RW.ext hE (by with_reducible repeat first | exact Ext.refl _ | apply xa | apply xd)) | (with_reducible exact one_ex (by with_reducible repeat first | exact Ext.refl _ | apply xa | apply xd) (by simp))); rintro e6 w6 ⟨G6, A6, c6, F6, rfl, hp6, hF6, k6⟩; have hold := kk.size; (first | (have h9n := RW.ext (RW.ext h9 (by with_reducible repeat first | exact Ext.refl _ | apply xa | apply xd)) k6; have h9c := h9n.cell (i := 0) (by omega); have h9z := h9n.frozen 0; have h9s := h9n.lt) | (have h9n := RW.ext (RW.ext (zab _ (.slice none 0 0)) (by with_reducible repeat first | exact Ext.refl _ | apply xa | apply xd)) k6; (try simp only [World.size_alloc] at h9n); have h9c := h9n.cell (i := 0) (by omega); have h9z := h9n.frozen 0; have h9s := h9n.lt) | skip); replace kk : Ext V2 w6 := (Ext.trans (by with_reducible repeat first | exact kk | apply xa | apply xd) k6); have hsz := kk.size; dsimp only
    refine hKQ.out _ _ ?_ (fun hHeld => ?_)
    ·(try dsimp only); (with_reducible repeat first | exact kk | apply xa | apply xd)
    clear hKQ KQ
    try simp only [Act.put, s1, s2, s3]
    refine wpAnyH_ready (rs := [17]) (by kernel_rfl) (by simp) ?_
    refine AllReadyH.cons rfl (fun KQ hKQ => ?_) AllReadyH.nil
    go_simp
    refine hKQ.out _ _ ?_ (fun hHeld => ?_)
    ·(try dsimp only); (first | ((with_reducible repeat first | exact kk | apply xa | apply xd); done) | (exact Ext.set (p := ⟨_, 0, none⟩) (by with_reducible repeat first | exact kk | apply xa | apply xd) (by show _ ≤ _; (try simp only [World.size_alloc]); omega) _))
    clear hKQ KQ
    try simp only [Act.put, s1, s2, s3]
    refine wpAnyH_done (by kernel_rfl) ?_ _
    (go_wp2_with fail; go_meet; (first | exact ⟨_, rfl, zah kk hp6 (HMK.out _ _ hF5.out hF6.out)⟩ | exact ⟨_, rfl, zag kk h9n (by omega) hp6 (HMK.out _ _ hF5.out hF6.out)⟩))
   refine AllReadyH.cons rfl (fun KQ hKQ => ?_) AllReadyH.nil
   go_simp
   refine hKQ.out _ _ ?_ (fun hHeld => ?_)
   ·(try dsimp only); (with_reducible repeat first | exact kk | apply xa | apply xd)
   clear hKQ KQ
   try simp only [Act.put, s1, s2, s3]
   refine wpAnyH_ready (rs := [10, 14]) (by kernel_rfl) (by simp) ?_
   refine AllReadyH.cons rfl (fun KQ hKQ => ?_) ?_
   ·go_simp
    refine hKQ.out _ _ ?_ (fun hHeld => ?_)
    ·(try dsimp only); (with_reducible repeat first | exact kk | apply xa | apply xd)
    clear hKQ KQ
    try simp only [Act.put, s1, s2, s3]
    refine wpAnyH_ready (rs := [11, 14]) (by kernel_rfl) (by simp) ?_
    refine AllReadyH.cons rfl (fun KQ hKQ => ?_) ?_
    ·go_simp
     (with_reducible refine (HJM.out _ ?_ _ ?_).mono ?_); (with_reducible repeat first | exact kk | apply xa | apply xd); (with_reducible exact one_ex (by with_reducible repeat first | exact Ext.refl _ | apply xa | apply xd) (by simp)); rintro e5 w5 ⟨G5, A5, c5, F5, rfl, hp5, hF5, k5⟩; have hold := kk.size; (first | (have hE := RW.ext (RW.ext (zab _ (.slice (some ⟨Gf, 0, none⟩) L L)) (by with_reducible repeat first | exact Ext.refl _ | apply xa | apply xd)) k5; (try simp only [World.size_alloc] at hE)) | skip); (first | (have h9 := RW.ext (RW.ext (zab _ (.slice none 0 0)) (by with_reducible repeat first | exact Ext.refl _ | apply xa | apply xd)) k5; (try simp only [World.size_alloc] at h9)) | skip); replace kk : Ext V2 w5 := (Ext.trans (by with_reducible repeat first | exact kk | apply xa | apply xd) k5); have hsz := kk.size; dsimp only
     refine hKQ.out _ _ ?_ (fun hHeld => ?_)
     ·(try dsimp only); (with_reducible repeat first | exact kk | apply xa | apply xd)
     clear hKQ KQ
     try simp only [Act.put, s1, s2, s3]
     refine wpAnyH_ready (rs := [14]) (by kernel_rfl) (by simp) ?_
     refine AllReadyH.cons rfl (fun KQ hKQ => ?_) AllReadyH.nil
     go_simp
     refine hKQ.out _ _ ?_ (fun hHeld => ?_)
     ·(try dsimp only); (with_reducible repeat first | exact kk | apply xa | apply xd)
     clear hKQ KQ
     try simp only [Act.put, s1, s2, s3]
     refine wpAnyH_ready (rs := [15]) (by kernel_rfl) (by simp) ?_
     refine AllReadyH.cons rfl (fun KQ hKQ => ?_) AllReadyH.nil
     go_simp
     (with_reducible refine (HJA.out _ ?_ _ G5 A5 c5 F5 ?_ (Lib.hid (HLT.out _ hF5.out)) ?_).mono ?_); (with_reducible repeat first | exact kk | apply xa | apply xd); (exact (PM.ext hp5 (by with_reducible repeat first | exact Ext.refl _ | apply xa | apply xd))); (first | (with_reducible exact RW.ext hE (by with_reducible repeat first | exact Ext.refl _ | apply xa | apply xd)) | (with_reducible exact one_ex (by with_reducible repeat first | exact Ext.refl _ | apply xa | apply xd) (by simp))); rintro e6 w6 ⟨G6, A6, c6, F6, rfl, hp6, hF6, k6⟩; have hold := kk.size; (first | (have h9n := RW.ext (RW.ext h9 (by with_reducible repeat first | exact Ext.refl _ | apply xa | apply xd)) k6; have h9c := h9n.cell (i := 0) (by omega); have h9z := h9n.frozen 0; have h9s := h9n.lt) | (have h9n := RW.ext (RW.ext (zab _ (.slice none 0 0)) (by with_reducible repeat first | exact Ext.refl _ | apply xa | apply xd)) k6; (try simp only [World.size_alloc] at h9n); have h9c := h9n.cell (i := 0) (by omega); have h9z := h9n.frozen 0; have h9s := h9n.lt) | skip); replace kk : Ext V2 w6 := (Ext.trans (by with_reducible repeat first | exact kk | apply xa | apply xd) k6); have hsz := kk.size; dsimp only
     refine hKQ.out _ _ ?_ (fun hHeld => ?_)
     ·(try dsimp only); (with_reducible repeat first | exact kk | apply xa | apply xd)
     clear hKQ KQ
     try simp only [Act.put, s1, s2, s3]
     refine wpAnyH_ready (rs := [17]) (by kernel_rfl) (by simp) ?_
     refine AllReadyH.cons rfl (fun KQ hKQ => ?_) AllReadyH.nil
     go_simp
     refine hKQ.out _ _ ?_ (fun hHeld => ?_)
     ·(try dsimp only); (first | ((with_reducible repeat first | exact kk | apply xa | apply xd); done) | (exact Ext.set (p := ⟨_, 0, none⟩) (by with_reducible repeat first | exact kk | apply xa | apply xd) (by show _ ≤ _; (try simp only [World.size_alloc]); omega) _))
     clear hKQ KQ
     try simp only [Act.put, s1, s2, s3]
     refine wpAnyH_done (by kernel_rfl) ?_ _
     (go_wp2_with fail; go_meet; (first | exact ⟨_, rfl, zah kk hp6 (HMK.out _ _ hF5.out hF6.out)⟩ | exact ⟨_, rfl, zag kk h9n (by omega) hp6 (HMK.out _ _ hF5.out hF6.out)⟩))
    refine AllReadyH.cons rfl (fun KQ hKQ => ?_) AllReadyH.nil
    go_simp
    refine hKQ.out _ _ ?_ (fun hHeld => ?_)
    ·(try dsimp only); (with_reducible repeat first | exact kk | apply xa | apply xd)
    clear hKQ KQ
    try simp only [Act.put, s1, s2, s3]
    refine wpAnyH_ready (rs := [11]) (by kernel_rfl) (by simp) ?_
    refine AllReadyH.cons rfl (fun KQ hKQ => ?_) AllReadyH.nil
    go_simp
    (with_reducible refine (HJM.out _ ?_ _ ?_).mono ?_); (with_reducible repeat first | exact kk | apply xa | apply xd); (with_reducible exact one_ex (by with_reducible repeat first | exact Ext.refl _ | apply xa | apply xd) (by simp)); rintro e5 w5 ⟨G5, A5, c5, F5, rfl, hp5, hF5, k5⟩; have hold := kk.size; (first | (have hE := RW.ext (RW.ext (zab _ (.slice (some ⟨Gf, 0, none⟩) L L)) (by with_reducible repeat first | exact Ext.refl _ | apply xa | apply xd)) k5; (try simp only [World.size_alloc] at hE)) | skip); (first | (have h9 := RW.ext (RW.ext (zab _ (.slice none 0 0)) (by with_reducible repeat first | exact Ext.refl _ | apply xa | apply xd)) k5; (try simp only [World.size_alloc] at h9)) | skip); replace kk : Ext V2 w5 := (Ext.trans (by with_reducible repeat first | exact kk | apply xa | apply xd) k5); have hsz := kk.size; dsimp only
    refine hKQ.out _ _ ?_ (fun hHeld => ?_)
    ·(try dsimp only); (with_reducible repeat first | exact kk | apply xa | apply xd)
    clear hKQ KQ
    try simp only [Act.put, s1, s2, s3]
    refine wpAnyH_ready (rs := [15]) (by kernel_rfl) (by simp) ?_
    refine AllReadyH.cons rfl (fun KQ hKQ => ?_) AllReadyH.nil
    go_simp
    (with_reducible refine (HJA.out _ ?_ _ G5 A5 c5 F5 ?_ (Lib.hid (HLT.out _ hF5.out)) ?_).mono ?_); (with_reducible repeat first | exact kk | apply xa | apply xd); (exact (PM.ext hp5 (by with_reducible repeat first | exact Ext.refl _ | apply xa | apply xd))); (first | (with_reducible exact RW.ext hE (by with_reducible repeat first | exact Ext.refl _ | apply xa | apply xd)) | (with_reducible exact one_ex (by with_reducible repeat first | exact Ext.refl _ | apply xa | apply xd) (by simp))); rintro e6 w6 ⟨G6, A6, c6, F6, rfl, hp6, hF6, k6⟩; have hold := kk.size; (first | (have h9n := RW.ext (RW.ext h9 (by with_reducible repeat first | exact Ext.refl _ | apply xa | apply xd)) k6; have h9c := h9n.cell (i := 0) (by omega); have h9z := h9n.frozen 0; have h9s := h9n.lt) | (have h9n := RW.ext (RW.ext (zab _ (.slice none 0 0)) (by with_reducible repeat first | exact Ext.refl _ | apply xa | apply xd)) k6; (try simp only [World.size_alloc] at h9n); have h9c := h9n.cell (i := 0) (by omega); have h9z := h9n.frozen 0; have h9s := h9n.lt) | skip); replace kk : Ext V2 w6 := (Ext.trans (by with_reducible repeat first | exact kk | apply xa | apply xd) k6); have hsz := kk.size; dsimp only
    refine hKQ.out _ _ ?_ (fun hHeld => ?_)
    ·(try dsimp only); (with_reducible repeat first | exact kk | apply xa | apply xd)
    clear hKQ KQ
    try simp only [Act.put, s1, s2, s3]
    refine wpAnyH_ready (rs := [17]) (by kernel_rfl) (by simp) ?_
    refine AllReadyH.cons rfl (fun KQ hKQ => ?_) AllReadyH.nil
    go_simp
    refine hKQ.out _ _ ?_ (fun hHeld => ?_)
    ·(try dsimp only); (first | ((with_reducible repeat first | exact kk | apply xa | apply xd); done) | (exact Ext.set (p := ⟨_, 0, none⟩) (by with_reducible repeat first | exact kk | apply xa | apply xd) (by show _ ≤ _; (try simp only [World.size_alloc]); omega) _))
    clear hKQ KQ
    try simp only [Act.put, s1, s2, s3]
    refine wpAnyH_done (by kernel_rfl) ?_ _
    (go_wp2_with fail; go_meet; (first | exact ⟨_, rfl, zah kk hp6 (HMK.out _ _ hF5.out hF6.out)⟩ | exact ⟨_, rfl, zag kk h9n (by omega) hp6 (HMK.out _ _ hF5.out hF6.out)⟩))
   refine AllReadyH.cons rfl (fun KQ hKQ => ?_) AllReadyH.nil
   go_simp
   refine hKQ.out _ _ ?_ (fun hHeld => ?_)
   ·(try dsimp only); (with_reducible repeat first | exact kk | apply xa | apply xd)
   clear hKQ KQ
   try simp only [Act.put, s1, s2, s3]
   refine wpAnyH_ready (rs := [10]) (by kernel_rfl) (by simp) ?_
   refine AllReadyH.cons rfl (fun KQ hKQ => ?_) AllReadyH.nil
   go_simp
   refine hKQ.out _ _ ?_ (fun hHeld => ?_)
   ·(try dsimp only); (with_reducible repeat first | exact kk | apply xa | apply xd)
   clear hKQ KQ
   try simp only [Act.put, s1, s2, s3]
   refine wpAnyH_ready (rs := [11]) (by kernel_rfl) (by simp) ?_
   refine AllReadyH.cons rfl (fun KQ hKQ => ?_) AllReadyH.nil
   go_simp
   (with_reducible refine (HJM.out _ ?_ _ ?_).mono ?_); (with_reducible repeat first | exact kk | apply xa | apply xd); (with_reducible exact one_ex (by with_reducible repeat first | exact Ext.refl _ | apply xa | apply xd) (by simp)); rintro e5 w5 ⟨G5, A5, c5, F5, rfl, hp5, hF5, k5⟩; have hold := kk.size; (first | (have hE := RW.ext (RW.ext (zab _ (.slice (some ⟨Gf, 0, none⟩) L L)) (by with_reducible repeat first | exact Ext.refl _ | apply xa | apply xd)) k5; (try simp only [World.size_alloc] at hE)) | skip); (first | (have h9 := RW.ext (RW.ext (zab _ (.slice none 0 0)) (by with_reducible repeat first | exact Ext.refl _ | apply xa | apply xd)) k5; (try simp only [World.size_alloc] at h9)) | skip); replace kk : Ext V2 w5 := (Ext.trans (by with_reducible repeat first | exact kk | apply xa | apply xd) k5); have hsz := kk.size; dsimp only
   refine hKQ.out _ _ ?_ (fun hHeld => ?_)
   ·(try dsimp only); (with_reducible repeat first | exact kk | apply xa | apply xd)
   clear hKQ KQ
   try simp only [Act.put, s1, s2, s3]
   refine wpAnyH_ready (rs := [15]) (by kernel_rfl) (by simp) ?_
   refine AllReadyH.cons rfl (fun KQ hKQ => ?_) AllReadyH.nil
   go_simp
   (with_reducible refine (HJA.out _ ?_ _ G5 A5 c5 F5 ?_ (Lib.hid (HLT.out _ hF5.out)) ?_).mono ?_); (with_reducible repeat first | exact kk | apply xa | apply xd); (exact (PM.ext hp5 (by with_reducible repeat first | exact Ext.refl _ | apply xa | apply xd))); (first | (with_reducible exact RW.ext hE (by with_reducible repeat first | exact Ext.refl _ | apply xa | apply xd)) | (with_reducible exact one_ex (by with_reducible repeat first | exact Ext.refl _ | apply xa | apply xd) (by simp))); rintro e6 w6 ⟨G6, A6, c6, F6, rfl, hp6, hF6, k6⟩; have hold := kk.size; (first | (have h9n := RW.ext (RW.ext h9 (by with_reducible repeat first | exact Ext.refl _ | apply xa | apply xd)) k6; have h9c := h9n.cell (i := 0) (by omega); have h9z := h9n.frozen 0; have h9s := h9n.lt) | (have h9n := RW.ext (RW.ext (zab _ (.slice none 0 0)) (by with_reducible repeat first | exact Ext.refl _ | apply xa | apply xd)) k6; (try simp only [World.size_alloc] at h9n); have h9c := h9n.cell (i := 0) (by omega); have h9z := h9n.frozen 0; have h9s := h9n.lt) | skip); replace kk : Ext V2 w6 := (Ext.trans (by with_reducible repeat first | exact kk | apply xa | apply xd) k6); have hsz := kk.size; dsimp only
   refine hKQ.out _ _ ?_ (fun hHeld => ?_)
   ·(try dsimp only); (with_reducible repeat first | exact kk | apply xa | apply xd)
   clear hKQ KQ
   try simp only [Act.put, s1, s2, s3]
   refine wpAnyH_ready (rs := [17]) (by kernel_rfl) (by simp) ?_
   refine AllReadyH.cons rfl (fun KQ hKQ => ?_) AllReadyH.nil
   go_simp
   refine hKQ.out _ _ ?_ (fun hHeld => ?_)
   ·(try dsimp only); (first | ((with_reducible repeat first | exact kk | apply xa | apply xd); done) | (exact Ext.set (p := ⟨_, 0, none⟩) (by with_reducible repeat first | exact kk | apply xa | apply xd) (by show _ ≤ _; (try simp only [World.size_alloc]); omega) _))
   clear hKQ KQ
   try simp only [Act.put, s1, s2, s3]
   refine wpAnyH_done (by kernel_rfl) ?_ _
   (go_wp2_with fail; go_meet; (first | exact ⟨_, rfl, zah kk hp6 (HMK.out _ _ hF5.out hF6.out)⟩ | exact ⟨_, rfl, zag kk h9n (by omega) hp6 (HMK.out _ _ hF5.out hF6.out)⟩))
  case rest =>
   obtain ⟨b10, rfl, hl10⟩ := hcut
   rename World => V3
   obtain ⟨G10, A10, c10, F10, hr10, hp10, hF10, hb10, k10⟩ := hl10
   have y10 := hr10.cell (i := 0) (by omega)
   have y9 := (HR9.out.ext k10).cell (i := 0) (by omega)
   have HP9 := Lib.hid (HP9.out.ext k10)
   have HP10 := Lib.hid hp10
   replace hr := hr.ext k10
   replace k0 := k0.trans k10
   clear hr10 hp10 hb10 k10 x4 k1' v0 v2
   have ka : Ext V3 (V3.alloc (.cells #[.slice (some ⟨G9, 0, none⟩) L L, .slice (some ⟨G10, 0, none⟩) L L] 56)) := (Ext.refl _).alloc _
   have hz := zay V3 (.slice (some ⟨G9, 0, none⟩) L L) (.slice (some ⟨G10, 0, none⟩) L L)
   replace hr := hr.ext ka
   replace k0 := k0.trans ka
   have cR := hr.cell (i := 0) (by omega)
   have zR := hr.frozen 0
   have sR := hr.lt
   have HRR := Lib.hid hr
   have HZ := Lib.hid hz
   have HP9 := Lib.hid (HP9.out.ext ka)
   have HP10 := Lib.hid (HP10.out.ext ka)
   have K0 := Lib.hid k0
   clear hr k0 ka hz
   go_wp2_with fail
   generalize V3.alloc (.cells #[.slice (some ⟨G9, 0, none⟩) L L, .slice (some ⟨G10, 0, none⟩) L L] 56) = V4 at *
   generalize V3.heap.size = xz at *
   have d0 := zas HRR.out (.slice (some ⟨xz, 0, none⟩) 2 2)
   have h1 := HP9.out.away HRR.out (by decide) (show 0 < 1 by omega) rfl (.slice (some ⟨xz, 0, none⟩) 2 2)
   have h2 := HP10.out.away HRR.out (by decide) (show 0 < 1 by omega) rfl (.slice (some ⟨xz, 0, none⟩) 2 2)
   have h3 := RW.aside HZ.out HRR.out (by decide) 0 (.slice (some ⟨xz, 0, none⟩) 2 2)
   have h4 := K0.out.set (p := ⟨R, 0, none⟩) gR (.slice (some ⟨xz, 0, none⟩) 2 2)
   generalize V4.setCell ⟨R, 0, none⟩ (.slice (some ⟨xz, 0, none⟩) 2 2) = V5 at *
   exact bodyPost_ret (v := .agg #[.slice (some ⟨xz, 0, none⟩) 2 2]) (by simp [results, Tryz.results55, go_sem, d0]) rfl ⟨xz, rfl, ⟨G9, G10, A9, A10, c9, c10, F9, F10, h3, h1, h2, hF9, hF10⟩, h4⟩
end Go.Proofs.YtopbibfpjgjalaaGreatDoor
