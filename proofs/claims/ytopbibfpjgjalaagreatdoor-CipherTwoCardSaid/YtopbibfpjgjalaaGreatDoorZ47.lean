import Derived.Test.YtopbibfpjgjalaaGreatDoorZCHidn
import Derived.Test.YtopbibfpjgjalaaGreatDoorZ45
import Derived.Test.YtopbibfpjgjalaaGreatDoorZ46
import Derived.Test.YtopbibfpjgjalaaGreatDoorZ36
import Derived.Test.YtopbibfpjgjalaaGreatDoorZ41
import Derived.Test.YtopbibfpjgjalaaGreatDoorZMPrm
namespace Go.Proofs.YtopbibfpjgjalaaGreatDoor
open Go.RowKit
set_option linter.unusedVariables false
set_option linter.unusedSimpArgs false
set_option maxRecDepth 100000
theorem Tabs.onT {V W : World} {g : Nat} {l : List Nat} (hr : Tp V g l) (ho : On g V W) (h : Tabs V) : Tabs W :=
 ⟨fun j hj => zac ho (h.tz j hj) (zlt hr (h.tz j hj) (by simp)), fun j hj => zac ho (h.ba j hj) (zlt hr (h.ba j hj) (by simp))⟩
theorem PA.onT {V W : World} {g : Nat} {l : List Nat} (hr : Tp V g l) (ho : On g V W) {N : Int} {T : Nat} {A : Option Addr} {L c : Nat} {Wd : Int} {f : Nat → Nat} (h : PA V N T A L c Wd f) : PA W N T A L c Wd f := ⟨h.n0, h.n1, h.t1, h.w0, h.w1, h.fx.onT hr ho, h.len, h.words⟩
theorem zka (n c T Lq cq r : Nat) (Aq : Option Addr) (Wd : Int) (A : Option Addr) (f : Nat → Nat) (w : World) (hX : FX w A n c f) (hn : n ≤ 100000) (hT0 : 1 ≤ T) (hT : T < 18446744073709551616) (hf : Hid (∀ i, i < n → f i < T)) :
    Calls Tryz.prog 51 #[.agg #[.int .i64 (n : Int), .int .u64 (T : Int), .slice Aq Lq cq, .int .i64 Wd, .pointer (some ⟨r, 0, none⟩)], .slice A n c] w fun ee w' => ee = .returned (.bool true) ∧ Ext w w' := by
 have k0 : Ext w (w.alloc (.cells #[.int .i64 (n : Int), .int .u64 (T : Int), .slice Aq Lq cq, .int .i64 Wd, .pointer (some ⟨r, 0, none⟩)] 114)) := (Ext.refl w).alloc _
 obtain ⟨x0, x1, _, _, _⟩ := zbt w (.int .i64 (n : Int)) (.int .u64 (T : Int)) (.slice Aq Lq cq) (.int .i64 Wd) (.pointer (some ⟨r, 0, none⟩)) 114
 have HX := Lib.hid (hX.ext k0)
 have eT : ((T : Int) - 1) = ((T - 1 : Nat) : Int) := by omega
 have i0 : (0 : Int) ≤ (T : Int) - 1 := by omega
 clear hX
 go_enter Tryz.func51, Tryz.ntmps51
 go_wp2_with fail
 generalize (w.alloc (.cells #[.int .i64 (n : Int), .int .u64 (T : Int), .slice Aq Lq cq, .int .i64 Wd, .pointer (some ⟨r, 0, none⟩)] 114)) = V at *
 refine (zk7 n c (n : Int) A f 0 (T - 1) V HX.out hn (Lib.hid fun i hi => by have := hf.out i hi; omega)).mono ?_
 rintro ee V1 h
 obtain ⟨rfl, k1⟩ := TellsXU.yes h ⟨rfl, fun i hi => by have := hf.out i hi; omega⟩
 have K := Lib.hid (k0.trans k1)
 clear k1 h
 go_wp2
 go_ret
 exact ⟨rfl, K.out⟩
theorem z2e {w : World} {z L n GB GA : Nat} {A1 A2 : Nat → Option Addr} {c1 c2 : Nat → Nat} {FB FA : Nat → Nat → Nat} (hz : RW w z 56 2 (fun i => if i = 0 then .slice (some ⟨GB, 0, none⟩) L L else .slice (some ⟨GA, 0, none⟩) L L)) (hB : PM w GB L n A1 c1 FB) (hA : PM w GA L n A2 c2 FA) (hL : L ≤ 1000) (hn : n ≤ 1000) : QP w (some ⟨z, 0, none⟩) 2 2 (fun k => some ⟨if k = 0 then GB else GA, 0, none⟩) (fun _ => L) (fun _ => L) (fun k => if k = 0 then A1 else A2) (fun _ _ => n) (fun k => if k = 0 then c1 else c2) (fun k => if k = 0 then FB else FA) :=
 ⟨⟨Nat.le_refl _, fun _ => ⟨_, rfl, fun j hj => by
  rw [Addr.add_lit, Nat.zero_add, hz.cell hj]
  by_cases h : j = 0
  ·simp only [if_pos h]
  ·simp only [if_neg h]⟩⟩, fun j hj => by
  rcases (show j = 0 ∨ j = 1 by omega) with rfl | rfl
  ·exact ⟨hB.px, by omega, fun _ _ => (show n ≤ 1000000000000000 by omega)⟩
  ·exact ⟨hA.px, by omega, fun _ _ => (show n ≤ 1000000000000000 by omega)⟩⟩
def HideA (n L T : Nat) (q : Nat → Nat) (f : Nat → Nat) (acc : List (List Int)) (FB F : Nat → Nat → Nat) : Prop := ∃ Fu Fe Fs : Nat → Nat → Nat, (∀ j, j < L → Fu j = fun t => lif ((acc.getD 0 []).getD t 0) (q j)) ∧ (∀ j, j < L → Fe j = fun t => lif ((acc.getD 1 []).getD t 0) (q j)) ∧ SprP n L T q f Fs ∧ HidA n L q FB Fu Fe Fs F
def HideB (n L : Nat) (q : Nat → Nat) (acc : List (List Int)) (FA F : Nat → Nat → Nat) : Prop := ∃ Fu Ff : Nat → Nat → Nat, (∀ j, j < L → Fu j = fun t => lif ((acc.getD 0 []).getD t 0) (q j)) ∧ (∀ j, j < L → Ff j = fun t => lif ((acc.getD 2 []).getD t 0) (q j)) ∧ HidB n L q FA Fu Ff F
def zuy (w : World) (p n L T : Nat) (q f : Nat → Nat) (FB FA : Nat → Nat → Nat) (acc : List (List Int)) (rr : List Nat) (ee : Ending) (w' : World) : Prop := ∃ x : Nat, ee = .returned (.tuple #[.agg #[.slice (some ⟨x, 0, none⟩) 2 2], .int .i64 0]) ∧ Cip2 w' x n L (HideA n L T q f acc FB) (HideB n L q acc FA) ∧ Tp w' p rr ∧ On p w w'
set_option maxHeartbeats 16000000 in
theorem zp7 (n p L cq c wd T GB GA : Nat) (A Bt : Option Addr) (q f : Nat → Nat) (As1 As2 : Nat → Option Addr) (cs1 cs2 : Nat → Nat) (FB FA : Nat → Nat → Nat) (l : List Nat) (acc : List (List Int)) (rr : List Nat) (w : World) (hn : n ≤ 32) (hL : L ≤ 24) (hw0 : 1 ≤ wd) (hw : wd ≤ 16) (hP : Hid (PA w (n : Int) T A L cq (wd : Int) q)) (hok : Hid (ParP (n : Int) T L q (wd : Int))) (hT : Tabs w) (hTb : T < 1152921504606846976)
    (hB : PM w GB L n As1 cs1 FB) (hA : PM w GA L n As2 cs2 FA) (qB : Hid (∀ j, j < L → ∀ i, i < n → FB j i < q j)) (qA : Hid (∀ j, j < L → ∀ i, i < n → FA j i < q j)) (hX : FX w Bt n c f) (hf : Hid (∀ i, i < n → f i < T)) (hTp : Hid (Tp w p l)) (hl : l.length ≤ 100000) (hdr : Hid (veilS wd n l 3 = some (acc, rr))) (hsq : Hid (∀ j, j < L → ∃ x, x < q j ∧ noSq (q j) x = true)) :
    Calls Tryz.prog 20 #[.agg #[.int .i64 (n : Int), .int .u64 (T : Int), .slice A L cq, .int .i64 (wd : Int)], .agg #[.slice (some ⟨GB, 0, none⟩) L L, .slice (some ⟨GA, 0, none⟩) L L], .slice Bt n c, .pointer (some ⟨p, 0, none⟩)] w (zuy w p n L T q f FB FA acc rr) := by
 obtain ⟨hrow, hn8, hL1, hL8⟩ := zbx hok.out (by omega)
 obtain ⟨ad, rfl, _⟩ := hP.out.fx.cells (by omega)
 have ht1 := hP.out.t1
 have ht2 : 2 ≤ T := ParP.T2 hok.out
 have hpw := hTp.out.lt
 have HT := Lib.hid hT
 have HB := Lib.hid hB
 have HA := Lib.hid hA
 have HX := Lib.hid hX
 clear hrow hT hB hA hX
 have k0 : Ext w (((w.alloc (.cells #[.int .i64 (n : Int), .int .u64 (T : Int), .slice (some ad) L cq, .int .i64 (wd : Int)] 28)).alloc (.cells #[.slice (some ⟨GB, 0, none⟩) L L, .slice (some ⟨GA, 0, none⟩) L L] 58)).alloc (.cells #[.slice none 0 0] 62)) := (((Ext.refl w).alloc _).alloc _).alloc _
 have kz1 : Ext (w.alloc (.cells #[.int .i64 (n : Int), .int .u64 (T : Int), .slice (some ad) L cq, .int .i64 (wd : Int)] 28)) (((w.alloc (.cells #[.int .i64 (n : Int), .int .u64 (T : Int), .slice (some ad) L cq, .int .i64 (wd : Int)] 28)).alloc (.cells #[.slice (some ⟨GB, 0, none⟩) L L, .slice (some ⟨GA, 0, none⟩) L L] 58)).alloc (.cells #[.slice none 0 0] 62)) := ((Ext.refl _).alloc _).alloc _
 have kz2 : Ext ((w.alloc (.cells #[.int .i64 (n : Int), .int .u64 (T : Int), .slice (some ad) L cq, .int .i64 (wd : Int)] 28)).alloc (.cells #[.slice (some ⟨GB, 0, none⟩) L L, .slice (some ⟨GA, 0, none⟩) L L] 58)) (((w.alloc (.cells #[.int .i64 (n : Int), .int .u64 (T : Int), .slice (some ad) L cq, .int .i64 (wd : Int)] 28)).alloc (.cells #[.slice (some ⟨GB, 0, none⟩) L L, .slice (some ⟨GA, 0, none⟩) L L] 58)).alloc (.cells #[.slice none 0 0] 62)) := (Ext.refl _).alloc _
 obtain ⟨x0, x1, x2, x3⟩ := za6 w (.int .i64 (n : Int)) (.int .u64 (T : Int)) (.slice (some ad) L cq) (.int .i64 (wd : Int)) 28
 have kb : ((w.alloc (.cells #[.int .i64 (n : Int), .int .u64 (T : Int), .slice (some ad) L cq, .int .i64 (wd : Int)] 28)).alloc (.cells #[.slice (some ⟨GB, 0, none⟩) L L, .slice (some ⟨GA, 0, none⟩) L L] 58)).cell? ⟨(w.alloc (.cells #[.int .i64 (n : Int), .int .u64 (T : Int), .slice (some ad) L cq, .int .i64 (wd : Int)] 28)).heap.size, 0, none⟩ = some (.slice (some ⟨GB, 0, none⟩) L L) := by simp
 have ka2 : ((w.alloc (.cells #[.int .i64 (n : Int), .int .u64 (T : Int), .slice (some ad) L cq, .int .i64 (wd : Int)] 28)).alloc (.cells #[.slice (some ⟨GB, 0, none⟩) L L, .slice (some ⟨GA, 0, none⟩) L L] 58)).cell? ⟨(w.alloc (.cells #[.int .i64 (n : Int), .int .u64 (T : Int), .slice (some ad) L cq, .int .i64 (wd : Int)] 28)).heap.size, 1, none⟩ = some (.slice (some ⟨GA, 0, none⟩) L L) := by simp
 rw [show (w.alloc (.cells #[.int .i64 (n : Int), .int .u64 (T : Int), .slice (some ad) L cq, .int .i64 (wd : Int)] 28)).heap.size = w.heap.size + 1 by simp] at kb ka2
 have hr : RW (((w.alloc (.cells #[.int .i64 (n : Int), .int .u64 (T : Int), .slice (some ad) L cq, .int .i64 (wd : Int)] 28)).alloc (.cells #[.slice (some ⟨GB, 0, none⟩) L L, .slice (some ⟨GA, 0, none⟩) L L] 58)).alloc (.cells #[.slice none 0 0] 62)) (w.heap.size + 2) 62 1 (fun _ => .slice none 0 0) := by
  have : RW (((w.alloc (.cells #[.int .i64 (n : Int), .int .u64 (T : Int), .slice (some ad) L cq, .int .i64 (wd : Int)] 28)).alloc (.cells #[.slice (some ⟨GB, 0, none⟩) L L, .slice (some ⟨GA, 0, none⟩) L L] 58)).alloc (.cells #[.slice none 0 0] 62)) ((w.alloc (.cells #[.int .i64 (n : Int), .int .u64 (T : Int), .slice (some ad) L cq, .int .i64 (wd : Int)] 28)).alloc (.cells #[.slice (some ⟨GB, 0, none⟩) L L, .slice (some ⟨GA, 0, none⟩) L L] 58)).heap.size 62 1 (fun _ => .slice none 0 0) := heap_alloc_new _ _
  rwa [show ((w.alloc (.cells #[.int .i64 (n : Int), .int .u64 (T : Int), .slice (some ad) L cq, .int .i64 (wd : Int)] 28)).alloc (.cells #[.slice (some ⟨GB, 0, none⟩) L L, .slice (some ⟨GA, 0, none⟩) L L] 58)).heap.size = w.heap.size + 2 by simp] at this
 replace x0 := cE kz1 x0
 replace x1 := cE kz1 x1
 replace x2 := cE kz1 x2
 replace x3 := cE kz1 x3
 replace kb := cE kz2 kb
 replace ka2 := cE kz2 ka2
 have hWs : (((w.alloc (.cells #[.int .i64 (n : Int), .int .u64 (T : Int), .slice (some ad) L cq, .int .i64 (wd : Int)] 28)).alloc (.cells #[.slice (some ⟨GB, 0, none⟩) L L, .slice (some ⟨GA, 0, none⟩) L L] 58)).alloc (.cells #[.slice none 0 0] 62)).heap.size = w.heap.size + 3 := by simp
 clear kz1 kz2
 go_enter Tryz.func20, Tryz.ntmps20
 go_wp2_with fail
 generalize (((w.alloc (.cells #[.int .i64 (n : Int), .int .u64 (T : Int), .slice (some ad) L cq, .int .i64 (wd : Int)] 28)).alloc (.cells #[.slice (some ⟨GB, 0, none⟩) L L, .slice (some ⟨GA, 0, none⟩) L L] 58)).alloc (.cells #[.slice none 0 0] 62)) = V at *
 obtain ⟨Pb, hPb⟩ : ∃ D, D = w.heap.size := ⟨_, rfl⟩
 obtain ⟨Kb, hKb⟩ : ∃ D, D = w.heap.size + 1 := ⟨_, rfl⟩
 obtain ⟨R8, hR8⟩ : ∃ D, D = w.heap.size + 2 := ⟨_, rfl⟩
 have hR8w : w.heap.size ≤ R8 := by omega
 have nPb : Pb ≠ R8 := by omega
 have nKb : Kb ≠ R8 := by omega
 have pPb : Pb ≠ p := by omega
 have pKb : Kb ≠ p := by omega
 have pR8 : R8 ≠ p := by omega
 have hR8p : p ≠ R8 := by omega
 have hVs : R8 < V.heap.size := by omega
 rw [← hR8] at hr
 rw [← hKb] at kb ka2
 rw [← hPb] at x0 x1 x2 x3
 simp only [← hR8]
 simp only [← hKb]
 simp only [← hPb]
 clear hR8 hKb hPb hWs
 refine (zdd V (Lib.hid (hP.out.ext k0)) (by omega) hn (HT.out.ext k0) hok).mono ?_
 rintro ee V1 ⟨r, pp, a, e, rfl, hrg, k1⟩
 have hV1 := k1.size
 have ka : Ext V1 (V1.alloc (.cells #[.int .i64 (n : Int), .int .u64 (T : Int), .slice (some ad) L cq, .int .i64 (wd : Int), .pointer (some ⟨r, 0, none⟩)] 114)) := (Ext.refl _).alloc _
 obtain ⟨y0, y1, y2, y3, y4⟩ := zbt V1 (.int .i64 (n : Int)) (.int .u64 (T : Int)) (.slice (some ad) L cq) (.int .i64 (wd : Int)) (.pointer (some ⟨r, 0, none⟩)) 114
 have HR := Lib.hid (hrg.ext ka)
 replace x0 := cE (k1.trans ka) x0
 replace x1 := cE (k1.trans ka) x1
 replace x2 := cE (k1.trans ka) x2
 replace x3 := cE (k1.trans ka) x3
 replace kb := cE (k1.trans ka) kb
 replace ka2 := cE (k1.trans ka) ka2
 replace hr := hr.ext (k1.trans ka)
 replace k0 := k0.trans (k1.trans ka)
 clear hrg k1 ka
 go_wp2_with fail
 generalize V1.alloc (.cells #[.int .i64 (n : Int), .int .u64 (T : Int), .slice (some ad) L cq, .int .i64 (wd : Int), .pointer (some ⟨r, 0, none⟩)] 114) = V1a at *
 obtain ⟨D, hD⟩ : ∃ D, D = V1.heap.size := ⟨_, rfl⟩
 have hDl : V.heap.size ≤ D := by rw [hD]; exact hV1
 rw [← hD] at y0 y1 y2 y3 y4
 simp only [← hD]
 have nD : D ≠ R8 := by omega
 have pD : D ≠ p := by omega
 clear hD
 refine (zka n c T L cq r (some ad) (wd : Int) Bt f V1a (HX.out.ext k0) (by omega) (by omega) ht1 hf).mono ?_
 rintro ee V2 ⟨rfl, k1⟩
 have HR := Lib.hid (HR.out.ext k1)
 replace x0 := cE k1 x0
 replace x1 := cE k1 x1
 replace x2 := cE k1 x2
 replace x3 := cE k1 x3
 replace kb := cE k1 kb
 replace ka2 := cE k1 ka2
 replace y0 := cE k1 y0
 replace y1 := cE k1 y1
 replace y2 := cE k1 y2
 replace y3 := cE k1 y3
 replace y4 := cE k1 y4
 replace hr := hr.ext k1
 replace k0 := k0.trans k1
 clear k1
 have e1 : ((L : Int) - 1) = ((L - 1 : Nat) : Int) := by omega
 have HTOP := Lib.hid (fun w' => zet (n : Int) (T : Int) (wd : Int) (some ad) L cq w' (by omega))
 go_wp2_with fail
 go_cut [36] (fun s36 wx => s36 = .bool false ∧ Ext V2 wx)
 case first =>
  have kk : Ext V2 V2 := Ext.refl V2
  have HBV := Lib.hid (HB.out.ext k0)
  have HAV := Lib.hid (HA.out.ext k0)
  have HARE := Lib.hid (show AreP n L q 2 (fun _ => L) (fun _ _ => n) (fun k => if k = 0 then FB else FA) ((L - 1 : Nat) : Int) from fun k hk => by
   rcases (show k = 0 ∨ k = 1 by omega) with rfl | rfl
   ·exact ⟨⟨(show 0 < L by omega), Nat.le_refl _, fun j hj => ⟨rfl, qB.out j hj⟩⟩, e1⟩
   ·exact ⟨⟨(show 0 < L by omega), Nat.le_refl _, fun j hj => ⟨rfl, qA.out j hj⟩⟩, e1⟩)
  have HAR := Lib.hid (fun w' (h : Ext V2 w') z (hz : RW w' z 56 2 (fun i => if i = 0 then .slice (some ⟨GB, 0, none⟩) L L else .slice (some ⟨GA, 0, none⟩) L L)) => zj5 r n L 2 2 ((L - 1 : Nat) : Int) (n : Int) (wd : Int) T L cq (some ad) (some ⟨z, 0, none⟩) q pp a e _ _ _ _ _ _ _ w' (HR.out.ext h) (z2e hz (HBV.out.ext h) (HAV.out.ext h) (by omega) (by omega)) (by omega) (by omega) (by omega))
  refine wp_region_held_drew (S := (fun w' => Ext V2 w')) (by kernel_rfl) ?_ (fun hHeld => ?_)
  ·(try dsimp only); (exact (by with_reducible repeat first | exact kk | apply xa | apply xd))
  refine wpAnyH_take (i := 0) (oi := _) (v := ?_) rfl (by kernel_rfl) (by kernel_rfl) (by kernel_rfl) (fun _ _ _ h => h) (Or.inl ⟨by rfl, ?_⟩) (by assumption) ?_
  rotate_left
  ·(intro wS hSw; (try dsimp only at hSw); have t0 := cE hSw x0; have t1 := cE hSw x1; have t2 := cE hSw x2; have t3 := cE hSw x3; have t4 := cE hSw kb; have t5 := cE hSw ka2; have t6 := cE hSw y0; have t7 := cE hSw y1; have t8 := cE hSw y2; have t9 := cE hSw y3; have t10 := cE hSw y4; (try go_simp); (try with_reducible rfl))
  try simp only [Act.put, s1, s2, s3]
  refine wpAnyH_take (i := 1) (oi := _) (v := ?_) rfl (by kernel_rfl) (by kernel_rfl) (by kernel_rfl) (fun _ _ _ h => h) (Or.inl ⟨by rfl, ?_⟩) (by assumption) ?_
  rotate_left
  ·(intro wS hSw; (try dsimp only at hSw); have t0 := cE hSw x0; have t1 := cE hSw x1; have t2 := cE hSw x2; have t3 := cE hSw x3; have t4 := cE hSw kb; have t5 := cE hSw ka2; have t6 := cE hSw y0; have t7 := cE hSw y1; have t8 := cE hSw y2; have t9 := cE hSw y3; have t10 := cE hSw y4; (try go_simp); (try with_reducible rfl))
  try simp only [Act.put, s1, s2, s3]
  refine wpAnyH_take (i := 3) (oi := _) (v := ?_) rfl (by kernel_rfl) (by kernel_rfl) (by kernel_rfl) (fun _ _ _ h => h) (Or.inl ⟨by rfl, ?_⟩) (by assumption) ?_
  rotate_left
  ·(intro wS hSw; (try dsimp only at hSw); have t0 := cE hSw x0; have t1 := cE hSw x1; have t2 := cE hSw x2; have t3 := cE hSw x3; have t4 := cE hSw kb; have t5 := cE hSw ka2; have t6 := cE hSw y0; have t7 := cE hSw y1; have t8 := cE hSw y2; have t9 := cE hSw y3; have t10 := cE hSw y4; (try go_simp); (try with_reducible rfl))
  try simp only [Act.put, s1, s2, s3]
  refine wpAnyH_take (i := 4) (oi := _) (v := ?_) rfl (by kernel_rfl) (by kernel_rfl) (by kernel_rfl) (fun _ _ _ h => h) (Or.inl ⟨by rfl, ?_⟩) (by assumption) ?_
  rotate_left
  ·(intro wS hSw; (try dsimp only at hSw); have t0 := cE hSw x0; have t1 := cE hSw x1; have t2 := cE hSw x2; have t3 := cE hSw x3; have t4 := cE hSw kb; have t5 := cE hSw ka2; have t6 := cE hSw y0; have t7 := cE hSw y1; have t8 := cE hSw y2; have t9 := cE hSw y3; have t10 := cE hSw y4; (try go_simp); (try with_reducible rfl))
  try simp only [Act.put, s1, s2, s3]
  refine wpAnyH_take (i := 5) (oi := _) (v := ?_) rfl (by kernel_rfl) (by kernel_rfl) (by kernel_rfl) (fun _ _ _ h => h) (Or.inl ⟨by rfl, ?_⟩) (by assumption) ?_
  rotate_left
  ·(intro wS hSw; (try dsimp only at hSw); have t0 := cE hSw x0; have t1 := cE hSw x1; have t2 := cE hSw x2; have t3 := cE hSw x3; have t4 := cE hSw kb; have t5 := cE hSw ka2; have t6 := cE hSw y0; have t7 := cE hSw y1; have t8 := cE hSw y2; have t9 := cE hSw y3; have t10 := cE hSw y4; (try go_simp); (try with_reducible rfl))
  try simp only [Act.put, s1, s2, s3]
  refine wpAnyH_take (i := 6) (oi := _) (v := ?_) rfl (by kernel_rfl) (by kernel_rfl) (by kernel_rfl) (fun _ _ _ h => h) (Or.inl ⟨by rfl, ?_⟩) (by assumption) ?_
  rotate_left
  ·(intro wS hSw; (try dsimp only at hSw); have t0 := cE hSw x0; have t1 := cE hSw x1; have t2 := cE hSw x2; have t3 := cE hSw x3; have t4 := cE hSw kb; have t5 := cE hSw ka2; have t6 := cE hSw y0; have t7 := cE hSw y1; have t8 := cE hSw y2; have t9 := cE hSw y3; have t10 := cE hSw y4; (try go_simp); (try with_reducible rfl))
  try simp only [Act.put, s1, s2, s3]
  refine wpAnyH_ready (rs := [2, 7]) (by kernel_rfl) (by simp) ?_
  refine AllReadyH.cons rfl (fun KQ hKQ => ?_) ?_
  ·go_simp
   (with_reducible refine (HTOP.out _).mono ?_); rintro e5 w5 ⟨h5, k5⟩; rw [e1] at h5; subst h5; (first | (have hE := RW.ext (RW.ext (zay _ (.slice (some ⟨GB, 0, none⟩) L L) (.slice (some ⟨GA, 0, none⟩) L L)) (Ext.drew (Ext.refl _))) k5) | (have hE := RW.ext (RW.ext (zay _ (.slice (some ⟨GB, 0, none⟩) L L) (.slice (some ⟨GA, 0, none⟩) L L)) (Ext.refl _)) k5) | skip); replace kk : Ext V2 w5 := (Ext.trans (by with_reducible repeat first | exact kk | apply xa | apply xd) k5); dsimp only
   refine hKQ.out _ _ ?_ (fun hHeld => ?_)
   ·(try dsimp only); (exact (by with_reducible repeat first | exact kk | apply xa | apply xd))
   clear hKQ KQ
   try simp only [Act.put, s1, s2, s3]
   refine wpAnyH_ready (rs := [7]) (by kernel_rfl) (by simp) ?_
   refine AllReadyH.cons rfl (fun KQ hKQ => ?_) AllReadyH.nil
   go_simp
   refine hKQ.out _ _ ?_ (fun hHeld => ?_)
   ·(try dsimp only); (exact (by with_reducible repeat first | exact kk | apply xa | apply xd))
   clear hKQ KQ
   try simp only [Act.put, s1, s2, s3]
   refine wpAnyH_ready (rs := [8]) (by kernel_rfl) (by simp) ?_
   refine AllReadyH.cons rfl (fun KQ hKQ => ?_) AllReadyH.nil
   go_simp
   (with_reducible refine (HAR.out _ ?_ _ ?_).mono ?_); (exact (by with_reducible repeat first | exact kk | apply xa | apply xd)); (exact (by first | with_reducible exact RW.ext hE (Ext.refl _) | with_reducible exact RW.ext hE (Ext.alloc (Ext.refl _) _) | with_reducible exact RW.ext hE (Ext.alloc (Ext.alloc (Ext.refl _) _) _) | with_reducible exact RW.ext hE (Ext.drew (Ext.refl _)) | with_reducible exact RW.ext hE (Ext.drew (Ext.alloc (Ext.refl _) _)) | with_reducible exact RW.ext hE (Ext.drew (Ext.alloc (Ext.alloc (Ext.refl _) _) _)) | with_reducible exact RW.ext (zaj _ (.slice (some ⟨GB, 0, none⟩) L L) (.slice (some ⟨GA, 0, none⟩) L L) _ (by simp)) (Ext.refl _) | with_reducible exact RW.ext (zaj _ (.slice (some ⟨GB, 0, none⟩) L L) (.slice (some ⟨GA, 0, none⟩) L L) _ (by simp)) (Ext.alloc (Ext.refl _) _) | with_reducible exact RW.ext (zaj _ (.slice (some ⟨GB, 0, none⟩) L L) (.slice (some ⟨GA, 0, none⟩) L L) _ (by simp)) (Ext.alloc (Ext.alloc (Ext.refl _) _) _) | with_reducible exact RW.ext (zaj _ (.slice (some ⟨GB, 0, none⟩) L L) (.slice (some ⟨GA, 0, none⟩) L L) _ (by simp)) (Ext.drew (Ext.refl _)) | with_reducible exact RW.ext (zaj _ (.slice (some ⟨GB, 0, none⟩) L L) (.slice (some ⟨GA, 0, none⟩) L L) _ (by simp)) (Ext.drew (Ext.alloc (Ext.refl _) _)) | with_reducible exact RW.ext (zaj _ (.slice (some ⟨GB, 0, none⟩) L L) (.slice (some ⟨GA, 0, none⟩) L L) _ (by simp)) (Ext.drew (Ext.alloc (Ext.alloc (Ext.refl _) _) _)))); rintro e6 w6 h6; obtain ⟨rfl, k6⟩ := TellsXU.yes h6 HARE.out; replace kk : Ext V2 w6 := (Ext.trans (by with_reducible repeat first | exact kk | apply xa | apply xd) k6); dsimp only
   refine hKQ.out _ _ ?_ (fun hHeld => ?_)
   ·(try dsimp only); (exact (by with_reducible repeat first | exact kk | apply xa | apply xd))
   clear hKQ KQ
   try simp only [Act.put, s1, s2, s3]
   refine wpAnyH_ready (rs := [9]) (by kernel_rfl) (by simp) ?_
   refine AllReadyH.cons rfl (fun KQ hKQ => ?_) AllReadyH.nil
   go_simp
   refine hKQ.out _ _ ?_ (fun hHeld => ?_)
   ·(try dsimp only); (exact (by with_reducible repeat first | exact kk | apply xa | apply xd))
   clear hKQ KQ
   try simp only [Act.put, s1, s2, s3]
   refine wpAnyH_done (by kernel_rfl) ?_ _
   (go_wp2_with fail; go_meet; exact ⟨rfl, kk⟩)
  refine AllReadyH.cons rfl (fun KQ hKQ => ?_) AllReadyH.nil
  go_simp
  refine hKQ.out _ _ ?_ (fun hHeld => ?_)
  ·(try dsimp only); (exact (by with_reducible repeat first | exact kk | apply xa | apply xd))
  clear hKQ KQ
  try simp only [Act.put, s1, s2, s3]
  refine wpAnyH_ready (rs := [2]) (by kernel_rfl) (by simp) ?_
  refine AllReadyH.cons rfl (fun KQ hKQ => ?_) AllReadyH.nil
  go_simp
  (with_reducible refine (HTOP.out _).mono ?_); rintro e5 w5 ⟨h5, k5⟩; rw [e1] at h5; subst h5; (first | (have hE := RW.ext (RW.ext (zay _ (.slice (some ⟨GB, 0, none⟩) L L) (.slice (some ⟨GA, 0, none⟩) L L)) (Ext.drew (Ext.refl _))) k5) | (have hE := RW.ext (RW.ext (zay _ (.slice (some ⟨GB, 0, none⟩) L L) (.slice (some ⟨GA, 0, none⟩) L L)) (Ext.refl _)) k5) | skip); replace kk : Ext V2 w5 := (Ext.trans (by with_reducible repeat first | exact kk | apply xa | apply xd) k5); dsimp only
  refine hKQ.out _ _ ?_ (fun hHeld => ?_)
  ·(try dsimp only); (exact (by with_reducible repeat first | exact kk | apply xa | apply xd))
  clear hKQ KQ
  try simp only [Act.put, s1, s2, s3]
  refine wpAnyH_ready (rs := [8]) (by kernel_rfl) (by simp) ?_
  refine AllReadyH.cons rfl (fun KQ hKQ => ?_) AllReadyH.nil
  go_simp
  (with_reducible refine (HAR.out _ ?_ _ ?_).mono ?_); (exact (by with_reducible repeat first | exact kk | apply xa | apply xd)); (exact (by first | with_reducible exact RW.ext hE (Ext.refl _) | with_reducible exact RW.ext hE (Ext.alloc (Ext.refl _) _) | with_reducible exact RW.ext hE (Ext.alloc (Ext.alloc (Ext.refl _) _) _) | with_reducible exact RW.ext hE (Ext.drew (Ext.refl _)) | with_reducible exact RW.ext hE (Ext.drew (Ext.alloc (Ext.refl _) _)) | with_reducible exact RW.ext hE (Ext.drew (Ext.alloc (Ext.alloc (Ext.refl _) _) _)) | with_reducible exact RW.ext (zaj _ (.slice (some ⟨GB, 0, none⟩) L L) (.slice (some ⟨GA, 0, none⟩) L L) _ (by simp)) (Ext.refl _) | with_reducible exact RW.ext (zaj _ (.slice (some ⟨GB, 0, none⟩) L L) (.slice (some ⟨GA, 0, none⟩) L L) _ (by simp)) (Ext.alloc (Ext.refl _) _) | with_reducible exact RW.ext (zaj _ (.slice (some ⟨GB, 0, none⟩) L L) (.slice (some ⟨GA, 0, none⟩) L L) _ (by simp)) (Ext.alloc (Ext.alloc (Ext.refl _) _) _) | with_reducible exact RW.ext (zaj _ (.slice (some ⟨GB, 0, none⟩) L L) (.slice (some ⟨GA, 0, none⟩) L L) _ (by simp)) (Ext.drew (Ext.refl _)) | with_reducible exact RW.ext (zaj _ (.slice (some ⟨GB, 0, none⟩) L L) (.slice (some ⟨GA, 0, none⟩) L L) _ (by simp)) (Ext.drew (Ext.alloc (Ext.refl _) _)) | with_reducible exact RW.ext (zaj _ (.slice (some ⟨GB, 0, none⟩) L L) (.slice (some ⟨GA, 0, none⟩) L L) _ (by simp)) (Ext.drew (Ext.alloc (Ext.alloc (Ext.refl _) _) _)))); rintro e6 w6 h6; obtain ⟨rfl, k6⟩ := TellsXU.yes h6 HARE.out; replace kk : Ext V2 w6 := (Ext.trans (by with_reducible repeat first | exact kk | apply xa | apply xd) k6); dsimp only
  refine hKQ.out _ _ ?_ (fun hHeld => ?_)
  ·(try dsimp only); (exact (by with_reducible repeat first | exact kk | apply xa | apply xd))
  clear hKQ KQ
  try simp only [Act.put, s1, s2, s3]
  refine wpAnyH_ready (rs := [9]) (by kernel_rfl) (by simp) ?_
  refine AllReadyH.cons rfl (fun KQ hKQ => ?_) AllReadyH.nil
  go_simp
  refine hKQ.out _ _ ?_ (fun hHeld => ?_)
  ·(try dsimp only); (exact (by with_reducible repeat first | exact kk | apply xa | apply xd))
  clear hKQ KQ
  try simp only [Act.put, s1, s2, s3]
  refine wpAnyH_done (by kernel_rfl) ?_ _
  (go_wp2_with fail; go_meet; exact ⟨rfl, kk⟩)
 case rest =>
  obtain ⟨rfl, k1⟩ := hcut
  rename World => V3
  have HR := Lib.hid (HR.out.ext k1)
  replace x0 := cE k1 x0
  replace x1 := cE k1 x1
  replace x2 := cE k1 x2
  replace x3 := cE k1 x3
  replace kb := cE k1 kb
  replace ka2 := cE k1 ka2
  replace y0 := cE k1 y0
  replace y1 := cE k1 y1
  replace y2 := cE k1 y2
  replace y3 := cE k1 y3
  replace y4 := cE k1 y4
  replace hr := hr.ext k1
  replace k0 := k0.trans k1
  clear k1
  go_wp2_with fail
  refine (zv6 r p n L cq wd T (some ad) q pp a e l V3 (by omega) hn (by omega) hL hw0 hw (by omega) hl (Lib.hid (hTp.out.ext k0)) HR.out).mono ?_
  rintro ee V4z (⟨acc', rr', Gs, Av, cv, Fv, h1, rfl, hpv, hT4, hO4⟩ | ⟨h1, _⟩)
  case inr => rw [hdr.out] at h1; cases h1
  obtain ⟨rfl, rfl⟩ : acc = acc' ∧ rr = rr' := by rw [hdr.out] at h1; injection h1 with h1; injection h1 with h1 h2; exact ⟨h1, h2⟩
  have HTV := Lib.hid (hTp.out.ext k0)
  have HR := Lib.hid (HR.out.onT HTV.out hO4)
  have HB := Lib.hid ((HB.out.ext k0).onT HTV.out hO4)
  have HA := Lib.hid ((HA.out.ext k0).onT HTV.out hO4)
  have HP4 := Lib.hid ((hP.out.ext k0).onT HTV.out hO4)
  have HX4 := Lib.hid ((HX.out.ext k0).onT HTV.out hO4)
  have HTB := Lib.hid ((HT.out.ext k0).onT HTV.out hO4)
  replace x0 := zac hO4 x0 pPb
  replace x1 := zac hO4 x1 pPb
  replace x2 := zac hO4 x2 pPb
  replace x3 := zac hO4 x3 pPb
  replace kb := zac hO4 kb pKb
  replace ka2 := zac hO4 ka2 pKb
  replace y0 := zac hO4 y0 pD
  replace y1 := zac hO4 y1 pD
  replace y2 := zac hO4 y2 pD
  replace y3 := zac hO4 y3 pD
  replace y4 := zac hO4 y4 pD
  replace hr := hr.onN hO4 pR8
  have HO4 := Lib.hid ((On.of k0).trans hO4)
  have hVz : R8 < V4z.heap.size := hr.lt
  have HPV := Lib.hid hpv
  have hDz : D < V4z.heap.size := by have := World.block_lt_of_cell? _ _ y0; simpa using this
  have hpz : p < V4z.heap.size := hT4.lt
  have hVz2 : ∀ b, b ≤ R8 → b ≠ V4z.heap.size := fun b hb => by omega
  have ka : Ext V4z (V4z.alloc (.cells #[.slice (some ⟨Gs 0, 0, none⟩) L L, .slice (some ⟨Gs 1, 0, none⟩) L L, .slice (some ⟨Gs 2, 0, none⟩) L L] 121)) := (Ext.refl _).alloc _
  obtain ⟨v0, v1, v2⟩ := zie V4z (.slice (some ⟨Gs 0, 0, none⟩) L L) (.slice (some ⟨Gs 1, 0, none⟩) L L) (.slice (some ⟨Gs 2, 0, none⟩) L L) 121
  have HR := Lib.hid (HR.out.ext ka)
  have HB := Lib.hid (HB.out.ext ka)
  have HA := Lib.hid (HA.out.ext ka)
  have HP4 := Lib.hid (HP4.out.ext ka)
  have HX4 := Lib.hid (HX4.out.ext ka)
  have HTB := Lib.hid (HTB.out.ext ka)
  have HT4 := Lib.hid (hT4.ext ka)
  have HU := Lib.hid (show PM _ (Gs 0) L n (Av 0) (cv 0) (Fv 0) ∧ ∀ j, j < L → Fv 0 j = fun t => lif ((acc.getD 0 []).getD t 0) (q j) from ⟨(HPV.out 0 (by omega)).1.ext ka, (HPV.out 0 (by omega)).2⟩)
  have HE := Lib.hid (show PM _ (Gs 1) L n (Av 1) (cv 1) (Fv 1) ∧ ∀ j, j < L → Fv 1 j = fun t => lif ((acc.getD 1 []).getD t 0) (q j) from ⟨(HPV.out 1 (by omega)).1.ext ka, (HPV.out 1 (by omega)).2⟩)
  have HFF := Lib.hid (show PM _ (Gs 2) L n (Av 2) (cv 2) (Fv 2) ∧ ∀ j, j < L → Fv 2 j = fun t => lif ((acc.getD 2 []).getD t 0) (q j) from ⟨(HPV.out 2 (by omega)).1.ext ka, (HPV.out 2 (by omega)).2⟩)
  replace x0 := cE ka x0
  replace x1 := cE ka x1
  replace x2 := cE ka x2
  replace x3 := cE ka x3
  replace kb := cE ka kb
  replace ka2 := cE ka ka2
  replace y0 := cE ka y0
  replace y1 := cE ka y1
  replace y2 := cE ka y2
  replace y3 := cE ka y3
  replace y4 := cE ka y4
  replace hr := hr.ext ka
  have HO4 := Lib.hid (HO4.out.trans (On.of ka))
  have HR8 := Lib.hid hr
  clear hpv hT4 hO4 hr ka HPV h1 HTV k0
  go_wp2_with fail
  generalize V4z.alloc (.cells #[.slice (some ⟨Gs 0, 0, none⟩) L L, .slice (some ⟨Gs 1, 0, none⟩) L L, .slice (some ⟨Gs 2, 0, none⟩) L L] 121) = V4 at *
  obtain ⟨Vb, hVb⟩ : ∃ D, D = V4z.heap.size := ⟨_, rfl⟩
  rw [← hVb] at v0 v1 v2
  simp only [← hVb]
  have nVb : Vb ≠ R8 := by omega
  clear hVb hVz2
  have eL : L - 1 + 1 = L := by omega
  have kk : Ext V4 V4 := Ext.refl V4
  have HQL := Lib.hid (fun j (hj : j < L) => (show 0 < q j by have := (HR.out.ql j hj).1; omega))
  have HSP := Lib.hid (fun w' (h : Ext V4 w') => zok r n (L - 1) c (wd : Int) T L cq ad Bt q pp a e f w' (by omega) (Lib.hid (HP4.out.ext h)) hok hn (HTB.out.ext h) (HR.out.ext h) (HX4.out.ext h) (Lib.hid fun i hi => by have := hf.out i hi; omega) hTb (Lib.hid fun j hj => hsq.out j (by omega)))
  rw [eL] at HSP
  have HHI := Lib.hid (fun w' (h : Ext V4 w') G6 A6 c6 F6 (hp : PM w' G6 L n A6 c6 F6) (hq6 : Hid (∀ j, j < L → ∀ i, i < n → F6 j i < q j)) => zni r n L (n : Int) (wd : Int) T L cq (some ad) q pp a e GB GA (Gs 0) (Gs 1) (Gs 2) G6 As1 As2 (Av 0) (Av 1) (Av 2) A6 cs1 cs2 (cv 0) (cv 1) (cv 2) c6 FB FA (Fv 0) (Fv 1) (Fv 2) F6 w' (by omega) hn (by omega) hL (HR.out.ext h) (HB.out.ext h) (HA.out.ext h) (HU.out.1.ext h) (HE.out.1.ext h) (HFF.out.1.ext h) hp qB qA (Lib.hid fun j hj i hi => by rw [HU.out.2 j hj]; exact ze5 (HQL.out j hj)) (Lib.hid fun j hj i hi => by rw [HE.out.2 j hj]; exact ze5 (HQL.out j hj)) (Lib.hid fun j hj i hi => by rw [HFF.out.2 j hj]; exact ze5 (HQL.out j hj)) hq6 hsq)
  clear eL
  refine wp_region_held_drew (S := (fun w' => KpB R8 V4 w')) (by kernel_rfl) ?_ (fun hHeld => ?_)
  ·(try dsimp only); (first | (refine KpB.of ?_; (with_reducible repeat first | exact kk | apply xa | apply xd); done) | exact KpB.set (KpB.of (by with_reducible repeat first | exact kk | apply xa | apply xd)) 0 _)
  refine wpAnyH_take (i := 0) (oi := _) (v := ?_) rfl (by kernel_rfl) (by kernel_rfl) (by kernel_rfl) (fun _ _ _ h => h) (Or.inl ⟨by rfl, ?_⟩) (by assumption) ?_
  rotate_left
  ·(intro wS hSw; (try dsimp only at hSw); have t0 := hSw ⟨Pb, 0, none⟩ _ nPb x0; have t1 := hSw ⟨Pb, 1, none⟩ _ nPb x1; have t2 := hSw ⟨Pb, 2, none⟩ _ nPb x2; have t3 := hSw ⟨Pb, 3, none⟩ _ nPb x3; have t4 := hSw ⟨Kb, 0, none⟩ _ nKb kb; have t5 := hSw ⟨Kb, 1, none⟩ _ nKb ka2; have t6 := hSw ⟨D, 0, none⟩ _ nD y0; have t7 := hSw ⟨D, 1, none⟩ _ nD y1; have t8 := hSw ⟨D, 2, none⟩ _ nD y2; have t9 := hSw ⟨D, 3, none⟩ _ nD y3; have t10 := hSw ⟨D, 4, none⟩ _ nD y4; have t11 := hSw ⟨Vb, 0, none⟩ _ nVb v0; have t12 := hSw ⟨Vb, 1, none⟩ _ nVb v1; have t13 := hSw ⟨Vb, 2, none⟩ _ nVb v2; (try go_simp); (try with_reducible rfl))
  try simp only [Act.put, s1, s2, s3]
  refine wpAnyH_take (i := 1) (oi := _) (v := ?_) rfl (by kernel_rfl) (by kernel_rfl) (by kernel_rfl) (fun _ _ _ h => h) (Or.inl ⟨by rfl, ?_⟩) (by assumption) ?_
  rotate_left
  ·(intro wS hSw; (try dsimp only at hSw); have t0 := hSw ⟨Pb, 0, none⟩ _ nPb x0; have t1 := hSw ⟨Pb, 1, none⟩ _ nPb x1; have t2 := hSw ⟨Pb, 2, none⟩ _ nPb x2; have t3 := hSw ⟨Pb, 3, none⟩ _ nPb x3; have t4 := hSw ⟨Kb, 0, none⟩ _ nKb kb; have t5 := hSw ⟨Kb, 1, none⟩ _ nKb ka2; have t6 := hSw ⟨D, 0, none⟩ _ nD y0; have t7 := hSw ⟨D, 1, none⟩ _ nD y1; have t8 := hSw ⟨D, 2, none⟩ _ nD y2; have t9 := hSw ⟨D, 3, none⟩ _ nD y3; have t10 := hSw ⟨D, 4, none⟩ _ nD y4; have t11 := hSw ⟨Vb, 0, none⟩ _ nVb v0; have t12 := hSw ⟨Vb, 1, none⟩ _ nVb v1; have t13 := hSw ⟨Vb, 2, none⟩ _ nVb v2; (try go_simp); (try with_reducible rfl))
  try simp only [Act.put, s1, s2, s3]
  refine wpAnyH_take (i := 2) (oi := _) (v := ?_) rfl (by kernel_rfl) (by kernel_rfl) (by kernel_rfl) (fun _ _ _ h => h) (Or.inl ⟨by rfl, ?_⟩) (by assumption) ?_
  rotate_left
  ·(intro wS hSw; (try dsimp only at hSw); have t0 := hSw ⟨Pb, 0, none⟩ _ nPb x0; have t1 := hSw ⟨Pb, 1, none⟩ _ nPb x1; have t2 := hSw ⟨Pb, 2, none⟩ _ nPb x2; have t3 := hSw ⟨Pb, 3, none⟩ _ nPb x3; have t4 := hSw ⟨Kb, 0, none⟩ _ nKb kb; have t5 := hSw ⟨Kb, 1, none⟩ _ nKb ka2; have t6 := hSw ⟨D, 0, none⟩ _ nD y0; have t7 := hSw ⟨D, 1, none⟩ _ nD y1; have t8 := hSw ⟨D, 2, none⟩ _ nD y2; have t9 := hSw ⟨D, 3, none⟩ _ nD y3; have t10 := hSw ⟨D, 4, none⟩ _ nD y4; have t11 := hSw ⟨Vb, 0, none⟩ _ nVb v0; have t12 := hSw ⟨Vb, 1, none⟩ _ nVb v1; have t13 := hSw ⟨Vb, 2, none⟩ _ nVb v2; (try go_simp); (try with_reducible rfl))
  try simp only [Act.put, s1, s2, s3]
  refine wpAnyH_take (i := 3) (oi := _) (v := ?_) rfl (by kernel_rfl) (by kernel_rfl) (by kernel_rfl) (fun _ _ _ h => h) (Or.inl ⟨by rfl, ?_⟩) (by assumption) ?_
  rotate_left
  ·(intro wS hSw; (try dsimp only at hSw); have t0 := hSw ⟨Pb, 0, none⟩ _ nPb x0; have t1 := hSw ⟨Pb, 1, none⟩ _ nPb x1; have t2 := hSw ⟨Pb, 2, none⟩ _ nPb x2; have t3 := hSw ⟨Pb, 3, none⟩ _ nPb x3; have t4 := hSw ⟨Kb, 0, none⟩ _ nKb kb; have t5 := hSw ⟨Kb, 1, none⟩ _ nKb ka2; have t6 := hSw ⟨D, 0, none⟩ _ nD y0; have t7 := hSw ⟨D, 1, none⟩ _ nD y1; have t8 := hSw ⟨D, 2, none⟩ _ nD y2; have t9 := hSw ⟨D, 3, none⟩ _ nD y3; have t10 := hSw ⟨D, 4, none⟩ _ nD y4; have t11 := hSw ⟨Vb, 0, none⟩ _ nVb v0; have t12 := hSw ⟨Vb, 1, none⟩ _ nVb v1; have t13 := hSw ⟨Vb, 2, none⟩ _ nVb v2; (try go_simp); (try with_reducible rfl))
  try simp only [Act.put, s1, s2, s3]
  refine wpAnyH_take (i := 4) (oi := _) (v := ?_) rfl (by kernel_rfl) (by kernel_rfl) (by kernel_rfl) (fun _ _ _ h => h) (Or.inl ⟨by rfl, ?_⟩) (by assumption) ?_
  rotate_left
  ·(intro wS hSw; (try dsimp only at hSw); have t0 := hSw ⟨Pb, 0, none⟩ _ nPb x0; have t1 := hSw ⟨Pb, 1, none⟩ _ nPb x1; have t2 := hSw ⟨Pb, 2, none⟩ _ nPb x2; have t3 := hSw ⟨Pb, 3, none⟩ _ nPb x3; have t4 := hSw ⟨Kb, 0, none⟩ _ nKb kb; have t5 := hSw ⟨Kb, 1, none⟩ _ nKb ka2; have t6 := hSw ⟨D, 0, none⟩ _ nD y0; have t7 := hSw ⟨D, 1, none⟩ _ nD y1; have t8 := hSw ⟨D, 2, none⟩ _ nD y2; have t9 := hSw ⟨D, 3, none⟩ _ nD y3; have t10 := hSw ⟨D, 4, none⟩ _ nD y4; have t11 := hSw ⟨Vb, 0, none⟩ _ nVb v0; have t12 := hSw ⟨Vb, 1, none⟩ _ nVb v1; have t13 := hSw ⟨Vb, 2, none⟩ _ nVb v2; (try go_simp); (try with_reducible rfl))
  try simp only [Act.put, s1, s2, s3]
  refine wpAnyH_take (i := 5) (oi := _) (v := ?_) rfl (by kernel_rfl) (by kernel_rfl) (by kernel_rfl) (fun _ _ _ h => h) (Or.inl ⟨by rfl, ?_⟩) (by assumption) ?_
  rotate_left
  ·(intro wS hSw; (try dsimp only at hSw); have t0 := hSw ⟨Pb, 0, none⟩ _ nPb x0; have t1 := hSw ⟨Pb, 1, none⟩ _ nPb x1; have t2 := hSw ⟨Pb, 2, none⟩ _ nPb x2; have t3 := hSw ⟨Pb, 3, none⟩ _ nPb x3; have t4 := hSw ⟨Kb, 0, none⟩ _ nKb kb; have t5 := hSw ⟨Kb, 1, none⟩ _ nKb ka2; have t6 := hSw ⟨D, 0, none⟩ _ nD y0; have t7 := hSw ⟨D, 1, none⟩ _ nD y1; have t8 := hSw ⟨D, 2, none⟩ _ nD y2; have t9 := hSw ⟨D, 3, none⟩ _ nD y3; have t10 := hSw ⟨D, 4, none⟩ _ nD y4; have t11 := hSw ⟨Vb, 0, none⟩ _ nVb v0; have t12 := hSw ⟨Vb, 1, none⟩ _ nVb v1; have t13 := hSw ⟨Vb, 2, none⟩ _ nVb v2; (try go_simp); (try with_reducible rfl))
  try simp only [Act.put, s1, s2, s3]
  refine wpAnyH_ready (rs := [6]) (by kernel_rfl) (by simp) ?_
  refine AllReadyH.cons rfl (fun KQ hKQ => ?_) AllReadyH.nil
  go_simp
  (with_reducible refine (HTOP.out _).mono ?_); rintro e5 w5 ⟨h5, k5⟩; rw [e1] at h5; subst h5; replace kk : Ext V4 w5 := (Ext.trans (by with_reducible repeat first | exact kk | apply xa | apply xd) k5); dsimp only
  refine hKQ.out _ _ ?_ (fun hHeld => ?_)
  ·(try dsimp only); (first | (refine KpB.of ?_; (with_reducible repeat first | exact kk | apply xa | apply xd); done) | exact KpB.set (KpB.of (by with_reducible repeat first | exact kk | apply xa | apply xd)) 0 _)
  clear hKQ KQ
  try simp only [Act.put, s1, s2, s3]
  refine wpAnyH_ready (rs := [7]) (by kernel_rfl) (by simp) ?_
  refine AllReadyH.cons rfl (fun KQ hKQ => ?_) AllReadyH.nil
  go_simp
  refine (HSP.out _ (by with_reducible repeat first | exact kk | apply xa | apply xd)).mono ?_; rintro e6 w6 ⟨G6, A6, c6, F6, rfl, hp6, hF6, k6⟩; replace kk : Ext V4 w6 := (Ext.trans (by with_reducible repeat first | exact kk | apply xa | apply xd) k6); dsimp only
  refine hKQ.out _ _ ?_ (fun hHeld => ?_)
  ·(try dsimp only); (first | (refine KpB.of ?_; (with_reducible repeat first | exact kk | apply xa | apply xd); done) | exact KpB.set (KpB.of (by with_reducible repeat first | exact kk | apply xa | apply xd)) 0 _)
  clear hKQ KQ
  try simp only [Act.put, s1, s2, s3]
  refine wpAnyH_ready (rs := [8]) (by kernel_rfl) (by simp) ?_
  refine AllReadyH.cons rfl (fun KQ hKQ => ?_) AllReadyH.nil
  go_simp
  refine (HHI.out _ (by with_reducible repeat first | exact kk | apply xa | apply xd) G6 A6 c6 F6 (PM.ext hp6 (by with_reducible repeat first | exact Ext.refl _ | apply xa | apply xd)) (Lib.hid fun j hj i hi => (hF6.out j hj i hi).1)).mono ?_; rintro e7 w7 ⟨xz, rfl, hcip, k7⟩; replace kk : Ext V4 w7 := (Ext.trans (by with_reducible repeat first | exact kk | apply xa | apply xd) k7); have hr7 := RW.ext HR8.out kk; have c8 := hr7.cell (i := 0) (by omega); have z8 := hr7.frozen 0; have s8 := hr7.lt; dsimp only
  refine hKQ.out _ _ ?_ (fun hHeld => ?_)
  ·(try dsimp only); (first | (refine KpB.of ?_; (with_reducible repeat first | exact kk | apply xa | apply xd); done) | exact KpB.set (KpB.of (by with_reducible repeat first | exact kk | apply xa | apply xd)) 0 _)
  clear hKQ KQ
  try simp only [Act.put, s1, s2, s3]
  refine wpAnyH_ready (rs := [9]) (by kernel_rfl) (by simp) ?_
  refine AllReadyH.cons rfl (fun KQ hKQ => ?_) AllReadyH.nil
  go_simp
  refine hKQ.out _ _ ?_ (fun hHeld => ?_)
  ·(try dsimp only); (first | (refine KpB.of ?_; (with_reducible repeat first | exact kk | apply xa | apply xd); done) | exact KpB.set (KpB.of (by with_reducible repeat first | exact kk | apply xa | apply xd)) 0 _)
  clear hKQ KQ
  try simp only [Act.put, s1, s2, s3]
  refine wpAnyH_ready (rs := [10]) (by kernel_rfl) (by simp) ?_
  refine AllReadyH.cons rfl (fun KQ hKQ => ?_) AllReadyH.nil
  go_simp
  refine hKQ.out _ _ ?_ (fun hHeld => ?_)
  ·(try dsimp only); (first | (refine KpB.of ?_; (with_reducible repeat first | exact kk | apply xa | apply xd); done) | exact KpB.set (KpB.of (by with_reducible repeat first | exact kk | apply xa | apply xd)) 0 _)
  clear hKQ KQ
  try simp only [Act.put, s1, s2, s3]
  refine wpAnyH_done (by kernel_rfl) ?_ _
  obtain ⟨G0, G1, A0, A1, c0, c1, F0, F1, hz, hp0, hp1, hF0, hF1⟩ := hcip
  have h0 := hp0.away hr7 (by decide) (show 0 < 1 by omega) rfl (.slice (some ⟨xz, 0, none⟩) 2 2)
  have h1 := hp1.away hr7 (by decide) (show 0 < 1 by omega) rfl (.slice (some ⟨xz, 0, none⟩) 2 2)
  have h3 := RW.aside hz hr7 (by decide) 0 (.slice (some ⟨xz, 0, none⟩) 2 2)
  have d0 := zas hr7 (.slice (some ⟨xz, 0, none⟩) 2 2)
  have hO := (HO4.out.trans (On.of kk)).store hR8w 0 (.slice (some ⟨xz, 0, none⟩) 2 2)
  have hT9 := (HT4.out.ext kk).away hr7 hR8p (show 0 < 1 by omega) rfl (.slice (some ⟨xz, 0, none⟩) 2 2)
  have HF0 := Lib.hid (show HideA n L T q f acc FB F0 from ⟨_, _, _, HU.out.2, HE.out.2, hF6.out, hF0.out⟩)
  have HF1 := Lib.hid (show HideB n L q acc FA F1 from ⟨_, _, HU.out.2, HFF.out.2, hF1.out⟩)
  clear hz hp0 hp1 hF0 hF1 hr7 hp6 c8 z8 s8
  go_wp2_with fail
  generalize World.setCell _ ⟨R8, 0, none⟩ (.slice (some ⟨xz, 0, none⟩) 2 2) = W9 at *
  exact bodyPost_ret (v := .tuple #[.agg #[.slice (some ⟨xz, 0, none⟩) 2 2], .int .i64 0]) (by simp [results, Tryz.results20, go_sem, d0]) rfl ⟨xz, rfl, ⟨G0, G1, A0, A1, c0, c1, F0, F1, h3, h0, h1, HF0, HF1⟩, hT9, hO⟩
theorem zfr : ∀ (m : Nat) (l : List Nat), l.length ≤ m → EvenW l → l.length / 2 ≤ cntW l
 | 0, l, hm, _ => by omega
 | m + 1, [], _, _ => by simp [cntW]
 | m + 1, [x], _, _ => by simp
 | m + 1, x :: y :: r, hm, h => by
  have h1 : goodW y = true := h 1 y rfl rfl
  have h2 : EvenW r := fun i z hz hi => h (i + 2) z (by simpa using hz) (by omega)
  have ih := zfr m r (by simp at hm; omega) h2
  rw [zcx, zcx, if_pos h1]
  simp
  omega
theorem zj0 {wd n : Nat} {l : List Nat} (h : 3 * n ≤ cntW l) : ∃ acc r, veilS wd n l 3 = some (acc, r) ∧ cntW l ≤ cntW r + 3 * n := by
 obtain ⟨u, r1, h1, c1⟩ := zfx (l := l) n (by omega)
 obtain ⟨e, r2, h2, c2⟩ := zea (w := wd) (l := r1) n (by omega)
 obtain ⟨f, r3, h3, c3⟩ := zea (w := wd) (l := r2) n (by omega)
 have a1 : veilS wd n l 1 = some ([] ++ [u], r1) := zcb (acc := []) (r := l) rfl h1
 have a2 := zcb a1 (show drawV wd n r1 1 = some (e, r2) from h2)
 have a3 := zcb a2 (show drawV wd n r2 2 = some (f, r3) from h3)
 exact ⟨_, _, a3, by omega⟩
theorem zoc {P : Program} {f : FuncId} {args : Array Value} {w : World} {R : Ending → World → Prop} (h : Calls P f args w R) : ∃ e w', R e w' := by
 obtain ⟨e, w', _, hr, _⟩ := h []
 exact ⟨e, w', hr⟩
theorem zvv {x T : Nat} (hx : x < T) (hT : T % 2 = 1) (hT2 : T < 1152921504606846976) : 2 * (cenS (x : Int) (T : Int)).natAbs + 1 ≤ T ∧ resF (decide (cenS (x : Int) (T : Int) < 0)) (cenS (x : Int) (T : Int)).natAbs T = x := by
 have e1 : (x : Int) % (T : Int) = (x : Int) := Int.emod_eq_of_lt (by omega) (by omega)
 unfold cenS
 rw [if_neg (by omega), e1]
 by_cases h : (T : Int) / 2 < (x : Int)
 ·rw [if_pos h]
  have hz : ((x : Int) - (T : Int)).natAbs = T - x := by omega
  refine ⟨by omega, ?_⟩
  rw [hz, decide_eq_true (by omega)]
  unfold resF dif
  simp only [if_true]
  rw [Nat.mod_eq_of_lt (show T - x < T by omega), show 0 + T - (T - x) = x by omega, Nat.mod_eq_of_lt hx]
 ·rw [if_neg h]
  have hz : ((x : Int)).natAbs = x := by omega
  refine ⟨by omega, ?_⟩
  rw [hz, decide_eq_false (by omega)]
  unfold resF
  simp only [Bool.false_eq_true, if_false]
  exact Nat.mod_eq_of_lt hx
theorem zdj {n : Nat} {q : Nat} {F : Nat → Nat} {v : Nat → Int} (hq : 0 < q) (h : F = fun t => lif (v t) q) : ∀ t, t < n → M (q : Int) ((F t : Nat) : Int) (v t) := fun t _ => by rw [h]; exact lif_M hq
def KeyP (n L : Nat) (q : Nat → Nat) (v : Nat → Int) (es : List Int) (FB FA : Nat → Nat → Nat) : Prop := (∀ j, j < L → ∀ i, i < n → FA j i < q j) ∧ ∀ j, j < L → ∀ i, i < n → FB j i < q j ∧ M (q j : Int) (FB j i : Int) (-(nega n (fun t => (FA j t : Int)) v i + es.getD i 0))
theorem ztb {n L T : Nat} {q : Nat → Nat} {f : Nat → Nat} {v : Nat → Int} {es : List Int} {acc : List (List Int)} {FB FA F : Nat → Nat → Nat} {Fs : Nat → Nat → Nat → Nat} (hq : ∀ j, j < L → 2 ≤ q j) (hA : ∀ j, j < L → ∀ (a s u : Nat → Int) (i : Nat), i < n → M (q j : Int) (nega n (nega n a s) u i) (nega n s (nega n a u) i)) (hK : KeyP n L q v es FB FA) (h0 : HideA n L T q f acc FB (Fs 0)) (h1 : HideB n L q acc FA (Fs 1)) (hH : HeldR n L 2 q v Fs F) :
    ∀ j, j < L → ∀ i, i < n → F j i < q j ∧ M (q j : Int) (F j i : Int) (((prodF q L / T : Nat) : Int) * cenC f T i + ((acc.getD 1 []).getD i 0 + nega n v (fun t => (acc.getD 2 []).getD t 0) i - nega n (fun t => es.getD t 0) (fun t => (acc.getD 0 []).getD t 0) i)) := fun j hj i hi => by
 obtain ⟨Fu, Fe, Fp, hu, he, hp, X1, ⟨X0, hX0, hm⟩, ⟨Y1, ⟨Y0, hY0, ha1⟩, ha2⟩⟩ := h0
 obtain ⟨Fu2, Ff, hu2, hf, Z1, ⟨Z0, hZ0, hm2⟩, ⟨W0, hW0, hb1⟩⟩ := h1
 obtain ⟨S, hS, hv, hlt⟩ := hH
 have hrev : (dnB (2 - 1) (2 - 1)).reverse = [0] := rfl
 rw [hrev] at hv
 obtain ⟨V0, V1, hV0, ⟨U0, hU0, hc1⟩, ⟨T0, hT0, hc2⟩⟩ := hv
 have e1 : X0 = FB := hX0
 have e2 : Y0 = X1 := hY0
 have e3 : Z0 = FA := hZ0
 have e4 : W0 = Z1 := hW0
 have e5 : V0 = Fs 1 := hV0
 have e6 : U0 = S := hU0
 have e7 : T0 = Fs 0 := hT0
 subst e1 e2 e3 e4 e5 e6 e7
 have hq0 : 0 < q j := by have := hq j hj; omega
 refine ⟨hlt j hj i hi, ?_⟩
 refine z0z (hA j hj) (A := fun t => (Z0 j t : Int)) (B := fun t => (X0 j t : Int)) (s := v) (u := fun t => (acc.getD 0 []).getD t 0) (e0 := fun t => es.getD t 0) (e := fun t => (acc.getD 1 []).getD t 0) (f := fun t => (acc.getD 2 []).getD t 0) (d := fun t => ((prodF q L / T : Nat) : Int) * cenC f T t) (F0 := fun t => (Fs 0 j t : Int)) (F1 := fun t => (Fs 1 j t : Int)) (H := fun t => (F j t : Int)) (fun t ht => (hK.2 j hj t ht).2) (fun t ht => ?_) (fun t ht => ?_) (fun t ht => ?_) i hi
 ·have a1 : M (q j : Int) _ ((Y1 j t : Int) + (Fp j t : Int)) := (ha2 j hj t ht).2
  have a2 : M (q j : Int) _ ((Y0 j t : Int) + (Fe j t : Int)) := (ha1 j hj t ht).2
  have a3 := (hm j hj t ht).2
  refine a1.trans ?_
  refine (a2.add (hp j hj t ht).2).trans ?_
  refine ((a3.add (zdj hq0 (he j hj) t ht)).add M.rfl).trans ?_
  exact ((zb5 (fun _ _ => M.rfl) (zdj hq0 (hu j hj)) t).add M.rfl).add M.rfl
 ·have a1 := (hb1 j hj t ht).2
  have a3 := (hm2 j hj t ht).2
  refine a1.trans ?_
  refine (a3.add (zdj hq0 (hf j hj) t ht)).trans ?_
  exact (zb5 (fun _ _ => M.rfl) (zdj hq0 (hu2 j hj)) t).add M.rfl
 ·have a1 := (hc2 j hj t ht).2
  have a3 := (hc1 j hj t ht).2
  refine a1.trans ?_
  refine (M.rfl.add a3).trans ?_
  exact M.rfl.add (zb5 (zdj hq0 (hS j hj)) (fun _ _ => M.rfl) t)
theorem zr1 {n L T wd : Nat} {q p : Nat → Nat} {f : Nat → Nat} {v : Nat → Int} {es : List Int} {acc : List (List Int)} {FB FA F : Nat → Nat → Nat} {Fs : Nat → Nat → Nat → Nat} (hn : n ≤ 32) (hwd : wd ≤ 16) (hT : T % 2 = 1) (hT2 : T < 65536) (hT3 : 97 ≤ T) (hq : ∀ j, j < L → 2 ≤ q j) (hA : ∀ j, j < L → ∀ (a s u : Nat → Int) (i : Nat), i < n → M (q j : Int) (nega n (nega n a s) u i) (nega n s (nega n a u) i)) (hg : ∀ j, j < L → Nat.gcd (prodF q j) (q j) = 1) (hQ : 281474976710656 ≤ prodF q L) (hp : Parts L q p)
    (hf : ∀ i, i < n → f i < T) (hv : Tern n v) (hes : ∀ i, (es.getD i 0).natAbs ≤ wd) (hac : ∀ i, i < 3 → ∀ t, ((acc.getD i []).getD t 0).natAbs ≤ (if i = 0 then 1 else wd)) (hK : KeyP n L q v es FB FA) (h0 : HideA n L T q f acc FB (Fs 0)) (h1 : HideB n L q acc FA (Fs 1)) (hH : HeldR n L 2 q v Fs F) :
    ∀ i, i < n → resF (decide (toldZ T L q p F i < 0)) (toldZ T L q p F i).natAbs T = f i := fun i hi => by
 have hh := ztb hq hA hK h0 h1 hH
 obtain ⟨c1, c2⟩ := zvv (hf i hi) hT (by omega)
 have hE : ((acc.getD 1 []).getD i 0 + nega n v (fun t => (acc.getD 2 []).getD t 0) i - nega n (fun t => es.getD t 0) (fun t => (acc.getD 0 []).getD t 0) i).natAbs ≤ wd * (2 * n + 1) :=
  ztx (W := wd) hi (fun t ht => by have := hv t ht; omega) (fun t ht => hac 0 (by omega) t) (fun t ht => hes t) (fun t ht => hac 1 (by omega) t) (fun t ht => hac 2 (by omega) t)
 have hE2 : wd * (2 * n + 1) ≤ 16 * 65 := Nat.mul_le_mul hwd (by omega)
 have hD : 2080 < prodF q L / T := by
  rw [Nat.lt_div_iff_mul_lt (by omega)]
  have : 2080 * T ≤ 2080 * 65536 := Nat.mul_le_mul_left _ (by omega)
  omega
 have hTE : 2 * (T * (wd * (2 * n + 1))) + T * T < prodF q L := by
  have a1 : T * (wd * (2 * n + 1)) ≤ 65536 * 1040 := Nat.mul_le_mul (by omega) (by omega)
  have a2 : T * T ≤ 65536 * 65536 := Nat.mul_le_mul (by omega) (by omega)
  omega
 have ht : toldZ T L q p F i = cenC f T i := by
  unfold toldZ zw5
  exact zys (p := p) (r := fun j => F j i) (L := L) (T := T) (E := wd * (2 * n + 1)) (z := cenC f T i) (fun j hj => ⟨hq j hj, hg j hj, hp j hj, (hh j hj i hi).1, (hh j hj i hi).2⟩) (jn_lt L fun j hj => ⟨by have := hq j hj; omega, (hp j hj).1⟩) (by omega) c1 hE (by omega) hTE
 rw [ht]
 exact c2
theorem z1o : ∀ s, s < 3 → ∀ i, i < 4 → ∀ j, j < 5 → Nat.gcd (prodF (mF s i) j) (mF s i j) = 1 := by decide +kernel
theorem zxp : ∀ s, s < 3 → ∀ i, i < 4 → ∀ L, L < 6 → 2 ≤ L → 281474976710656 ≤ prodF (mF s i) L := by decide +kernel
theorem z01 : ∀ s, s < 3 → ∀ t, t < 4 → mT s t % 2 = 1 := by decide +kernel
end Go.Proofs.YtopbibfpjgjalaaGreatDoor
