import Derived.Test.YtopbibfpjgjalaaGreatDoorZ38
import Derived.Test.YtopbibfpjgjalaaGreatDoorZ43
import Derived.Test.YtopbibfpjgjalaaGreatDoorZ36
import Derived.Test.YtopbibfpjgjalaaGreatDoorZ6
import Derived.Test.YtopbibfpjgjalaaGreatDoorZ26
import Derived.Deep.RegionHeld3
import Derived.Deep.DeepCutAuto
import Derived.Test.YtopbibfpjgjalaaGreatDoorZ41
namespace Go.Proofs.YtopbibfpjgjalaaGreatDoor
open Go.RowKit
set_option linter.unusedVariables false
set_option maxRecDepth 100000
theorem zu6 (w : World) (n : Nat) : RW (w.alloc (.cells (newJ n) 2)) w.heap.size 2 n (fun _ => .int .i64 0) := by
 have h := heap_alloc_new w (.cells (newJ n) 2 (0, 0))
 have e : newJ n = ((List.range n).map fun _ => Value.int .i64 0).toArray := by
  unfold newJ
  congr 1
  apply List.ext_getElem
  ·simp
  ·intro i h1 h2
   simp
 rw [e] at h ⊢
 exact h
theorem RW.vx {w : World} {g n : Nat} {v : Nat → Int} (h : RW w g 2 n (fun i => .int .i64 (v i))) : VX w (some ⟨g, 0, none⟩) n n v :=
 ⟨Nat.le_refl _, fun _ => ⟨_, rfl, fun j hj => by rw [Addr.add_lit, Nat.zero_add]; exact h.cell hj⟩⟩
def cenC (f : Nat → Nat) (T : Nat) (i : Nat) : Int := cenS (f i : Int) (T : Int)
theorem zoi {f : Nat → Nat} {T i : Nat} (hT : T < 1152921504606846976) : -9223372036854775808 ≤ cenC f T i ∧ cenC f T i < 9223372036854775808 := by
 unfold cenC cenS
 have h1 := Int.emod_nonneg (f i : Int) (b := (T : Int))
 have h2 := Int.emod_lt_of_pos (f i : Int) (b := (T : Int))
 by_cases h : (T : Int) = 0 ∨ 4611686018427387904 < (T : Int)
 ·rw [if_pos h]; omega
 ·rw [if_neg h]
  have h3 := h1 (by omega)
  have h4 := h2 (by omega)
  split <;> omega
def SprP (n L T : Nat) (q : Nat → Nat) (f : Nat → Nat) (F : Nat → Nat → Nat) : Prop := ∀ j, j < L → ∀ i, i < n → F j i < q j ∧ M (q j : Int) (F j i : Int) (((prodF q L / T : Nat) : Int) * cenC f T i)
theorem z24 {n L T : Nat} {q : Nat → Nat} {f : Nat → Nat} {F1 F2 F : Nat → Nat → Nat} (hn : 0 < n) (hq : ∀ j, j < L → 0 < q j) (h1 : ∀ j, j < L → ∀ i, i < n → F1 j i = (if i = 0 then prodF q L / T else 0) % q j) (h2 : ∀ j, j < L → F2 j = fun i => lif (cenC f T i) (q j)) (h : JoinR L (RMul n q) F1 (fun _ => F2) 1 F) : SprP n L T q f F := fun j hj i hi => by
 obtain ⟨F', hF', hm⟩ := h
 have e : F' = F1 := hF'
 subst e
 have h3 := hm j hj i hi
 refine ⟨h3.1, h3.2.trans ?_⟩
 have h4 : M (q j : Int) (nega n (fun t => (F' j t : Int)) (fun t => (F2 j t : Int)) i) (nega n (fun t => (F' j t : Int)) (cenC f T) i) := zb5 (fun _ _ => M.rfl) (fun t ht => by rw [h2 j hj]; exact lif_M (hq j hj)) i
 refine h4.trans ?_
 exact zqk hn (by rw [h1 j hj 0 hn, if_pos rfl]; unfold M; rw [Int.natCast_emod, Int.emod_emod]) (fun t ht0 ht => by rw [h1 j hj t ht, if_neg (by omega)]; unfold M; rw [Nat.zero_mod]; rfl) hi
set_option maxHeartbeats 8000000 in
theorem zok (r n k c : Nat) (Wd : Int) (T Lq cq : Nat) (ad : Addr) (B : Option Addr) (q pp : Nat → Nat) (a e : Nat → Nat → Nat) (f : Nat → Nat) (w : World) (hk : k < Lq) (hP : Hid (PA w (n : Int) T (some ad) Lq cq Wd q)) (hok : Hid (ParP (n : Int) T Lq q Wd)) (hn : n ≤ 32) (hT : Tabs w) (hR : Rg w r n Lq q pp a e) (hX : FX w B n c f) (hf : Hid (∀ i, i < n → f i < 18446744073709551616)) (hTb : T < 1152921504606846976) (hsq : Hid (∀ j, j < k + 1 → ∃ x, x < q j ∧ noSq (q j) x = true)) :
    Calls Tryz.prog 56 #[.agg #[.int .i64 (n : Int), .int .u64 (T : Int), .slice (some ad) Lq cq, .int .i64 Wd, .pointer (some ⟨r, 0, none⟩)], .slice B n c, .int .i64 (k : Int)] w (MadeC w n (k + 1) (SprP n (k + 1) T q f)) := by
 obtain ⟨_, hn8, hL1, hL8⟩ := zbx hok.out (by omega)
 have HT := Lib.hid hT
 have HR := Lib.hid hR
 have HX := Lib.hid hX
 clear hT hR hX
 have k0 : Ext w ((w.alloc (.cells #[.int .i64 (n : Int), .int .u64 (T : Int), .slice (some ad) Lq cq, .int .i64 Wd, .pointer (some ⟨r, 0, none⟩)] 114)).alloc (.cells #[.slice none 0 0] 56)) := ((Ext.refl w).alloc _).alloc _
 have ka : Ext (w.alloc (.cells #[.int .i64 (n : Int), .int .u64 (T : Int), .slice (some ad) Lq cq, .int .i64 Wd, .pointer (some ⟨r, 0, none⟩)] 114)) ((w.alloc (.cells #[.int .i64 (n : Int), .int .u64 (T : Int), .slice (some ad) Lq cq, .int .i64 Wd, .pointer (some ⟨r, 0, none⟩)] 114)).alloc (.cells #[.slice none 0 0] 56)) := (Ext.refl _).alloc _
 obtain ⟨x0, x1, x2, x3, x4⟩ := zbt w (.int .i64 (n : Int)) (.int .u64 (T : Int)) (.slice (some ad) Lq cq) (.int .i64 Wd) (.pointer (some ⟨r, 0, none⟩)) 114
 replace x0 := cE ka x0
 replace x1 := cE ka x1
 replace x2 := cE ka x2
 replace x3 := cE ka x3
 replace x4 := cE ka x4
 have hr : RW ((w.alloc (.cells #[.int .i64 (n : Int), .int .u64 (T : Int), .slice (some ad) Lq cq, .int .i64 Wd, .pointer (some ⟨r, 0, none⟩)] 114)).alloc (.cells #[.slice none 0 0] 56)) (w.heap.size + 1) 56 1 (fun _ => .slice none 0 0) := by
  have : RW ((w.alloc (.cells #[.int .i64 (n : Int), .int .u64 (T : Int), .slice (some ad) Lq cq, .int .i64 Wd, .pointer (some ⟨r, 0, none⟩)] 114)).alloc (.cells #[.slice none 0 0] 56)) (w.alloc (.cells #[.int .i64 (n : Int), .int .u64 (T : Int), .slice (some ad) Lq cq, .int .i64 Wd, .pointer (some ⟨r, 0, none⟩)] 114)).heap.size 56 1 (fun _ => .slice none 0 0) := heap_alloc_new _ _
  rwa [show (w.alloc (.cells #[.int .i64 (n : Int), .int .u64 (T : Int), .slice (some ad) Lq cq, .int .i64 Wd, .pointer (some ⟨r, 0, none⟩)] 114)).heap.size = w.heap.size + 1 by simp] at this
 clear ka
 have hmk := zfp n (by omega)
 go_enter Tryz.func56, Tryz.ntmps56
 go_wp2_with fail
 clear hmk
 have hVs : ((w.alloc (.cells #[.int .i64 (n : Int), .int .u64 (T : Int), .slice (some ad) Lq cq, .int .i64 Wd, .pointer (some ⟨r, 0, none⟩)] 114)).alloc (.cells #[.slice none 0 0] 56)).heap.size = w.heap.size + 2 := by simp
 generalize ((w.alloc (.cells #[.int .i64 (n : Int), .int .u64 (T : Int), .slice (some ad) Lq cq, .int .i64 Wd, .pointer (some ⟨r, 0, none⟩)] 114)).alloc (.cells #[.slice none 0 0] 56)) = V at *
 obtain ⟨D, hD⟩ : ∃ D, D = w.heap.size := ⟨_, rfl⟩
 obtain ⟨E, hE⟩ : ∃ E, E = w.heap.size + 1 := ⟨_, rfl⟩
 obtain ⟨g, hg⟩ : ∃ g, g = w.heap.size + 2 := ⟨_, rfl⟩
 have hEw : w.heap.size ≤ E := by omega
 have hED : E ≠ D := by omega
 have hDE : D ≠ E := by omega
 rw [← hD] at x0 x1 x2 x3 x4
 rw [← hE] at hr
 simp only [← hg]
 simp only [← hE]
 simp only [← hD]
 have hDV : D < V.heap.size := by have := hr.lt; omega
 have hgw : w.heap.size ≤ g := by omega
 clear hD hE
 have ka : Ext V (V.alloc (.cells (newJ n) 2)) := (Ext.refl V).alloc _
 have hw := zu6 V n
 have hDg : D ≠ V.heap.size := by omega
 have hEg : E ≠ V.heap.size := by have := hr.lt; omega
 replace x0 := cE ka x0
 replace x1 := cE ka x1
 replace x2 := cE ka x2
 replace x3 := cE ka x3
 replace x4 := cE ka x4
 replace hr := hr.ext ka
 replace k0 := k0.trans ka
 generalize V.alloc (.cells (newJ n) 2) = V1 at *
 rw [hVs] at hw hDg hEg
 rw [← hg] at hw hDg hEg
 clear hg ka hVs
 go_loopw [15] (fun iv wr => ∃ m : Nat, m ≤ n ∧ iv = .int .i64 (m : Int) ∧ RW wr g 2 n (fun i => .int .i64 (if i < m then cenC f T i else 0)) ∧ OnB g V1 wr ∧ Ext w wr) (fun iv _ => n - (intOf iv).toNat)
 case atStart => exact ⟨0, by omega, rfl, hw.congr fun i _ => by rw [if_neg (by omega)], OnB.refl _ _, k0⟩
 case round =>
  obtain ⟨m, hm, rfl, hwr, hob, kr⟩ := hrel
  clear hw
  by_cases hlt : m < n
  ·obtain ⟨ab, rfl, hc⟩ := (HX.out.ext kr).cells (by omega)
   have cx := hc m hlt
   have hfm := hf.out m hlt
   clear hc
   have i0 : (0 : Int) ≤ (m : Int) := by omega
   have i1 : (m : Int) < (n : Int) := by omega
   have y0 := zac hob x0 hDg
   have y1 := zac hob x1 hDg
   have y2 := zac hob x2 hDg
   have y3 := zac hob x3 hDg
   have y4 := zac hob x4 hDg
   have gz := hwr.frozen m
   have gl := hwr.lt
   have gc := hwr.cell hlt
   rw [if_neg (by omega)] at gc
   have HWR := Lib.hid hwr
   have HOB := Lib.hid hob
   have KR := Lib.hid kr
   obtain ⟨X, hXf⟩ : ∃ X, X = f m := ⟨_, rfl⟩
   rw [← hXf] at cx hfm
   have HXF := Lib.hid hXf
   clear hwr hob kr hXf
   go_wp2_with fail
   refine (znq (X : Int) (T : Int) wr (by omega) (by omega) (by omega) (by omega)).mono ?_
   rintro ee w2 ⟨rfl, rfl⟩
   have HS := Lib.hid ((HWR.out.set hlt (.int .i64 (cenS (X : Int) (T : Int)))).congr (G := fun i => .int .i64 (if i < m + 1 then cenC f T i else 0)) fun i hi => by
    by_cases e1 : i = m
    ·subst e1
     rw [if_pos rfl, if_pos (by omega), HXF.out]
     rfl
    ·rw [if_neg e1]
     by_cases e2 : i < m
     ·rw [if_pos e2, if_pos (by omega)]
     ·rw [if_neg e2, if_neg (by omega)])
   have HO := Lib.hid (HOB.out.set m (.int .i64 (cenS (X : Int) (T : Int))))
   have HK := Lib.hid (KR.out.set (p := ⟨g, m, none⟩) hgw (.int .i64 (cenS (X : Int) (T : Int))))
   generalize cenS (X : Int) (T : Int) = z at *
   go_wp2
   exact ⟨⟨m + 1, by omega, by go_num, HS.out, HO.out, HK.out⟩, by simp [intOf]; omega⟩
  ·obtain rfl : m = n := by omega
   have y0 := zac hob x0 hDg
   have y1 := zac hob x1 hDg
   have y2 := zac hob x2 hDg
   have y3 := zac hob x3 hDg
   have y4 := zac hob x4 hDg
   have hrr := hob.rw_ hr hEg
   clear x0 x1 x2 x3 x4 hr
   have x0 := y0
   have x1 := y1
   have x2 := y2
   have x3 := y3
   have x4 := y4
   clear y0 y1 y2 y3 y4
   have HVX := Lib.hid (show VX wr (some ⟨g, 0, none⟩) m m (cenC f T) from (RW.congr hwr (G := fun i => .int .i64 (cenC f T i)) fun i hi => by rw [if_pos hi]).vx)
   have HRR := Lib.hid hrr
   have hrl := hrr.lt
   have KR := Lib.hid kr
   clear hwr hob hrr kr
   have kk : Ext wr wr := Ext.refl wr
   have HST := Lib.hid (fun w' (h : Ext wr w') => ztj r m k Wd T Lq cq ad q w' hk (Lib.hid (hP.out.ext (KR.out.trans h))) hok hn (HT.out.ext (KR.out.trans h)))
   have HLI := Lib.hid (fun w' (h : Ext wr w') => zdx r m Lq k m (m : Int) Wd T Lq cq (some ad) (some ⟨g, 0, none⟩) q pp a e (cenC f T) w' (HR.out.ext (KR.out.trans h)) hk (HVX.out.ext h) (Lib.hid fun i hi => zoi hTb))
   have HJO := Lib.hid (fun w' (h : Ext wr w') x G1 As1 cs1 F1 G2 As2 cs2 F2 (hp1 : PM w' G1 (k + 1) m As1 cs1 F1) (hr1 : RW w' x 56 1 (fun _ => .slice (some ⟨G2, 0, none⟩) (k + 1) (k + 1))) (hp2 : PM w' G2 (k + 1) m As2 cs2 F2) (hq1 : Hid (∀ j, j < k + 1 → ∀ i, i < m → F1 j i < q j)) (hq2 : Hid (∀ j, j < k + 1 → ∀ i, i < m → F2 j i < q j)) => zbm m Lq (k + 1) r x 1 G1 q pp a e As1 cs1 F1 (fun _ => G2) (fun _ => As2) (fun _ => cs2) (fun _ => F2) w' (by omega) hn (by omega) (by omega) hk (by omega) (HR.out.ext (KR.out.trans h)) hp1 hq1 ⟨hr1, fun _ _ => hp2⟩ (Lib.hid fun _ _ => hq2.out) hsq)
   have HQL := Lib.hid (fun j (hj : j < k + 1) => (show 0 < q j by have := (HR.out.ql j (by omega)).1; omega))
   go_wp2_with fail
   go_region_held3 (fun w' => w'.cell? ⟨D, 0, none⟩ = some (.int .i64 (m : Int)) ∧ w'.cell? ⟨D, 1, none⟩ = some (.int .u64 (T : Int)) ∧ w'.cell? ⟨D, 2, none⟩ = some (.slice (some ad) Lq cq) ∧ w'.cell? ⟨D, 3, none⟩ = some (.int .i64 Wd) ∧ w'.cell? ⟨D, 4, none⟩ = some (.pointer (some ⟨r, 0, none⟩))) (go_keep)
    (first
     | (go_at_call 106; refine (HST.out _ (by with_reducible repeat first | exact kk | apply Ext.alloc | apply Ext.drew)).mono ?_; rintro e5 w5 ⟨G1, As1, cs1, F1, rfl, hp1, hF1, k5⟩; have hold := kk.size; replace kk : Ext wr w5 := (by first | with_reducible exact Ext.trans kk k5 | with_reducible exact Ext.trans (Ext.drew kk) k5 | with_reducible exact Ext.trans (Ext.alloc kk _) k5 | with_reducible exact Ext.trans (Ext.drew (Ext.alloc kk _)) k5 | with_reducible exact Ext.trans (Ext.alloc (Ext.drew kk) _) k5); have d0 := cE kk x0; have d1 := cE kk x1; have d2 := cE kk x2; have d3 := cE kk x3; have d4 := cE kk x4)
     | (go_at_call 104; refine (HLI.out _ (by with_reducible repeat first | exact kk | apply Ext.alloc | apply Ext.drew)).mono ?_; rintro e6 w6 ⟨G2, As2, cs2, F2, rfl, hp2, hF2, k6⟩; have hold := kk.size; replace kk : Ext wr w6 := (by first | with_reducible exact Ext.trans kk k6 | with_reducible exact Ext.trans (Ext.drew kk) k6 | with_reducible exact Ext.trans (Ext.alloc kk _) k6 | with_reducible exact Ext.trans (Ext.drew (Ext.alloc kk _)) k6 | with_reducible exact Ext.trans (Ext.alloc (Ext.drew kk) _) k6); replace hp1 := (by first | with_reducible exact PM.ext hp1 k6 | with_reducible exact PM.ext (PM.ext hp1 (Ext.drew (Ext.refl _))) k6); have d0 := cE kk x0; have d1 := cE kk x1; have d2 := cE kk x2; have d3 := cE kk x3; have d4 := cE kk x4)
     | (go_at_call 58; refine (HJO.out _ (by with_reducible repeat first | exact kk | apply Ext.alloc | apply Ext.drew) _ G1 As1 cs1 F1 G2 As2 cs2 F2 (PM.ext hp1 (by with_reducible repeat first | exact Ext.refl _ | apply Ext.alloc | apply Ext.drew)) (by first | exact zab _ _ | exact RW.ext (zab _ _) (Ext.drew (Ext.refl _))) (PM.ext hp2 (by with_reducible repeat first | exact Ext.refl _ | apply Ext.alloc | apply Ext.drew)) (Lib.hid fun j hj i hi => by rw [hF1.out j hj i hi]; exact Nat.mod_lt _ (HQL.out j hj)) (Lib.hid fun j hj i hi => by rw [hF2.out j hj]; exact ze5 (HQL.out j hj))).mono ?_; rintro e7 w7 ⟨G3, As3, cs3, F3, rfl, hp3, hF3, k7⟩; have hold := kk.size; replace kk : Ext wr w7 := (by first | with_reducible exact Ext.trans kk k7 | with_reducible exact Ext.trans (Ext.drew kk) k7 | with_reducible exact Ext.trans (Ext.alloc kk _) k7 | with_reducible exact Ext.trans (Ext.drew (Ext.alloc kk _)) k7 | with_reducible exact Ext.trans (Ext.alloc (Ext.drew kk) _) k7); have d0 := cE kk x0; have d1 := cE kk x1; have d2 := cE kk x2; have d3 := cE kk x3; have d4 := cE kk x4; have hr7 := RW.ext HRR.out kk; have c6 := hr7.cell (i := 0) (by omega); have z6 := hr7.frozen 0; have s6 := hr7.lt)
     | fail)
   all_goals
    have HSP := Lib.hid (z24 (f := f) (by omega) HQL.out hF1.out hF2.out hF3.out)
    have HP3 := Lib.hid hp3
    have HR7 := Lib.hid hr7
    have HK := Lib.hid ((KR.out.trans kk).set (p := ⟨E, 0, none⟩) hEw (.slice (some ⟨G3, 0, none⟩) (k + 1) (k + 1)))
    clear hp1 hp2 hp3 hr7
    go_wp2_with fail
    have d0 := zas HR7.out (.slice (some ⟨G3, 0, none⟩) (k + 1) (k + 1))
    have h1 := HP3.out.aside HR7.out rfl (.slice (some ⟨G3, 0, none⟩) (k + 1) (k + 1))
    have h2 := HK.out
    generalize World.setCell _ ⟨E, 0, none⟩ (.slice (some ⟨G3, 0, none⟩) (k + 1) (k + 1)) = V9 at *
    exact bodyPost_ret (v := .agg #[.slice (some ⟨G3, 0, none⟩) (k + 1) (k + 1)]) (by simp [results, Tryz.results56, go_sem, d0]) rfl ⟨G3, As3, cs3, F3, rfl, h1, HSP, h2⟩
set_option maxHeartbeats 4000000 in
theorem zow (x y m L n : Nat) (Gs Gs2 : Nat → Nat) (Bs Bs2 : Nat → Nat → Option Addr) (cs cs2 : Nat → Nat → Nat) (Fe Fe2 : Nat → Nat → Nat → Nat) (w : World) (hm : m ≤ 3) (hL : L ≤ 24) (hn : n ≤ 32) (hX : ElsAt w x m L n Gs Bs cs Fe) (hY : ElsAt w y m L n Gs2 Bs2 cs2 Fe2) (he : Hid (∀ k, k < m → ∀ j, j < L → ∀ i, i < n → Fe k j i = Fe2 k j i)) :
    Calls Tryz.prog 30 #[.agg #[.slice (some ⟨x, 0, none⟩) m m], .agg #[.slice (some ⟨y, 0, none⟩) m m]] w fun ee w' => ee = .returned (.bool true) ∧ Ext w w' := by
 have HX := Lib.hid hX
 have HY := Lib.hid hY
 clear hX hY
 have k0 : Ext w ((w.alloc (.cells #[.slice (some ⟨x, 0, none⟩) m m] 62)).alloc (.cells #[.slice (some ⟨y, 0, none⟩) m m] 62)) := ((Ext.refl w).alloc _).alloc _
 have xa := cE ((Ext.refl _).alloc (.cells #[.slice (some ⟨y, 0, none⟩) m m] 62)) (zam w (.slice (some ⟨x, 0, none⟩) m m) 62)
 have ya := zam (w.alloc (.cells #[.slice (some ⟨x, 0, none⟩) m m] 62)) (.slice (some ⟨y, 0, none⟩) m m) 62
 rw [show (w.alloc (.cells #[.slice (some ⟨x, 0, none⟩) m m] 62)).heap.size = w.heap.size + 1 by simp] at ya
 go_enter Tryz.func30, Tryz.ntmps30
 go_wp2
 generalize ((w.alloc (.cells #[.slice (some ⟨x, 0, none⟩) m m] 62)).alloc (.cells #[.slice (some ⟨y, 0, none⟩) m m] 62)) = V at *
 obtain ⟨D, hD⟩ : ∃ D, D = w.heap.size := ⟨_, rfl⟩
 obtain ⟨E, hE⟩ : ∃ D, D = w.heap.size + 1 := ⟨_, rfl⟩
 rw [← hD] at xa
 rw [← hE] at ya
 simp only [← hE]
 simp only [← hD]
 clear hD hE
 go_loopw [16] (fun iv wr => ∃ k : Nat, k ≤ m ∧ iv = .int .i64 (k : Int) ∧ Ext V wr) (fun iv _ => m - (intOf iv).toNat)
 case atStart => exact ⟨0, by omega, rfl, Ext.refl V⟩
 case round =>
  obtain ⟨k, hk, rfl, kr⟩ := hrel
  have xr := cE kr xa
  have yr := cE kr ya
  by_cases hlt : k < m
  ·have cx := (HX.out.1.ext (k0.trans kr)).cell hlt
   have cy := (HY.out.1.ext (k0.trans kr)).cell hlt
   have i0 : (0 : Int) ≤ (k : Int) := by omega
   have i1 : (k : Int) < (m : Int) := by omega
   have kk : Ext wr wr := Ext.refl wr
   have KR := Lib.hid kr
   have HSA := Lib.hid (fun w' (h : Ext wr w') => zrc (some ⟨Gs k, 0, none⟩) (some ⟨Gs2 k, 0, none⟩) L L L (Bs k) (Bs2 k) (fun _ => n) (cs k) (cs2 k) (Fe k) (Fe2 k) w' ((HX.out.2 k hlt).px.ext ((k0.trans KR.out).trans h)) ((HY.out.2 k hlt).px.ext ((k0.trans KR.out).trans h)) (by omega) (Lib.hid fun j hj => (show n ≤ 100000 by omega)) (Lib.hid fun j hj i hi => he.out k hlt j hj i hi))
   clear kr
   go_upto_region 6 with fail
   go_region_held3 (fun w' => w'.cell? ⟨D, 0, none⟩ = some (.slice (some ⟨x, 0, none⟩) m m) ∧ w'.cell? ⟨E, 0, none⟩ = some (.slice (some ⟨y, 0, none⟩) m m) ∧ w'.cell? ⟨x, k, none⟩ = some (.slice (some ⟨Gs k, 0, none⟩) L L) ∧ w'.cell? ⟨y, k, none⟩ = some (.slice (some ⟨Gs2 k, 0, none⟩) L L)) (go_keep)
    (first
     | (go_at_call 72; refine (HSA.out _ (by with_reducible repeat first | exact kk | apply Ext.alloc | apply Ext.drew)).mono ?_; rintro e5 w5 ⟨rfl, k5⟩; replace kk : Ext wr w5 := (Ext.trans (by with_reducible repeat first | exact kk | apply Ext.alloc | apply Ext.drew) k5); have d0 := cE kk xr; have d1 := cE kk yr; have d2 := cE kk cx; have d3 := cE kk cy)
     | fail)
   all_goals
    have KN := Lib.hid (KR.out.trans kk)
    (go_wp2; exact ⟨⟨k + 1, by omega, by go_num, KN.out⟩, by simp [intOf]; omega⟩)
  ·obtain rfl : k = m := by omega
   have K := Lib.hid (k0.trans kr)
   clear kr
   go_wp2
   go_ret
   exact ⟨rfl, K.out⟩
set_option maxHeartbeats 8000000 in
theorem zvc (n T L c wd p r G Hg : Nat) (A b : Option Addr) (q pp : Nat → Nat) (a e : Nat → Nat → Nat) (As : Nat → Option Addr) (cs : Nat → Nat) (S : Nat → Nat → Nat) (Hs : Nat → Option Addr) (hcs : Nat → Nat) (Hf : Nat → Nat → Nat) (l : List Nat) (w : World) (hn0 : 2 ≤ n) (hn : n ≤ 32) (hL0 : 1 ≤ L) (hL : L ≤ 24) (hTl : T < 18446744073709551616) (hw0 : 1 ≤ wd) (hw : wd ≤ 16) (hl : l.length ≤ 100000)
    (hT : Hid (Tp w p l)) (hX : Hid (FX w A L c q)) (hR : Hid (Rg w r n L q pp a e)) (hS : Hid (PM w G L n As cs S)) (hSq : Hid (∀ j, j < L → ∀ i, i < n → S j i < q j)) (hH : Hid (PM w Hg L n Hs hcs Hf)) (hHq : Hid (∀ j, j < L → ∀ i, i < n → Hf j i < q j)) (hsq : Hid (∀ j, j < L → ∃ x, x < q j ∧ noSq (q j) x = true)) :
    Calls Tryz.prog 48 #[.agg #[.int .i64 (n : Int), .int .u64 (T : Int), .slice A L c, .int .i64 (wd : Int), .pointer (some ⟨r, 0, none⟩), .pointer b, .slice (some ⟨G, 0, none⟩) L L, .pointer (some ⟨p, 0, none⟩)], .agg #[.slice (some ⟨Hg, 0, none⟩) L L]] w (zzt w p n L wd q l S Hf) := by
 have hp := hT.out.lt
 have hq := Lib.hid (fun j (hj : j < L) => hR.out.ql j hj)
 have k0 : Ext w (((w.alloc (.cells #[.int .i64 (n : Int), .int .u64 (T : Int), .slice A L c, .int .i64 (wd : Int), .pointer (some ⟨r, 0, none⟩), .pointer b, .slice (some ⟨G, 0, none⟩) L L, .pointer (some ⟨p, 0, none⟩)] 91)).alloc (.cells #[.slice (some ⟨Hg, 0, none⟩) L L] 56)).alloc (.cells #[.slice none 0 0, .slice none 0 0] 109)) := (((Ext.refl w).alloc _).alloc _).alloc _
 have k2 : Ext (w.alloc (.cells #[.int .i64 (n : Int), .int .u64 (T : Int), .slice A L c, .int .i64 (wd : Int), .pointer (some ⟨r, 0, none⟩), .pointer b, .slice (some ⟨G, 0, none⟩) L L, .pointer (some ⟨p, 0, none⟩)] 91)) (((w.alloc (.cells #[.int .i64 (n : Int), .int .u64 (T : Int), .slice A L c, .int .i64 (wd : Int), .pointer (some ⟨r, 0, none⟩), .pointer b, .slice (some ⟨G, 0, none⟩) L L, .pointer (some ⟨p, 0, none⟩)] 91)).alloc (.cells #[.slice (some ⟨Hg, 0, none⟩) L L] 56)).alloc (.cells #[.slice none 0 0, .slice none 0 0] 109)) := ((Ext.refl _).alloc _).alloc _
 have x0 : (((w.alloc (.cells #[.int .i64 (n : Int), .int .u64 (T : Int), .slice A L c, .int .i64 (wd : Int), .pointer (some ⟨r, 0, none⟩), .pointer b, .slice (some ⟨G, 0, none⟩) L L, .pointer (some ⟨p, 0, none⟩)] 91)).alloc (.cells #[.slice (some ⟨Hg, 0, none⟩) L L] 56)).alloc (.cells #[.slice none 0 0, .slice none 0 0] 109)).cell? ⟨w.heap.size, 0, none⟩ = some (.int .i64 (n : Int)) := cE k2 (by simp)
 have x1 : (((w.alloc (.cells #[.int .i64 (n : Int), .int .u64 (T : Int), .slice A L c, .int .i64 (wd : Int), .pointer (some ⟨r, 0, none⟩), .pointer b, .slice (some ⟨G, 0, none⟩) L L, .pointer (some ⟨p, 0, none⟩)] 91)).alloc (.cells #[.slice (some ⟨Hg, 0, none⟩) L L] 56)).alloc (.cells #[.slice none 0 0, .slice none 0 0] 109)).cell? ⟨w.heap.size, 1, none⟩ = some (.int .u64 (T : Int)) := cE k2 (by simp)
 have x2 : (((w.alloc (.cells #[.int .i64 (n : Int), .int .u64 (T : Int), .slice A L c, .int .i64 (wd : Int), .pointer (some ⟨r, 0, none⟩), .pointer b, .slice (some ⟨G, 0, none⟩) L L, .pointer (some ⟨p, 0, none⟩)] 91)).alloc (.cells #[.slice (some ⟨Hg, 0, none⟩) L L] 56)).alloc (.cells #[.slice none 0 0, .slice none 0 0] 109)).cell? ⟨w.heap.size, 2, none⟩ = some (.slice A L c) := cE k2 (by simp)
 have x3 : (((w.alloc (.cells #[.int .i64 (n : Int), .int .u64 (T : Int), .slice A L c, .int .i64 (wd : Int), .pointer (some ⟨r, 0, none⟩), .pointer b, .slice (some ⟨G, 0, none⟩) L L, .pointer (some ⟨p, 0, none⟩)] 91)).alloc (.cells #[.slice (some ⟨Hg, 0, none⟩) L L] 56)).alloc (.cells #[.slice none 0 0, .slice none 0 0] 109)).cell? ⟨w.heap.size, 3, none⟩ = some (.int .i64 (wd : Int)) := cE k2 (by simp)
 have x4 : (((w.alloc (.cells #[.int .i64 (n : Int), .int .u64 (T : Int), .slice A L c, .int .i64 (wd : Int), .pointer (some ⟨r, 0, none⟩), .pointer b, .slice (some ⟨G, 0, none⟩) L L, .pointer (some ⟨p, 0, none⟩)] 91)).alloc (.cells #[.slice (some ⟨Hg, 0, none⟩) L L] 56)).alloc (.cells #[.slice none 0 0, .slice none 0 0] 109)).cell? ⟨w.heap.size, 4, none⟩ = some (.pointer (some ⟨r, 0, none⟩)) := cE k2 (by simp)
 have x6 : (((w.alloc (.cells #[.int .i64 (n : Int), .int .u64 (T : Int), .slice A L c, .int .i64 (wd : Int), .pointer (some ⟨r, 0, none⟩), .pointer b, .slice (some ⟨G, 0, none⟩) L L, .pointer (some ⟨p, 0, none⟩)] 91)).alloc (.cells #[.slice (some ⟨Hg, 0, none⟩) L L] 56)).alloc (.cells #[.slice none 0 0, .slice none 0 0] 109)).cell? ⟨w.heap.size, 6, none⟩ = some (.slice (some ⟨G, 0, none⟩) L L) := cE k2 (by simp)
 have x7 : (((w.alloc (.cells #[.int .i64 (n : Int), .int .u64 (T : Int), .slice A L c, .int .i64 (wd : Int), .pointer (some ⟨r, 0, none⟩), .pointer b, .slice (some ⟨G, 0, none⟩) L L, .pointer (some ⟨p, 0, none⟩)] 91)).alloc (.cells #[.slice (some ⟨Hg, 0, none⟩) L L] 56)).alloc (.cells #[.slice none 0 0, .slice none 0 0] 109)).cell? ⟨w.heap.size, 7, none⟩ = some (.pointer (some ⟨p, 0, none⟩)) := cE k2 (by simp)
 have xh : (((w.alloc (.cells #[.int .i64 (n : Int), .int .u64 (T : Int), .slice A L c, .int .i64 (wd : Int), .pointer (some ⟨r, 0, none⟩), .pointer b, .slice (some ⟨G, 0, none⟩) L L, .pointer (some ⟨p, 0, none⟩)] 91)).alloc (.cells #[.slice (some ⟨Hg, 0, none⟩) L L] 56)).alloc (.cells #[.slice none 0 0, .slice none 0 0] 109)).cell? ⟨w.heap.size + 1, 0, none⟩ = some (.slice (some ⟨Hg, 0, none⟩) L L) := cE ((Ext.refl _).alloc _) (by simp)
 have hr : RW (((w.alloc (.cells #[.int .i64 (n : Int), .int .u64 (T : Int), .slice A L c, .int .i64 (wd : Int), .pointer (some ⟨r, 0, none⟩), .pointer b, .slice (some ⟨G, 0, none⟩) L L, .pointer (some ⟨p, 0, none⟩)] 91)).alloc (.cells #[.slice (some ⟨Hg, 0, none⟩) L L] 56)).alloc (.cells #[.slice none 0 0, .slice none 0 0] 109)) (w.heap.size + 1 + 1) 109 2 (fun _ => .slice none 0 0) := by
  have : RW (((w.alloc (.cells #[.int .i64 (n : Int), .int .u64 (T : Int), .slice A L c, .int .i64 (wd : Int), .pointer (some ⟨r, 0, none⟩), .pointer b, .slice (some ⟨G, 0, none⟩) L L, .pointer (some ⟨p, 0, none⟩)] 91)).alloc (.cells #[.slice (some ⟨Hg, 0, none⟩) L L] 56)).alloc (.cells #[.slice none 0 0, .slice none 0 0] 109)) ((w.alloc (.cells #[.int .i64 (n : Int), .int .u64 (T : Int), .slice A L c, .int .i64 (wd : Int), .pointer (some ⟨r, 0, none⟩), .pointer b, .slice (some ⟨G, 0, none⟩) L L, .pointer (some ⟨p, 0, none⟩)] 91)).alloc (.cells #[.slice (some ⟨Hg, 0, none⟩) L L] 56)).heap.size 109 2 (fun _ => .slice none 0 0) := heap_alloc_new _ _
  rwa [show ((w.alloc (.cells #[.int .i64 (n : Int), .int .u64 (T : Int), .slice A L c, .int .i64 (wd : Int), .pointer (some ⟨r, 0, none⟩), .pointer b, .slice (some ⟨G, 0, none⟩) L L, .pointer (some ⟨p, 0, none⟩)] 91)).alloc (.cells #[.slice (some ⟨Hg, 0, none⟩) L L] 56)).heap.size = w.heap.size + 1 + 1 by simp] at this
 clear k2
 go_enter Tryz.func48, Tryz.ntmps48
 go_wp2_with fail
 generalize (((w.alloc (.cells #[.int .i64 (n : Int), .int .u64 (T : Int), .slice A L c, .int .i64 (wd : Int), .pointer (some ⟨r, 0, none⟩), .pointer b, .slice (some ⟨G, 0, none⟩) L L, .pointer (some ⟨p, 0, none⟩)] 91)).alloc (.cells #[.slice (some ⟨Hg, 0, none⟩) L L] 56)).alloc (.cells #[.slice none 0 0, .slice none 0 0] 109)) = V at *
 obtain ⟨D, hD⟩ : ∃ D, D = w.heap.size := ⟨_, rfl⟩
 rw [← hD] at x0 x1 x2 x3 x4 x6 x7 xh hr
 simp only [← hD]
 have hpD : p < D := by omega
 have hDw : w.heap.size ≤ D := by omega
 clear hD
 have kO : On p w V := On.of k0
 have HT := Lib.hid (hT.out.ext k0)
 have HX := Lib.hid (hX.out.ext k0)
 have HRG := Lib.hid (hR.out.ext k0)
 have HS := Lib.hid (hS.out.ext k0)
 have HH := Lib.hid (hH.out.ext k0)
 clear k0
 refine (zkg p n L c A q l V HT hl (by omega) (by omega) hL0 hL HX.out (Lib.hid fun j hj => by have := hq.out j hj; omega)).mono ?_
 rintro ee V1 (⟨acc, r1, GA, gs, h1, rfl, hpa, hGA, hT1, hO1⟩ | ⟨h1, rfl, hT1, hO1⟩)
 case inr =>
  replace hr := hr.onN hO1 (by omega)
  replace kO := kO.trans hO1
  have H1 := Lib.hid h1
  have HT1 := Lib.hid hT1
  have HR2 := Lib.hid hr
  have HK := Lib.hid kO
  have c0 := hr.cell (i := 0) (by omega)
  have c1 := hr.cell (i := 1) (by omega)
  have z0 := hr.frozen 0
  have z1 := hr.frozen 1
  have hsz := hr.lt
  clear h1 hT1 hO1 hr kO x0 x1 x2 x3 x4 x6 x7 xh
  go_wp2_with fail
  obtain ⟨W, hW, e0, e1, hk, ht, _⟩ := zhx (p := p) HR2.out (by decide) HK.out (by omega) HT1.out (by omega) (.slice none 0 0) (.slice none 0 0) ⟨_, _, _, rfl⟩
  rw [hW]
  clear hW c0 c1 z0 z1
  have ka : Ext W (W.alloc (.cells #[.slice none 0 0] 56)) := (Ext.refl W).alloc _
  replace e0 := cE ka e0
  replace e1 := cE ka e1
  replace hk := hk.trans (On.of ka)
  replace ht := ht.ext ka
  generalize W.alloc (.cells #[.slice none 0 0] 56) = W3 at *
  exact bodyPost_ret (v := .tuple #[.agg #[.slice none 0 0, .slice none 0 0], .int .i64 11]) (by simp [results, Tryz.results48, go_sem, e0, e1]) rfl ⟨_, _, _, _, rfl, .inr ⟨rfl, rfl, rfl, rfl, .inl H1.out, ht⟩, hk⟩
 replace x0 := zac hO1 x0 (by simp; omega)
 replace x1 := zac hO1 x1 (by simp; omega)
 replace x2 := zac hO1 x2 (by simp; omega)
 replace x3 := zac hO1 x3 (by simp; omega)
 replace x4 := zac hO1 x4 (by simp; omega)
 replace x6 := zac hO1 x6 (by simp; omega)
 replace x7 := zac hO1 x7 (by simp; omega)
 replace xh := zac hO1 xh (by simp; omega)
 replace hr := hr.onN hO1 (by omega)
 replace kO := kO.trans hO1
 have HRG := Lib.hid (HRG.out.onT HT.out hO1)
 have HS := Lib.hid (HS.out.onT HT.out hO1)
 have HH := Lib.hid (HH.out.onT HT.out hO1)
 have H1 := Lib.hid h1
 have hr1 := (zb9 (fun j hj => by have := hq.out j hj; omega) h1).1
 have ka : Ext V1 (V1.alloc (.cells #[.slice (some ⟨GA, 0, none⟩) L L] 56)) := (Ext.refl V1).alloc _
 have xa : (V1.alloc (.cells #[.slice (some ⟨GA, 0, none⟩) L L] 56)).cell? ⟨V1.heap.size, 0, none⟩ = some (.slice (some ⟨GA, 0, none⟩) L L) := zam _ _ _
 have HPA := Lib.hid (show PM V1 GA L n (fun j => some ⟨gs j, 0, none⟩) (fun _ => n) (accF acc) from hpa)
 have hDV : D < V1.heap.size := by have := hr.lt; omega
 replace x0 := cE ka x0
 replace x1 := cE ka x1
 replace x2 := cE ka x2
 replace x3 := cE ka x3
 replace x4 := cE ka x4
 replace x6 := cE ka x6
 replace x7 := cE ka x7
 replace xh := cE ka xh
 replace hr := hr.ext ka
 replace kO := kO.trans (On.of ka)
 have HRG := Lib.hid (HRG.out.ext ka)
 have HS := Lib.hid (HS.out.ext ka)
 have HH := Lib.hid (HH.out.ext ka)
 have HPA := Lib.hid (HPA.out.ext ka)
 have HT1 := Lib.hid (hT1.ext ka)
 clear h1 hpa hT1 hO1 ka
 go_wp2_with fail
 generalize (V1.alloc (.cells #[.slice (some ⟨GA, 0, none⟩) L L] 56)) = V2 at *
 obtain ⟨a0, ha0⟩ : ∃ a0, a0 = V1.heap.size := ⟨_, rfl⟩
 rw [← ha0] at xa hDV
 simp only [← ha0]
 clear ha0
 refine (zhb p wd n r1 V2 HT1 (by omega) (by omega) (by omega) hw0 hw).mono ?_
 rintro ee V3 (⟨es, r2, E, h2, rfl, hE, hT2, hO2⟩ | ⟨h2, rfl, hT2, hO2⟩)
 case inr =>
  replace hr := hr.onN hO2 (by omega)
  replace kO := kO.trans hO2
  have H2 := Lib.hid h2
  have HT2 := Lib.hid hT2
  have HR2 := Lib.hid hr
  have HK := Lib.hid kO
  have c0 := hr.cell (i := 0) (by omega)
  have c1 := hr.cell (i := 1) (by omega)
  have z0 := hr.frozen 0
  have z1 := hr.frozen 1
  have hsz := hr.lt
  clear h2 hT2 hO2 hr kO x0 x1 x2 x3 x4 x6 x7 xh
  go_wp2_with fail
  obtain ⟨W, hW, e0, e1, hk, ht, _⟩ := zhx (p := p) HR2.out (by decide) HK.out (by omega) HT2.out (by omega) (.slice none 0 0) (.slice none 0 0) ⟨_, _, _, rfl⟩
  rw [hW]
  clear hW c0 c1 z0 z1
  exact bodyPost_ret (v := .tuple #[.agg #[.slice none 0 0, .slice none 0 0], .int .i64 11]) (by simp [results, Tryz.results48, go_sem, e0, e1]) rfl ⟨_, _, _, _, rfl, .inr ⟨rfl, rfl, rfl, rfl, .inr ⟨acc, r1, H1.out, H2.out⟩, ht⟩, hk⟩
 replace x0 := zac hO2 x0 (by simp; omega)
 replace x1 := zac hO2 x1 (by simp; omega)
 replace x2 := zac hO2 x2 (by simp; omega)
 replace x3 := zac hO2 x3 (by simp; omega)
 replace x4 := zac hO2 x4 (by simp; omega)
 replace x6 := zac hO2 x6 (by simp; omega)
 replace xh := zac hO2 xh (by simp; omega)
 replace xa := zac hO2 xa (by simp; omega)
 replace hr := hr.onN hO2 (by omega)
 replace kO := kO.trans hO2
 have HRG := Lib.hid (HRG.out.onT HT1.out hO2)
 have HS := Lib.hid (HS.out.onT HT1.out hO2)
 have HH := Lib.hid (HH.out.onT HT1.out hO2)
 have HPA := Lib.hid (HPA.out.onT HT1.out hO2)
 have H2 := Lib.hid h2
 have HE := Lib.hid hE.vxT
 have HAQ := Lib.hid (fun j (hj : j < L) i (hi : i < n) => zyj (fun j hj => by have := hq.out j hj; omega) H1.out hj hi)
 have HT2 := Lib.hid hT2
 have HEB := Lib.hid (show ∀ i, i < n → -9223372036854775808 ≤ es.getD i 0 ∧ es.getD i 0 < 9223372036854775808 from fun i hi => by have := zkx hw h2 i; omega)
 clear h2 hE hT2 hO2 x7
 go_wp2_with fail
 refine (zmw r n L q pp a e _ _ L L L _ _ (fun _ => n) _ (fun _ => n) _ (accF acc) S V3 HRG.out (Lib.hid ⟨HPA.out.px, by omega, fun _ _ => (show n ≤ 1000000000000000 by omega)⟩) (Lib.hid ⟨HS.out.px, by omega, fun _ _ => (show n ≤ 1000000000000000 by omega)⟩) ⟨⟨by omega, Nat.le_refl _, fun j hj => ⟨rfl, HAQ.out j hj⟩⟩, ⟨by omega, Nat.le_refl _, fun j hj => ⟨rfl, hSq.out j hj⟩⟩⟩ hsq.out).mono ?_
 rintro ee V4 ⟨Gm, Ms, mcs, Fm, rfl, hpm, hFm, k4⟩
 have kz : Ext V4 (V4.alloc (.cells #[.slice (some ⟨Gm, 0, none⟩) L L] 56)) := (Ext.refl V4).alloc _
 have xm : (V4.alloc (.cells #[.slice (some ⟨Gm, 0, none⟩) L L] 56)).cell? ⟨V4.heap.size, 0, none⟩ = some (.slice (some ⟨Gm, 0, none⟩) L L) := zam _ _ _
 have kA := k4.trans kz
 replace x0 := cE kA x0
 replace x1 := cE kA x1
 replace x2 := cE kA x2
 replace x3 := cE kA x3
 replace x4 := cE kA x4
 replace xh := cE kA xh
 replace xa := cE kA xa
 replace hr := hr.ext kA
 replace kO := kO.trans (On.of kA)
 have HRG := Lib.hid (HRG.out.ext kA)
 have HH := Lib.hid (HH.out.ext kA)
 have HPA := Lib.hid (HPA.out.ext kA)
 have HE := Lib.hid (HE.out.ext kA)
 have HT2 := Lib.hid (HT2.out.ext kA)
 have HPMM := Lib.hid (hpm.ext kz)
 clear hpm kA kz k4
 go_upto_region 8 with fail
 generalize (V4.alloc (.cells #[.slice (some ⟨Gm, 0, none⟩) L L] 56)) = V5 at *
 obtain ⟨m0, hm0⟩ : ∃ m0, m0 = V4.heap.size := ⟨_, rfl⟩
 rw [← hm0] at xm
 simp only [← hm0]
 clear hm0
 have hDV5 : D < V5.heap.size := by have := hr.lt; omega
 have e1 : ((L : Int) - 1) = ((L - 1 : Nat) : Int) := by omega
 go_cut [11, 12] (fun s11 s12 wx => ∃ b8, s11 = .pointer (some ⟨b8, 0, none⟩) ∧ s12 = .int .i64 0 ∧ LocY V5 wx b8 L n (fun F => ∀ j, j < L → F j = fun i => lif (es.getD i 0) (q j)))
 case first =>
  have kk : Ext V5 V5 := Ext.refl V5
  have HLI := Lib.hid (fun w' (h : Ext V5 w') => zf1 r n L q pp a e E n (L - 1) (fun i => es.getD i 0) w' (HRG.out.ext h) (by omega) (HE.out.ext h) (Lib.hid HEB.out))
  go_region_held3 (fun w' => w'.cell? ⟨D, 0, none⟩ = some (.int .i64 (n : Int)) ∧ w'.cell? ⟨D, 1, none⟩ = some (.int .u64 (T : Int)) ∧ w'.cell? ⟨D, 2, none⟩ = some (.slice A L c) ∧ w'.cell? ⟨D, 3, none⟩ = some (.int .i64 (wd : Int)) ∧ w'.cell? ⟨D, 4, none⟩ = some (.pointer (some ⟨r, 0, none⟩))) (go_keep)
   (first
    | (go_at_call 53; refine (zet (n : Int) (T : Int) (wd : Int) A L c _ (by omega)).mono ?_; rintro e5 w5 ⟨h5, k5⟩; rw [e1] at h5; subst h5; have hold := kk.size; replace kk : Ext V5 w5 := (by first | with_reducible exact Ext.trans kk k5 | with_reducible exact Ext.trans (Ext.drew kk) k5 | with_reducible exact Ext.trans (Ext.alloc kk _) k5 | with_reducible exact Ext.trans (Ext.drew (Ext.alloc kk _)) k5 | with_reducible exact Ext.trans (Ext.alloc (Ext.drew kk) _) k5); (first | (have hpr3 := (by first | with_reducible exact RW.ext hpr k5 | with_reducible exact RW.ext hpr ((Ext.refl _).drew.trans k5)); replace hpr := hpr3; have q0 := hpr.cell (i := 0) (by omega); have g0 := hpr.frozen 0; have gl := hpr.lt) | (have hpr := (by first | with_reducible exact RW.ext (zab _ _) k5 | with_reducible exact RW.ext (zab _ _) ((Ext.refl _).drew.trans k5)); have q0 := hpr.cell (i := 0) (by omega); have g0 := hpr.frozen 0; have gl := hpr.lt; have hbk := hold; have m0 := eq_false (show ¬ D = _ from Nat.ne_of_lt (Nat.lt_of_lt_of_le hDV5 hold)); have m1 := eq_false (show ¬ _ = D from (Nat.ne_of_lt (Nat.lt_of_lt_of_le hDV5 hold)).symm)) | skip); have d0 := cE kk x0; have d1 := cE kk x1; have d2 := cE kk x2; have d3 := cE kk x3; have d4 := cE kk x4)
    | (go_at_call 79; refine (HLI.out _ (by with_reducible repeat first | exact kk | apply Ext.alloc | apply Ext.drew)).mono ?_; rintro e6 w6 ⟨Gn, Ns, ncs, Fn, rfl, hpn, hFn, k6⟩; have hold := kk.size; replace kk : Ext V5 w6 := (by first | with_reducible exact Ext.trans kk k6 | with_reducible exact Ext.trans (Ext.drew kk) k6 | with_reducible exact Ext.trans (Ext.alloc kk _) k6 | with_reducible exact Ext.trans (Ext.drew (Ext.alloc kk _)) k6 | with_reducible exact Ext.trans (Ext.alloc (Ext.drew kk) _) k6); (first | (have hpr3 := (by first | with_reducible exact RW.ext hpr k6 | with_reducible exact RW.ext hpr ((Ext.refl _).drew.trans k6)); replace hpr := hpr3; have q0 := hpr.cell (i := 0) (by omega); have g0 := hpr.frozen 0; have gl := hpr.lt) | (have hpr := (by first | with_reducible exact RW.ext (zab _ _) k6 | with_reducible exact RW.ext (zab _ _) ((Ext.refl _).drew.trans k6)); have q0 := hpr.cell (i := 0) (by omega); have g0 := hpr.frozen 0; have gl := hpr.lt; have hbk := hold; have m0 := eq_false (show ¬ D = _ from Nat.ne_of_lt (Nat.lt_of_lt_of_le hDV5 hold)); have m1 := eq_false (show ¬ _ = D from (Nat.ne_of_lt (Nat.lt_of_lt_of_le hDV5 hold)).symm)) | skip); have d0 := cE kk x0; have d1 := cE kk x1; have d2 := cE kk x2; have d3 := cE kk x3; have d4 := cE kk x4)
    | fail)
  all_goals
   rw [show L - 1 + 1 = L by omega] at *
   (go_wp2_with fail; go_meet; (first | exact ⟨_, rfl, rfl, zah kk hpn hFn.out⟩ | exact ⟨_, rfl, rfl, zag kk hpr hbk hpn hFn.out⟩))
 case rest =>
  obtain ⟨b8, rfl, rfl, hl0⟩ := hcut
  rename World => V6
  obtain ⟨Gn, Ns, ncs, Fn, hrb, hpn, hFn, hb8, k6⟩ := hl0
  have xn := hrb.cell (i := 0) (by omega)
  replace x4 := cE k6 x4
  replace xh := cE k6 xh
  replace xa := cE k6 xa
  replace xm := cE k6 xm
  replace hr := hr.ext k6
  replace kO := kO.trans (On.of k6)
  have HRG := Lib.hid (HRG.out.ext k6)
  have HH := Lib.hid (HH.out.ext k6)
  have HPA := Lib.hid (HPA.out.ext k6)
  have HT2 := Lib.hid (HT2.out.ext k6)
  have HPMM := Lib.hid (HPMM.out.ext k6)
  have HMQ := Lib.hid (fun j (hj : j < L) i (hi : i < n) => (hFm.out j hj i hi).1)
  have HNQ := Lib.hid (fun j (hj : j < L) i (hi : i < n) => (show Fn j i < q j by rw [hFn.out j hj]; exact ze5 (by have := (hq.out j hj).1; omega)))
  have HPN := Lib.hid hpn
  clear hrb hpn k6 x0 x1 x2 x3
  go_wp2_with fail
  refine (zly r n L q pp a e _ _ L L L _ _ (fun _ => n) _ (fun _ => n) _ Fm Fn V6 HRG.out (Lib.hid ⟨HPMM.out.px, by omega, fun _ _ => (show n ≤ 1000000000000000 by omega)⟩) (Lib.hid ⟨HPN.out.px, by omega, fun _ _ => (show n ≤ 1000000000000000 by omega)⟩) ⟨⟨by omega, Nat.le_refl _, fun j hj => ⟨rfl, HMQ.out j hj⟩⟩, ⟨by omega, Nat.le_refl _, fun j hj => ⟨rfl, HNQ.out j hj⟩⟩⟩).mono ?_
  rintro ee V7 ⟨Gs, Ss, scs, Fs, rfl, hps, hFs, k7⟩
  have kz : Ext V7 (V7.alloc (.cells #[.slice (some ⟨Gs, 0, none⟩) L L] 56)) := (Ext.refl V7).alloc _
  have xs : (V7.alloc (.cells #[.slice (some ⟨Gs, 0, none⟩) L L] 56)).cell? ⟨V7.heap.size, 0, none⟩ = some (.slice (some ⟨Gs, 0, none⟩) L L) := zam _ _ _
  have kA := k7.trans kz
  replace x4 := cE kA x4
  replace xh := cE kA xh
  replace xa := cE kA xa
  replace hr := hr.ext kA
  replace kO := kO.trans (On.of kA)
  have HRG := Lib.hid (HRG.out.ext kA)
  have HH := Lib.hid (HH.out.ext kA)
  have HPA := Lib.hid (HPA.out.ext kA)
  have HT2 := Lib.hid (HT2.out.ext kA)
  have HPS := Lib.hid (hps.ext kz)
  have HSQ := Lib.hid (fun j (hj : j < L) i (hi : i < n) => (show Fs j i < q j by rw [hFs.out j hj]; exact Nat.mod_lt _ (by have := (hq.out j hj).1; omega)))
  clear hps kA kz k7 xm xn
  go_wp2_with fail
  generalize (V7.alloc (.cells #[.slice (some ⟨Gs, 0, none⟩) L L] 56)) = V8 at *
  refine (zwh r n L q pp a e _ _ L L L _ _ (fun _ => n) _ (fun _ => n) _ Hf Fs V8 HRG.out (Lib.hid ⟨HH.out.px, by omega, fun _ _ => (show n ≤ 1000000000000000 by omega)⟩) (Lib.hid ⟨HPS.out.px, by omega, fun _ _ => (show n ≤ 1000000000000000 by omega)⟩) ⟨⟨by omega, Nat.le_refl _, fun j hj => ⟨rfl, hHq.out j hj⟩⟩, ⟨by omega, Nat.le_refl _, fun j hj => ⟨rfl, HSQ.out j hj⟩⟩⟩).mono ?_
  rintro ee V9 ⟨Gb, Bs, bcs, Fb, rfl, hpb, hFb, k9⟩
  have kz : Ext V9 (V9.alloc (.cells #[.slice (some ⟨Gb, 0, none⟩) L L] 56)) := (Ext.refl V9).alloc _
  have xb : (V9.alloc (.cells #[.slice (some ⟨Gb, 0, none⟩) L L] 56)).cell? ⟨V9.heap.size, 0, none⟩ = some (.slice (some ⟨Gb, 0, none⟩) L L) := zam _ _ _
  have kA := k9.trans kz
  replace xa := cE kA xa
  replace hr := hr.ext kA
  replace kO := kO.trans (On.of kA)
  have HPA := Lib.hid (HPA.out.ext kA)
  have HT2 := Lib.hid (HT2.out.ext kA)
  have HPB := Lib.hid (hpb.ext kz)
  have HR2 := Lib.hid hr
  have HK := Lib.hid kO
  have c0 := hr.cell (i := 0) (by omega)
  have c1 := hr.cell (i := 1) (by omega)
  have z0 := hr.frozen 0
  have z1 := hr.frozen 1
  have hsz := hr.lt
  clear hpb kA kz k9 xs xh x4 hr kO
  go_wp2_with fail
  obtain ⟨W, hW, e0, e1, hk, ht, hpm⟩ := zhx (p := p) HR2.out (by decide) HK.out (by omega) HT2.out (by omega) (.slice (some ⟨Gb, 0, none⟩) L L) (.slice (some ⟨GA, 0, none⟩) L L) ⟨_, _, _, rfl⟩
  rw [hW]
  clear hW c0 c1 z0 z1
  have w1 := hpm HPB.out
  have w2 := hpm HPA.out
  clear hpm
  exact bodyPost_ret (v := .tuple #[.agg #[.slice (some ⟨Gb, 0, none⟩) L L, .slice (some ⟨GA, 0, none⟩) L L], .int .i64 0]) (by simp [results, Tryz.results48, go_sem, e0, e1]) rfl ⟨_, _, _, _, rfl, .inl ⟨rfl, rfl, acc, r1, es, r2, Gb, GA, Bs, _, bcs, _, Fb, H1.out, H2.out, rfl, rfl, w1, w2, Lib.hid ⟨HAQ.out, zyk (fun j hj => (hq.out j hj).1) (fun j hj i hi => hFm.out j hj i hi) (fun j hj => hFn.out j hj) (fun j hj => hFs.out j hj) (fun j hj => hFb.out j hj) hHq.out⟩, ht⟩, hk⟩
theorem zd6 (w : World) : RW (w.alloc (.cells #[.slice none 0 0, .slice none 0 0] 109)) w.heap.size 109 2 (fun _ => .slice none 0 0) := heap_alloc_new w _
def zrv (w wx : World) (p n L wd : Nat) (q : Nat → Nat) (l : List Nat) (S Hf : Nat → Nat → Nat) (b10 : Nat) (x : Int) : Prop :=
 ∃ (BB AA : Option Addr) (m : Nat), RW wx b10 109 2 (fun i => if i = 0 then .slice BB m m else .slice AA m m) ∧ HidIs wx p n L wd q l S Hf x BB AA m ∧ On p w wx ∧ w.heap.size ≤ b10
theorem zny {w w6 : World} {p n L wd : Nat} {q : Nat → Nat} {l : List Nat} {S Hf : Nat → Nat → Nat} {x : Int} {BB AA : Option Addr} {m : Nat} (h : HidIs w6 p n L wd q l S Hf x BB AA m) (hO : On p w w6) : zrv w (w6.alloc (.cells #[.slice BB m m, .slice AA m m] 109)) p n L wd q l S Hf w6.heap.size x :=
 ⟨BB, AA, m, heap_alloc_new _ _, h.keep (fun h => h.ext ((Ext.refl _).alloc _)) (fun r h => h.ext ((Ext.refl _).alloc _)), hO.trans (On.of ((Ext.refl _).alloc _)), hO.size⟩
theorem zn3 {w w6 : World} {p n L wd b : Nat} {q : Nat → Nat} {l : List Nat} {S Hf : Nat → Nat → Nat} {x : Int} {BB AA : Option Addr} {m : Nat} (h : HidIs w6 p n L wd q l S Hf x BB AA m) (hO : On p w w6) (hr : RW w6 b 109 2 (fun _ => .slice none 0 0)) (hb : w.heap.size ≤ b) (hp : p < w.heap.size) : zrv w ((w6.setCell ⟨b, 0, none⟩ (.slice BB m m)).setCell ⟨b, 1, none⟩ (.slice AA m m)) p n L wd q l S Hf b x := by
 have h1 := hr.set (show 0 < 2 by omega) (.slice BB m m)
 have h2 := h1.set (show 1 < 2 by omega) (.slice AA m m)
 refine ⟨BB, AA, m, h2.congr fun i hi => ?_, h.keep (fun h => (h.away hr (by decide) (show 0 < 2 by omega) rfl _).away h1 (by decide) (show 1 < 2 by omega) (if_neg (by omega)) _) (fun r h => (h.away hr (by omega) (show 0 < 2 by omega) rfl _).away h1 (by omega) (show 1 < 2 by omega) (if_neg (by omega)) _), (hO.store hb 0 _).store hb 1 _, hb⟩
 rcases (show i = 0 ∨ i = 1 by omega) with rfl | rfl
 ·rfl
 ·rfl
theorem zub {w V : World} {g p : Nat} {t : TypeId} {B0 : Option Addr} {m0 k0 : Nat} (hr : RW V g t 2 (fun _ => .slice B0 m0 k0)) (ht : 22 ≠ t) (hk : On p w V) (hg : w.heap.size ≤ g) (hp : p < w.heap.size) (b c : Value) (hb : ∃ B m k, b = .slice B m k) :
    ∃ W, (V.setCell ⟨g, 0, none⟩ b).setCell ⟨g, 1, none⟩ c = W ∧ W.cell? ⟨g, 0, none⟩ = some b ∧ W.cell? ⟨g, 1, none⟩ = some c ∧ On p w W ∧ (∀ r, Tp V p r → Tp W p r) ∧ (∀ {G L n As cs F}, PM V G L n As cs F → PM W G L n As cs F) := by
 have h1 := hr.set (show 0 < 2 by omega) b
 have h2 := h1.set (show 1 < 2 by omega) c
 refine ⟨_, rfl, ?_, ?_, (hk.store hg 0 b).store hg 1 c, fun r hT => ?_, fun h => ?_⟩
 ·have := h2.cell (i := 0) (by omega)
  simpa using this
 ·have := h2.cell (i := 1) (by omega)
  simpa using this
 ·exact (hT.away hr (by omega) (show 0 < 2 by omega) rfl b).away h1 (by omega) (show 1 < 2 by omega) (show _ = Value.slice B0 m0 k0 from if_neg (by omega)) c
 ·exact (h.away hr ht (show 0 < 2 by omega) rfl b).away h1 ht (show 1 < 2 by omega) (show _ = Value.slice B0 m0 k0 from if_neg (by omega)) c
def zza (w : World) (p n L wd : Nat) (q : Nat → Nat) (l : List Nat) (v : Nat → Int) (e : Ending) (w' : World) : Prop :=
 ∃ (x : Int) (BB AA : Option Addr) (m : Nat) (S : Nat → Nat → Nat), e = .returned (.tuple #[.agg #[.slice BB m m, .slice AA m m], .int .i64 x]) ∧ HidIs w' p n L wd q l S (fun _ _ => 0) x BB AA m ∧ Hid (∀ j, j < L → S j = fun i => lif (v i) (q j)) ∧ On p w w'
theorem HidIs.err {w' : World} {p n L wd : Nat} {q : Nat → Nat} {l : List Nat} {S Hf : Nat → Nat → Nat} {x : Int} {BB AA : Option Addr} {m : Nat} (h : HidIs w' p n L wd q l S Hf x BB AA m) : 0 ≤ x ∧ x ≤ 11 ∧ m ≤ L := by
 rcases h with ⟨h1, h2, _⟩ | ⟨h1, h2, _⟩ <;> omega
set_option maxHeartbeats 8000000 in
theorem zn5 {n T L c wd : Nat} {A : Option Addr} {q : Nat → Nat} (p d : Nat) (l : List Nat) (B : Option Addr) (v : Nat → Int) (w : World) (hP : Hid (PA w (n : Int) T A L c (wd : Int) q)) (hN : n ≤ 32) (hL : L ≤ 24) (hX : VX w B n d v) (hv : Hid (∀ i, i < n → -9223372036854775808 ≤ v i ∧ v i < 9223372036854775808)) (hT : Tabs w) (hok : Hid (ParP (n : Int) T L q (wd : Int))) (hs : Hid (Tern n v)) (hTp : Hid (Tp w p l)) (hl : l.length ≤ 100000) (hsq : Hid (∀ j, j < L → ∃ x, x < q j ∧ noSq (q j) x = true)) :
    Calls Tryz.prog 19 #[.agg #[.int .i64 (n : Int), .int .u64 (T : Int), .slice A L c, .int .i64 (wd : Int)], .slice B n d, .pointer (some ⟨p, 0, none⟩)] w (zza w p n L wd q l v) := by
 have HT := Lib.hid hT
 have HX := Lib.hid hX
 clear hT hX
 have hpw := hTp.out.lt
 have ht1 := hP.out.t1
 have k0 : Ext w ((w.alloc (.cells #[.int .i64 (n : Int), .int .u64 (T : Int), .slice A L c, .int .i64 (wd : Int)] 28)).alloc (.cells #[.slice none 0 0, .slice none 0 0] 58)) := ((Ext.refl w).alloc _).alloc _
 have k2 : Ext (w.alloc (.cells #[.int .i64 (n : Int), .int .u64 (T : Int), .slice A L c, .int .i64 (wd : Int)] 28)) ((w.alloc (.cells #[.int .i64 (n : Int), .int .u64 (T : Int), .slice A L c, .int .i64 (wd : Int)] 28)).alloc (.cells #[.slice none 0 0, .slice none 0 0] 58)) := (Ext.refl _).alloc _
 obtain ⟨x0, x1, x2, x3⟩ := za6 w (.int .i64 (n : Int)) (.int .u64 (T : Int)) (.slice A L c) (.int .i64 (wd : Int)) 28
 replace x0 := cE k2 x0
 replace x1 := cE k2 x1
 replace x2 := cE k2 x2
 replace x3 := cE k2 x3
 have hr : RW ((w.alloc (.cells #[.int .i64 (n : Int), .int .u64 (T : Int), .slice A L c, .int .i64 (wd : Int)] 28)).alloc (.cells #[.slice none 0 0, .slice none 0 0] 58)) (w.heap.size + 1) 58 2 (fun _ => .slice none 0 0) := by
  have : RW ((w.alloc (.cells #[.int .i64 (n : Int), .int .u64 (T : Int), .slice A L c, .int .i64 (wd : Int)] 28)).alloc (.cells #[.slice none 0 0, .slice none 0 0] 58)) (w.alloc (.cells #[.int .i64 (n : Int), .int .u64 (T : Int), .slice A L c, .int .i64 (wd : Int)] 28)).heap.size 58 2 (fun _ => .slice none 0 0) := heap_alloc_new _ _
  rwa [show (w.alloc (.cells #[.int .i64 (n : Int), .int .u64 (T : Int), .slice A L c, .int .i64 (wd : Int)] 28)).heap.size = w.heap.size + 1 by simp] at this
 clear k2
 obtain ⟨hrow, hn8, hL1, hL8⟩ := zbx hok.out (by omega)
 obtain ⟨hw0, hw16⟩ : 1 ≤ wd ∧ wd ≤ 16 := by have h := hok.out 1 (by omega); have h2 : 1 ≤ (wd : Int) ∧ (wd : Int) ≤ 16 := h; omega
 clear hrow
 go_enter Tryz.func19, Tryz.ntmps19
 go_wp2_with fail
 generalize ((w.alloc (.cells #[.int .i64 (n : Int), .int .u64 (T : Int), .slice A L c, .int .i64 (wd : Int)] 28)).alloc (.cells #[.slice none 0 0, .slice none 0 0] 58)) = V at *
 refine (zo2 d B v (some ⟨p, 0, none⟩) V (Lib.hid (hP.out.ext k0)) (by omega) (by omega) (HX.out.ext k0) hv (HT.out.ext k0) hok hs).mono ?_
 rintro ee V1 ⟨r, b, G, rfl, hdr⟩
 obtain ⟨pp, a, e, kz, rr, u, xz, As, cs, F, hRg, _, _, _, hPM, hF, k1⟩ := hdr
 have HPV := Lib.hid (show p < V1.heap.size by have h1 := k0.size; have h2 := k1.size; omega)
 have HRG := Lib.hid hRg
 have HPM := Lib.hid hPM
 clear hRg hPM
 have ka : Ext V1 (V1.alloc (.cells #[.int .i64 (n : Int), .int .u64 (T : Int), .slice A L c, .int .i64 (wd : Int), .pointer (some ⟨r, 0, none⟩), .pointer (some ⟨b, 0, none⟩), .slice (some ⟨G, 0, none⟩) L L, .pointer (some ⟨p, 0, none⟩)] 91)) := (Ext.refl V1).alloc _
 have y0 : (V1.alloc (.cells #[.int .i64 (n : Int), .int .u64 (T : Int), .slice A L c, .int .i64 (wd : Int), .pointer (some ⟨r, 0, none⟩), .pointer (some ⟨b, 0, none⟩), .slice (some ⟨G, 0, none⟩) L L, .pointer (some ⟨p, 0, none⟩)] 91)).cell? ⟨V1.heap.size, 0, none⟩ = some (.int .i64 (n : Int)) := by simp
 have y1 : (V1.alloc (.cells #[.int .i64 (n : Int), .int .u64 (T : Int), .slice A L c, .int .i64 (wd : Int), .pointer (some ⟨r, 0, none⟩), .pointer (some ⟨b, 0, none⟩), .slice (some ⟨G, 0, none⟩) L L, .pointer (some ⟨p, 0, none⟩)] 91)).cell? ⟨V1.heap.size, 1, none⟩ = some (.int .u64 (T : Int)) := by simp
 have y2 : (V1.alloc (.cells #[.int .i64 (n : Int), .int .u64 (T : Int), .slice A L c, .int .i64 (wd : Int), .pointer (some ⟨r, 0, none⟩), .pointer (some ⟨b, 0, none⟩), .slice (some ⟨G, 0, none⟩) L L, .pointer (some ⟨p, 0, none⟩)] 91)).cell? ⟨V1.heap.size, 2, none⟩ = some (.slice A L c) := by simp
 have y3 : (V1.alloc (.cells #[.int .i64 (n : Int), .int .u64 (T : Int), .slice A L c, .int .i64 (wd : Int), .pointer (some ⟨r, 0, none⟩), .pointer (some ⟨b, 0, none⟩), .slice (some ⟨G, 0, none⟩) L L, .pointer (some ⟨p, 0, none⟩)] 91)).cell? ⟨V1.heap.size, 3, none⟩ = some (.int .i64 (wd : Int)) := by simp
 have y4 : (V1.alloc (.cells #[.int .i64 (n : Int), .int .u64 (T : Int), .slice A L c, .int .i64 (wd : Int), .pointer (some ⟨r, 0, none⟩), .pointer (some ⟨b, 0, none⟩), .slice (some ⟨G, 0, none⟩) L L, .pointer (some ⟨p, 0, none⟩)] 91)).cell? ⟨V1.heap.size, 4, none⟩ = some (.pointer (some ⟨r, 0, none⟩)) := by simp
 have y5 : (V1.alloc (.cells #[.int .i64 (n : Int), .int .u64 (T : Int), .slice A L c, .int .i64 (wd : Int), .pointer (some ⟨r, 0, none⟩), .pointer (some ⟨b, 0, none⟩), .slice (some ⟨G, 0, none⟩) L L, .pointer (some ⟨p, 0, none⟩)] 91)).cell? ⟨V1.heap.size, 5, none⟩ = some (.pointer (some ⟨b, 0, none⟩)) := by simp
 have y6 : (V1.alloc (.cells #[.int .i64 (n : Int), .int .u64 (T : Int), .slice A L c, .int .i64 (wd : Int), .pointer (some ⟨r, 0, none⟩), .pointer (some ⟨b, 0, none⟩), .slice (some ⟨G, 0, none⟩) L L, .pointer (some ⟨p, 0, none⟩)] 91)).cell? ⟨V1.heap.size, 6, none⟩ = some (.slice (some ⟨G, 0, none⟩) L L) := by simp
 have y7 : (V1.alloc (.cells #[.int .i64 (n : Int), .int .u64 (T : Int), .slice A L c, .int .i64 (wd : Int), .pointer (some ⟨r, 0, none⟩), .pointer (some ⟨b, 0, none⟩), .slice (some ⟨G, 0, none⟩) L L, .pointer (some ⟨p, 0, none⟩)] 91)).cell? ⟨V1.heap.size, 7, none⟩ = some (.pointer (some ⟨p, 0, none⟩)) := by simp
 replace hr := hr.ext (k1.trans ka)
 replace k0 := k0.trans (k1.trans ka)
 have HRG := Lib.hid (HRG.out.ext ka)
 have HPM := Lib.hid (HPM.out.ext ka)
 have HTp := Lib.hid (hTp.out.ext k0)
 have HXQ := Lib.hid (hP.out.fx.ext k0)
 have HFQ := Lib.hid (fun j (hj : j < L) i (hi : i < n) => (show F j i < q j by rw [hF.out j hj]; exact ze5 (by have := (HRG.out.ql j hj).1; omega)))
 have HDW := Lib.hid (show RW (V1.alloc (.cells #[.int .i64 (n : Int), .int .u64 (T : Int), .slice A L c, .int .i64 (wd : Int), .pointer (some ⟨r, 0, none⟩), .pointer (some ⟨b, 0, none⟩), .slice (some ⟨G, 0, none⟩) L L, .pointer (some ⟨p, 0, none⟩)] 91)) V1.heap.size 91 8 (fun i => (#[.int .i64 (n : Int), .int .u64 (T : Int), .slice A L c, .int .i64 (wd : Int), .pointer (some ⟨r, 0, none⟩), .pointer (some ⟨b, 0, none⟩), .slice (some ⟨G, 0, none⟩) L L, .pointer (some ⟨p, 0, none⟩)] : Array Value).toList.getD i (.bool false)) from heap_alloc_new _ _)
 clear k1 ka x0 x1 x2 x3
 go_upto_region 4 with fail
 generalize (V1.alloc (.cells #[.int .i64 (n : Int), .int .u64 (T : Int), .slice A L c, .int .i64 (wd : Int), .pointer (some ⟨r, 0, none⟩), .pointer (some ⟨b, 0, none⟩), .slice (some ⟨G, 0, none⟩) L L, .pointer (some ⟨p, 0, none⟩)] 91)) = V2 at *
 obtain ⟨D, hD⟩ : ∃ D, D = V1.heap.size := ⟨_, rfl⟩
 rw [← hD] at y0 y1 y2 y3 y4 y5 y6 y7 HDW
 simp only [← hD]
 have hVw := k0.size
 have hDw : D < V2.heap.size := RW.lt HDW.out
 have hpD : p < D := by have := HPV.out; omega
 clear hD
 go_cut [9, 10] (fun s9 s10 wx => ∃ (b10 : Nat) (x : Int), s9 = .int .i64 x ∧ s10 = .pointer (some ⟨b10, 0, none⟩) ∧ zrv V2 wx p n L wd q l F (fun _ _ => 0) b10 x)
 case first =>
  have kk : Ext V2 V2 := Ext.refl V2
  have HNO := Lib.hid (fun w' => zpa n T L c (wd : Int) A (some ⟨r, 0, none⟩) (some ⟨b, 0, none⟩) (some ⟨G, 0, none⟩) L L (some ⟨p, 0, none⟩) w' (by omega) (by omega) ht1)
  have HHI := Lib.hid (fun w' (h : Ext V2 w') (G5 : Nat) (gs : Nat → Nat) (hown : PM w' G5 L n (fun j => some ⟨gs j, 0, none⟩) (fun _ => n) (fun _ _ => 0)) => zvc n T L c wd p r G G5 A (some ⟨b, 0, none⟩) q pp a e As cs F _ _ (fun _ _ => 0) l w' (by omega) (by omega) (by omega) (by omega) ht1 hw0 hw16 hl (Lib.hid (HTp.out.ext h)) (Lib.hid (HXQ.out.ext h)) (Lib.hid (HRG.out.ext h)) (Lib.hid (HPM.out.ext h)) (Lib.hid HFQ.out) (Lib.hid hown) (Lib.hid fun j hj i hi => by have := (HRG.out.ql j hj).1; show 0 < q j; omega) hsq)
  go_region_held3 (fun w' => w'.cell? ⟨D, 0, none⟩ = some (.int .i64 (n : Int)) ∧ w'.cell? ⟨D, 1, none⟩ = some (.int .u64 (T : Int)) ∧ w'.cell? ⟨D, 2, none⟩ = some (.slice A L c) ∧ w'.cell? ⟨D, 3, none⟩ = some (.int .i64 (wd : Int)) ∧ w'.cell? ⟨D, 4, none⟩ = some (.pointer (some ⟨r, 0, none⟩)) ∧ w'.cell? ⟨D, 5, none⟩ = some (.pointer (some ⟨b, 0, none⟩)) ∧ w'.cell? ⟨D, 6, none⟩ = some (.slice (some ⟨G, 0, none⟩) L L) ∧ w'.cell? ⟨D, 7, none⟩ = some (.pointer (some ⟨p, 0, none⟩))) (go_keep)
   (first
    | (go_at_call 49; refine (HNO.out _).mono ?_; rintro e5 w5 ⟨G5, gs, rfl, hown, _, k5⟩; have hold := kk.size; replace kk : Ext V2 w5 := (by first | with_reducible exact Ext.trans kk k5 | with_reducible exact Ext.trans (Ext.drew kk) k5 | with_reducible exact Ext.trans (Ext.alloc kk _) k5 | with_reducible exact Ext.trans (Ext.drew (Ext.alloc kk _)) k5 | with_reducible exact Ext.trans (Ext.alloc (Ext.drew kk) _) k5); have hpm5 := hown.pm; clear hown; (first | (have hpr := (by first | with_reducible exact RW.ext (zd6 _) k5 | with_reducible exact RW.ext (zd6 _) ((Ext.refl _).drew.trans k5)); have q0 := hpr.cell (i := 0) (by omega); have q1 := hpr.cell (i := 1) (by omega); have g0 := hpr.frozen 0; have g1 := hpr.frozen 1; have gl := hpr.lt; have hbk := hold; have m0 := eq_false (show ¬ D = _ from Nat.ne_of_lt (Nat.lt_of_lt_of_le hDw hold)); have m1 := eq_false (show ¬ _ = D from (Nat.ne_of_lt (Nat.lt_of_lt_of_le hDw hold)).symm)) | skip); have d0 := cE kk y0; have d1 := cE kk y1; have d2 := cE kk y2; have d3 := cE kk y3; have d4 := cE kk y4; have d5 := cE kk y5; have d6 := cE kk y6; have d7 := cE kk y7)
    | (go_at_call 48; refine (HHI.out _ (by with_reducible repeat first | exact kk | apply Ext.alloc | apply Ext.drew) G5 gs (PM.ext hpm5 (by with_reducible repeat first | exact Ext.refl _ | apply Ext.alloc | apply Ext.drew))).mono ?_; rintro e6 w6 ⟨x, BB, AA, m, rfl, hid6, hO6⟩; have hold := kk.size; (first | (have hpr3 := (by first | with_reducible exact (RW.onN hpr hO6 (by omega)) | with_reducible exact (RW.onN (RW.ext hpr (Ext.refl _).drew) hO6 (by omega))); replace hpr := hpr3; have q0 := hpr.cell (i := 0) (by omega); have q1 := hpr.cell (i := 1) (by omega); have g0 := hpr.frozen 0; have g1 := hpr.frozen 1; have gl := hpr.lt) | (have hpr := (by first | with_reducible exact RW.onN (zd6 _) hO6 (by omega) | with_reducible exact RW.onN (RW.ext (zd6 _) (Ext.refl _).drew) hO6 (by omega)); have q0 := hpr.cell (i := 0) (by omega); have q1 := hpr.cell (i := 1) (by omega); have g0 := hpr.frozen 0; have g1 := hpr.frozen 1; have gl := hpr.lt; have hbk := hold; have m0 := eq_false (show ¬ D = _ from Nat.ne_of_lt (Nat.lt_of_lt_of_le hDw hold)); have m1 := eq_false (show ¬ _ = D from (Nat.ne_of_lt (Nat.lt_of_lt_of_le hDw hold)).symm)) | skip); have d0 := zac hO6 (by first | exact cE kk y0 | exact cE (Ext.drew kk) y0 | exact cE (Ext.alloc kk _) y0 | exact cE (Ext.drew (Ext.alloc kk _)) y0 | exact cE (Ext.alloc (Ext.drew kk) _) y0) (by simp; omega); have d1 := zac hO6 (by first | exact cE kk y1 | exact cE (Ext.drew kk) y1 | exact cE (Ext.alloc kk _) y1 | exact cE (Ext.drew (Ext.alloc kk _)) y1 | exact cE (Ext.alloc (Ext.drew kk) _) y1) (by simp; omega); have d2 := zac hO6 (by first | exact cE kk y2 | exact cE (Ext.drew kk) y2 | exact cE (Ext.alloc kk _) y2 | exact cE (Ext.drew (Ext.alloc kk _)) y2 | exact cE (Ext.alloc (Ext.drew kk) _) y2) (by simp; omega); have d3 := zac hO6 (by first | exact cE kk y3 | exact cE (Ext.drew kk) y3 | exact cE (Ext.alloc kk _) y3 | exact cE (Ext.drew (Ext.alloc kk _)) y3 | exact cE (Ext.alloc (Ext.drew kk) _) y3) (by simp; omega); have d4 := zac hO6 (by first | exact cE kk y4 | exact cE (Ext.drew kk) y4 | exact cE (Ext.alloc kk _) y4 | exact cE (Ext.drew (Ext.alloc kk _)) y4 | exact cE (Ext.alloc (Ext.drew kk) _) y4) (by simp; omega); have d5 := zac hO6 (by first | exact cE kk y5 | exact cE (Ext.drew kk) y5 | exact cE (Ext.alloc kk _) y5 | exact cE (Ext.drew (Ext.alloc kk _)) y5 | exact cE (Ext.alloc (Ext.drew kk) _) y5) (by simp; omega); have d6 := zac hO6 (by first | exact cE kk y6 | exact cE (Ext.drew kk) y6 | exact cE (Ext.alloc kk _) y6 | exact cE (Ext.drew (Ext.alloc kk _)) y6 | exact cE (Ext.alloc (Ext.drew kk) _) y6) (by simp; omega); have d7 := zac hO6 (by first | exact cE kk y7 | exact cE (Ext.drew kk) y7 | exact cE (Ext.alloc kk _) y7 | exact cE (Ext.drew (Ext.alloc kk _)) y7 | exact cE (Ext.alloc (Ext.drew kk) _) y7) (by simp; omega); replace hO6 := (On.of (by with_reducible repeat first | exact kk | apply Ext.alloc | apply Ext.drew)).trans hO6)
    | fail)
  all_goals
   have hxe := hid6.err
   (go_wp2_with fail; go_meet; (first | exact ⟨_, _, rfl, rfl, zny hid6 hO6⟩ | exact ⟨_, _, rfl, rfl, zn3 hid6 hO6 hpr hbk (by omega)⟩))
 case rest =>
  obtain ⟨b10, x, rfl, rfl, hpa⟩ := hcut
  rename World => V3
  obtain ⟨BB, AA, m, hrb, hid, hO, hb⟩ := hpa
  have p0 := hrb.cell (i := 0) (by omega)
  have p1 := hrb.cell (i := 1) (by omega)
  rw [if_pos rfl] at p0
  rw [if_neg (by omega)] at p1
  replace hr := hr.onN hO (by omega)
  have HR := Lib.hid hr
  have HO := Lib.hid ((On.of k0).trans hO)
  have c0 := hr.cell (i := 0) (by omega)
  have c1 := hr.cell (i := 1) (by omega)
  have z0 := hr.frozen 0
  have z1 := hr.frozen 1
  have hsz := hr.lt
  have HID := Lib.hid hid
  have hxe := hid.err
  clear hr hO hid hrb y0 y1 y2 y3 y4 y5 y6 y7 k0
  go_wp2_with fail
  obtain ⟨W, hW, e0, e1, hk, ht, hpm⟩ := zub (p := p) HR.out (by decide) HO.out (Nat.le_succ _) (by omega) (.slice BB m m) (.slice AA m m) ⟨_, _, _, rfl⟩
  rw [hW]
  clear hW c0 c1 z0 z1
  exact bodyPost_ret (v := .tuple #[.agg #[.slice BB m m, .slice AA m m], .int .i64 x]) (by simp [results, Tryz.results19, go_sem, e0, e1]) rfl ⟨x, BB, AA, m, F, rfl, HID.out.keep hpm ht, hF, hk⟩
theorem zrj {N : Int} {T L c : Nat} {Wd : Int} {A : Option Addr} {q : Nat → Nat} (B : Option Addr) (m d : Nat) (w : World) (hP : Hid (PA w N T A L c Wd q)) (hL : L ≤ 100) (hT : Tabs w) (hz : Hid (¬ ParP N T L q Wd)) :
    Calls Tryz.prog 45 #[.agg #[.int .i64 N, .int .u64 (T : Int), .slice A L c, .int .i64 Wd], .agg #[.slice B m d]] w fun ee w' => ee = .returned (.tuple #[.int .i64 0, .int .i64 8]) ∧ Ext w w' := by
 have HT := Lib.hid hT
 clear hT
 have k0 : Ext w ((w.alloc (.cells #[.int .i64 N, .int .u64 (T : Int), .slice A L c, .int .i64 Wd] 28)).alloc (.cells #[.slice B m d] 62)) := ((Ext.refl w).alloc _).alloc _
 have ka : Ext (w.alloc (.cells #[.int .i64 N, .int .u64 (T : Int), .slice A L c, .int .i64 Wd] 28)) ((w.alloc (.cells #[.int .i64 N, .int .u64 (T : Int), .slice A L c, .int .i64 Wd] 28)).alloc (.cells #[.slice B m d] 62)) := (Ext.refl _).alloc _
 obtain ⟨x0, x1, x2, x3⟩ := za6 w (.int .i64 N) (.int .u64 (T : Int)) (.slice A L c) (.int .i64 Wd) 28
 replace x0 := cE ka x0
 replace x1 := cE ka x1
 replace x2 := cE ka x2
 replace x3 := cE ka x3
 clear ka
 go_enter Tryz.func45, Tryz.ntmps45
 go_wp2_with fail
 generalize ((w.alloc (.cells #[.int .i64 N, .int .u64 (T : Int), .slice A L c, .int .i64 Wd] 28)).alloc (.cells #[.slice B m d] 62)) = V at *
 refine (zpv V (Lib.hid (hP.out.ext k0)) hL (HT.out.ext k0) hz).mono ?_
 rintro ee V1 ⟨rfl, k1⟩
 have K := Lib.hid ((k0.trans k1).alloc (.cells #[.int .i64 0, .int .u64 0, .slice none 0 0, .int .i64 0, .pointer none] 114))
 clear k1 k0 x0 x1 x2 x3
 go_wp2
 go_ret2
 exact ⟨rfl, K.out⟩
theorem zqi {n T L c : Nat} {Wd : Int} {A : Option Addr} {q : Nat → Nat} (B : Option Addr) (m d : Nat) (w : World) (hm : m < 2) (hP : Hid (PA w (n : Int) T A L c Wd q)) (hL : L ≤ 100) (hN : n ≤ 32) (hT : Tabs w) (hok : Hid (ParP (n : Int) T L q Wd)) :
    Calls Tryz.prog 45 #[.agg #[.int .i64 (n : Int), .int .u64 (T : Int), .slice A L c, .int .i64 Wd], .agg #[.slice B m d]] w fun ee w' => ee = .returned (.tuple #[.int .i64 0, .int .i64 3]) ∧ Ext w w' := by
 have HT := Lib.hid hT
 clear hT
 have k0 : Ext w ((w.alloc (.cells #[.int .i64 (n : Int), .int .u64 (T : Int), .slice A L c, .int .i64 Wd] 28)).alloc (.cells #[.slice B m d] 62)) := ((Ext.refl w).alloc _).alloc _
 have ka : Ext (w.alloc (.cells #[.int .i64 (n : Int), .int .u64 (T : Int), .slice A L c, .int .i64 Wd] 28)) ((w.alloc (.cells #[.int .i64 (n : Int), .int .u64 (T : Int), .slice A L c, .int .i64 Wd] 28)).alloc (.cells #[.slice B m d] 62)) := (Ext.refl _).alloc _
 obtain ⟨x0, x1, x2, x3⟩ := za6 w (.int .i64 (n : Int)) (.int .u64 (T : Int)) (.slice A L c) (.int .i64 Wd) 28
 have xc := zam (w.alloc (.cells #[.int .i64 (n : Int), .int .u64 (T : Int), .slice A L c, .int .i64 Wd] 28)) (.slice B m d) 62
 rw [show (w.alloc (.cells #[.int .i64 (n : Int), .int .u64 (T : Int), .slice A L c, .int .i64 Wd] 28)).heap.size = w.heap.size + 1 by simp] at xc
 replace x0 := cE ka x0
 replace x1 := cE ka x1
 replace x2 := cE ka x2
 replace x3 := cE ka x3
 clear ka
 go_enter Tryz.func45, Tryz.ntmps45
 go_wp2_with fail
 generalize ((w.alloc (.cells #[.int .i64 (n : Int), .int .u64 (T : Int), .slice A L c, .int .i64 Wd] 28)).alloc (.cells #[.slice B m d] 62)) = V at *
 refine (zdd V (Lib.hid (hP.out.ext k0)) hL hN (HT.out.ext k0) hok).mono ?_
 rintro ee V1 ⟨r, pp, a, e, rfl, _, k1⟩
 have ka : Ext V1 (V1.alloc (.cells #[.int .i64 (n : Int), .int .u64 (T : Int), .slice A L c, .int .i64 Wd, .pointer (some ⟨r, 0, none⟩)] 114)) := (Ext.refl _).alloc _
 obtain ⟨y0, y1, y2, y3, y4⟩ := zbt V1 (.int .i64 (n : Int)) (.int .u64 (T : Int)) (.slice A L c) (.int .i64 Wd) (.pointer (some ⟨r, 0, none⟩)) 114
 replace xc := cE (k1.trans ka) xc
 have K := Lib.hid (k0.trans (k1.trans ka))
 clear k1 k0 ka x0 x1 x2 x3
 go_wp2_with fail
 generalize V1.alloc (.cells #[.int .i64 (n : Int), .int .u64 (T : Int), .slice A L c, .int .i64 Wd, .pointer (some ⟨r, 0, none⟩)] 114) = V2 at *
 refine (zrt m d (n : Int) Wd T L c A r B V2 hm).mono ?_
 rintro ee V3 ⟨rfl, k3⟩
 have K := Lib.hid (K.out.trans k3)
 clear k3
 go_wp2
 go_ret2
 exact ⟨rfl, K.out⟩
set_option maxHeartbeats 4000000 in
theorem zk8 (w : World) (hT : Tabs w) : Calls Tryz.prog 17 #[] w fun e w' => e = .returned (.bool true) ∧ Ext w w' := by
 have HT := Lib.hid hT
 clear hT
 have hQ : FX ((w.alloc (.cells #[.int .u64 97] 26)).alloc (.cells #[.int .i64 8, .int .u64 17, .slice (some ⟨w.heap.size, 0, none⟩) 1 1, .int .i64 1] 28)) (some ⟨w.heap.size, 0, none⟩) 1 1 fixY := by
  have h1 : NX (w.alloc (.cells #[.int .u64 97] 26)) (some ⟨w.heap.size, 0, none⟩) 1 1 [97] := zyr w [97] 1 rfl (by rw [zad]; simp)
  have h2 := ((zt4 h1).congr (f' := fixY) fun i hi => by (obtain rfl : i = 0 := by omega); rfl)
  exact h2.ext ((Ext.refl _).alloc _)
 have kV : Ext w ((w.alloc (.cells #[.int .u64 97] 26)).alloc (.cells #[.int .i64 8, .int .u64 17, .slice (some ⟨w.heap.size, 0, none⟩) 1 1, .int .i64 1] 28)) := ((Ext.refl w).alloc _).alloc _
 obtain ⟨x0, x1, x2, x3⟩ := za6 (w.alloc (.cells #[.int .u64 97] 26)) (.int .i64 8) (.int .u64 17) (.slice (some ⟨w.heap.size, 0, none⟩) 1 1) (.int .i64 1) 28
 rw [show (w.alloc (.cells #[.int .u64 97] 26)).heap.size = w.heap.size + 1 by simp] at x0 x1 x2 x3
 have HQ := Lib.hid hQ
 clear hQ
 have hmk : ∀ w' : World, (Instr.makeSlice 40 (.int .i64 1) (.int .i64 1)).run Tryz.prog w' = .ok (.slice (some ⟨w'.heap.size, 0, none⟩) 1 1) (w'.alloc (.cells (newS 1) 56)) := fun w' => zq0 1 (by omega) w'
 go_enter Tryz.func17, Tryz.ntmps17
 go_wp2_with fail
 generalize ((w.alloc (.cells #[.int .u64 97] 26)).alloc (.cells #[.int .i64 8, .int .u64 17, .slice (some ⟨w.heap.size, 0, none⟩) 1 1, .int .i64 1] 28)) = V at *
 obtain ⟨Q0, hQ0⟩ : ∃ b, b = w.heap.size := ⟨_, rfl⟩
 obtain ⟨Pb, hPb⟩ : ∃ b, b = w.heap.size + 1 := ⟨_, rfl⟩
 rw [← hPb] at x0 x1 x2 x3
 rw [← hQ0] at x2 HQ
 try simp only [← hPb]
 try simp only [← hQ0]
 clear hQ0 hPb
 have kk : Ext V V := Ext.refl V
 have HPA := Lib.hid (show PA V 8 17 (some ⟨Q0, 0, none⟩) 1 1 1 fixY from ⟨by omega, by omega, by omega, by omega, by omega, HQ.out, by omega, fun j _ => by unfold fixY; omega⟩)
 have HLF := Lib.hid (fun (w' : World) (h : Ext V w') (z : Nat) => zqi (n := 8) (T := 17) (some ⟨z, 0, none⟩) 1 1 w' (by omega) (Lib.hid (HPA.out.ext h)) (by omega) (by omega) (HT.out.ext (kV.trans h)) (Lib.hid zvo))
 have HLB := Lib.hid (fun (w' : World) (h : Ext V w') => zrj (N := 0) (T := 0) (Wd := 0) (A := none) (L := 0) (c := 0) (q := fun _ => 0) none 0 0 w' (Lib.hid ⟨by omega, by omega, by omega, by omega, by omega, ⟨Nat.le_refl _, fun h => absurd h (by omega)⟩, by omega, fun j hj => absurd hj (by omega)⟩) (by omega) (HT.out.ext (kV.trans h)) (Lib.hid (zvx _)))
 go_cut [3] (fun s3 wx => s3 = .int .i64 3 ∧ Ext V wx)
 case first =>
  go_region_held3 (fun w' => w'.cell? ⟨Pb, 0, none⟩ = some (.int .i64 8) ∧ w'.cell? ⟨Pb, 1, none⟩ = some (.int .u64 17) ∧ w'.cell? ⟨Pb, 2, none⟩ = some (.slice (some ⟨Q0, 0, none⟩) 1 1) ∧ w'.cell? ⟨Pb, 3, none⟩ = some (.int .i64 1)) (go_keep)
   (first
    | (go_at_call 45; refine (HLF.out _ (by with_reducible repeat first | exact kk | apply Ext.alloc | apply Ext.drew) _).mono ?_; rintro e5 w5 ⟨rfl, k5⟩; replace kk : Ext V w5 := (Ext.trans (by with_reducible repeat first | exact kk | apply Ext.alloc | apply Ext.drew) k5); have d0 := cE kk x0; have d1 := cE kk x1; have d2 := cE kk x2; have d3 := cE kk x3)
    | fail)
  all_goals
   (go_wp2_with fail; go_meet; exact ⟨rfl, kk⟩)
 case rest =>
  obtain ⟨rfl, kk1⟩ := hcut
  rename World => V2
  have KK1 := Lib.hid (kV.trans kk1)
  have HX := Lib.hid (HLB.out V2 kk1)
  clear kk1 x0 x1 x2 x3
  go_wp2_with fail
  refine HX.out.mono ?_
  rintro e6 w6 ⟨rfl, k6⟩
  have K := Lib.hid (KK1.out.trans k6)
  clear k6
  go_wp2
  go_ret
  exact ⟨rfl, K.out⟩
end Go.Proofs.YtopbibfpjgjalaaGreatDoor
