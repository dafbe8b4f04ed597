import Derived.Test.YtopbibfpjgjalaaGreatDoorZ28
import Derived.Test.YtopbibfpjgjalaaGreatDoorZ29
import Derived.Test.YtopbibfpjgjalaaGreatDoorZ3
import Derived.Deep.QuietTactic
import Derived.BigQuiet
import Derived.Test.YtopbibfpjgjalaaGreatDoorZ17
import Derived.Test.YtopbibfpjgjalaaGreatDoorZ24
import Derived.Test.YtopbibfpjgjalaaGreatDoorZ6
namespace Go.Proofs.YtopbibfpjgjalaaGreatDoor
open Go.RowKit
set_option linter.unusedVariables false
set_option maxRecDepth 100000
def resF (b : Bool) (X q : Nat) : Nat := if b then dif 0 (X % q) q else X % q
theorem modM (A : Option Addr) (n c q : Nat) (xs : List Nat) (w : World) (h : NX w A n c xs) (hn : n ≤ 1000) (hq0 : 0 < q) (hq : q < 18446744073709551616) :
    Calls Tryz.prog 229 #[.slice A n c, .int .u64 (q : Int)] w fun e w' => ∃ m : Nat, Hid (m = nv xs % q) ∧ m < q ∧ e = .returned (.int .u64 (m : Int)) ∧ Ext w w' := by
 have h1 := zns A n c w.heap.size q xs w h (by omega) hq
 rw [if_neg (show ¬ q = 0 by omega)] at h1
 exact h1.mono fun e w' ⟨he, k, hw⟩ => ⟨_, Lib.hid rfl, Nat.mod_lt _ hq0, he, by rw [hw]; exact (Ext.refl w).drewN k⟩
theorem zlb (b : Bool) (A : Option Addr) (n c q : Nat) (xs : List Nat) (w : World) (h : NX w A n c xs) (hn : n ≤ 1000) (hq0 : 0 < q) (hq : q < 18446744073709551616) :
    Calls Tryz.prog 193 #[.agg #[.bool b, .slice A n c], .int .u64 (q : Int)] w fun e w' => ∃ m : Nat, Hid (m = resF b (nv xs) q) ∧ m < q ∧ e = .returned (.int .u64 (m : Int)) ∧ Ext w w' := by
 have kV : Ext w (w.alloc (.cells #[.bool b, .slice A n c] 144)) := (Ext.refl w).alloc _
 have HX := Lib.hid (NX.ext h kV)
 have x0 : (w.alloc (.cells #[.bool b, .slice A n c] 144)).cell? ⟨w.heap.size, 0, none⟩ = some (.bool b) := zri _ _ _ _
 have x1 : (w.alloc (.cells #[.bool b, .slice A n c] 144)).cell? ⟨w.heap.size, 1, none⟩ = some (.slice A n c) := zso _ _ _ _
 clear h
 go_enter Tryz.func193, Tryz.ntmps193
 go_wp2_with fail
 generalize w.alloc (.cells #[.bool b, .slice A n c] 144) = V at *
 refine (modM A n c q xs V HX.out hn hq0 hq).mono ?_
 rintro ee w1 ⟨m, hm, hml, rfl, k1⟩
 have y0 := cE k1 x0
 cases b
 ·have HM := Lib.hid (show m = resF false (nv xs) q from hm.out)
  go_wp2
  go_ret
  exact ⟨m, HM, hml, rfl, kV.trans k1⟩
 ·go_wp2_with fail
  refine (sub0M m q w1 hq0 hml hq).mono ?_
  rintro ee w2 ⟨m2, hm2, hml2, rfl, k2⟩
  have HM := Lib.hid (show m2 = resF true (nv xs) q by rw [hm2.out, hm.out]; rfl)
  go_wp2
  go_ret
  exact ⟨m2, HM, hml2, rfl, kV.trans (k1.trans k2)⟩
theorem zm6 {L : Nat} {q : Nat → Nat} (h : RowC L q) : ∀ j, j < L → 0 < q j ∧ q j < 18446744073709551616 := fun j hj => by
 have := (h.2.2 j hj).1
 have h1 := this.1
 have h2 := this.2.1
 omega
def zq2 (w : World) (N : Nat) (ys : List Nat) (e : Ending) (w' : World) : Prop :=
 ∃ A n c, e = .returned (.slice A n c) ∧ n ≤ N ∧ NR w' w'.heap.size A n c ys ∧ Below w.heap.size w w' ∧ ∀ ad, A = some ad → w.heap.size ≤ ad.block
theorem zm8 (A : Option Addr) (n c B : Nat) (xs : List Nat) (w : World) (h : NR w B A n c xs) (hn : n ≤ 1000000) :
    Calls Tryz.prog 192 #[.slice A n c] w fun e w' => ∃ A2 m c2, m ≤ n ∧ e = .returned (.slice A2 m c2) ∧ w = w' ∧ NR w B A2 m c2 (nw (nv xs)) ∧ (A2 = none ∨ A2 = A) := by
 go_enter Tryz.func192, Tryz.ntmps192
 go_wp2_with fail
 refine (zal A n c B xs w h hn).mono ?_
 rintro e w' ⟨m, hm, rfl, rfl, hr⟩
 by_cases hm0 : m = 0
 ·subst hm0
  go_wp2
  go_ret
  exact ⟨none, 0, 0, hm, rfl, rfl, by rw [hr.eq_nil rfl]; exact Rd.none_ _ _ _ _ _ _, .inl rfl⟩
 ·have hb : ((m : Int) == 0) = false := by simpa using hm0
  go_wp2
  go_ret
  exact ⟨A, m, m, hm, rfl, rfl, hr, .inr rfl⟩
theorem zfe (x : Nat) (w : World) (hx : x < 18446744073709551616) :
    Calls Tryz.prog 117 #[.int .u64 (x : Int)] w (zq2 w 1 (nw x)) := by
 have hr : NR (w.alloc (.cells #[.int .u64 (x : Int)] 26)) (w.heap.size + 1) (some ⟨w.heap.size, 0, none⟩) 1 1 [x] := by
  refine ⟨rfl, Nat.le_refl _, fun z hz => by rw [List.mem_singleton.1 hz, zad]; exact hx, fun _ => ⟨_, rfl, Nat.lt_succ_self _, fun j z hz => ?_⟩⟩
  match j, hz with
  | 0, hz => simp at hz; subst hz; simp [Addr.add]
 have e : nv [x] = x := by show vl W64 [x] = x; simp [vl]
 have E := Lib.hid e
 clear e
 go_enter Tryz.func117, Tryz.ntmps117
 go_wp2_with fail
 refine (zm8 _ _ _ _ [x] _ hr (by omega)).mono ?_
 rintro e w' ⟨A2, m2, c2, hm2, rfl, rfl, hr2, hA2⟩
 rw [E.out] at hr2
 go_wp2
 go_ret
 refine ⟨A2, m2, c2, rfl, hm2, by simpa using hr2, (Below.refl _ _).alloc (Nat.le_refl _) _, fun ad e => ?_⟩
 rcases hA2 with h | h
 ·rw [h] at e; cases e
 ·rw [h] at e; injection e with e; subst e; exact Nat.le_refl _
set_option maxHeartbeats 1000000 in
theorem zv7 (A A' : Option Addr) (n n' c c' : Nat) (xs ys : List Nat) (w : World) (h : NR w w.heap.size A n c xs) (h' : NR w w.heap.size A' n' c' ys) (hn : n ≤ 100000) (hn' : n' ≤ 100000) :
    Calls Tryz.prog 191 #[.slice A n c, .slice A' n' c'] w (zq2 w (n + n') (nw (nv xs * nv ys))) := by
 obtain ⟨i0, hi, hz0, hz1, hz2⟩ := info_parts zdw
 go_enter Tryz.func191, Tryz.ntmps191
 go_wp2_with fail
 refine (zal _ _ _ _ xs _ h (by omega)).mono ?_
 rintro e w' ⟨m, hm, rfl, rfl, hr⟩
 go_wp2_with fail
 refine (zal _ _ _ _ ys _ h' (by omega)).mono ?_
 rintro e w' ⟨m', hm', rfl, rfl, hr'⟩
 have E1 := Lib.hid (nv_nw (nv xs))
 have E2 := Lib.hid (nv_nw (nv ys))
 have hmk := zha m' (m + m') (by omega) (by omega)
 rw [show ((m + m' : Nat) : Int) = (m : Int) + m' by omega] at hmk
 go_wp2
 go_loopw [5, 22] (fun s i wr => ∃ (k : Nat) (ps : List Nat) (sp : List Value), k ≤ m ∧ i = .int .i64 k ∧ s = .slice (some ⟨w.heap.size, 0, none⟩) (m' + k) (m + m') ∧ sp.length + (m' + k) = m + m' ∧ Bk wr w.heap.size ps sp ∧ Below w.heap.size w wr ∧ MulInv (nw (nv xs)) (nv ys) m' k ps) (fun _ i _ => m - (intOf i).toNat)
 case atStart => exact ⟨0, _, _, by omega, rfl, rfl, by simp, zj1 _ _ _, (Below.refl _ _).alloc (Nat.le_refl _) _, zge⟩
 case round =>
  obtain ⟨k, ps, sp, hk, rfl, rfl, hsp, hb, hbl, hinv⟩ := hrel
  have hs1 := hb.lt
  have hpl := hinv.1
  have hplt := hinv.2.1
  by_cases hlt : k < m
  ·obtain ⟨ad, x, rfl, hbk, hxb, hx, hc⟩ := (hr.below hbl).at_ hlt
   rw [zad] at hxb
   have hb' : Bk wr w.heap.size (ps.take k ++ ps.drop k ++ []) sp := by rw [List.append_nil, List.take_append_drop]; exact hb
   have hdl : (ps.drop k).length = m' := by rw [List.length_drop]; omega
   have htl : (ps.take k).length = k := by rw [List.length_take]; omega
   have HD := Lib.hid hdl
   have HT := Lib.hid htl
   have HX := Lib.hid hx
   have HP := Lib.hid hpl
   have SP := Lib.hid hsp
   have hr2 := hr'.below hbl
   clear hdl htl hx hpl hsp
   go_wp2_with fail
   refine (ze1 w.heap.size k (m + m' - k) A' m' m' w.heap.size x (ps.take k) (ps.drop k) [] (nw (nv ys)) sp wr hb' HT.out HD.out (fun z hz => hplt z (List.mem_of_mem_drop hz)) hr2 (by omega) (fun h0 ad e => by obtain ⟨ad2, e2, hlt2, _⟩ := hr'.cells h0; rw [e2] at e; injection e with e; subst e; omega) (by omega) (by omega) hxb).mono ?_
   rintro e w4 ⟨ns, C, rfl, nl, nlt, hCW, er, hk4, hg4⟩
   rw [nv_nw] at er
   rw [List.append_nil] at hk4
   have HN := Lib.hid (hinv.step (ds := []) HX.out nl nlt hCW er)
   have hbl4 := zb7 hbl hg4 (by omega) (Nat.le_refl _)
   have hrow := hk4.row (cap := m + m') (k := m' + k) hbl4 (Nat.le_refl _) (by simp [HT.out, nl]; omega) SP.out (by unfold maxLen; omega)
   have hs4 := hk4.lt
   rw [zad] at hCW
   have NL := Lib.hid nl
   have ER := Lib.hid er
   clear er nl
   go_wp2_with (at_builtin; refine wpList_append_fits _ rfl _ _ 65 rfl w.heap.size 26 i0 1 Tryz.underlying65 hi hz1 w.heap.size (m' + k) (m + m') (u64s (ps.take k ++ ns)) rfl (hrow.1.alloc _) ⟨_, 0, none⟩ 1 1 [.int .u64 (C : Int)] rfl rfl zaz zba (by omega) ?_; intro w5 hown5 hgrow5)
   have hrow5 := hrow.push (Nat.le_of_lt hs4) hown5 hgrow5
   obtain ⟨sp5, hsp5, hbk5⟩ := Bk.of_row hrow5
   exact ⟨⟨k + 1, _, sp5, by omega, by go_num, rfl, by omega, hbk5, hrow5.2, HN.out⟩, by simp [intOf]; omega⟩
  ·obtain rfl : k = m := by omega
   have hv := hinv.2.2
   rw [List.take_of_length_le (by rw [hr.len]; exact Nat.le_refl _), nv_nw] at hv
   have HV := Lib.hid hv
   have HP := Lib.hid hpl
   have hrd := hb.rd (c := k + m') hplt hpl (by omega)
   clear hv hpl hsp
   go_wp2_with fail
   refine (zm8 _ _ _ _ ps _ hrd (by omega)).mono ?_
   rintro e w' ⟨A2, m2, c2, hm2, rfl, rfl, hr2, hA2⟩
   go_wp2
   go_ret
   refine ⟨A2, m2, c2, rfl, by omega, ?_, hbl, fun ad e => ?_⟩
   ·rw [← HV.out]
    exact hr2
   ·rcases hA2 with h | h
    ·rw [h] at e; cases e
    ·rw [h] at e; injection e with e; subst e; exact Nat.le_refl _
def NF (w : World) (B : Nat) (A : Option Addr) (n c : Nat) (X : Nat) : Prop := NX w A n c (nw X) ∧ ∀ ad, A = some ad → B ≤ ad.block
theorem NF.ext {w w' : World} {B : Nat} {A : Option Addr} {n c X : Nat} (h : NF w B A n c X) (k : Ext w w') : NF w' B A n c X := ⟨NX.ext h.1 k, h.2⟩
theorem NF.set {w : World} {B : Nat} {A : Option Addr} {n c X : Nat} (h : NF w B A n c X) {p : Addr} (hp : p.block < B) (v : Value) : NF (w.setCell p v) B A n c X := by
 refine ⟨⟨h.1.len, h.1.room, h.1.lt, fun hn => ?_⟩, h.2⟩
 obtain ⟨ad, e, hlt, hc⟩ := h.1.cells hn
 refine ⟨ad, e, by simpa [World.setCell] using hlt, fun j x hx => ?_⟩
 rw [zdp]
 ·exact hc j x hx
 ·intro e'
  have := h.2 ad e
  rw [e', zbi] at hp
  omega
theorem NX.aside {w : World} {A : Option Addr} {n c : Nat} {xs : List Nat} (h : NX w A n c xs) {p : Addr} {B : Option Addr} {m k : Nat} (hp : w.cell? p = some (.slice B m k)) (v : Value) : NX (w.setCell p v) A n c xs := by
 refine ⟨h.len, h.room, h.lt, fun hn => ?_⟩
 obtain ⟨ad, e, hlt, hc⟩ := h.cells hn
 refine ⟨ad, e, by simpa [World.setCell] using hlt, fun j x hx => ?_⟩
 rw [zdp]
 ·exact hc j x hx
 ·intro e'
  have := hc j x hx
  rw [← e', hp] at this
  injection this with this
  cases this
set_option maxHeartbeats 4000000 in
theorem zeq (A : Option Addr) (n c : Nat) (xs : List Nat) (F : Nat) (w : World) (h : NX w A n c xs) (hn : n ≤ 1000) (hF : F < 18446744073709551616) :
    Calls Tryz.prog 233 #[.agg #[.slice A n c], .int .u64 (F : Int)] w fun ee w' => ∃ A2 n2 c2, ee = .returned (.agg #[.slice A2 n2 c2]) ∧ n2 ≤ 1 + n ∧ NF w' w.heap.size A2 n2 c2 (F * nv xs) ∧ Ext w w' := by
 have HX := Lib.hid h
 clear h
 obtain ⟨V, hV⟩ : ∃ V, V = (w.alloc (.cells #[.slice A n c] 288)).alloc (.cells #[.slice none 0 0] 288) := ⟨_, rfl⟩
 have kV : Ext w V := by rw [hV]; exact ((Ext.refl w).alloc _).alloc _
 have hr0 : RW V (w.heap.size + 1) 288 1 (fun _ => .slice none 0 0) := by
  have : RW V (w.alloc (.cells #[.slice A n c] 288)).heap.size 288 1 (fun _ => .slice none 0 0) := by rw [hV]; exact heap_alloc_new _ _
  rwa [show (w.alloc (.cells #[.slice A n c] 288)).heap.size = w.heap.size + 1 by simp] at this
 have x2 : V.cell? ⟨w.heap.size, 0, none⟩ = some (.slice A n c) := by rw [hV]; exact cE ((Ext.refl _).alloc _) (zam w _ _)
 go_enter Tryz.func233, Tryz.ntmps233
 go_wp2_with fail
 rw [← hV]
 clear hV
 have kk : Ext V V := Ext.refl V
 go_region_held3 (fun w' => w'.cell? ⟨w.heap.size, 0, none⟩ = some (.slice A n c)) (go_keep)
  (first
   | (go_at_call 191; refine (zv7 A1 A n1 n c1 c (nw F) xs _ (NX.ext hx1 kx) (NX.ext HX.out (kV.trans kk)) (by omega) (by omega)).mono ?_; rintro e5 w5 ⟨A2, n2, c2, rfl, hn2, hx2, k5, hf2⟩; replace kk : Ext V w5 := (Ext.trans kk k5); have y2 := cE kk x2; have r5 := hr0.ext kk; have c5 := r5.cell (i := 0) (by omega); have z5 := r5.frozen 0; have s5 := r5.lt)
   | (go_at_call 117; refine (zfe F _ hF).mono ?_; rintro e4 w4 ⟨A1, n1, c1, rfl, hn1, hx1, k4, hf1⟩; replace kk : Ext V w4 := (Ext.trans (Ext.drew kk) k4); have kx : Ext w4 w4 := Ext.refl w4; have y2 := cE kk x2; have r4 := hr0.ext kk; have c4 := r4.cell (i := 0) (by omega); have z4 := r4.frozen 0; have s4 := r4.lt)
   | fail)
 go_wp2
 have d0 := zas r5 (.slice A2 n2 c2)
 have d1 := (kV.trans kk).set (p := ⟨w.heap.size + 1, 0, none⟩) (by show w.heap.size ≤ w.heap.size + 1; omega) (.slice A2 n2 c2)
 have d2 : NF (w5.setCell ⟨w.heap.size + 1, 0, none⟩ (.slice A2 n2 c2)) w.heap.size A2 n2 c2 (F * nv xs) := by
  refine ⟨?_, fun ad e => ?_⟩
  ·have hx : NX w5 A2 n2 c2 (nw (F * nv xs)) := by
      rw [nv_nw] at hx2
      exact hx2
   exact NX.aside hx c5 _
  ·have := hf2 ad e
   omega
 generalize w5.setCell ⟨w.heap.size + 1, 0, none⟩ (.slice A2 n2 c2) = w6 at *
 exact bodyPost_ret (v := .agg #[.slice A2 n2 c2]) (by simp [results, Tryz.results233, go_sem, d0]) rfl ⟨A2, n2, c2, rfl, by omega, d2, d1⟩
def prodF (f : Nat → Nat) : Nat → Nat
 | 0 => 1
 | k + 1 => f k * prodF f k
set_option maxHeartbeats 4000000 in
theorem zo4 (A B : Option Addr) (n c L d X : Nat) (f : Nat → Nat) (w : World) (hn : n ≤ 100) (hL : L ≤ 800) (hA : NX w A n c (nw X)) (hB : FX w B L d f) (hf : Hid (∀ j, j < L → f j < 18446744073709551616)) :
    Calls Tryz.prog 237 #[.agg #[.slice A n c], .slice B L d, .func (.func 233) #[] #[]] w fun ee w' => ∃ A2 n2 c2, ee = .returned (.agg #[.slice A2 n2 c2]) ∧ n2 ≤ n + L ∧ NX w' A2 n2 c2 (nw (prodF f L * X)) ∧ Ext w w' := by
 have HA := Lib.hid hA
 have HB := Lib.hid hB
 clear hA hB
 go_enter Tryz.func237, Tryz.ntmps237
 go_wp2_with fail
 have hr0 : RW ((w.alloc (.cells #[.slice A n c] 288)).alloc (.cells #[.slice none 0 0] 288)) (w.heap.size + 1) 288 1 (fun _ => .slice none 0 0) := by
  have : RW ((w.alloc (.cells #[.slice A n c] 288)).alloc (.cells #[.slice none 0 0] 288)) (w.alloc (.cells #[.slice A n c] 288)).heap.size 288 1 (fun _ => .slice none 0 0) := heap_alloc_new _ _
  rwa [show (w.alloc (.cells #[.slice A n c] 288)).heap.size = w.heap.size + 1 by simp] at this
 have hx0 : RW ((w.alloc (.cells #[.slice A n c] 288)).alloc (.cells #[.slice none 0 0] 288)) w.heap.size 288 1 (fun _ => .slice A n c) :=
  RW.ext (show RW (w.alloc (.cells #[.slice A n c] 288)) w.heap.size 288 1 (fun _ => .slice A n c) from heap_alloc_new _ _) ((Ext.refl _).alloc _)
 have kV : Ext w ((w.alloc (.cells #[.slice A n c] 288)).alloc (.cells #[.slice none 0 0] 288)) := ((Ext.refl w).alloc _).alloc _
 generalize (w.alloc (.cells #[.slice A n c] 288)).alloc (.cells #[.slice none 0 0] 288) = V at *
 go_loopw [11] (fun i wr => ∃ (k : Nat) (A1 : Option Addr) (n1 c1 : Nat), k ≤ L ∧ i = .int .i64 (k : Int) ∧ n1 ≤ n + k ∧ RW wr w.heap.size 288 1 (fun _ => .slice A1 n1 c1) ∧ RW wr (w.heap.size + 1) 288 1 (fun _ => .slice none 0 0) ∧ Hid (NX wr A1 n1 c1 (nw (prodF f k * X))) ∧ Ext w wr) (fun i _ => L - (intOf i).toNat)
 case atStart => exact ⟨0, A, n, c, by omega, rfl, by omega, hx0, hr0, Lib.hid (by rw [prodF, Nat.one_mul]; exact NX.ext HA.out kV), kV⟩
 case round =>
  obtain ⟨k, A1, n1, c1, hk, rfl, hn1, hx, hr, hall, kr⟩ := hrel
  clear hx0 hr0 kV
  have cx := hx.cell (i := 0) (by omega)
  have zx := hx.frozen 0
  have sx := hx.lt
  have cr := hr.cell (i := 0) (by omega)
  have zr := hr.frozen 0
  have sr := hr.lt
  by_cases hlt : k < L
  ·have hb := HB.out.ext kr
   obtain ⟨ad, rfl, hc⟩ := hb.cells (by omega)
   have hcell := hc k hlt
   have hql := hf.out k hlt
   clear hc hb
   have i0 : (0 : Int) ≤ (k : Int) := by omega
   have i1 : (k : Int) < (L : Int) := by omega
   go_wp2_with fail
   refine (zeq A1 n1 c1 _ (f k) wr hall.out (by omega) hql).mono ?_
   rintro ee w2 ⟨A2, n2, c2, rfl, hn2, hnf, k2⟩
   have hx2 := hx.ext k2
   have hr2 := hr.ext k2
   have HN := Lib.hid hnf
   clear hnf
   have cx2 := hx2.cell (i := 0) (by omega)
   have zx2 := hx2.frozen 0
   have sx2 := hx2.lt
   go_wp2_with fail
   have e1 := (hx2.set (show 0 < 1 by omega) (.slice A2 n2 c2)).congr (G := fun _ => .slice A2 n2 c2) fun j hj => by rw [if_pos (by omega)]
   have e2 : RW (w2.setCell ⟨w.heap.size, 0, none⟩ (.slice A2 n2 c2)) (w.heap.size + 1) 288 1 (fun _ => .slice none 0 0) := RW.keep hr2 (Below.heap_setCell _ _ _ _ (by simp))
   have e3 := Lib.hid (show NX (w2.setCell ⟨w.heap.size, 0, none⟩ (.slice A2 n2 c2)) A2 n2 c2 (nw (prodF f (k + 1) * X)) from NX.aside (by
    have := HN.out.1
    rw [nv_nw, ← Nat.mul_assoc] at this
    exact this) cx2 _)
   have e4 := (kr.trans k2).set (p := ⟨w.heap.size, 0, none⟩) (Nat.le_refl _) (.slice A2 n2 c2)
   exact ⟨⟨k + 1, A2, n2, c2, by omega, by go_num, by omega, e1, e2, e3, e4⟩, by simp [intOf]; omega⟩
  ·have hkL : k = L := by omega
   subst hkL
   go_wp2
   have d0 := zas hr (.slice A1 n1 c1)
   have d1 := kr.set (p := ⟨w.heap.size + 1, 0, none⟩) (by show w.heap.size ≤ w.heap.size + 1; omega) (.slice A1 n1 c1)
   have d2 := NX.aside hall.out cr (.slice A1 n1 c1)
   generalize wr.setCell ⟨w.heap.size + 1, 0, none⟩ (.slice A1 n1 c1) = w6 at *
   exact bodyPost_ret (v := .agg #[.slice A1 n1 c1]) (by simp [results, Tryz.results237, go_sem, d0]) rfl ⟨A1, n1, c1, rfl, by omega, d2, d1⟩
def four (a b c d : Value) (j : Nat) : Value := if j = 0 then a else if j = 1 then b else if j = 2 then c else d
def crtF (X q P p r : Nat) : Nat := X + dif r (X % q) q * p % q * P
theorem zw9 (A : Option Addr) (n c : Nat) (W : World) : Sem.run Tryz.prog (Instr.field 288 (.agg #[.slice A n c]) 0) W = .ok (.slice A n c) W := by kernel_rfl
set_option maxHeartbeats 4000000 in
theorem zll (A B : Option Addr) (n c m d X q P p r : Nat) (w : World) (hn : n ≤ 700) (hm : m ≤ 100) (hA : NX w A n c (nw X)) (hB : NX w B m d (nw P)) (hq0 : 0 < q) (hq : q < 2305843009213693952) (hp : p < q) (hr : r < q) :
    Calls Tryz.prog 236 #[.agg #[.slice A n c], .agg #[.int .u64 (q : Int), .slice B m d, .int .u64 (p : Int), .int .u64 (r : Int)]] w fun ee w' => ∃ A2 n2 c2, ee = .returned (.agg #[.slice A2 n2 c2]) ∧ n2 ≤ n + m + 2 ∧ NX w' A2 n2 c2 (nw (crtF X q P p r)) ∧ Ext w w' := by
 have hfd := zw9
 have HA := Lib.hid hA
 have HB := Lib.hid hB
 clear hA hB
 obtain ⟨V, hV⟩ : ∃ V, V = (((w.alloc (.cells #[.slice A n c] 288)).alloc (.cells #[.int .u64 (q : Int), .slice B m d, .int .u64 (p : Int), .int .u64 (r : Int)] 294)).alloc (.cells #[.slice none 0 0] 288)) := ⟨_, rfl⟩
 have kV : Ext w V := by rw [hV]; exact (((Ext.refl w).alloc _).alloc _).alloc _
 have hr0 : RW V (w.heap.size + 1 + 1) 288 1 (fun _ => .slice none 0 0) := by
  have : RW V ((w.alloc (.cells #[.slice A n c] 288)).alloc (.cells #[.int .u64 (q : Int), .slice B m d, .int .u64 (p : Int), .int .u64 (r : Int)] 294)).heap.size 288 1 (fun _ => .slice none 0 0) := by rw [hV]; exact heap_alloc_new _ _
  rwa [show ((w.alloc (.cells #[.slice A n c] 288)).alloc (.cells #[.int .u64 (q : Int), .slice B m d, .int .u64 (p : Int), .int .u64 (r : Int)] 294)).heap.size = w.heap.size + 1 + 1 by simp] at this
 have hs0 : RW V (w.heap.size + 1) 294 4 (four (.int .u64 (q : Int)) (.slice B m d) (.int .u64 (p : Int)) (.int .u64 (r : Int))) := by
  have : RW ((w.alloc (.cells #[.slice A n c] 288)).alloc (.cells #[.int .u64 (q : Int), .slice B m d, .int .u64 (p : Int), .int .u64 (r : Int)] 294)) (w.alloc (.cells #[.slice A n c] 288)).heap.size 294 4 (four (.int .u64 (q : Int)) (.slice B m d) (.int .u64 (p : Int)) (.int .u64 (r : Int))) := heap_alloc_new _ _
  rw [show (w.alloc (.cells #[.slice A n c] 288)).heap.size = w.heap.size + 1 by simp] at this
  rw [hV]
  exact this.ext ((Ext.refl _).alloc _)
 have x0 : V.cell? ⟨w.heap.size, 0, none⟩ = some (.slice A n c) := by rw [hV]; exact cE (((Ext.refl _).alloc _).alloc _) (zam w _ _)
 have x1 : V.cell? ⟨w.heap.size + 1, 0, none⟩ = some (.int .u64 (q : Int)) := hs0.cell (i := 0) (by omega)
 have x2 : V.cell? ⟨w.heap.size + 1, 1, none⟩ = some (.slice B m d) := hs0.cell (i := 1) (by omega)
 have x3 : V.cell? ⟨w.heap.size + 1, 2, none⟩ = some (.int .u64 (p : Int)) := hs0.cell (i := 2) (by omega)
 have x4 : V.cell? ⟨w.heap.size + 1, 3, none⟩ = some (.int .u64 (r : Int)) := hs0.cell (i := 3) (by omega)
 clear hs0
 go_enter Tryz.func236, Tryz.ntmps236
 go_wp2_with fail
 rw [← hV]
 clear hV
 have kk : Ext V V := Ext.refl V
 have ne1 : (w.heap.size = w.heap.size + 1 + 1) = False := by simp; omega
 have ne2 : (w.heap.size + 1 + 1 = w.heap.size) = False := by simp; omega
 have ne3 : ¬ (w.heap.size = w.heap.size + 1 + 1) := by omega
 go_region_held3 (fun w' => w'.cell? ⟨w.heap.size, 0, none⟩ = some (.slice A n c) ∧ w'.cell? ⟨w.heap.size + 1, 0, none⟩ = some (.int .u64 (q : Int)) ∧ w'.cell? ⟨w.heap.size + 1, 1, none⟩ = some (.slice B m d) ∧ w'.cell? ⟨w.heap.size + 1, 2, none⟩ = some (.int .u64 (p : Int)) ∧ w'.cell? ⟨w.heap.size + 1, 3, none⟩ = some (.int .u64 (r : Int))) (go_keep)
  (first
   | (go_at_call 179; refine (subM r m1 q _ hq0 hr hml1 (by omega)).mono ?_; rintro e5 w5 ⟨m2, hm2, hml2, rfl, k5⟩; replace kk : Ext V w5 := (Ext.trans kk k5); have y50 := cE kk x0; have y51 := cE kk x1; have y52 := cE kk x2; have y53 := cE kk x3; have y54 := cE kk x4; have r5 := hr0.ext kk; have c5 := r5.cell (i := 0) (by omega); have z5 := r5.frozen 0; have s5 := r5.lt)
   | (go_at_call 229; refine (modM A n c q _ _ (NX.ext HA.out (kV.trans (Ext.drew kk))) (by omega) hq0 (by omega)).mono ?_; rintro e4 w4 ⟨m1, hm1, hml1, rfl, k4⟩; replace kk : Ext V w4 := (Ext.trans (Ext.drew kk) k4); have y40 := cE kk x0; have y41 := cE kk x1; have y42 := cE kk x2; have y43 := cE kk x3; have y44 := cE kk x4; have r4 := hr0.ext kk; have c4 := r4.cell (i := 0) (by omega); have z4 := r4.frozen 0; have s4 := r4.lt)
   | fail)
 go_wp2_with fail
 refine (mul_m m2 p q _ hq0 (by omega) hp hml2).mono ?_
 rintro e6 w6 ⟨m3, hm3, hml3, rfl, k6⟩
 replace kk : Ext V w6 := Ext.trans kk k6
 have y60 := cE kk x0
 have y61 := cE kk x1
 have y62 := cE kk x2
 have y63 := cE kk x3
 have y64 := cE kk x4
 have r6 := hr0.ext kk
 have c6 := r6.cell (i := 0) (by omega)
 have z6 := r6.frozen 0
 have s6 := r6.lt
 go_wp2_with fail
 go_region_held3 (fun w' => w'.cell? ⟨w.heap.size, 0, none⟩ = some (.slice A n c) ∧ w'.cell? ⟨w.heap.size + 1, 0, none⟩ = some (.int .u64 (q : Int)) ∧ w'.cell? ⟨w.heap.size + 1, 1, none⟩ = some (.slice B m d) ∧ w'.cell? ⟨w.heap.size + 1, 2, none⟩ = some (.int .u64 (p : Int)) ∧ w'.cell? ⟨w.heap.size + 1, 3, none⟩ = some (.int .u64 (r : Int))) (go_keep)
  (first
   | (go_at_call 189; refine (addX (NX.ext HA.out (kV.trans kk)) (NX.ext hf7.1 kx) (by omega) (by omega)).mono ?_; rintro e8 w8 ⟨A8, n8, c8', rfl, hn8, hx8, k8⟩; replace kk : Ext V w8 := (Ext.trans kk k8); have y80 := cE kk x0; have y81 := cE kk x1; have y82 := cE kk x2; have y83 := cE kk x3; have y84 := cE kk x4; have r8 := hr0.ext kk; have c8 := r8.cell (i := 0) (by omega); have z8 := r8.frozen 0; have s8 := r8.lt)
   | (go_at_call 233; refine (zeq B m d _ m3 _ (NX.ext HB.out (kV.trans (Ext.drew kk))) (by omega) (by omega)).mono ?_; rintro e7 w7 ⟨A7, n7, c7', rfl, hn7, hf7, k7⟩; replace kk : Ext V w7 := (Ext.trans (Ext.drew kk) k7); have kx : Ext w7 w7 := Ext.refl w7; have y70 := cE kk x0; have y71 := cE kk x1; have y72 := cE kk x2; have y73 := cE kk x3; have y74 := cE kk x4; have r7 := hr0.ext kk; have c7 := r7.cell (i := 0) (by omega); have z7 := r7.frozen 0; have s7 := r7.lt)
   | fail)
 go_wp2
 have d0 := zas r8 (.slice A8 n8 c8')
 have d1 := (kV.trans kk).set (p := ⟨w.heap.size + 1 + 1, 0, none⟩) (by show w.heap.size ≤ w.heap.size + 1 + 1; omega) (.slice A8 n8 c8')
 have d2 : NX (w8.setCell ⟨w.heap.size + 1 + 1, 0, none⟩ (.slice A8 n8 c8')) A8 n8 c8' (nw (crtF X q P p r)) := by
  have hx : NX w8 A8 n8 c8' (nw (crtF X q P p r)) := by
   rw [nv_nw, nv_nw, nv_nw, hm3.out, hm2.out, hm1.out, nv_nw] at hx8
   exact hx8
  exact NX.aside hx c8 _
 generalize w8.setCell ⟨w.heap.size + 1 + 1, 0, none⟩ (.slice A8 n8 c8') = w9 at *
 exact bodyPost_ret (v := .agg #[.slice A8 n8 c8']) (by simp [results, Tryz.results236, go_sem, d0]) rfl ⟨A8, n8, c8', rfl, by omega, d2, d1⟩
def cenB (X Q : Nat) : Bool := !decide (X < Q - X)
def cenN (X Q : Nat) : Nat := if X < Q - X then X else Q - X
theorem NX.off {w : World} {A : Option Addr} {n c : Nat} {xs : List Nat} (h : NX w A n c xs) {p : Addr} {u : Value} (hp : w.cell? p = some u) (hu : ∀ x : Nat, u ≠ .int .u64 (x : Int)) (v : Value) : NX (w.setCell p v) A n c xs := by
 refine ⟨h.len, h.room, h.lt, fun hn => ?_⟩
 obtain ⟨ad, e, hlt, hc⟩ := h.cells hn
 refine ⟨ad, e, by simpa [World.setCell] using hlt, fun j x hx => ?_⟩
 rw [zdp]
 ·exact hc j x hx
 ·intro e'
  have := hc j x hx
  rw [← e', hp] at this
  injection this with this
  exact hu _ this
def Told (w : World) (N : Nat) (b : Bool) (X : Nat) (ee : Ending) (w' : World) : Prop :=
 ∃ A n c, ee = .returned (.agg #[.bool b, .slice A n c]) ∧ n ≤ N ∧ NX w' A n c (nw X) ∧ Ext w w'
def two (a b : Value) (j : Nat) : Value := if j = 0 then a else b
theorem zh3 {w : World} {x : Nat} {t : TypeId} {a b : Value} (h : RW w x t 2 (two a b)) (a' b' : Value) : RW ((w.setCell ⟨x, 0, none⟩ a').setCell ⟨x, 1, none⟩ b') x t 2 (two a' b') :=
 ((h.set (show 0 < 2 by omega) a').set (show 1 < 2 by omega) b').congr fun j hj => by
  match j, hj with
  | 0, _ => rfl
  | 1, _ => rfl
theorem zr6 {w : World} {x : Nat} {t : TypeId} {b b' : Bool} {A A1 : Option Addr} {n c n1 c1 n2 c2 : Nat} {A2 : Option Addr} {xs : List Nat} (h : RW w x t 2 (two (.bool b) (.slice A1 n1 c1))) (hx : NX w A n c xs) : NX ((w.setCell ⟨x, 0, none⟩ (.bool b')).setCell ⟨x, 1, none⟩ (.slice A2 n2 c2)) A n c xs := by
 have h0 : w.cell? ⟨x, 0, none⟩ = some (.bool b) := h.cell (i := 0) (by omega)
 have h1 : (w.setCell ⟨x, 0, none⟩ (.bool b')).cell? ⟨x, 1, none⟩ = some (.slice A1 n1 c1) := (h.set (show 0 < 2 by omega) (.bool b')).cell (i := 1) (by omega)
 exact NX.aside (NX.off hx h0 (fun _ e => by cases e) _) h1 _
set_option maxHeartbeats 4000000 in
theorem zho (S A B : Option Addr) (sn sc n c m d X Q : Nat) (w : World) (hn : n ≤ 900) (hm : m ≤ 100) (hA : NX w A n c (nw X)) (hB : NX w B m d (nw Q)) (hX : X < Q) :
    Calls Tryz.prog 234 #[.agg #[.slice S sn sc, .slice B m d], .agg #[.slice A n c]] w (Told w (n + m) (cenB X Q) (cenN X Q)) := by
 have HA := Lib.hid hA
 have HB := Lib.hid hB
 clear hA hB
 go_enter Tryz.func234, Tryz.ntmps234
 go_wp2_with fail
 obtain ⟨V, hV⟩ : ∃ V, V = (((w.alloc (.cells #[.slice S sn sc, .slice B m d] 260)).alloc (.cells #[.slice A n c] 288)).alloc (.cells #[.bool false, .slice none 0 0] 144)) := ⟨_, rfl⟩
 rw [← hV]
 have kV : Ext w V := by rw [hV]; exact (((Ext.refl w).alloc _).alloc _).alloc _
 have hr0 : RW V (w.heap.size + 1 + 1) 144 2 (two (.bool false) (.slice none 0 0)) := by
  have : RW V ((w.alloc (.cells #[.slice S sn sc, .slice B m d] 260)).alloc (.cells #[.slice A n c] 288)).heap.size 144 2 (two (.bool false) (.slice none 0 0)) := by rw [hV]; exact heap_alloc_new _ _
  rwa [show ((w.alloc (.cells #[.slice S sn sc, .slice B m d] 260)).alloc (.cells #[.slice A n c] 288)).heap.size = w.heap.size + 1 + 1 by simp] at this
 have x1 : V.cell? ⟨w.heap.size + 1, 0, none⟩ = some (.slice A n c) := by
  have : V.cell? ⟨(w.alloc (.cells #[.slice S sn sc, .slice B m d] 260)).heap.size, 0, none⟩ = some (.slice A n c) := by rw [hV]; exact cE ((Ext.refl _).alloc _) (zam _ _ _)
  rwa [show (w.alloc (.cells #[.slice S sn sc, .slice B m d] 260)).heap.size = w.heap.size + 1 by simp] at this
 clear hV
 refine (subX (NX.ext HB.out kV) (NX.ext HA.out kV) (by omega) (by omega)).mono ?_
 rintro e1 w1 (⟨hlt, _, _⟩ | ⟨hle, A1, n1, c1, rfl, hn1, hx1, k1⟩)
 ·rw [nv_nw, nv_nw] at hlt; omega
 rw [nv_nw, nv_nw] at hx1 hle
 replace k1 : Ext V w1 := k1
 have HX1 := Lib.hid (show NX w1 A1 n1 c1 (nw (Q - X)) from hx1)
 clear hx1
 have y1 := cE k1 x1
 go_wp2_with fail
 refine (cmpX (NX.ext HA.out (kV.trans k1)) HX1.out (by omega) (by omega)).mono ?_
 rintro e2 w2 ⟨rfl, k2⟩
 have y2 := cE (k1.trans k2) x1
 have r2 := hr0.ext (k1.trans k2)
 have c2 : w2.cell? ⟨w.heap.size + 1 + 1, 0, none⟩ = some (.bool false) := r2.cell (i := 0) (by omega)
 have c3 : w2.cell? ⟨w.heap.size + 1 + 1, 1, none⟩ = some (.slice none 0 0) := r2.cell (i := 1) (by omega)
 have z2 := r2.frozen 0
 have z3 := r2.frozen 1
 have s2 := r2.lt
 rw [nv_nw, nv_nw]
 by_cases hc : X < Q - X
 ·rw [zfv hc]
  go_wp2
  have d := zh3 r2 (.bool false) (.slice A n c)
  have d0 : ((w2.setCell ⟨w.heap.size + 1 + 1, 0, none⟩ (.bool false)).setCell ⟨w.heap.size + 1 + 1, 1, none⟩ (.slice A n c)).cell? ⟨w.heap.size + 1 + 1, 0, none⟩ = some (.bool false) := d.cell (i := 0) (by omega)
  have d1 : ((w2.setCell ⟨w.heap.size + 1 + 1, 0, none⟩ (.bool false)).setCell ⟨w.heap.size + 1 + 1, 1, none⟩ (.slice A n c)).cell? ⟨w.heap.size + 1 + 1, 1, none⟩ = some (.slice A n c) := d.cell (i := 1) (by omega)
  have d2 := zr6 (b' := false) (A2 := A) (n2 := n) (c2 := c) r2 (NX.ext HA.out (kV.trans (k1.trans k2)))
  have d3 := ((kV.trans (k1.trans k2)).set (p := ⟨w.heap.size + 1 + 1, 0, none⟩) (by show w.heap.size ≤ w.heap.size + 1 + 1; omega) (.bool false)).set (p := ⟨w.heap.size + 1 + 1, 1, none⟩) (by show w.heap.size ≤ w.heap.size + 1 + 1; omega) (.slice A n c)
  generalize (w2.setCell ⟨w.heap.size + 1 + 1, 0, none⟩ (.bool false)).setCell ⟨w.heap.size + 1 + 1, 1, none⟩ (.slice A n c) = w9 at *
  have hb : cenB X Q = false := by unfold cenB; simp; omega
  have hv : cenN X Q = X := by unfold cenN; simp; omega
  rw [hb, hv]
  exact bodyPost_ret (v := .agg #[.bool false, .slice A n c]) (by simp [results, Tryz.results234, go_sem, d0, d1]) rfl ⟨A, n, c, rfl, by omega, d2, d3⟩
 ·have hc2 : ∃ z : Int, 0 ≤ z ∧ cmpS X (Q - X) = z := by
     by_cases h : Q - X < X
     ·exact ⟨1, by omega, zh7 h⟩
     ·exact ⟨0, by omega, zls (by omega)⟩
  obtain ⟨z, hz, e⟩ := hc2
  rw [e]
  have hz2 : (z < 0) = False := by simp; omega
  go_wp2
  have d := zh3 r2 (.bool true) (.slice A1 n1 c1)
  have d0 : ((w2.setCell ⟨w.heap.size + 1 + 1, 0, none⟩ (.bool true)).setCell ⟨w.heap.size + 1 + 1, 1, none⟩ (.slice A1 n1 c1)).cell? ⟨w.heap.size + 1 + 1, 0, none⟩ = some (.bool true) := d.cell (i := 0) (by omega)
  have d1 : ((w2.setCell ⟨w.heap.size + 1 + 1, 0, none⟩ (.bool true)).setCell ⟨w.heap.size + 1 + 1, 1, none⟩ (.slice A1 n1 c1)).cell? ⟨w.heap.size + 1 + 1, 1, none⟩ = some (.slice A1 n1 c1) := d.cell (i := 1) (by omega)
  have d2 := zr6 (b' := true) (A2 := A1) (n2 := n1) (c2 := c1) r2 (NX.ext HX1.out k2)
  have d3 := ((kV.trans (k1.trans k2)).set (p := ⟨w.heap.size + 1 + 1, 0, none⟩) (by show w.heap.size ≤ w.heap.size + 1 + 1; omega) (.bool true)).set (p := ⟨w.heap.size + 1 + 1, 1, none⟩) (by show w.heap.size ≤ w.heap.size + 1 + 1; omega) (.slice A1 n1 c1)
  generalize (w2.setCell ⟨w.heap.size + 1 + 1, 0, none⟩ (.bool true)).setCell ⟨w.heap.size + 1 + 1, 1, none⟩ (.slice A1 n1 c1) = w9 at *
  have hb : cenB X Q = true := by unfold cenB; simp; omega
  have hv : cenN X Q = Q - X := by unfold cenN; simp; omega
  rw [hb, hv]
  exact bodyPost_ret (v := .agg #[.bool true, .slice A1 n1 c1]) (by simp [results, Tryz.results234, go_sem, d0, d1]) rfl ⟨A1, n1, c1, rfl, by omega, d2, d3⟩
theorem zqh : (Tryz.prog.info? 290).map (fun i => (i.zero, i.size, i.bytes)) = some (some (.agg #[.int .u64 0, .slice none 0 0, .int .u64 0]), 3, 40) := by kernel_rfl
def zeroS (i : Nat) : Value := if i % 3 = 1 then .slice none 0 0 else .int .u64 0
def zf5 (c : Nat) : Array Value := ((List.range (c * 3)).map zeroS).toArray
theorem zof (w : World) (c : Nat) : RW (w.alloc (.cells (zf5 c) 290)) w.heap.size 290 (c * 3) zeroS := heap_alloc_new w _
theorem zs0 (c : Nat) (hc : c ≤ 1000000) (w : World) :
    (Instr.makeSlice 258 (.int .i64 (c : Int)) (.int .i64 (c : Int))).run Tryz.prog w = .ok (.slice (some ⟨w.heap.size, 0, none⟩) c c) (w.alloc (.cells (zf5 c) 290)) := by
 obtain ⟨i0, hi, hz0, hz1, hz2⟩ := info_parts zqh
 have hr := run_make (P := Tryz.prog) w 258 290 i0 (.agg #[.int .u64 0, .slice none 0 0, .int .u64 0]) Tryz.underlying258 hi hz0 .i64 .i64 (c : Int) (c : Int) (by omega) (by omega) (by rw [hz2]; omega) (by omega)
 rw [hz1] at hr
 simp only [Int.toNat_natCast] at hr
 rw [hr]
 have e : madeCells (Value.agg #[.int .u64 0, .slice none 0 0, .int .u64 0]).cells (c * 3) = zf5 c := by
  apply Array.toList_inj.1
  unfold zf5 madeCells zeroS
  apply List.ext_getElem?
  intro j
  by_cases hj : j < c * 3
  ·rcases (show j % 3 = 0 ∨ j % 3 = 1 ∨ j % 3 = 2 by omega) with h | h | h <;> simp [hj, Value.cells, h]
  ·simp [hj]
 rw [e]
theorem znm : (Tryz.prog.info? 294).map (fun i => (i.zero, i.size, i.bytes)) = some (some (.agg #[.int .u64 0, .slice none 0 0, .int .u64 0, .int .u64 0]), 4, 48) := by kernel_rfl
def zeroH (i : Nat) : Value := if i % 4 = 1 then .slice none 0 0 else .int .u64 0
def zbl (c : Nat) : Array Value := ((List.range (c * 4)).map zeroH).toArray
theorem zlg (w : World) (c : Nat) : RW (w.alloc (.cells (zbl c) 294)) w.heap.size 294 (c * 4) zeroH := heap_alloc_new w _
theorem zom (c : Nat) (hc : c ≤ 1000000) (w : World) :
    (Instr.makeSlice 292 (.int .i64 (c : Int)) (.int .i64 (c : Int))).run Tryz.prog w = .ok (.slice (some ⟨w.heap.size, 0, none⟩) c c) (w.alloc (.cells (zbl c) 294)) := by
 obtain ⟨i0, hi, hz0, hz1, hz2⟩ := info_parts znm
 have hr := run_make (P := Tryz.prog) w 292 294 i0 (.agg #[.int .u64 0, .slice none 0 0, .int .u64 0, .int .u64 0]) Tryz.underlying292 hi hz0 .i64 .i64 (c : Int) (c : Int) (by omega) (by omega) (by rw [hz2]; omega) (by omega)
 rw [hz1] at hr
 simp only [Int.toNat_natCast] at hr
 rw [hr]
 have e : madeCells (Value.agg #[.int .u64 0, .slice none 0 0, .int .u64 0, .int .u64 0]).cells (c * 4) = zbl c := by
  apply Array.toList_inj.1
  unfold zbl madeCells zeroH
  apply List.ext_getElem?
  intro j
  by_cases hj : j < c * 4
  ·rcases (show j % 4 = 0 ∨ j % 4 = 1 ∨ j % 4 = 2 ∨ j % 4 = 3 by omega) with h | h | h | h <;> simp [hj, Value.cells, h]
  ·simp [hj]
 rw [e]
def stpF (q p : Nat → Nat) (As : Nat → Option Addr) (ns cs : Nat → Nat) (i : Nat) : Value := if i % 3 = 0 then .int .u64 (q (i / 3) : Int) else if i % 3 = 1 then .slice (As (i / 3)) (ns (i / 3)) (cs (i / 3)) else .int .u64 (p (i / 3) : Int)
def stpUp (q p : Nat → Nat) (As : Nat → Option Addr) (ns cs : Nat → Nat) (k i : Nat) : Value := if i < k * 3 then stpF q p As ns cs i else zeroS i
def zd2 (a m p : Nat) : Prop := p < m ∧ (Nat.gcd a m = 1 → p * a % m = 1 % m) ∧ (Nat.gcd a m ≠ 1 → p = 0)
theorem zpl (q p : Nat → Nat) (As : Nat → Option Addr) (ns cs : Nat → Nat) (k i P n c : Nat) (A : Option Addr) :
    (if i = k * 3 + 2 then Value.int .u64 (P : Int) else if i = k * 3 + 1 then .slice A n c else if i = k * 3 then .int .u64 (q k : Int) else stpUp q p As ns cs k i) = stpUp q (fun j => if j = k then P else p j) (fun j => if j = k then A else As j) (fun j => if j = k then n else ns j) (fun j => if j = k then c else cs j) (k + 1) i := by
 unfold stpUp
 by_cases h1 : i = k * 3 + 2
 ·subst h1
  rw [if_pos rfl, if_pos (by omega), stpF, if_neg (by omega), if_neg (by omega), show (k * 3 + 2) / 3 = k by omega]
  simp only [if_true]
 ·rw [if_neg h1]
  by_cases h2 : i = k * 3 + 1
  ·subst h2
   rw [if_pos rfl, if_pos (by omega), stpF, if_neg (by omega), if_pos (by omega), show (k * 3 + 1) / 3 = k by omega]
   simp only [if_true]
  ·rw [if_neg h2]
   by_cases h3 : i = k * 3
   ·subst h3
    rw [if_pos rfl, if_pos (by omega), stpF, if_pos (by omega), Nat.mul_div_cancel _ (by omega)]
   ·rw [if_neg h3]
    by_cases h4 : i < k * 3
    ·rw [if_pos h4, if_pos (by omega)]
     unfold stpF
     have : ¬ i / 3 = k := by omega
     simp only [if_neg this]
    ·rw [if_neg h4, if_neg (by omega)]
theorem zqg {a m : Nat} {i : Int} {ok : Bool} (h : InvOk a m i ok) (hm : 2 ≤ m) : ∃ p : Nat, i = (p : Int) ∧ zd2 a m p := by
 rcases h with ⟨_, hg, _, h0, h1, h2⟩ | ⟨hg, _, rfl⟩
 ·obtain ⟨p, rfl⟩ := Int.eq_ofNat_of_zero_le h0
  refine ⟨p, rfl, by omega, fun _ => ?_, fun h => absurd hg h⟩
  rw [Nat.mod_eq_of_lt (show 1 < m by omega), Nat.mul_comm]
  have : ((a * p % m : Nat) : Int) = 1 := by rw [← h2]; simp
  omega
 ·refine ⟨0, rfl, by omega, fun h => ?_, fun _ => rfl⟩
  rcases hg with hg | hg
  ·omega
  ·exact absurd h hg
theorem zvz (a m : Nat) (w : World) (a1 : a < 18446744073709551616) (m0 : 2 ≤ m) (m1 : m < 18446744073709551616) :
    Calls Tryz.prog 207 #[.int .u64 (a : Int), .int .u64 (m : Int)] w fun ee w' => ∃ (p : Nat) (ok : Bool), Hid (zd2 a m p) ∧ p < m ∧ ee = .returned (.tuple #[.int .u64 (p : Int), .bool ok]) ∧ Ext w w' :=
 (zk5 a m w a1 m1).mono fun ee w' ⟨i, ok, n, hi, he, hw⟩ => by
  obtain ⟨p, rfl, hp⟩ := zqg hi m0
  exact ⟨p, ok, Lib.hid hp, hp.1, he, by rw [hw]; exact (Ext.refl w).drewN n⟩
theorem NF.off {w : World} {B : Nat} {A : Option Addr} {n c X : Nat} (h : NF w B A n c X) {p : Addr} {B' : Option Addr} {m k : Nat} (hp : w.cell? p = some (.slice B' m k)) (v : Value) : NF (w.setCell p v) B A n c X := ⟨NX.aside h.1 hp v, h.2⟩
def set3 (w : World) (g i : Nat) (a b c : Value) : World := ((w.setCell ⟨g, i, none⟩ a).setCell ⟨g, i + 1, none⟩ b).setCell ⟨g, i + 2, none⟩ c
theorem RW.keep3 {w : World} {x m : Nat} {t : TypeId} {F : Nat → Value} (h : RW w x t m F) {g : Nat} (hg : x ≠ g) (i : Nat) (a b c : Value) : RW (set3 w g i a b c) x t m F :=
 RW.keep (RW.keep (RW.keep h (Below.heap_setCell _ _ _ _ (fun e => hg (by simpa using e)))) (Below.heap_setCell _ _ _ _ (fun e => hg (by simpa using e)))) (Below.heap_setCell _ _ _ _ (fun e => hg (by simpa using e)))
theorem NF.keep3 {w : World} {B : Nat} {A : Option Addr} {n c X : Nat} (h : NF w B A n c X) {g : Nat} (hg : g < B) (i : Nat) (a b d : Value) : NF (set3 w g i a b d) B A n c X :=
 NF.set (NF.set (NF.set h (p := ⟨g, i, none⟩) hg a) (p := ⟨g, i + 1, none⟩) hg b) (p := ⟨g, i + 2, none⟩) hg d
theorem Ext.keep3 {a w : World} (h : Ext a w) {g : Nat} (hg : a.heap.size ≤ g) (i : Nat) (x y z : Value) : Ext a (set3 w g i x y z) :=
 ((h.set (p := ⟨g, i, none⟩) hg x).set (p := ⟨g, i + 1, none⟩) hg y).set (p := ⟨g, i + 2, none⟩) hg z
theorem zx3 {w : World} {g L k n c P : Nat} {q p : Nat → Nat} {As : Nat → Option Addr} {ns cs : Nat → Nat} {A : Option Addr} (h : RW w g 290 (L * 3) (stpUp q p As ns cs k)) (hk : k < L) :
    RW (set3 w g (k * 3) (.int .u64 (q k : Int)) (.slice A n c) (.int .u64 (P : Int))) g 290 (L * 3) (stpUp q (fun j => if j = k then P else p j) (fun j => if j = k then A else As j) (fun j => if j = k then n else ns j) (fun j => if j = k then c else cs j) (k + 1)) :=
 (((h.set (show k * 3 < L * 3 by omega) _).set (show k * 3 + 1 < L * 3 by omega) _).set (show k * 3 + 2 < L * 3 by omega) _).congr fun i _ => zpl q p As ns cs k i P n c A
set_option maxHeartbeats 4000000 in
theorem zpg (B : Option Addr) (L d : Nat) (q : Nat → Nat) (w : World) (hL : L ≤ 24) (hB : FX w B L d q) (hq : Hid (∀ j, j < L → 2 ≤ q j ∧ q j < 18446744073709551616)) :
    Calls Tryz.prog 184 #[.slice B L d] w fun ee w' => ∃ (G : Nat) (p : Nat → Nat) (As : Nat → Option Addr) (ns cs : Nat → Nat) (A : Option Addr) (n c : Nat), ee = .returned (.agg #[.slice (some ⟨G, 0, none⟩) L L, .slice A n c]) ∧ RW w' G 290 (L * 3) (stpF q p As ns cs) ∧ n ≤ 25 ∧ NX w' A n c (nw (prodF q L)) ∧ Hid (∀ j, j < L → ns j ≤ 25 ∧ NX w' (As j) (ns j) (cs j) (nw (prodF q j)) ∧ zd2 (prodF q j % q j) (q j) (p j)) ∧ Ext w w' := by
 have HB := Lib.hid hB
 clear hB
 have hmk := zs0 L (by omega)
 go_enter Tryz.func184, Tryz.ntmps184
 go_wp2_with fail
 clear hmk
 obtain ⟨V, hV⟩ : ∃ V, V = ((w.alloc (.cells #[.slice none 0 0, .slice none 0 0] 260)).alloc (.cells (zf5 L) 290)) := ⟨_, rfl⟩
 rw [← hV]
 have kV : Ext w V := by rw [hV]; exact ((Ext.refl w).alloc _).alloc _
 have hr0 : RW V w.heap.size 260 2 (two (.slice none 0 0) (.slice none 0 0)) := by
  have : RW (w.alloc (.cells #[.slice none 0 0, .slice none 0 0] 260)) w.heap.size 260 2 (two (.slice none 0 0) (.slice none 0 0)) := heap_alloc_new _ _
  rw [hV]
  exact this.ext ((Ext.refl _).alloc _)
 have hg0 : RW V (w.heap.size + 1) 290 (L * 3) zeroS := by
  have : RW V (w.alloc (.cells #[.slice none 0 0, .slice none 0 0] 260)).heap.size 290 (L * 3) zeroS := by rw [hV]; exact zof _ _
  rwa [show (w.alloc (.cells #[.slice none 0 0, .slice none 0 0] 260)).heap.size = w.heap.size + 1 by simp] at this
 clear hV
 obtain ⟨G, hG⟩ : ∃ G, G = w.heap.size + 1 := ⟨_, rfl⟩
 rw [← hG] at hg0 ⊢
 have hGw : w.heap.size < G := by omega
 clear hG
 refine (zfe 1 V (by omega)).mono ?_
 rintro e1 w1 ⟨A1, n1, c1, rfl, hn1, hx1, k1, hf1⟩
 replace k1 : Ext V w1 := k1
 have HN := Lib.hid (show NF w1 (G + 1) A1 n1 c1 1 from ⟨hx1, fun ad e => Nat.le_trans hg0.lt (hf1 ad e)⟩)
 clear hx1 hf1
 have hr1 := hr0.ext k1
 have hg1 := hg0.ext k1
 have kw1 := kV.trans k1
 clear hr0 hg0 k1 kV
 go_wp2_with fail
 have hx2 : RW (w1.alloc (.cells #[.slice A1 n1 c1] 288)) w1.heap.size 288 1 (fun _ => .slice A1 n1 c1) := heap_alloc_new _ _
 have k2 : Ext w1 (w1.alloc (.cells #[.slice A1 n1 c1] 288)) := (Ext.refl _).alloc _
 have hr2 := hr1.ext k2
 have hg2 := hg1.ext k2
 have kw2 := kw1.trans k2
 have HN2 := Lib.hid (HN.out.ext k2)
 have hGX := hg1.lt
 clear hr1 hg1 kw1 k2 HN
 generalize w1.alloc (.cells #[.slice A1 n1 c1] 288) = W at *
 generalize w1.heap.size = Z at *
 go_loopw [16] (fun i wr => ∃ (k : Nat) (p : Nat → Nat) (As : Nat → Option Addr) (ns cs : Nat → Nat) (A1 : Option Addr) (n1 c1 : Nat), k ≤ L ∧ i = .int .i64 (k : Int) ∧ n1 ≤ k + 1 ∧ RW wr G 290 (L * 3) (stpUp q p As ns cs k) ∧ RW wr Z 288 1 (fun _ => .slice A1 n1 c1) ∧ RW wr w.heap.size 260 2 (two (.slice none 0 0) (.slice none 0 0)) ∧ Hid (NF wr (G + 1) A1 n1 c1 (prodF q k)) ∧ Hid (∀ j, j < k → ns j ≤ 25 ∧ NF wr (G + 1) (As j) (ns j) (cs j) (prodF q j) ∧ zd2 (prodF q j % q j) (q j) (p j)) ∧ Ext w wr) (fun i _ => L - (intOf i).toNat)
 case atStart => exact ⟨0, fun _ => 0, fun _ => none, fun _ => 0, fun _ => 0, A1, n1, c1, by omega, rfl, by omega, hg2.congr fun i _ => by unfold stpUp; rw [if_neg (by omega)], hx2, hr2, HN2, Lib.hid fun j hj => by omega, kw2⟩
 case round =>
  obtain ⟨k, p, As, ns, cs, A1, n1, c1, hk, rfl, hn1, hg, hx, hr, hN, hall, kr⟩ := hrel
  clear hx2 hr2 hg2 kw2 HN2
  have cx := hx.cell (i := 0) (by omega)
  have zx := hx.frozen 0
  have sx := hx.lt
  by_cases hlt : k < L
  ·have hb := HB.out.ext kr
   obtain ⟨ad, rfl, hc⟩ := hb.cells (by omega)
   have hcell := hc k hlt
   have hql := hq.out k hlt
   clear hc hb
   have i0 : (0 : Int) ≤ (k : Int) := by omega
   have i1 : (k : Int) < (L : Int) := by omega
   go_wp2_with fail
   refine (modM A1 n1 c1 (q k) _ wr hN.out.1 (by omega) (by omega) (by omega)).mono ?_
   rintro e3 w3 ⟨m, hm, hml, rfl, k3⟩
   have cx3 := cE k3 cx
   go_wp2_with fail
   refine (zvz m (q k) w3 (by omega) (by omega) (by omega)).mono ?_
   rintro e4 w4 ⟨P, ok, hP, hPl, rfl, k4⟩
   have k34 := k3.trans k4
   have hg4 := hg.ext k34
   have hx4 := hx.ext k34
   have hr4 := hr.ext k34
   have cx4 := hx4.cell (i := 0) (by omega)
   have zx4 := hx4.frozen 0
   have sx4 := hx4.lt
   have c0 := hg4.cell (i := k * 3) (by omega)
   have c1' := hg4.cell (i := k * 3 + 1) (by omega)
   have c2 := hg4.cell (i := k * 3 + 2) (by omega)
   have z0 := hg4.frozen (k * 3)
   have z1 := hg4.frozen (k * 3 + 1)
   have z2 := hg4.frozen (k * 3 + 2)
   have sg := hg4.lt
   go_wp2_with fail
   have hw5 : ((w4.setCell ⟨G, k * 3, none⟩ (.int .u64 (q k : Int))).setCell ⟨G, k * 3 + 1, none⟩ (.slice A1 n1 c1)).setCell ⟨G, k * 3 + 2, none⟩ (.int .u64 (P : Int)) = set3 w4 G (k * 3) (.int .u64 (q k : Int)) (.slice A1 n1 c1) (.int .u64 (P : Int)) := rfl
   have hg5 := zx3 (P := P) (A := A1) (n := n1) (c := c1) hg4 hlt
   have hx5 := hx4.keep3 (g := G) (by omega) (k * 3) (.int .u64 (q k : Int)) (.slice A1 n1 c1) (.int .u64 (P : Int))
   have hr5 := hr4.keep3 (g := G) (by omega) (k * 3) (.int .u64 (q k : Int)) (.slice A1 n1 c1) (.int .u64 (P : Int))
   have kr5 := (kr.trans k34).keep3 (g := G) (by omega) (k * 3) (.int .u64 (q k : Int)) (.slice A1 n1 c1) (.int .u64 (P : Int))
   have hN5 := Lib.hid (NF.keep3 (hN.out.ext k34) (g := G) (by omega) (k * 3) (.int .u64 (q k : Int)) (.slice A1 n1 c1) (.int .u64 (P : Int)))
   have hall5 := Lib.hid (show ∀ j, j < k → ns j ≤ 25 ∧ NF (set3 w4 G (k * 3) (.int .u64 (q k : Int)) (.slice A1 n1 c1) (.int .u64 (P : Int))) (G + 1) (As j) (ns j) (cs j) (prodF q j) ∧ zd2 (prodF q j % q j) (q j) (p j) from fun j hj => by
    obtain ⟨h1, h2, h3⟩ := hall.out j hj
    exact ⟨h1, NF.keep3 (h2.ext k34) (by omega) _ _ _ _, h3⟩)
   rw [hw5]
   clear hw5 hg4 hx4 hr4 c0 c1' c2 z0 z1 z2 sg cx4 zx4 sx4 hN hall hg hx hr
   generalize set3 w4 G (k * 3) (.int .u64 (q k : Int)) (.slice A1 n1 c1) (.int .u64 (P : Int)) = w5 at *
   refine (zeq A1 n1 c1 _ (q k) w5 hN5.out.1 (by omega) hql.2).mono ?_
   rintro e6 w6 ⟨A2, n2, c2, rfl, hn2, hnf, k6⟩
   have hsz5 := hg5.lt
   have HN6 := Lib.hid (show NF w6 (G + 1) A2 n2 c2 (prodF q (k + 1)) from by
    rw [nv_nw] at hnf
    exact ⟨hnf.1, fun ad e => Nat.le_trans hsz5 (hnf.2 ad e)⟩)
   clear hnf
   have hg6 := hg5.ext k6
   have hx6 := hx5.ext k6
   have hr6 := hr5.ext k6
   have cx6 := hx6.cell (i := 0) (by omega)
   have zx6 := hx6.frozen 0
   have sx6 := hx6.lt
   go_wp2_with fail
   have e1 := (hx6.set (show 0 < 1 by omega) (.slice A2 n2 c2)).congr (G := fun _ => .slice A2 n2 c2) fun j hj => by rw [if_pos (by omega)]
   have e2 := RW.aside hg6 hx6 (by decide) 0 (.slice A2 n2 c2)
   have e3 := RW.aside hr6 hx6 (by decide) 0 (.slice A2 n2 c2)
   have e4 := Lib.hid (HN6.out.off cx6 (.slice A2 n2 c2))
   have e5 := Lib.hid (show ∀ j, j < k + 1 → (fun j => if j = k then n1 else ns j) j ≤ 25 ∧ NF (w6.setCell ⟨Z, 0, none⟩ (.slice A2 n2 c2)) (G + 1) ((fun j => if j = k then A1 else As j) j) ((fun j => if j = k then n1 else ns j) j) ((fun j => if j = k then c1 else cs j) j) (prodF q j) ∧ zd2 (prodF q j % q j) (q j) ((fun j => if j = k then P else p j) j) from fun j hj => by
    by_cases h : j = k
    ·subst h
     simp only [if_true]
     refine ⟨by omega, (hN5.out.ext k6).off cx6 _, ?_⟩
     have := hP.out
     rw [hm.out, nv_nw] at this
     exact this
    ·simp only [if_neg h]
     obtain ⟨h1, h2, h3⟩ := hall5.out j (by omega)
     exact ⟨h1, (h2.ext k6).off cx6 _, h3⟩)
   have e6 := (kr5.trans k6).set (p := ⟨Z, 0, none⟩) (by show w.heap.size ≤ Z; omega) (.slice A2 n2 c2)
   exact ⟨⟨k + 1, _, _, _, _, A2, n2, c2, by omega, by go_num, by omega, e2, e1, e3, e4, e5, e6⟩, by simp [intOf]; omega⟩
  ·have hkL : k = L := by omega
   subst hkL
   have r0 : wr.cell? ⟨w.heap.size, 0, none⟩ = some (.slice none 0 0) := hr.cell (i := 0) (by omega)
   have r1 : wr.cell? ⟨w.heap.size, 1, none⟩ = some (.slice none 0 0) := hr.cell (i := 1) (by omega)
   have z0 := hr.frozen 0
   have z1 := hr.frozen 1
   have sr := hr.lt
   go_wp2
   have hw5 : (wr.setCell ⟨w.heap.size, 0, none⟩ (.slice (some ⟨G, 0, none⟩) k k)).setCell ⟨w.heap.size, 1, none⟩ (.slice A1 n1 c1) = (wr.setCell ⟨w.heap.size, 0, none⟩ (.slice (some ⟨G, 0, none⟩) k k)).setCell ⟨w.heap.size, 1, none⟩ (.slice A1 n1 c1) := rfl
   have d := zh3 hr (.slice (some ⟨G, 0, none⟩) k k) (.slice A1 n1 c1)
   have d0 : ((wr.setCell ⟨w.heap.size, 0, none⟩ (.slice (some ⟨G, 0, none⟩) k k)).setCell ⟨w.heap.size, 1, none⟩ (.slice A1 n1 c1)).cell? ⟨w.heap.size, 0, none⟩ = some (.slice (some ⟨G, 0, none⟩) k k) := d.cell (i := 0) (by omega)
   have d1 : ((wr.setCell ⟨w.heap.size, 0, none⟩ (.slice (some ⟨G, 0, none⟩) k k)).setCell ⟨w.heap.size, 1, none⟩ (.slice A1 n1 c1)).cell? ⟨w.heap.size, 1, none⟩ = some (.slice A1 n1 c1) := d.cell (i := 1) (by omega)
   have d2 : RW ((wr.setCell ⟨w.heap.size, 0, none⟩ (.slice (some ⟨G, 0, none⟩) k k)).setCell ⟨w.heap.size, 1, none⟩ (.slice A1 n1 c1)) G 290 (k * 3) (stpF q p As ns cs) :=
    (RW.keep (RW.keep hg (Below.heap_setCell _ _ _ _ (by simp; omega))) (Below.heap_setCell _ _ _ _ (by simp; omega))).congr fun i hi => by unfold stpUp; rw [if_pos hi]
   have dN : ∀ (A : Option Addr) (n c X : Nat), NF wr (G + 1) A n c X → NX ((wr.setCell ⟨w.heap.size, 0, none⟩ (.slice (some ⟨G, 0, none⟩) k k)).setCell ⟨w.heap.size, 1, none⟩ (.slice A1 n1 c1)) A n c (nw X) := fun A n c X h =>
    (NF.set (NF.set h (p := ⟨w.heap.size, 0, none⟩) (by show w.heap.size < G + 1; omega) _) (p := ⟨w.heap.size, 1, none⟩) (by show w.heap.size < G + 1; omega) _).1
   have d3 := dN _ _ _ _ hN.out
   have d4 := Lib.hid (fun j (hj : j < k) => And.intro (hall.out j hj).1 (And.intro (dN _ _ _ _ (hall.out j hj).2.1) (hall.out j hj).2.2))
   have d5 := (kr.set (p := ⟨w.heap.size, 0, none⟩) (Nat.le_refl _) (.slice (some ⟨G, 0, none⟩) k k)).set (p := ⟨w.heap.size, 1, none⟩) (Nat.le_refl _) (.slice A1 n1 c1)
   clear dN hw5 d
   generalize (wr.setCell ⟨w.heap.size, 0, none⟩ (.slice (some ⟨G, 0, none⟩) k k)).setCell ⟨w.heap.size, 1, none⟩ (.slice A1 n1 c1) = w9 at *
   exact bodyPost_ret (v := .agg #[.slice (some ⟨G, 0, none⟩) k k, .slice A1 n1 c1]) (by simp [results, Tryz.results184, go_sem, d0, d1]) rfl ⟨G, p, As, ns, cs, A1, n1, c1, rfl, d2, by omega, d3, d4, d5⟩
def shrF (q p r : Nat → Nat) (As : Nat → Option Addr) (ns cs : Nat → Nat) (i : Nat) : Value := if i % 4 = 0 then .int .u64 (q (i / 4) : Int) else if i % 4 = 1 then .slice (As (i / 4)) (ns (i / 4)) (cs (i / 4)) else if i % 4 = 2 then .int .u64 (p (i / 4) : Int) else .int .u64 (r (i / 4) : Int)
def jnF (q p r : Nat → Nat) (X : Nat) : Nat → Nat
 | 0 => X
 | k + 1 => crtF (jnF q p r X k) (q k) (prodF q k) (p k) (r k)
theorem z2i {w : World} {G L : Nat} {q p r : Nat → Nat} {As : Nat → Option Addr} {ns cs : Nat → Nat} (h : RW w G 294 (L * 4) (shrF q p r As ns cs)) {k : Nat} (hk : k < L) :
    w.cell? ⟨G, k * 4, none⟩ = some (.int .u64 (q k : Int)) ∧ w.cell? ⟨G, k * 4 + 1, none⟩ = some (.slice (As k) (ns k) (cs k)) ∧ w.cell? ⟨G, k * 4 + 2, none⟩ = some (.int .u64 (p k : Int)) ∧ w.cell? ⟨G, k * 4 + 3, none⟩ = some (.int .u64 (r k : Int)) := by
 refine ⟨?_, ?_, ?_, ?_⟩
 ·rw [h.cell (by omega), shrF, if_pos (by omega), Nat.mul_div_cancel _ (by omega)]
 ·rw [h.cell (by omega), shrF, if_neg (by omega), if_pos (by omega), show (k * 4 + 1) / 4 = k by omega]
 ·rw [h.cell (by omega), shrF, if_neg (by omega), if_neg (by omega), if_pos (by omega), show (k * 4 + 2) / 4 = k by omega]
 ·rw [h.cell (by omega), shrF, if_neg (by omega), if_neg (by omega), if_neg (by omega), show (k * 4 + 3) / 4 = k by omega]
set_option maxHeartbeats 4000000 in
theorem zpn (A : Option Addr) (n c L G X : Nat) (q p r : Nat → Nat) (As : Nat → Option Addr) (ns cs : Nat → Nat) (w : World) (hn : n ≤ 10) (hL : L ≤ 24) (hA : NX w A n c (nw X)) (hB : RW w G 294 (L * 4) (shrF q p r As ns cs)) (hf : Hid (∀ j, j < L → (ns j ≤ 25 ∧ NX w (As j) (ns j) (cs j) (nw (prodF q j))) ∧ 2 ≤ q j ∧ q j < 2305843009213693952 ∧ p j < q j ∧ r j < q j)) :
    Calls Tryz.prog 235 #[.agg #[.slice A n c], .slice (some ⟨G, 0, none⟩) L L, .func (.func 236) #[] #[]] w fun ee w' => ∃ A2 n2 c2, ee = .returned (.agg #[.slice A2 n2 c2]) ∧ n2 ≤ n + L * 27 ∧ NX w' A2 n2 c2 (nw (jnF q p r X L)) ∧ Ext w w' := by
 have HA := Lib.hid hA
 have HB := Lib.hid hB
 clear hA hB
 go_enter Tryz.func235, Tryz.ntmps235
 go_wp2_with fail
 have hr0 : RW ((w.alloc (.cells #[.slice A n c] 288)).alloc (.cells #[.slice none 0 0] 288)) (w.heap.size + 1) 288 1 (fun _ => .slice none 0 0) := by
  have : RW ((w.alloc (.cells #[.slice A n c] 288)).alloc (.cells #[.slice none 0 0] 288)) (w.alloc (.cells #[.slice A n c] 288)).heap.size 288 1 (fun _ => .slice none 0 0) := heap_alloc_new _ _
  rwa [show (w.alloc (.cells #[.slice A n c] 288)).heap.size = w.heap.size + 1 by simp] at this
 have hx0 : RW ((w.alloc (.cells #[.slice A n c] 288)).alloc (.cells #[.slice none 0 0] 288)) w.heap.size 288 1 (fun _ => .slice A n c) :=
  RW.ext (show RW (w.alloc (.cells #[.slice A n c] 288)) w.heap.size 288 1 (fun _ => .slice A n c) from heap_alloc_new _ _) ((Ext.refl _).alloc _)
 have kV : Ext w ((w.alloc (.cells #[.slice A n c] 288)).alloc (.cells #[.slice none 0 0] 288)) := ((Ext.refl w).alloc _).alloc _
 generalize (w.alloc (.cells #[.slice A n c] 288)).alloc (.cells #[.slice none 0 0] 288) = V at *
 go_loopw [11] (fun i wr => ∃ (k : Nat) (A1 : Option Addr) (n1 c1 : Nat), k ≤ L ∧ i = .int .i64 (k : Int) ∧ n1 ≤ n + k * 27 ∧ RW wr w.heap.size 288 1 (fun _ => .slice A1 n1 c1) ∧ RW wr (w.heap.size + 1) 288 1 (fun _ => .slice none 0 0) ∧ Hid (NX wr A1 n1 c1 (nw (jnF q p r X k))) ∧ Ext w wr) (fun i _ => L - (intOf i).toNat)
 case atStart => exact ⟨0, A, n, c, by omega, rfl, by omega, hx0, hr0, Lib.hid (NX.ext HA.out kV), kV⟩
 case round =>
  obtain ⟨k, A1, n1, c1, hk, rfl, hn1, hx, hr, hall, kr⟩ := hrel
  clear hx0 hr0 kV
  have cx := hx.cell (i := 0) (by omega)
  have zx := hx.frozen 0
  have sx := hx.lt
  have cr := hr.cell (i := 0) (by omega)
  have zr := hr.frozen 0
  have sr := hr.lt
  by_cases hlt : k < L
  ·obtain ⟨b0, b1, b2, b3⟩ := z2i (HB.out.ext kr) hlt
   obtain ⟨⟨hns, hnx⟩, hq2, hq3, hp, hrr⟩ := hf.out k hlt
   have HNk := Lib.hid (hnx.ext kr)
   clear hnx
   have i0 : (0 : Int) ≤ (k : Int) := by omega
   have i1 : (k : Int) < (L : Int) := by omega
   go_wp2_with fail
   have kz : Ext wr (wr.alloc (.cells #[.int .u64 (q k : Int), .slice (As k) (ns k) (cs k), .int .u64 (p k : Int), .int .u64 (r k : Int)] 294)) := (Ext.refl _).alloc _
   refine (zll A1 (As k) n1 c1 (ns k) (cs k) _ (q k) _ (p k) (r k) _ (by omega) (by omega) (NX.ext hall.out kz) (NX.ext HNk.out kz) (by omega) hq3 hp hrr).mono ?_
   rintro ee w2 ⟨A2, n2, c2, rfl, hn2, hnf, k2⟩
   replace k2 : Ext wr w2 := kz.trans k2
   have hx2 := hx.ext k2
   have hr2 := hr.ext k2
   have HN := Lib.hid hnf
   clear hnf
   have cx2 := hx2.cell (i := 0) (by omega)
   have zx2 := hx2.frozen 0
   have sx2 := hx2.lt
   go_wp2_with fail
   have e1 := (hx2.set (show 0 < 1 by omega) (.slice A2 n2 c2)).congr (G := fun _ => .slice A2 n2 c2) fun j hj => by rw [if_pos (by omega)]
   have e2 : RW (w2.setCell ⟨w.heap.size, 0, none⟩ (.slice A2 n2 c2)) (w.heap.size + 1) 288 1 (fun _ => .slice none 0 0) := RW.keep hr2 (Below.heap_setCell _ _ _ _ (by simp))
   have e3 := Lib.hid (show NX (w2.setCell ⟨w.heap.size, 0, none⟩ (.slice A2 n2 c2)) A2 n2 c2 (nw (jnF q p r X (k + 1))) from NX.aside (by
    exact HN.out) cx2 _)
   have e4 := (kr.trans k2).set (p := ⟨w.heap.size, 0, none⟩) (Nat.le_refl _) (.slice A2 n2 c2)
   exact ⟨⟨k + 1, A2, n2, c2, by omega, by go_num, by omega, e1, e2, e3, e4⟩, by simp [intOf]; omega⟩
  ·have hkL : k = L := by omega
   subst hkL
   go_wp2
   have d0 := zas hr (.slice A1 n1 c1)
   have d1 := kr.set (p := ⟨w.heap.size + 1, 0, none⟩) (by show w.heap.size ≤ w.heap.size + 1; omega) (.slice A1 n1 c1)
   have d2 := NX.aside hall.out cr (.slice A1 n1 c1)
   generalize wr.setCell ⟨w.heap.size + 1, 0, none⟩ (.slice A1 n1 c1) = w6 at *
   exact bodyPost_ret (v := .agg #[.slice A1 n1 c1]) (by simp [results, Tryz.results235, go_sem, d0]) rfl ⟨A1, n1, c1, rfl, by omega, d2, d1⟩
def Reads (fn : Nat) (cap : Array Value) (w : World) (L : Nat) (r : Nat → Nat) : Prop :=
 ∀ j w1, j < L → Ext w w1 → Calls Tryz.prog fn (#[.int .i64 (j : Int)] ++ cap) w1 fun ee w2 => ee = .returned (.int .u64 (r j : Int)) ∧ Ext w1 w2
theorem z27 {w : World} {G L : Nat} {q p : Nat → Nat} {As : Nat → Option Addr} {ns cs : Nat → Nat} (h : RW w G 290 (L * 3) (stpF q p As ns cs)) {k : Nat} (hk : k < L) :
    w.cell? ⟨G, k * 3, none⟩ = some (.int .u64 (q k : Int)) ∧ w.cell? ⟨G, k * 3 + 1, none⟩ = some (.slice (As k) (ns k) (cs k)) ∧ w.cell? ⟨G, k * 3 + 2, none⟩ = some (.int .u64 (p k : Int)) := by
 refine ⟨?_, ?_, ?_⟩
 ·rw [h.cell (by omega), stpF, if_pos (by omega), Nat.mul_div_cancel _ (by omega)]
 ·rw [h.cell (by omega), stpF, if_neg (by omega), if_pos (by omega), show (k * 3 + 1) / 3 = k by omega]
 ·rw [h.cell (by omega), stpF, if_neg (by omega), if_neg (by omega), show (k * 3 + 2) / 3 = k by omega]
def shrUp (q p r : Nat → Nat) (As : Nat → Option Addr) (ns cs : Nat → Nat) (k i : Nat) : Value := if i < k * 4 then shrF q p r As ns cs i else zeroH i
theorem znl (q p r : Nat → Nat) (As : Nat → Option Addr) (ns cs : Nat → Nat) (k i : Nat) :
    (if i = k * 4 + 3 then Value.int .u64 (r k : Int) else if i = k * 4 + 2 then Value.int .u64 (p k : Int) else if i = k * 4 + 1 then .slice (As k) (ns k) (cs k) else if i = k * 4 then .int .u64 (q k : Int) else shrUp q p r As ns cs k i) = shrUp q p r As ns cs (k + 1) i := by
 unfold shrUp
 by_cases h0 : i = k * 4 + 3
 ·subst h0
  rw [if_pos rfl, if_pos (by omega), shrF, if_neg (by omega), if_neg (by omega), if_neg (by omega), show (k * 4 + 3) / 4 = k by omega]
 ·rw [if_neg h0]
  by_cases h1 : i = k * 4 + 2
  ·subst h1
   rw [if_pos rfl, if_pos (by omega), shrF, if_neg (by omega), if_neg (by omega), if_pos (by omega), show (k * 4 + 2) / 4 = k by omega]
  ·rw [if_neg h1]
   by_cases h2 : i = k * 4 + 1
   ·subst h2
    rw [if_pos rfl, if_pos (by omega), shrF, if_neg (by omega), if_pos (by omega), show (k * 4 + 1) / 4 = k by omega]
   ·rw [if_neg h2]
    by_cases h3 : i = k * 4
    ·subst h3
     rw [if_pos rfl, if_pos (by omega), shrF, if_pos (by omega), Nat.mul_div_cancel _ (by omega)]
    ·rw [if_neg h3]
     by_cases h4 : i < k * 4
     ·rw [if_pos h4, if_pos (by omega)]
     ·rw [if_neg h4, if_neg (by omega)]
def set4 (w : World) (g i : Nat) (a b c d : Value) : World := (((w.setCell ⟨g, i, none⟩ a).setCell ⟨g, i + 1, none⟩ b).setCell ⟨g, i + 2, none⟩ c).setCell ⟨g, i + 3, none⟩ d
theorem RW.keep4 {w : World} {x m : Nat} {t : TypeId} {F : Nat → Value} (h : RW w x t m F) {g : Nat} (hg : x ≠ g) (i : Nat) (a b c d : Value) : RW (set4 w g i a b c d) x t m F :=
 RW.keep (RW.keep (RW.keep (RW.keep h (Below.heap_setCell _ _ _ _ (fun e => hg (by simpa using e)))) (Below.heap_setCell _ _ _ _ (fun e => hg (by simpa using e)))) (Below.heap_setCell _ _ _ _ (fun e => hg (by simpa using e)))) (Below.heap_setCell _ _ _ _ (fun e => hg (by simpa using e)))
theorem Ext.keep4 {a w : World} (h : Ext a w) {g : Nat} (hg : a.heap.size ≤ g) (i : Nat) (x y z u : Value) : Ext a (set4 w g i x y z u) :=
 (((h.set (p := ⟨g, i, none⟩) hg x).set (p := ⟨g, i + 1, none⟩) hg y).set (p := ⟨g, i + 2, none⟩) hg z).set (p := ⟨g, i + 3, none⟩) hg u
theorem zx9 {w : World} {g L k : Nat} {q p r : Nat → Nat} {As : Nat → Option Addr} {ns cs : Nat → Nat} (h : RW w g 294 (L * 4) (shrUp q p r As ns cs k)) (hk : k < L) :
    RW (set4 w g (k * 4) (.int .u64 (q k : Int)) (.slice (As k) (ns k) (cs k)) (.int .u64 (p k : Int)) (.int .u64 (r k : Int))) g 294 (L * 4) (shrUp q p r As ns cs (k + 1)) :=
 ((((h.set (show k * 4 < L * 4 by omega) _).set (show k * 4 + 1 < L * 4 by omega) _).set (show k * 4 + 2 < L * 4 by omega) _).set (show k * 4 + 3 < L * 4 by omega) _).congr fun i _ => znl q p r As ns cs k i
theorem NX.nil6 (w : World) : NX w none 0 0 (nw 0) := by
 have : nw 0 = [] := zcs _
 rw [this]; exact Rd.none_ _ _ _ _ _ _
theorem ziz {w w' : World} {P : Prop} {ee : Ending} (h : Tells w P ee w') (hP : P) : ee = .returned (.bool true) ∧ Ext w w' := by
 rcases h with ⟨_, h⟩ | ⟨h, _⟩
 ·exact h
 ·exact absurd hP h
set_option maxHeartbeats 4000000 in
theorem zft (B : Option Addr) (L d : Nat) (f : Nat → Nat) (w : World) (hL : L ≤ 800) (hB : FX w B L d f) (hf : Hid (∀ j, j < L → f j < 18446744073709551616)) :
    Calls Tryz.prog 187 #[.slice B L d] w fun ee w' => ∃ A2 n2 c2, ee = .returned (.slice A2 n2 c2) ∧ n2 ≤ 1 + L ∧ NX w' A2 n2 c2 (nw (prodF f L)) ∧ Ext w w' := by
 have hfd := zw9
 have HB := Lib.hid hB
 clear hB
 go_enter Tryz.func187, Tryz.ntmps187
 go_wp2_with fail
 refine (zfe 1 w (by omega)).mono ?_
 rintro e1 w1 ⟨A1, n1, c1, rfl, hn1, hx1, k1, hf1⟩
 replace k1 : Ext w w1 := k1
 clear hf1
 have HN := Lib.hid (show NX w1 A1 n1 c1 (nw 1) from hx1)
 clear hx1
 go_wp2_with fail
 refine (zo4 A1 B n1 c1 L d 1 f w1 (by omega) hL HN.out (HB.out.ext k1) hf).mono ?_
 rintro e2 w2 ⟨A2, n2, c2, rfl, hn2, hx2, k2⟩
 rw [Nat.mul_one] at hx2
 have H2 := Lib.hid hx2
 clear hx2
 go_wp2
 go_ret
 exact ⟨A2, n2, c2, rfl, by omega, H2.out, k1.trans k2⟩
end Go.Proofs.YtopbibfpjgjalaaGreatDoor
