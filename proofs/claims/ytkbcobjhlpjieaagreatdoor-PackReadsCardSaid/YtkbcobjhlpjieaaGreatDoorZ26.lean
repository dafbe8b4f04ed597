import Derived.Test.YtkbcobjhlpjieaaGreatDoorZ16
import Derived.Test.YtkbcobjhlpjieaaGreatDoorZ24
import Derived.Test.YtkbcobjhlpjieaaGreatDoorZ25
import Derived.Test.YtkbcobjhlpjieaaGreatDoorZ23
import Derived.Test.YtkbcobjhlpjieaaGreatDoorZ6
import Derived.Test.YtkbcobjhlpjieaaGreatDoorZ4
import Derived.Test.YtkbcobjhlpjieaaGreatDoorZ9
import Derived.Test.YtkbcobjhlpjieaaGreatDoorZ8
namespace Go.Proofs.YtkbcobjhlpjieaaGreatDoor
open Go.RowKit
set_option linter.unusedVariables false
set_option maxRecDepth 100000
def NewPost (w : World) (N : Nat) (ys : List Nat) (e : Ending) (w' : World) : Prop :=
 ∃ A n c, e = .returned (.slice A n c) ∧ n ≤ N ∧ NR w' w'.heap.size A n c ys ∧ Below w.heap.size w w' ∧ ∀ ad, A = some ad → w.heap.size ≤ ad.block
theorem ownF_any (A : Option Addr) (n c B : Nat) (xs : List Nat) (w : World) (h : NR w B A n c xs) (hn : n ≤ 1000000) :
    Calls Tryz.prog 173 #[.slice A n c] w fun e w' => ∃ A2 m c2, m ≤ n ∧ e = .returned (.slice A2 m c2) ∧ w = w' ∧ NR w B A2 m c2 (nw (nv xs)) ∧ (A2 = none ∨ A2 = A) := by
 go_enter Tryz.func173, Tryz.ntmps173
 go_wp2_with fail
 refine (trimmed_any A n c B xs w h hn).mono ?_
 rintro e w' ⟨m, hm, rfl, rfl, hr⟩
 by_cases hm0 : m = 0
 ·subst hm0
  go_wp2
  go_ret
  exact ⟨none, 0, 0, hm, rfl, rfl, by rw [hr.eq_nil rfl]; exact Rd.none_ _ _ _ _ _ _, .inl rfl⟩
 ·have hb : ((m : Int) == 0) = false := by simpa using hm0
  go_wp2
  go_ret
  exact ⟨A, m, m, hm, rfl, rfl, hr, .inr rfl⟩
theorem ofF_any (x : Nat) (w : World) (hx : x < 18446744073709551616) :
    Calls Tryz.prog 159 #[.int .u64 (x : Int)] w (NewPost w 1 (nw x)) := by
 have hr : NR (w.alloc (.cells #[.int .u64 (x : Int)] 22)) (w.heap.size + 1) (some ⟨w.heap.size, 0, none⟩) 1 1 [x] := by
  refine ⟨rfl, Nat.le_refl _, fun z hz => by rw [List.mem_singleton.1 hz, W64_eq]; exact hx, fun _ => ⟨_, rfl, Nat.lt_succ_self _, fun j z hz => ?_⟩⟩
  match j, hz with
  | 0, hz => simp at hz; subst hz; simp [Addr.add]
 have e : nv [x] = x := by show vl W64 [x] = x; simp [vl]
 have E := Lib.hid e
 clear e
 go_enter Tryz.func159, Tryz.ntmps159
 go_wp2_with fail
 refine (ownF_any _ _ _ _ [x] _ hr (by omega)).mono ?_
 rintro e w' ⟨A2, m2, c2, hm2, rfl, rfl, hr2, hA2⟩
 rw [E.out] at hr2
 go_wp2
 go_ret
 refine ⟨A2, m2, c2, rfl, hm2, by simpa using hr2, (Below.refl _ _).alloc (Nat.le_refl _) _, fun ad e => ?_⟩
 rcases hA2 with h | h
 ·rw [h] at e; cases e
 ·rw [h] at e; injection e with e; subst e; exact Nat.le_refl _
set_option maxHeartbeats 1000000 in
theorem mulF_any (A A' : Option Addr) (n n' c c' : Nat) (xs ys : List Nat) (w : World) (h : NR w w.heap.size A n c xs) (h' : NR w w.heap.size A' n' c' ys) (hn : n ≤ 100000) (hn' : n' ≤ 100000) :
    Calls Tryz.prog 174 #[.slice A n c, .slice A' n' c'] w (NewPost w (n + n') (nw (nv xs * nv ys))) := by
 obtain ⟨i0, hi, hz0, hz1, hz2⟩ := info_parts info_u64
 go_enter Tryz.func174, Tryz.ntmps174
 go_wp2_with fail
 refine (trimmed_any _ _ _ _ xs _ h (by omega)).mono ?_
 rintro e w' ⟨m, hm, rfl, rfl, hr⟩
 go_wp2_with fail
 refine (trimmed_any _ _ _ _ ys _ h' (by omega)).mono ?_
 rintro e w' ⟨m', hm', rfl, rfl, hr'⟩
 have E1 := Lib.hid (nv_nw (nv xs))
 have E2 := Lib.hid (nv_nw (nv ys))
 have hmk := make_words m' (m + m') (by omega) (by omega)
 rw [show ((m + m' : Nat) : Int) = (m : Int) + m' by omega] at hmk
 go_wp2
 go_loopw [5, 22] (fun s i wr => ∃ (k : Nat) (ps : List Nat) (sp : List Value), k ≤ m ∧ i = .int .i64 k ∧ s = .slice (some ⟨w.heap.size, 0, none⟩) (m' + k) (m + m') ∧ sp.length + (m' + k) = m + m' ∧ Bk wr w.heap.size ps sp ∧ Below w.heap.size w wr ∧ MulInv (nw (nv xs)) (nv ys) m' k ps) (fun _ i _ => m - (intOf i).toNat)
 case atStart => exact ⟨0, _, _, by omega, rfl, rfl, by simp, newRow_bk _ _ _, (Below.refl _ _).alloc (Nat.le_refl _) _, mulInv_zero⟩
 case round =>
  obtain ⟨k, ps, sp, hk, rfl, rfl, hsp, hb, hbl, hinv⟩ := hrel
  have hs1 := hb.lt
  have hpl := hinv.1
  have hplt := hinv.2.1
  by_cases hlt : k < m
  ·obtain ⟨ad, x, rfl, hbk, hxb, hx, hc⟩ := (hr.below hbl).at_ hlt
   rw [W64_eq] at hxb
   have hb' : Bk wr w.heap.size (ps.take k ++ ps.drop k ++ []) sp := by rw [List.append_nil, List.take_append_drop]; exact hb
   have hdl : (ps.drop k).length = m' := by rw [List.length_drop]; omega
   have htl : (ps.take k).length = k := by rw [List.length_take]; omega
   have HD := Lib.hid hdl
   have HT := Lib.hid htl
   have HX := Lib.hid hx
   have HP := Lib.hid hpl
   have SP := Lib.hid hsp
   have hr2 := hr'.below hbl
   clear hdl htl hx hpl hsp
   go_wp2_with fail
   refine (addTimes_any w.heap.size k (m + m' - k) A' m' m' w.heap.size x (ps.take k) (ps.drop k) [] (nw (nv ys)) sp wr hb' HT.out HD.out (fun z hz => hplt z (List.mem_of_mem_drop hz)) hr2 (by omega) (fun h0 ad e => by obtain ⟨ad2, e2, hlt2, _⟩ := hr'.cells h0; rw [e2] at e; injection e with e; subst e; omega) (by omega) (by omega) hxb).mono ?_
   rintro e w4 ⟨ns, C, rfl, nl, nlt, hCW, er, hk4, hg4⟩
   rw [nv_nw] at er
   rw [List.append_nil] at hk4
   have HN := Lib.hid (hinv.step (ds := []) HX.out nl nlt hCW er)
   have hbl4 := below_only hbl hg4 (by omega) (Nat.le_refl _)
   have hrow := hk4.row (cap := m + m') (k := m' + k) hbl4 (Nat.le_refl _) (by simp [HT.out, nl]; omega) SP.out (by unfold maxLen; omega)
   have hs4 := hk4.lt
   rw [W64_eq] at hCW
   have NL := Lib.hid nl
   have ER := Lib.hid er
   clear er nl
   go_wp2_with (at_builtin; refine wpList_append_fits _ rfl _ _ 152 rfl w.heap.size 22 i0 1 Tryz.underlying152 hi hz1 w.heap.size (m' + k) (m + m') (u64s (ps.take k ++ ns)) rfl (hrow.1.alloc _) ⟨_, 0, none⟩ 1 1 [.int .u64 (C : Int)] rfl rfl one_cell one_int (by omega) ?_; intro w5 hown5 hgrow5)
   have hrow5 := hrow.push (Nat.le_of_lt hs4) hown5 hgrow5
   obtain ⟨sp5, hsp5, hbk5⟩ := Bk.of_row hrow5
   exact ⟨⟨k + 1, _, sp5, by omega, by go_num, rfl, by omega, hbk5, hrow5.2, HN.out⟩, by simp [intOf]; omega⟩
  ·obtain rfl : k = m := by omega
   have hv := hinv.2.2
   rw [List.take_of_length_le (by rw [hr.len]; exact Nat.le_refl _), nv_nw] at hv
   have HV := Lib.hid hv
   have HP := Lib.hid hpl
   have hrd := hb.rd (c := k + m') hplt hpl (by omega)
   clear hv hpl hsp
   go_wp2_with fail
   refine (ownF_any _ _ _ _ ps _ hrd (by omega)).mono ?_
   rintro e w' ⟨A2, m2, c2, hm2, rfl, rfl, hr2, hA2⟩
   go_wp2
   go_ret
   refine ⟨A2, m2, c2, rfl, by omega, ?_, hbl, fun ad e => ?_⟩
   ·rw [← HV.out]
    exact hr2
   ·rcases hA2 with h | h
    ·rw [h] at e; cases e
    ·rw [h] at e; injection e with e; subst e; exact Nat.le_refl _
def NF (w : World) (B : Nat) (A : Option Addr) (n c : Nat) (X : Nat) : Prop := NX w A n c (nw X) ∧ ∀ ad, A = some ad → B ≤ ad.block
theorem NF.ext {w w' : World} {B : Nat} {A : Option Addr} {n c X : Nat} (h : NF w B A n c X) (k : Ext w w') : NF w' B A n c X := ⟨NX.ext h.1 k, h.2⟩
theorem NF.set {w : World} {B : Nat} {A : Option Addr} {n c X : Nat} (h : NF w B A n c X) {p : Addr} (hp : p.block < B) (v : Value) : NF (w.setCell p v) B A n c X := by
 refine ⟨⟨h.1.len, h.1.room, h.1.lt, fun hn => ?_⟩, h.2⟩
 obtain ⟨ad, e, hlt, hc⟩ := h.1.cells hn
 refine ⟨ad, e, by simpa [World.setCell] using hlt, fun j x hx => ?_⟩
 rw [set_far]
 ·exact hc j x hx
 ·intro e'
  have := h.2 ad e
  rw [e', add_block] at hp
  omega
theorem NX.aside {w : World} {A : Option Addr} {n c : Nat} {xs : List Nat} (h : NX w A n c xs) {p : Addr} {B : Option Addr} {m k : Nat} (hp : w.cell? p = some (.slice B m k)) (v : Value) : NX (w.setCell p v) A n c xs := by
 refine ⟨h.len, h.room, h.lt, fun hn => ?_⟩
 obtain ⟨ad, e, hlt, hc⟩ := h.cells hn
 refine ⟨ad, e, by simpa [World.setCell] using hlt, fun j x hx => ?_⟩
 rw [set_far]
 ·exact hc j x hx
 ·intro e'
  have := hc j x hx
  rw [← e', hp] at this
  injection this with this
  cases this
set_option maxHeartbeats 4000000 in
theorem times6_any (A : Option Addr) (n c : Nat) (xs : List Nat) (F : Nat) (w : World) (h : NX w A n c xs) (hn : n ≤ 1000) (hF : F < 18446744073709551616) :
    Calls Tryz.prog 160 #[.agg #[.slice A n c], .int .u64 (F : Int)] w fun ee w' => ∃ A2 n2 c2, ee = .returned (.agg #[.slice A2 n2 c2]) ∧ n2 ≤ 1 + n ∧ NF w' w.heap.size A2 n2 c2 (F * nv xs) ∧ Ext w w' := by
 have HX := Lib.hid h
 clear h
 obtain ⟨V, hV⟩ : ∃ V, V = (w.alloc (.cells #[.slice A n c] 245)).alloc (.cells #[.slice none 0 0] 245) := ⟨_, rfl⟩
 have kV : Ext w V := by rw [hV]; exact ((Ext.refl w).alloc _).alloc _
 have hr0 : RW V (w.heap.size + 1) 245 1 (fun _ => .slice none 0 0) := by
  have : RW V (w.alloc (.cells #[.slice A n c] 245)).heap.size 245 1 (fun _ => .slice none 0 0) := by rw [hV]; exact heap_alloc_new _ _
  rwa [show (w.alloc (.cells #[.slice A n c] 245)).heap.size = w.heap.size + 1 by simp] at this
 have x2 : V.cell? ⟨w.heap.size, 0, none⟩ = some (.slice A n c) := by rw [hV]; exact cell_ext ((Ext.refl _).alloc _) (one_at w _ _)
 go_enter Tryz.func160, Tryz.ntmps160
 go_wp2_with fail
 rw [← hV]
 clear hV
 have kk : Ext V V := Ext.refl V
 go_region_held3 (fun w' => w'.cell? ⟨w.heap.size, 0, none⟩ = some (.slice A n c)) (go_keep)
  (first
   | (go_at_call 174; refine (mulF_any A1 A n1 n c1 c (nw F) xs _ (NX.ext hx1 kx) (NX.ext HX.out (kV.trans kk)) (by omega) (by omega)).mono ?_; rintro e5 w5 ⟨A2, n2, c2, rfl, hn2, hx2, k5, hf2⟩; replace kk : Ext V w5 := (Ext.trans kk k5); have y2 := cell_ext kk x2; have r5 := hr0.ext kk; have c5 := r5.cell (i := 0) (by omega); have z5 := r5.frozen 0; have s5 := r5.lt)
   | (go_at_call 159; refine (ofF_any F _ hF).mono ?_; rintro e4 w4 ⟨A1, n1, c1, rfl, hn1, hx1, k4, hf1⟩; replace kk : Ext V w4 := (Ext.trans (Ext.drew kk) k4); have kx : Ext w4 w4 := Ext.refl w4; have y2 := cell_ext kk x2; have r4 := hr0.ext kk; have c4 := r4.cell (i := 0) (by omega); have z4 := r4.frozen 0; have s4 := r4.lt)
   | fail)
 go_wp2
 have d0 := ret_cell r5 (.slice A2 n2 c2)
 have d1 := (kV.trans kk).set (p := ⟨w.heap.size + 1, 0, none⟩) (by show w.heap.size ≤ w.heap.size + 1; omega) (.slice A2 n2 c2)
 have d2 : NF (w5.setCell ⟨w.heap.size + 1, 0, none⟩ (.slice A2 n2 c2)) w.heap.size A2 n2 c2 (F * nv xs) := by
  refine ⟨?_, fun ad e => ?_⟩
  ·have hx : NX w5 A2 n2 c2 (nw (F * nv xs)) := by
      rw [nv_nw] at hx2
      exact hx2
   exact NX.aside hx c5 _
  ·have := hf2 ad e
   omega
 generalize w5.setCell ⟨w.heap.size + 1, 0, none⟩ (.slice A2 n2 c2) = w6 at *
 exact bodyPost_ret (v := .agg #[.slice A2 n2 c2]) (by simp [results, Tryz.results160, go_sem, d0]) rfl ⟨A2, n2, c2, rfl, by omega, d2, d1⟩
def prodF (f : Nat → Nat) : Nat → Nat
 | 0 => 1
 | k + 1 => f k * prodF f k
set_option maxHeartbeats 4000000 in
theorem grownU_any (A B : Option Addr) (n c L d X : Nat) (f : Nat → Nat) (w : World) (hn : n ≤ 100) (hL : L ≤ 800) (hA : NX w A n c (nw X)) (hB : FX w B L d f) (hf : Hid (∀ j, j < L → f j < 18446744073709551616)) :
    Calls Tryz.prog 158 #[.agg #[.slice A n c], .slice B L d, .func (.func 160) #[] #[]] w fun ee w' => ∃ A2 n2 c2, ee = .returned (.agg #[.slice A2 n2 c2]) ∧ n2 ≤ n + L ∧ NX w' A2 n2 c2 (nw (prodF f L * X)) ∧ Ext w w' := by
 have HA := Lib.hid hA
 have HB := Lib.hid hB
 clear hA hB
 go_enter Tryz.func158, Tryz.ntmps158
 go_wp2_with fail
 have hr0 : RW ((w.alloc (.cells #[.slice A n c] 245)).alloc (.cells #[.slice none 0 0] 245)) (w.heap.size + 1) 245 1 (fun _ => .slice none 0 0) := by
  have : RW ((w.alloc (.cells #[.slice A n c] 245)).alloc (.cells #[.slice none 0 0] 245)) (w.alloc (.cells #[.slice A n c] 245)).heap.size 245 1 (fun _ => .slice none 0 0) := heap_alloc_new _ _
  rwa [show (w.alloc (.cells #[.slice A n c] 245)).heap.size = w.heap.size + 1 by simp] at this
 have hx0 : RW ((w.alloc (.cells #[.slice A n c] 245)).alloc (.cells #[.slice none 0 0] 245)) w.heap.size 245 1 (fun _ => .slice A n c) :=
  RW.ext (show RW (w.alloc (.cells #[.slice A n c] 245)) w.heap.size 245 1 (fun _ => .slice A n c) from heap_alloc_new _ _) ((Ext.refl _).alloc _)
 have kV : Ext w ((w.alloc (.cells #[.slice A n c] 245)).alloc (.cells #[.slice none 0 0] 245)) := ((Ext.refl w).alloc _).alloc _
 generalize (w.alloc (.cells #[.slice A n c] 245)).alloc (.cells #[.slice none 0 0] 245) = V at *
 go_loopw [11] (fun i wr => ∃ (k : Nat) (A1 : Option Addr) (n1 c1 : Nat), k ≤ L ∧ i = .int .i64 (k : Int) ∧ n1 ≤ n + k ∧ RW wr w.heap.size 245 1 (fun _ => .slice A1 n1 c1) ∧ RW wr (w.heap.size + 1) 245 1 (fun _ => .slice none 0 0) ∧ Hid (NX wr A1 n1 c1 (nw (prodF f k * X))) ∧ Ext w wr) (fun i _ => L - (intOf i).toNat)
 case atStart => exact ⟨0, A, n, c, by omega, rfl, by omega, hx0, hr0, Lib.hid (by rw [prodF, Nat.one_mul]; exact NX.ext HA.out kV), kV⟩
 case round =>
  obtain ⟨k, A1, n1, c1, hk, rfl, hn1, hx, hr, hall, kr⟩ := hrel
  clear hx0 hr0 kV
  have cx := hx.cell (i := 0) (by omega)
  have zx := hx.frozen 0
  have sx := hx.lt
  have cr := hr.cell (i := 0) (by omega)
  have zr := hr.frozen 0
  have sr := hr.lt
  by_cases hlt : k < L
  ·have hb := HB.out.ext kr
   obtain ⟨ad, rfl, hc⟩ := hb.cells (by omega)
   have hcell := hc k hlt
   have hql := hf.out k hlt
   clear hc hb
   have i0 : (0 : Int) ≤ (k : Int) := by omega
   have i1 : (k : Int) < (L : Int) := by omega
   go_wp2_with fail
   refine (times6_any A1 n1 c1 _ (f k) wr hall.out (by omega) hql).mono ?_
   rintro ee w2 ⟨A2, n2, c2, rfl, hn2, hnf, k2⟩
   have hx2 := hx.ext k2
   have hr2 := hr.ext k2
   have HN := Lib.hid hnf
   clear hnf
   have cx2 := hx2.cell (i := 0) (by omega)
   have zx2 := hx2.frozen 0
   have sx2 := hx2.lt
   go_wp2_with fail
   have e1 := (hx2.set (show 0 < 1 by omega) (.slice A2 n2 c2)).congr (G := fun _ => .slice A2 n2 c2) fun j hj => by rw [if_pos (by omega)]
   have e2 : RW (w2.setCell ⟨w.heap.size, 0, none⟩ (.slice A2 n2 c2)) (w.heap.size + 1) 245 1 (fun _ => .slice none 0 0) := RW.keep hr2 (Below.heap_setCell _ _ _ _ (by simp))
   have e3 := Lib.hid (show NX (w2.setCell ⟨w.heap.size, 0, none⟩ (.slice A2 n2 c2)) A2 n2 c2 (nw (prodF f (k + 1) * X)) from NX.aside (by
    have := HN.out.1
    rw [nv_nw, ← Nat.mul_assoc] at this
    exact this) cx2 _)
   have e4 := (kr.trans k2).set (p := ⟨w.heap.size, 0, none⟩) (Nat.le_refl _) (.slice A2 n2 c2)
   exact ⟨⟨k + 1, A2, n2, c2, by omega, by go_num, by omega, e1, e2, e3, e4⟩, by simp [intOf]; omega⟩
  ·have hkL : k = L := by omega
   subst hkL
   go_wp2
   have d0 := ret_cell hr (.slice A1 n1 c1)
   have d1 := kr.set (p := ⟨w.heap.size + 1, 0, none⟩) (by show w.heap.size ≤ w.heap.size + 1; omega) (.slice A1 n1 c1)
   have d2 := NX.aside hall.out cr (.slice A1 n1 c1)
   generalize wr.setCell ⟨w.heap.size + 1, 0, none⟩ (.slice A1 n1 c1) = w6 at *
   exact bodyPost_ret (v := .agg #[.slice A1 n1 c1]) (by simp [results, Tryz.results158, go_sem, d0]) rfl ⟨A1, n1, c1, rfl, by omega, d2, d1⟩
theorem field6 (A : Option Addr) (n c : Nat) (W : World) : Sem.run Tryz.prog (Instr.field 245 (.agg #[.slice A n c]) 0) W = .ok (.slice A n c) W := by kernel_rfl
theorem NX.off {w : World} {A : Option Addr} {n c : Nat} {xs : List Nat} (h : NX w A n c xs) {p : Addr} {u : Value} (hp : w.cell? p = some u) (hu : ∀ x : Nat, u ≠ .int .u64 (x : Int)) (v : Value) : NX (w.setCell p v) A n c xs := by
 refine ⟨h.len, h.room, h.lt, fun hn => ?_⟩
 obtain ⟨ad, e, hlt, hc⟩ := h.cells hn
 refine ⟨ad, e, by simpa [World.setCell] using hlt, fun j x hx => ?_⟩
 rw [set_far]
 ·exact hc j x hx
 ·intro e'
  have := hc j x hx
  rw [← e', hp] at this
  injection this with this
  exact hu _ this
theorem NF.off {w : World} {B : Nat} {A : Option Addr} {n c X : Nat} (h : NF w B A n c X) {p : Addr} {B' : Option Addr} {m k : Nat} (hp : w.cell? p = some (.slice B' m k)) (v : Value) : NF (w.setCell p v) B A n c X := ⟨NX.aside h.1 hp v, h.2⟩
set_option maxHeartbeats 4000000 in
theorem Product_any (B : Option Addr) (L d : Nat) (f : Nat → Nat) (w : World) (hL : L ≤ 800) (hB : FX w B L d f) (hf : Hid (∀ j, j < L → f j < 18446744073709551616)) :
    Calls Tryz.prog 145 #[.slice B L d] w fun ee w' => ∃ A2 n2 c2, ee = .returned (.slice A2 n2 c2) ∧ n2 ≤ 1 + L ∧ NX w' A2 n2 c2 (nw (prodF f L)) ∧ Ext w w' := by
 have hfd := field6
 have HB := Lib.hid hB
 clear hB
 go_enter Tryz.func145, Tryz.ntmps145
 go_wp2_with fail
 refine (ofF_any 1 w (by omega)).mono ?_
 rintro e1 w1 ⟨A1, n1, c1, rfl, hn1, hx1, k1, hf1⟩
 replace k1 : Ext w w1 := k1
 clear hf1
 have HN := Lib.hid (show NX w1 A1 n1 c1 (nw 1) from hx1)
 clear hx1
 go_wp2_with fail
 refine (grownU_any A1 B n1 c1 L d 1 f w1 (by omega) hL HN.out (HB.out.ext k1) hf).mono ?_
 rintro e2 w2 ⟨A2, n2, c2, rfl, hn2, hx2, k2⟩
 rw [Nat.mul_one] at hx2
 have H2 := Lib.hid hx2
 clear hx2
 go_wp2
 go_ret
 exact ⟨A2, n2, c2, rfl, by omega, H2.out, k1.trans k2⟩
theorem bits_and_i64_nat (a b : Nat) (ha : a < 4611686018427387904) (hb : b < 4611686018427387904) : bits .and .i64 (a : Int) (b : Int) = ((a &&& b : Nat) : Int) := by
 have hx : a &&& b < 2 ^ 62 := Nat.and_lt_two_pow _ (by omega)
 have h1 : (BitVec.ofInt 64 (a : Int)).toNat = a := by
  rw [BitVec.ofInt_natCast, BitVec.toNat_ofNat]; exact Nat.mod_eq_of_lt (by omega)
 have h2 : (BitVec.ofInt 64 (b : Int)).toNat = b := by
  rw [BitVec.ofInt_natCast, BitVec.toNat_ofNat]; exact Nat.mod_eq_of_lt (by omega)
 show IntKind.i64.wrap ((BitVec.ofInt 64 (a : Int) &&& BitVec.ofInt 64 (b : Int)).toNat : Int) = _
 rw [BitVec.toNat_and, h1, h2, IntKind.wrap_i64]
 omega
def rowS (N : Int) : Nat := if N = 8 ∨ N = 16 ∨ N = 32 ∨ N = 64 ∨ N = 128 ∨ N = 256 then 420 else if N = 1024 then 27 else if N = 2048 then 54 else if N = 4096 then 109 else 0
theorem row_any (N : Int) (w : World) :
    Calls Tryz.prog 146 #[.int .i64 N] w fun e w' => e = .returned (.int .i64 (rowS N : Int)) ∧ w = w' := by
 have key : ∀ m : Nat, rowS N = m → (N = 8 ∨ N = 16 ∨ N = 32 ∨ N = 64 ∨ N = 128 ∨ N = 256 ∨ N = 1024 ∨ N = 2048 ∨ N = 4096 ∨ (N ≠ 8 ∧ N ≠ 16 ∧ N ≠ 32 ∧ N ≠ 64 ∧ N ≠ 128 ∧ N ≠ 256 ∧ N ≠ 1024 ∧ N ≠ 2048 ∧ N ≠ 4096 ∧ m = 0)) := fun m hm => by
  unfold rowS at hm
  by_cases h : N = 8 ∨ N = 16 ∨ N = 32 ∨ N = 64 ∨ N = 128 ∨ N = 256
  ·omega
  ·rw [if_neg h] at hm
   by_cases h1 : N = 1024
   ·omega
   ·rw [if_neg h1] at hm
    by_cases h2 : N = 2048
    ·omega
    ·rw [if_neg h2] at hm
     by_cases h3 : N = 4096
     ·omega
     ·rw [if_neg h3] at hm; omega
 obtain ⟨m, hm⟩ : ∃ m, rowS N = m := ⟨_, rfl⟩
 have hk := key m hm
 clear key
 rcases hk with rfl | rfl | rfl | rfl | rfl | rfl | rfl | rfl | rfl | ⟨h1, h2, h3, h4, h5, h6, h7, h8, h9, rfl⟩
 case inr.inr.inr.inr.inr.inr.inr.inr.inr =>
  have e1 : (N == 8) = false := by simp; omega
  have e2 : (N == 16) = false := by simp; omega
  have e3 : (N == 32) = false := by simp; omega
  have e4 : (N == 64) = false := by simp; omega
  have e5 : (N == 128) = false := by simp; omega
  have e6 : (N == 256) = false := by simp; omega
  have e7 : (N == 1024) = false := by simp; omega
  have e8 : (N == 2048) = false := by simp; omega
  have e9 : (N == 4096) = false := by simp; omega
  rw [hm]
  go_enter Tryz.func146, Tryz.ntmps146
  go_wp2
  go_ret
  exact ⟨rfl, rfl⟩
 all_goals
  clear hm
  go_enter Tryz.func146, Tryz.ntmps146
  go_wp2
  go_ret
  exact ⟨rfl, rfl⟩
theorem rrow_any (N : Int) (w : World) :
    Calls Tryz.prog 84 #[.int .i64 N] w fun e w' => e = .returned (.int .i64 (rowS N : Int)) ∧ w = w' := by
 have key : ∀ m : Nat, rowS N = m → (N = 8 ∨ N = 16 ∨ N = 32 ∨ N = 64 ∨ N = 128 ∨ N = 256 ∨ N = 1024 ∨ N = 2048 ∨ N = 4096 ∨ (N ≠ 8 ∧ N ≠ 16 ∧ N ≠ 32 ∧ N ≠ 64 ∧ N ≠ 128 ∧ N ≠ 256 ∧ N ≠ 1024 ∧ N ≠ 2048 ∧ N ≠ 4096 ∧ m = 0)) := fun m hm => by
  unfold rowS at hm
  by_cases h : N = 8 ∨ N = 16 ∨ N = 32 ∨ N = 64 ∨ N = 128 ∨ N = 256
  ·omega
  ·rw [if_neg h] at hm
   by_cases h1 : N = 1024
   ·omega
   ·rw [if_neg h1] at hm
    by_cases h2 : N = 2048
    ·omega
    ·rw [if_neg h2] at hm
     by_cases h3 : N = 4096
     ·omega
     ·rw [if_neg h3] at hm; omega
 obtain ⟨m, hm⟩ : ∃ m, rowS N = m := ⟨_, rfl⟩
 have hk := key m hm
 clear key
 rcases hk with rfl | rfl | rfl | rfl | rfl | rfl | rfl | rfl | rfl | ⟨h1, h2, h3, h4, h5, h6, h7, h8, h9, rfl⟩
 case inr.inr.inr.inr.inr.inr.inr.inr.inr =>
  have e1 : (N == 8) = false := by simp; omega
  have e2 : (N == 16) = false := by simp; omega
  have e3 : (N == 32) = false := by simp; omega
  have e4 : (N == 64) = false := by simp; omega
  have e5 : (N == 128) = false := by simp; omega
  have e6 : (N == 256) = false := by simp; omega
  have e7 : (N == 1024) = false := by simp; omega
  have e8 : (N == 2048) = false := by simp; omega
  have e9 : (N == 4096) = false := by simp; omega
  rw [hm]
  go_enter Tryz.func84, Tryz.ntmps84
  go_wp2
  go_ret
  exact ⟨rfl, rfl⟩
 all_goals
  clear hm
  go_enter Tryz.func84, Tryz.ntmps84
  go_wp2
  go_ret
  exact ⟨rfl, rfl⟩
def SizeP (N : Int) : Prop := 8 ≤ N ∧ N ≤ 4096 ∧ stepS N.toNat = true
theorem top_any (N T W : Int) (A : Option Addr) (L c : Nat) (w : World) (hL : L ≤ 1000000000000000) :
    Calls Tryz.prog 83 #[.agg #[.int .i64 N, .int .u64 T, .slice A L c, .int .i64 W]] w fun e w' => e = .returned (.int .i64 ((L : Int) - 1)) ∧ Ext w w' := by
 go_enter Tryz.func83, Tryz.ntmps83
 go_wp2
 go_ret
 exact ⟨by go_simp, (Ext.refl w).alloc _⟩
set_option maxHeartbeats 1000000 in
theorem maySize_any (N T W : Int) (A : Option Addr) (L c : Nat) (w : World) (n0 : -9223372036854775808 ≤ N) (n1 : N < 9223372036854775808) :
    Calls Tryz.prog 123 #[.agg #[.int .i64 N, .int .u64 T, .slice A L c, .int .i64 W]] w (Tells w (SizeP N)) := by
 by_cases h0 : 8 ≤ N
 ·by_cases h1 : N ≤ 4096
  ·obtain ⟨n, rfl⟩ := Int.eq_ofNat_of_zero_le (show 0 ≤ N by omega)
   have H := Lib.hid (show SizeP (n : Int) ↔ (n &&& (n - 1)) = 0 by
    unfold SizeP
    rw [Int.toNat_natCast, stepS_is (by omega) (by omega)]
    constructor
    ·rintro ⟨_, _, h⟩; exact of_decide_eq_true h
    ·intro h; exact ⟨h0, h1, decide_eq_true h⟩)
   have hb := bits_and_i64_nat n (n - 1) (by omega) (by omega)
   rw [show ((n - 1 : Nat) : Int) = (n : Int) - 1 by omega] at hb
   generalize (n &&& (n - 1)) = q at *
   by_cases hq : q = 0
   ·subst hq
    go_enter Tryz.func123, Tryz.ntmps123
    go_wp2
    go_ret
    exact Tells.yes (H.out.2 trivial) ((Ext.refl w).alloc _)
   ·have hq2 : ((q : Int) == 0) = false := by simp; omega
    go_enter Tryz.func123, Tryz.ntmps123
    go_wp2
    go_ret
    exact Tells.no (fun h => hq (H.out.1 h)) ((Ext.refl w).alloc _)
  ·have H := Lib.hid (show ¬ SizeP N from fun h => h1 h.2.1)
   go_enter Tryz.func123, Tryz.ntmps123
   go_wp2
   go_ret
   exact Tells.no H.out ((Ext.refl w).alloc _)
 ·have H := Lib.hid (show ¬ SizeP N from fun h => h0 h.1)
  go_enter Tryz.func123, Tryz.ntmps123
  go_wp2
  go_ret
  exact Tells.no H.out ((Ext.refl w).alloc _)
theorem mayWidth_any (N T W : Int) (A : Option Addr) (L c : Nat) (w : World) :
    Calls Tryz.prog 124 #[.agg #[.int .i64 N, .int .u64 T, .slice A L c, .int .i64 W]] w (Tells w (1 ≤ W ∧ W ≤ 16)) := by
 by_cases h0 : 1 ≤ W
 ·by_cases h1 : W ≤ 16
  ·go_enter Tryz.func124, Tryz.ntmps124
   go_wp2
   go_ret
   exact Tells.yes ⟨h0, h1⟩ ((Ext.refl w).alloc _)
  ·go_enter Tryz.func124, Tryz.ntmps124
   go_wp2
   go_ret
   exact Tells.no (fun h => by omega) ((Ext.refl w).alloc _)
 ·go_enter Tryz.func124, Tryz.ntmps124
  go_wp2
  go_ret
  exact Tells.no (fun h => by omega) ((Ext.refl w).alloc _)
def CountP (L : Nat) : Prop := 1 ≤ L ∧ L ≤ 8
theorem mayCount_any (N T W : Int) (A : Option Addr) (L c : Nat) (w : World) (hL : L ≤ 1000000000000000) :
    Calls Tryz.prog 126 #[.agg #[.int .i64 N, .int .u64 T, .slice A L c, .int .i64 W]] w (Tells w (CountP L)) := by
 by_cases h0 : 1 ≤ L
 ·have e0 : decide (1 ≤ (L : Int)) = true := by simp; omega
  by_cases h1 : L ≤ 8
  ·have e1 : decide ((L : Int) ≤ 8) = true := by simp; omega
   have H := Lib.hid (show CountP L from ⟨h0, h1⟩)
   clear h0 h1
   go_enter Tryz.func126, Tryz.ntmps126
   go_wp2
   go_ret
   exact Tells.yes H.out ((Ext.refl w).alloc _)
  ·have e1 : decide ((L : Int) ≤ 8) = false := by simp; omega
   have H := Lib.hid (show ¬ CountP L from fun h => h1 h.2)
   clear h0 h1
   go_enter Tryz.func126, Tryz.ntmps126
   go_wp2
   go_ret
   exact Tells.no H.out ((Ext.refl w).alloc _)
 ·obtain rfl : L = 0 := by omega
  have H := Lib.hid (show ¬ CountP 0 from fun h => h0 h.1)
  go_enter Tryz.func126, Tryz.ntmps126
  go_wp2
  go_ret
  exact Tells.no H.out ((Ext.refl w).alloc _)
def FrP (n q : Nat) : Prop := q % (2 * n) = 1 ∧ isS q = true
theorem isFriendly_any (n q : Nat) (T W : Int) (A : Option Addr) (L c : Nat) (w : World) (hn0 : 8 ≤ n) (hn1 : n ≤ 4096) (hq : q < 18446744073709551616) (hT : Tabs w) :
    Calls Tryz.prog 143 #[.agg #[.int .i64 (n : Int), .int .u64 T, .slice A L c, .int .i64 W], .int .u64 (q : Int)] w (Tells w (FrP n q)) := by
 have HT := Lib.hid hT
 clear hT
 have kV : Ext w (w.alloc (.cells #[.int .i64 (n : Int), .int .u64 T, .slice A L c, .int .i64 W] 189)) := (Ext.refl w).alloc _
 have hz : ((2 * (n : Int)) == 0) = false := by simp; omega
 have hz2 : ¬ (2 * (n : Int)) = 0 := by omega
 by_cases h1 : q % (2 * n) = 1
 ·have e : ((q : Int) % (2 * (n : Int)) == 1) = true := by
     have : (q : Int) % (2 * (n : Int)) = 1 := by rw [show 2 * (n : Int) = ((2 * n : Nat) : Int) by omega, ← Int.natCast_emod, h1]; rfl
     rw [this]; rfl
  go_enter Tryz.func143, Tryz.ntmps143
  go_wp2_with fail
  refine (is_any q _ hq (HT.out.ext kV)).mono ?_
  cases hi : isS q
  ·rintro ee w2 ⟨rfl, k2⟩
   have HN := Lib.hid (show ¬ FrP n q from fun h => by rw [h.2] at hi; cases hi)
   clear hi
   go_wp2
   go_ret
   exact Tells.no HN.out (kV.trans k2)
  ·rintro ee w2 ⟨rfl, k2⟩
   have HN := Lib.hid (show FrP n q from ⟨h1, hi⟩)
   clear hi
   go_wp2
   go_ret
   exact Tells.yes HN.out (kV.trans k2)
 ·have e : ((q : Int) % (2 * (n : Int)) == 1) = false := by
     have : ¬ (q : Int) % (2 * (n : Int)) = 1 := by rw [show 2 * (n : Int) = ((2 * n : Nat) : Int) by omega, ← Int.natCast_emod]; omega
     simpa using this
  have HN := Lib.hid (show ¬ FrP n q from fun h => h1 h.1)
  clear h1
  go_enter Tryz.func143, Tryz.ntmps143
  go_wp2
  go_ret
  exact Tells.no HN.out kV
def PlainP (n T : Nat) : Prop := T < 1073741824 ∧ FrP n T
theorem mayPlain_any (n T : Nat) (W : Int) (A : Option Addr) (L c : Nat) (w : World) (hn0 : 8 ≤ n) (hn1 : n ≤ 4096) (hq : T < 18446744073709551616) (hT : Tabs w) :
    Calls Tryz.prog 125 #[.agg #[.int .i64 (n : Int), .int .u64 (T : Int), .slice A L c, .int .i64 W]] w (Tells w (PlainP n T)) := by
 have HT := Lib.hid hT
 clear hT
 have kV : Ext w (w.alloc (.cells #[.int .i64 (n : Int), .int .u64 (T : Int), .slice A L c, .int .i64 W] 189)) := (Ext.refl w).alloc _
 by_cases h1 : T < 1073741824
 ·have e1 : decide ((T : Int) < 1073741824) = true := by simp; omega
  have H1 := Lib.hid h1
  clear h1
  go_enter Tryz.func125, Tryz.ntmps125
  go_wp2_with fail
  refine (isFriendly_any n T (T : Int) W A L c _ hn0 hn1 hq (HT.out.ext kV)).mono ?_
  rintro ee w2 (⟨hy, rfl, k2⟩ | ⟨hy, rfl, k2⟩)
  ·have HN := Lib.hid (show PlainP n T from ⟨H1.out, hy⟩)
   clear hy
   go_wp2
   go_ret
   exact Tells.yes HN.out (kV.trans k2)
  ·have HN := Lib.hid (show ¬ PlainP n T from fun h => hy h.2)
   clear hy
   go_wp2
   go_ret
   exact Tells.no HN.out (kV.trans k2)
 ·have e1 : decide ((T : Int) < 1073741824) = false := by simp; omega
  have HN := Lib.hid (show ¬ PlainP n T from fun h => h1 h.1)
  clear h1
  go_enter Tryz.func125, Tryz.ntmps125
  go_wp2
  go_ret
  exact Tells.no HN.out kV
def PrsP (n T L : Nat) (f : Nat → Nat) : Prop := ∀ j, j < L → f j < 1125899906842624 ∧ f j ≠ T ∧ (∀ i, i < j → f i ≠ f j) ∧ FrP n (f j)
theorem four_at (w : World) (x0 x1 x2 x3 : Value) (t : TypeId) : (w.alloc (.cells #[x0, x1, x2, x3] t)).cell? ⟨w.heap.size, 0, none⟩ = some x0 ∧ (w.alloc (.cells #[x0, x1, x2, x3] t)).cell? ⟨w.heap.size, 1, none⟩ = some x1 ∧ (w.alloc (.cells #[x0, x1, x2, x3] t)).cell? ⟨w.heap.size, 2, none⟩ = some x2 ∧ (w.alloc (.cells #[x0, x1, x2, x3] t)).cell? ⟨w.heap.size, 3, none⟩ = some x3 := by simp
set_option maxHeartbeats 4000000 in
theorem mayPrimes_any (n T : Nat) (W : Int) (A : Option Addr) (L c : Nat) (f : Nat → Nat) (w : World) (hn0 : 8 ≤ n) (hn1 : n ≤ 4096) (hL : L ≤ 1000) (hTl : T < 18446744073709551616) (hX : FX w A L c f) (hf : Hid (∀ j, j < L → f j < 18446744073709551616)) (hT : Tabs w) :
    Calls Tryz.prog 127 #[.agg #[.int .i64 (n : Int), .int .u64 (T : Int), .slice A L c, .int .i64 W]] w (Tells w (PrsP n T L f)) := by
 have HT := Lib.hid hT
 have HX := Lib.hid hX
 have hroom := hX.room
 clear hT hX
 have kV : Ext w (w.alloc (.cells #[.int .i64 (n : Int), .int .u64 (T : Int), .slice A L c, .int .i64 W] 189)) := (Ext.refl w).alloc _
 obtain ⟨x0, x1, x2, x3⟩ := four_at w (.int .i64 (n : Int)) (.int .u64 (T : Int)) (.slice A L c) (.int .i64 W) 189
 go_enter Tryz.func127, Tryz.ntmps127
 go_wp2_with fail
 generalize w.alloc (.cells #[.int .i64 (n : Int), .int .u64 (T : Int), .slice A L c, .int .i64 W] 189) = V at *
 go_loopw [9] (fun i wr => ∃ k : Nat, k ≤ L ∧ i = .int .i64 (k : Int) ∧ Hid (∀ j, j < k → f j < 1125899906842624 ∧ f j ≠ T ∧ (∀ i, i < j → f i ≠ f j) ∧ FrP n (f j)) ∧ Ext V wr) (fun i _ => L - (intOf i).toNat)
 case atStart => exact ⟨0, by omega, rfl, Lib.hid fun j hj => by omega, Ext.refl _⟩
 case round =>
  obtain ⟨k, hk, rfl, hall, kr⟩ := hrel
  have y0 := cell_ext kr x0
  have y1 := cell_ext kr x1
  have y2 := cell_ext kr x2
  have y3 := cell_ext kr x3
  by_cases hlt : k < L
  ·have hx := HX.out.ext (kV.trans kr)
   obtain ⟨ad, rfl, hc⟩ := hx.cells (by omega)
   have hcell := hc k hlt
   have hql := hf.out k hlt
   clear hc
   have HXk := Lib.hid (hx.cut (m := k) (by omega))
   clear hx
   have i0 : (0 : Int) ≤ (k : Int) := by omega
   have i1 : (k : Int) ≤ (L : Int) := by omega
   have i2 : (k : Int) ≤ (c : Int) := by omega
   have i3 : (k : Int) < (L : Int) := by omega
   by_cases h4 : 1125899906842624 ≤ f k
   ·have HN := Lib.hid (show ¬ PrsP n T L f from fun h => by have := (h k hlt).1; omega)
    have h5 : (1125899906842624 ≤ (f k : Int)) = True := by simp; omega
    have h7 : decide (1125899906842624 ≤ (f k : Int)) = true := by simp; omega
    clear h4
    go_wp2
    go_ret
    exact Tells.no HN.out (kV.trans kr)
   have h5 : (1125899906842624 ≤ (f k : Int)) = False := by simp; omega
   have h7 : decide (1125899906842624 ≤ (f k : Int)) = false := by simp; omega
   have H4 := Lib.hid h4
   clear h4
   by_cases h8 : f k = T
   ·have HN := Lib.hid (show ¬ PrsP n T L f from fun h => (h k hlt).2.1 h8)
    have h9 : ((f k : Int) == (T : Int)) = true := by rw [h8]; simp
    clear h8
    go_wp2
    go_ret
    exact Tells.no HN.out (kV.trans kr)
   have h9 : ((f k : Int) == (T : Int)) = false := by simp; omega
   have H8 := Lib.hid h8
   clear h8
   go_wp2_with fail
   refine (contains_any _ k c (f k) f wr HXk.out (by omega)).mono ?_
   rintro ee w1 ⟨b, hb, rfl, rfl⟩
   cases b
   case true =>
    have HN := Lib.hid (show ¬ PrsP n T L f from fun h => by
     obtain ⟨i, hi, he⟩ := hb.out.1 rfl
     exact (h k hlt).2.2.1 i hi he)
    go_wp2
    go_ret
    exact Tells.no HN.out (kV.trans kr)
   have HB := Lib.hid (show ∀ i, i < k → f i ≠ f k from fun i hi he => by
    have := hb.out.2 ⟨i, hi, he⟩; cases this)
   clear hb
   go_wp2_with fail
   refine (isFriendly_any n (f k) (T : Int) W (some ad) L c wr hn0 hn1 hql (HT.out.ext (kV.trans kr))).mono ?_
   rintro ee w2 (⟨hy, rfl, k2⟩ | ⟨hy, rfl, k2⟩)
   ·have HALL := Lib.hid (show ∀ j, j < k + 1 → f j < 1125899906842624 ∧ f j ≠ T ∧ (∀ i, i < j → f i ≠ f j) ∧ FrP n (f j) from fun j hj => by
       by_cases hjk : j = k
       ·subst hjk; exact ⟨by have := H4.out; omega, H8.out, HB.out, hy⟩
       ·exact hall.out j (by omega))
    clear hy
    go_wp2
    exact ⟨⟨k + 1, by omega, by go_num, HALL, kr.trans k2⟩, by simp [intOf]; omega⟩
   ·have HN := Lib.hid (show ¬ PrsP n T L f from fun h => hy (h k hlt).2.2.2)
    clear hy
    go_wp2
    go_ret
    exact Tells.no HN.out (kV.trans (kr.trans k2))
  ·have HP := Lib.hid (show PrsP n T L f from fun j hj => hall.out j (by omega))
   go_wp2
   go_ret
   exact Tells.yes HP.out (kV.trans kr)
theorem rowX (N : Int) (R : Nat) (w : World) (hR : Hid (R = rowS N)) : Calls Tryz.prog 146 #[.int .i64 N] w fun e w' => e = .returned (.int .i64 (R : Int)) ∧ Ext w w' :=
 (row_any N w).mono fun e w' ⟨he, hw⟩ => ⟨by rw [hR.out]; exact he, by rw [hw]; exact Ext.refl _⟩
theorem bitsX {A : Option Addr} {n c X B : Nat} {w : World} (h : NX w A n c (nw X)) (hn : n ≤ 1000) (hB : Hid (B = Go.bitLen X)) :
    Calls Tryz.prog 144 #[.slice A n c] w fun e w' => e = .returned (.int .i64 (B : Int)) ∧ Ext w w' :=
 (natBits_any A n c w.heap.size (nw X) w h (by omega)).mono fun e w' ⟨he, hw⟩ => ⟨by rw [hB.out, he, nv_nw], by rw [hw]; exact Ext.refl _⟩
def BitsP (N : Int) (X : Nat) : Prop := Go.bitLen X ≤ rowS N
set_option maxHeartbeats 4000000 in
theorem mayProduct_any (N T : Int) (W : Int) (A : Option Addr) (L c : Nat) (f : Nat → Nat) (w : World) (hL : L ≤ 100) (hX : FX w A L c f) (hf : Hid (∀ j, j < L → f j < 18446744073709551616)) :
    Calls Tryz.prog 128 #[.agg #[.int .i64 N, .int .u64 T, .slice A L c, .int .i64 W]] w (Tells w (BitsP N (prodF f L))) := by
 have HX := Lib.hid hX
 clear hX
 have kV : Ext w (w.alloc (.cells #[.int .i64 N, .int .u64 T, .slice A L c, .int .i64 W] 189)) := (Ext.refl w).alloc _
 obtain ⟨x0, x1, x2, x3⟩ := four_at w (.int .i64 N) (.int .u64 T) (.slice A L c) (.int .i64 W) 189
 obtain ⟨R, hR0⟩ : ∃ R, R = rowS N := ⟨_, rfl⟩
 obtain ⟨B, hB0⟩ : ∃ B, B = Go.bitLen (prodF f L) := ⟨_, rfl⟩
 have HP := Lib.hid (show BitsP N (prodF f L) ↔ B ≤ R by rw [hR0, hB0]; exact Iff.rfl)
 have HR := Lib.hid hR0
 have HB := Lib.hid hB0
 clear hR0 hB0
 go_enter Tryz.func128, Tryz.ntmps128
 go_wp2_with fail
 generalize w.alloc (.cells #[.int .i64 N, .int .u64 T, .slice A L c, .int .i64 W] 189) = V at *
 have kk : Ext V V := Ext.refl V
 go_region_held3 (fun w' => w'.cell? ⟨w.heap.size, 0, none⟩ = some (.int .i64 N) ∧ w'.cell? ⟨w.heap.size, 2, none⟩ = some (.slice A L c)) (go_keep)
  (first
   | (go_at_call 144; refine (bitsX (NX.ext HN.out (by first | exact kx | exact Ext.drew kx)) (by omega) HB).mono ?_; rintro e5 w5 ⟨rfl, k5⟩; (try replace kx := Ext.trans (by first | exact kx | exact Ext.drew kx) k5); replace kk : Ext V w5 := (by first | exact Ext.trans kk k5 | exact Ext.trans (Ext.drew kk) k5); have d0 := cell_ext kk x0; have d2 := cell_ext kk x2)
   | (go_at_call 145; refine (Product_any A L c f _ (by omega) (HX.out.ext (kV.trans (by first | exact kk | exact Ext.drew kk))) hf).mono ?_; rintro e4 w4 ⟨A2, n2, c2, rfl, hn2, hx2, k4⟩; have HN := Lib.hid hx2; clear hx2; have kx : Ext w4 w4 := Ext.refl w4; replace kk : Ext V w4 := (by first | exact Ext.trans kk k4 | exact Ext.trans (Ext.drew kk) k4); have d0 := cell_ext kk x0; have d2 := cell_ext kk x2)
   | (go_at_call 146; refine (rowX N R _ HR).mono ?_; rintro e6 w6 ⟨rfl, k6⟩; (try replace kx := Ext.trans (by first | exact kx | exact Ext.drew kx) k6); replace kk : Ext V w6 := (by first | exact Ext.trans kk k6 | exact Ext.trans (Ext.drew kk) k6); have d0 := cell_ext kk x0; have d2 := cell_ext kk x2)
   | fail)
 all_goals
  have kz := kV.trans kk
  by_cases h : B ≤ R
  ·have H := Lib.hid (HP.out.2 h)
   have e1 : decide (B ≤ R) = true := decide_eq_true h
   clear h
   go_wp2
   go_ret
   exact (show Tells w (BitsP N (prodF f L)) (.returned (.bool (decide (B ≤ R)))) _ by rw [e1]; exact Tells.yes H.out kz)
  ·have H := Lib.hid (fun h' => h (HP.out.1 h'))
   have e1 : decide (B ≤ R) = false := decide_eq_false h
   clear h
   go_wp2
   go_ret
   exact (show Tells w (BitsP N (prodF f L)) (.returned (.bool (decide (B ≤ R)))) _ by rw [e1]; exact Tells.no H.out kz)
def cnd (N : Int) (T L : Nat) (f : Nat → Nat) (W : Int) : Nat → Prop
 | 0 => SizeP N
 | 1 => 1 ≤ W ∧ W ≤ 16
 | 2 => PlainP N.toNat T
 | 3 => CountP L
 | 4 => PrsP N.toNat T L f
 | _ => BitsP N (prodF f L)
def ParP (N : Int) (T L : Nat) (f : Nat → Nat) (W : Int) : Prop := ∀ k, k < 6 → cnd N T L f W k
def Chk8 (w : World) (P : Prop) (ee : Ending) (w' : World) : Prop := (P ∧ ee = .returned (.int .i64 0) ∧ Ext w w') ∨ (¬ P ∧ ee = .returned (.int .i64 8) ∧ Ext w w')
theorem Chk8.yes {w w' : World} {P : Prop} (h : P) (k : Ext w w') : Chk8 w P (.returned (.int .i64 0)) w' := .inl ⟨h, rfl, k⟩
theorem Chk8.no {w w' : World} {P : Prop} (h : ¬ P) (k : Ext w w') : Chk8 w P (.returned (.int .i64 8)) w' := .inr ⟨h, rfl, k⟩
def cndF : Nat → Nat
 | 0 => 123
 | 1 => 124
 | 2 => 125
 | 3 => 126
 | 4 => 127
 | _ => 128
theorem conditions_any (N T W : Int) (A : Option Addr) (L c : Nat) (w : World) :
    Calls Tryz.prog 109 #[.agg #[.int .i64 N, .int .u64 T, .slice A L c, .int .i64 W]] w fun ee w' => ∃ g, ee = .returned (.slice (some ⟨g, 0, none⟩) 6 6) ∧ Hid (∀ k, k < 6 → w'.cell? ⟨g, k, none⟩ = some (.func (.func (cndF k)) #[.agg #[.int .i64 N, .int .u64 T, .slice A L c, .int .i64 W]] #[])) ∧ Ext w w' := by
 go_enter Tryz.func109, Tryz.ntmps109
 go_wp2
 go_ret
 refine ⟨_, rfl, Lib.hid fun k hk => ?_, ((Ext.refl w).alloc _).alloc _⟩
 rcases (show k = 0 ∨ k = 1 ∨ k = 2 ∨ k = 3 ∨ k = 4 ∨ k = 5 by omega) with rfl | rfl | rfl | rfl | rfl | rfl <;> simp [cndF]
theorem size_nat {N : Int} (h : SizeP N) : ∃ n : Nat, N = (n : Int) ∧ 8 ≤ n ∧ n ≤ 4096 := by
 obtain ⟨n, rfl⟩ := Int.eq_ofNat_of_zero_le (show 0 ≤ N by have := h.1; omega)
 exact ⟨n, rfl, by have := h.1; omega, by have := h.2.1; omega⟩
theorem cnd_step {N : Int} {T L : Nat} {f : Nat → Nat} {W : Int} {k : Nat} (h : ∀ j, j < k → cnd N T L f W j) (hy : cnd N T L f W k) : ∀ j, j < k + 1 → cnd N T L f W j := fun j hj => by
 rcases Nat.lt_or_eq_of_le (Nat.le_of_lt_succ hj) with g | g
 ·exact h j g
 ·rw [g]; exact hy
set_option maxHeartbeats 4000000 in
theorem check_any (N : Int) (T : Nat) (W : Int) (A : Option Addr) (L c : Nat) (f : Nat → Nat) (w : World) (n0 : -9223372036854775808 ≤ N) (n1 : N < 9223372036854775808) (hTl : T < 18446744073709551616) (hL : L ≤ 1000000000000000) (hX : FX w A L c f) (hf : Hid (∀ j, j < L → f j < 18446744073709551616)) (hT : Tabs w) :
    Calls Tryz.prog 78 #[.agg #[.int .i64 N, .int .u64 (T : Int), .slice A L c, .int .i64 W]] w (Chk8 w (ParP N T L f W)) := by
 have HT := Lib.hid hT
 have HX := Lib.hid hX
 clear hT hX
 have kV : Ext w (w.alloc (.cells #[.int .i64 N, .int .u64 (T : Int), .slice A L c, .int .i64 W] 25)) := (Ext.refl w).alloc _
 obtain ⟨x0, x1, x2, x3⟩ := four_at w (.int .i64 N) (.int .u64 (T : Int)) (.slice A L c) (.int .i64 W) 25
 go_enter Tryz.func78, Tryz.ntmps78
 go_wp2_with fail
 generalize w.alloc (.cells #[.int .i64 N, .int .u64 (T : Int), .slice A L c, .int .i64 W] 25) = V at *
 refine (conditions_any N (T : Int) W A L c V).mono ?_
 rintro ee w1 ⟨g, rfl, hc, k1⟩
 clear x0 x1 x2 x3
 go_wp2
 go_loopw [9] (fun i wr => ∃ k : Nat, k ≤ 6 ∧ i = .int .i64 (k : Int) ∧ Hid (∀ j, j < k → cnd N T L f W j) ∧ Ext w1 wr) (fun i _ => 6 - (intOf i).toNat)
 case atStart => exact ⟨0, by omega, rfl, Lib.hid fun j hj => by omega, Ext.refl _⟩
 case round =>
  obtain ⟨k, hk, rfl, hall, kr⟩ := hrel
  have kw : Ext w wr := kV.trans (k1.trans kr)
  by_cases hlt : k < 6
  ·have hcell := cell_ext kr (hc.out k hlt)
   have HY := Lib.hid (cnd_step (k := k) hall.out)
   have HN := Lib.hid (show ¬ cnd N T L f W k → ¬ ParP N T L f W from fun h h' => h (h' k hlt))
   have key : ∀ fn : Nat, fn = cndF k → True := fun _ _ => trivial
   clear key
   have e1 : (0 : Int) ≤ (k : Int) := by omega
   have e2 : (k : Int) < 6 := by omega
   rcases (show k = 0 ∨ k = 1 ∨ k = 2 ∨ k = 3 ∨ k = 4 ∨ k = 5 by omega) with rfl | rfl | rfl | rfl | rfl | rfl
   all_goals
    have HC := Lib.hid hcell
    clear hcell
    have hcell := HC.out
    simp only [cndF] at hcell
    clear HC
   ·go_wp2_with fail
    refine (maySize_any N (T : Int) W A L c _ n0 n1).mono ?_
    rintro ee w2 (⟨hy, rfl, k2⟩ | ⟨hy, rfl, k2⟩)
    ·have H2 := Lib.hid (HY.out hy)
     clear hy
     go_wp2
     exact ⟨⟨1, by omega, by go_num, H2, kr.trans k2⟩, by simp [intOf]⟩
    ·have H2 := Lib.hid (HN.out hy)
     clear hy
     go_wp2
     go_ret
     exact Chk8.no H2.out (kw.trans k2)
   ·go_wp2_with fail
    refine (mayWidth_any N (T : Int) W A L c _).mono ?_
    rintro ee w2 (⟨hy, rfl, k2⟩ | ⟨hy, rfl, k2⟩)
    ·have H2 := Lib.hid (HY.out hy)
     clear hy
     go_wp2
     exact ⟨⟨2, by omega, by go_num, H2, kr.trans k2⟩, by simp [intOf]⟩
    ·have H2 := Lib.hid (HN.out hy)
     clear hy
     go_wp2
     go_ret
     exact Chk8.no H2.out (kw.trans k2)
   ·obtain ⟨n, rfl, hn0, hn1⟩ := size_nat (hall.out 0 (by omega))
    go_wp2_with fail
    refine (mayPlain_any n T W A L c _ hn0 hn1 hTl (HT.out.ext kw)).mono ?_
    rintro ee w2 (⟨hy, rfl, k2⟩ | ⟨hy, rfl, k2⟩)
    ·have H2 := Lib.hid (HY.out hy)
     clear hy
     go_wp2
     exact ⟨⟨3, by omega, by go_num, H2, kr.trans k2⟩, by simp [intOf]⟩
    ·have H2 := Lib.hid (HN.out hy)
     clear hy
     go_wp2
     go_ret
     exact Chk8.no H2.out (kw.trans k2)
   ·obtain ⟨n, rfl, hn0, hn1⟩ := size_nat (hall.out 0 (by omega))
    go_wp2_with fail
    refine (mayCount_any (n : Int) (T : Int) W A L c _ hL).mono ?_
    rintro ee w2 (⟨hy, rfl, k2⟩ | ⟨hy, rfl, k2⟩)
    ·have H2 := Lib.hid (HY.out hy)
     clear hy
     go_wp2
     exact ⟨⟨4, by omega, by go_num, H2, kr.trans k2⟩, by simp [intOf]⟩
    ·have H2 := Lib.hid (HN.out hy)
     clear hy
     go_wp2
     go_ret
     exact Chk8.no H2.out (kw.trans k2)
   ·obtain ⟨n, rfl, hn0, hn1⟩ := size_nat (hall.out 0 (by omega))
    have hL8 : L ≤ 100 := by have := (hall.out 3 (by omega)).2; omega
    go_wp2_with fail
    refine (mayPrimes_any n T W A L c f _ hn0 hn1 (by omega) hTl (HX.out.ext kw) hf (HT.out.ext kw)).mono ?_
    rintro ee w2 (⟨hy, rfl, k2⟩ | ⟨hy, rfl, k2⟩)
    ·have H2 := Lib.hid (HY.out hy)
     clear hy
     go_wp2
     exact ⟨⟨5, by omega, by go_num, H2, kr.trans k2⟩, by simp [intOf]⟩
    ·have H2 := Lib.hid (HN.out hy)
     clear hy
     go_wp2
     go_ret
     exact Chk8.no H2.out (kw.trans k2)
   ·obtain ⟨n, rfl, hn0, hn1⟩ := size_nat (hall.out 0 (by omega))
    have hL8 : L ≤ 100 := by have := (hall.out 3 (by omega)).2; omega
    go_wp2_with fail
    refine (mayProduct_any (n : Int) (T : Int) W A L c f _ hL8 (HX.out.ext kw) hf).mono ?_
    rintro ee w2 (⟨hy, rfl, k2⟩ | ⟨hy, rfl, k2⟩)
    ·have H2 := Lib.hid (HY.out hy)
     clear hy
     go_wp2
     exact ⟨⟨6, by omega, by go_num, H2, kr.trans k2⟩, by simp [intOf]⟩
    ·have H2 := Lib.hid (HN.out hy)
     clear hy
     go_wp2
     go_ret
     exact Chk8.no H2.out (kw.trans k2)
  ·obtain rfl : k = 6 := by omega
   have HP := Lib.hid (show ParP N T L f W from hall.out)
   clear hlt hk
   go_wp2
   go_ret
   exact Chk8.yes HP.out kw
end Go.Proofs.YtkbcobjhlpjieaaGreatDoor
