import Derived.Test.YtopbibfpjgjalaaGreatDoorZ41
import Derived.Test.YtopbibfpjgjalaaGreatDoorZ36
import Derived.Test.YtopbibfpjgjalaaGreatDoorZ24
namespace Go.Proofs.YtopbibfpjgjalaaGreatDoor
open Go.RowKit
set_option linter.unusedVariables false
set_option maxRecDepth 100000
def z29 (B : Nat) (w : World) (p q n : Nat) (l : List Nat) (e : Ending) (w' : World) : Prop :=
 (∃ acc r g, za3 q l n = some (acc, r) ∧ e = .returned (.tuple #[.slice (some ⟨g, 0, none⟩) n n, .int .i64 0]) ∧ UW w' g n (fun i => acc.getD i 0) ∧ w.heap.size ≤ g ∧ Tq B w' p r ∧ On p w w') ∨
 (za3 q l n = none ∧ e = .returned (.tuple #[.slice none 0 0, .int .i64 11]) ∧ Tq B w' p [] ∧ On p w w')
def zww (fn : Nat) (cap : Array Value) (B p q : Nat) (V : World) : Prop :=
 ∀ r w1, Tq B w1 p r → On p V w1 → r.length ≤ 100000 → Calls Tryz.prog fn cap w1 (zry B w1 p q r)
theorem UW.onN {w w' : World} {g n p : Nat} {f : Nat → Nat} (h : UW w g n f) (k : On p w w') (hne : g ≠ p) : UW w' g n f := (k.block g (RW.lt h) (fun e => hne (by injection e))).trans h
theorem zqo {acc : List Nat} {y i : Nat} : (acc ++ [y]).getD i 0 = if i = acc.length then y else acc.getD i 0 := by
 rw [List.getD_eq_getElem?_getD, List.getD_eq_getElem?_getD]
 by_cases h : i < acc.length
 ·rw [List.getElem?_append_left h, if_neg (by omega)]
 ·by_cases h2 : i = acc.length
  ·subst h2; simp
  ·rw [if_neg h2, List.getElem?_append_right (by omega), List.getElem?_eq_none (by simp; omega), List.getElem?_eq_none (by omega)]
set_option maxHeartbeats 1000000 in
theorem znk (fn : Nat) (cap : Array Value) (B p q n : Nat) (l : List Nat) (w : World) (hq0 : 0 < q) (hq : q < 18446744073709551616) (hB : B ≤ w.heap.size) (hT : Hid (Tq B w p l)) (hl : l.length ≤ 100000) (hn : n ≤ 4096) (hE : Hid (zh6 fn)) (hD : Hid (zww fn cap B p q w)) :
    Calls Tryz.prog 164 #[.int .i64 (n : Int), .func (.func fn) #[] cap] w (z29 B w p q n l) := by
 have hmk := zb2 n (by omega)
 go_enter Tryz.func164, Tryz.ntmps164
 go_wp2
 clear hmk
 have kA : Ext w (w.alloc (.cells (newU n) 26)) := (Ext.refl w).alloc _
 have hI := Lib.hid (zlv w n)
 have HT := Lib.hid (hT.out.ext hB kA)
 have hp := hT.out.lt
 have HO := Lib.hid (On.of (p := p) kA)
 obtain ⟨g, hg⟩ : ∃ g, g = w.heap.size := ⟨_, rfl⟩
 rw [← hg] at hI hp hB ⊢
 have hgw : w.heap.size ≤ g := by omega
 generalize w.alloc (.cells (newU n) 26) = V at *
 clear hg kA
 go_loopw [14] (fun i wr => ∃ (k : Nat) (acc : List Nat) (r : List Nat), k ≤ n ∧ i = .int .i64 (k : Int) ∧ Hid (za3 q l k = some (acc, r)) ∧ Hid (UW wr g n (fun i => acc.getD i 0)) ∧ Hid (Tq B wr p r) ∧ Hid (On p w wr)) (fun i _ => n - (intOf i).toNat)
 case atStart => exact ⟨0, [], l, by omega, rfl, Lib.hid rfl, Lib.hid (hI.out.congr fun i hi => by simp), HT, HO⟩
 case round =>
  obtain ⟨k, acc, r, hk, rfl, ht, hI2, hT2, hO2⟩ := hrel
  obtain ⟨hr, hac, _, _⟩ := zdm hq0 ht.out
  by_cases hlt : k < n
  ·have i0 : (0 : Int) ≤ (k : Int) := by omega
   have i1 : (k : Int) < (n : Int) := by omega
   have HAC := Lib.hid hac
   clear hac
   go_wp2_with fail
   rw [hE.out, Oper.upon_enter]
   refine (hD.out r wr hT2.out hO2.out (by omega)).mono ?_
   rintro ee w2 (⟨x, r2, h1, rfl, h4, h5⟩ | ⟨h1, rfl, h4, h5⟩)
   ·have HI := Lib.hid (hI2.out.onN h5 (by omega))
    have c0 := HI.out.cell hlt
    have z0 := HI.out.frozen k
    have hsz := HI.out.lt
    have HI2 := Lib.hid ((HI.out.set hlt (x % q)).congr (f' := fun i => (acc ++ [x % q]).getD i 0) fun i hi => by
     show (if i = k then x % q else acc.getD i 0) = (acc ++ [x % q]).getD i 0
     rw [zqo, HAC.out])
    have HT2 := Lib.hid (h4.far hB (by omega) k (.int .u64 ((x % q : Nat) : Int)))
    have HO3 := Lib.hid ((hO2.out.trans h5).store hgw k (.int .u64 ((x % q : Nat) : Int)))
    have HS := Lib.hid (zga ht.out h1)
    have hxl := Nat.mod_lt x hq0
    clear h1 h4 h5
    generalize x % q = y at *
    go_wp2
    exact ⟨⟨k + 1, _, _, by omega, by go_num, HS, HI2, HT2, HO3⟩, by simp [intOf]; omega⟩
   ·have HS := Lib.hid (show za3 q l n = none by
       have := zil (znf ht.out h1) (n - (k + 1))
       rwa [show k + 1 + (n - (k + 1)) = n by omega] at this)
    have H4 := Lib.hid h4
    have H5 := Lib.hid (hO2.out.trans h5)
    clear h1 h4 h5
    go_wp2
    go_ret2
    exact .inr ⟨HS.out, rfl, H4.out, H5.out⟩
  ·obtain rfl : k = n := by omega
   have HAC := Lib.hid hac
   clear hac
   go_wp2
   go_ret2
   exact .inl ⟨acc, r, g, ht.out, rfl, hI2.out, by omega, hT2.out, hO2.out⟩
theorem zob (p q : Nat) (w : World) (hq : q < 18446744073709551616) :
    Calls Tryz.prog 165 #[.func (.func 166) #[.pointer (some ⟨p, 0, none⟩)] #[], .int .u64 (q : Int)] w fun e w' => ∃ b1 b2 : Nat, e = .returned (.func (.func 222) #[] #[.pointer (some ⟨b1, 0, none⟩), .pointer (some ⟨b2, 0, none⟩)]) ∧ w.heap.size ≤ b1 ∧ w.heap.size ≤ b2 ∧ w'.cell? ⟨b1, 0, none⟩ = some (.func (.func 166) #[.pointer (some ⟨p, 0, none⟩)] #[]) ∧ w'.cell? ⟨b2, 0, none⟩ = some (.int .u64 (q : Int)) ∧ Ext w w' := by
 go_enter Tryz.func165, Tryz.ntmps165
 go_wp2
 exact bodyPost_ret (v := .func (.func 222) #[] #[.pointer (some ⟨w.heap.size, 0, none⟩), .pointer (some ⟨w.heap.size + 1, 0, none⟩)]) (by simp [results, Tryz.results165, go_sem]) rfl ⟨w.heap.size, w.heap.size + 1, rfl, Nat.le_refl _, Nat.le_succ _, by simp, by simp, ((Ext.refl w).alloc _).alloc _⟩
theorem zjy {B p q b1 b2 : Nat} {V : World} (hB : B ≤ V.heap.size) (hq0 : 0 < q) (hq : q < 18446744073709551616) (h1 : V.cell? ⟨b1, 0, none⟩ = some (.func (.func 166) #[.pointer (some ⟨p, 0, none⟩)] #[])) (h2 : V.cell? ⟨b2, 0, none⟩ = some (.int .u64 (q : Int))) (n1 : b1 ≠ p) (n2 : b2 ≠ p) :
    zww 222 #[.pointer (some ⟨b1, 0, none⟩), .pointer (some ⟨b2, 0, none⟩)] B p q V := by
 intro r w1 hT hO hr
 have c1 := zac hO h1 n1
 have c2 := zac hO h2 n2
 have HT := Lib.hid hT
 have hB1 : B ≤ w1.heap.size := Nat.le_trans hB hO.size
 clear hT
 go_enter Tryz.func222, Tryz.ntmps222
 go_wp2_with fail
 refine (zpi p q r w1 B hB1 HT hr hq0 hq).mono ?_
 have hlt : ∀ x, x % q < q := fun x => Nat.mod_lt _ hq0
 rintro ee w2 (⟨x, r2, h1, rfl, h4, h5⟩ | ⟨h1, rfl, h4, h5⟩)
 ·have H1 := Lib.hid h1
  have H4 := Lib.hid h4
  have H5 := Lib.hid h5
  have hx := hlt x
  have HR := Lib.hid (show ∀ y, y = x % q → zry B w1 p q r (.returned (.tuple #[.int .u64 (y : Int), .int .i64 0])) w2 from fun y hy => by subst hy; exact .inl ⟨x, r2, H1.out, rfl, H4.out, H5.out⟩)
  clear h1 h4 h5 hlt
  generalize hy : x % q = y at *
  go_wp2
  go_ret2
  exact HR.out y rfl
 ·have H1 := Lib.hid h1
  have H4 := Lib.hid h4
  have H5 := Lib.hid h5
  clear h1 h4 h5
  go_wp2
  go_ret2
  exact .inr ⟨H1.out, rfl, H4.out, H5.out⟩
theorem zhp (A : Option Addr) (L c : Nat) (q : Nat → Nat) (w : World) (hX : FX w A L c q) (h0 : 1 ≤ L) (hL : L ≤ 24) (hq : Hid (∀ j, j < L → 0 < q j)) :
    Calls Tryz.prog 163 #[.slice A L c] w fun e w' => e = .returned (.bool true) ∧ w = w' := by
 have i0 : (1 : Int) ≤ (L : Int) := by omega
 have i1 : (L : Int) ≤ 24 := by omega
 go_enter Tryz.func163, Tryz.ntmps163
 go_wp2_with (go_at_call 132; refine (zbz A L c 0 q w hX (by omega)).mono ?_; rintro ee w2 ⟨b, hb, rfl, rfl⟩; obtain rfl : b = false := (by cases b; rfl; exfalso; obtain ⟨i, hi, e⟩ := hb.out.1 rfl; have := hq.out i hi; omega))
 go_ret
 exact ⟨rfl, rfl⟩
def z2v (w : World) (p n L : Nat) (q : Nat → Nat) (l : List Nat) (e : Ending) (w' : World) : Prop :=
 (∃ (acc : List (List Nat)) (r : List Nat) (G : Nat) (gs : Nat → Nat), unifS n q l L = some (acc, r) ∧ e = .returned (.tuple #[.agg #[.slice (some ⟨G, 0, none⟩) L L], .int .i64 0]) ∧ PM w' G L n (fun j => some ⟨gs j, 0, none⟩) (fun _ => n) (fun j i => (acc.getD j []).getD i 0) ∧ w.heap.size ≤ G ∧ Tp w' p r ∧ On p w w') ∨
 (unifS n q l L = none ∧ e = .returned (.tuple #[.agg #[.slice none 0 0], .int .i64 11]) ∧ Tp w' p [] ∧ On p w w')
theorem RW.onN {w w' : World} {g m p : Nat} {t : TypeId} {F : Nat → Value} (h : RW w g t m F) (k : On p w w') (hne : g ≠ p) : RW w' g t m F := (k.block g (RW.lt h) (fun e => hne (by injection e))).trans h
theorem zgz {acc : List (List Nat)} {y : List Nat} {i : Nat} : (acc ++ [y]).getD i [] = if i = acc.length then y else acc.getD i [] := by
 rw [List.getD_eq_getElem?_getD, List.getD_eq_getElem?_getD]
 by_cases h : i < acc.length
 ·rw [List.getElem?_append_left h, if_neg (by omega)]
 ·by_cases h2 : i = acc.length
  ·subst h2; simp
  ·rw [if_neg h2, List.getElem?_append_right (by omega), List.getElem?_eq_none (by simp; omega), List.getElem?_eq_none (by omega)]
set_option maxHeartbeats 4000000 in
theorem zkg (p n L c : Nat) (A : Option Addr) (q : Nat → Nat) (l : List Nat) (w : World) (hT : Hid (Tp w p l)) (hl : l.length ≤ 100000) (h0 : 1 ≤ n) (hn : n ≤ 4096) (hL0 : 1 ≤ L) (hL : L ≤ 24) (hX : FX w A L c q) (hq : Hid (∀ j, j < L → 0 < q j ∧ q j < 18446744073709551616)) :
    Calls Tryz.prog 98 #[.pointer (some ⟨p, 0, none⟩), .int .i64 (n : Int), .slice A L c] w (z2v w p n L q l) := by
 have hmk := zh0 L (by omega)
 have hp := hT.out.lt
 have HX := Lib.hid hX
 have kD : Ext w (w.alloc (.cells #[.slice none 0 0] 56)) := (Ext.refl w).alloc _
 go_enter Tryz.func98, Tryz.ntmps98
 go_wp2_with (first
  | (go_at_call 95; refine (zcr n _ h0 hn).mono ?_; rintro ee w2 ⟨rfl, rfl⟩)
  | (go_at_call 163; refine (zhp A L c q _ (HX.out.ext kD) hL0 hL (Lib.hid fun j hj => (hq.out j hj).1)).mono ?_; rintro ee w2 ⟨rfl, rfl⟩))
 clear hmk
 have hrs : RW (w.alloc (.cells #[.slice none 0 0] 56)) w.heap.size 56 1 (fun _ => .slice none 0 0) := heap_alloc_new w _
 have hrs2 := RW.ext hrs ((Ext.refl _).alloc (.cells (newS L) 22))
 have hls := zhg (w.alloc (.cells #[.slice none 0 0] 56)) L
 rw [show (w.alloc (.cells #[.slice none 0 0] 56)).heap.size = w.heap.size + 1 by simp] at hls
 have kB := kD.alloc (.cells (newS L) 22)
 generalize (w.alloc (.cells #[.slice none 0 0] 56)).alloc (.cells (newS L) 22) = V at *
 clear hrs kD
 obtain ⟨G, hG⟩ : ∃ G, G = w.heap.size + 1 := ⟨_, rfl⟩
 obtain ⟨R, hR⟩ : ∃ R, R = w.heap.size := ⟨_, rfl⟩
 rw [← hG] at hls
 simp only [← hG]
 rw [← hR] at hrs2
 simp only [← hR]
 have hGR : R < G := by omega
 have hRp : p < R := by omega
 have hRw : w.heap.size ≤ R := by omega
 have hGw : w.heap.size ≤ G := by omega
 have hT0 := Lib.hid ((show Tq R w p l by rw [hR]; exact hT.out.tq).ext (by omega) kB)
 have HRS := Lib.hid (show RW V R 56 1 (fun _ => .slice none 0 0) ∧ RW V G 22 L (fun _ => .slice none 0 0) from ⟨hrs2, hls⟩)
 have hO0 := Lib.hid (On.of (p := p) kB)
 have hVR : R ≤ V.heap.size := Nat.le_of_lt (RW.lt hrs2)
 clear hrs2 hls kB hX hG hR
 go_loopw [31] (fun i wr => ∃ (k : Nat) (acc : List (List Nat)) (r : List Nat) (gs : Nat → Nat), k ≤ L ∧ i = .int .i64 (k : Int) ∧ Hid (unifS n q l k = some (acc, r)) ∧ RW wr G 22 L (fun j => if j < k then .slice (some ⟨gs j, 0, none⟩) n n else .slice none 0 0) ∧ Hid (∀ j, j < k → UW wr (gs j) n (fun i => (acc.getD j []).getD i 0) ∧ R ≤ gs j) ∧ RW wr R 56 1 (fun _ => .slice none 0 0) ∧ Hid (Tq R wr p r) ∧ Hid (On p w wr)) (fun i _ => L - (intOf i).toNat)
 case atStart => exact ⟨0, [], l, fun _ => 0, by omega, rfl, Lib.hid rfl, HRS.out.2.congr fun i _ => by rw [if_neg (by omega)], Lib.hid fun j hj => by omega, HRS.out.1, hT0, hO0⟩
 case round =>
  obtain ⟨k, acc, r, gs, hk, rfl, hu, hrw, hall, hr0, hTq, hO⟩ := hrel
  obtain ⟨hrl, hac, _⟩ := zb9 (fun j hj => (hq.out j (by omega)).1) hu.out
  have hwR : R ≤ wr.heap.size := Nat.le_of_lt (RW.lt hr0)
  by_cases hlt : k < L
  ·have HXr := Lib.hid (HX.out.onT hT.out hO.out)
   obtain ⟨ad, rfl, hc⟩ := HXr.out.cells (by omega)
   have c0 := hc k hlt
   have hqk := hq.out k hlt
   have i0 : (0 : Int) ≤ (k : Int) := by omega
   have i1 : (k : Int) < (L : Int) := by omega
   have HALL := hall
   have HRW := Lib.hid hrw
   have HR0 := Lib.hid hr0
   have hqk1 := hqk.2
   clear hc hrw hr0
   go_wp2_with fail
   refine (zob p (q k) wr hqk1).mono ?_
   rintro ee w2 ⟨b1, b2, rfl, g1, g2, e1, e2, k2⟩
   have hw2 := k2.size
   have HD := Lib.hid (zjy (B := R) (by omega) hqk.1 hqk1 e1 e2 (by omega) (by omega))
   have HTq := Lib.hid (hTq.out.ext hwR k2)
   have K2 := Lib.hid k2
   clear e1 e2 k2
   go_wp2_with fail
   refine (znk 222 _ R p (q k) n r w2 hqk.1 hqk1 (by omega) HTq (by omega) hn (Lib.hid Tryz.call222) HD).mono ?_
   rintro ee w3 (⟨row, r2, g, h1, rfl, h3, h4, h5, h6⟩ | ⟨h1, rfl, h5, h6⟩)
   ·have kO : On p wr w3 := (On.of K2.out).trans h6
    have hrw3 := HRW.out.onN kO (by omega)
    have hr3 := HR0.out.onN kO (by omega)
    have hne : g ≠ p := by omega
    have cG := hrw3.cell (i := k) (by omega)
    have fG := hrw3.frozen k
    have sG := hrw3.lt
    simp only [Nat.lt_irrefl, if_false] at cG
    have HU := Lib.hid (zgs hu.out h1)
    have hset := (hrw3.set hlt (.slice (some ⟨g, 0, none⟩) n n)).congr (G := fun j => if j < k + 1 then .slice (some ⟨(fun j => if j = k then g else gs j) j, 0, none⟩) n n else .slice none 0 0) fun j _ => by
     by_cases h1 : j = k
     ·subst h1; rw [if_pos rfl, if_pos (by omega)]; simp only [if_true]
     ·simp only [if_neg h1]
      by_cases h2 : j < k
      ·rw [if_pos h2, if_pos (by omega)]
      ·rw [if_neg h2, if_neg (by omega)]
    have HSET := Lib.hid hset
    have HALL3 := Lib.hid (show ∀ j, j < k + 1 → UW (w3.setCell ⟨G, k, none⟩ (.slice (some ⟨g, 0, none⟩) n n)) ((fun j => if j = k then g else gs j) j) n (fun i => ((acc ++ [row]).getD j []).getD i 0) ∧ R ≤ ((fun j => if j = k then g else gs j) j) from fun j hj => by
     by_cases hjk : j = k
     ·subst hjk
      simp only [if_true]
      refine ⟨?_, by omega⟩
      rw [zgz, hac, if_pos rfl]
      exact RW.aside h3 hrw3 (by decide) _ _
     ·simp only [if_neg hjk]
      obtain ⟨a1, a2⟩ := HALL.out j (by omega)
      refine ⟨?_, a2⟩
      rw [zgz, hac, if_neg hjk]
      exact RW.aside (a1.onN kO (by omega)) hrw3 (by decide) _ _)
    have HR3 := Lib.hid (RW.aside hr3 hrw3 (by decide) k (.slice (some ⟨g, 0, none⟩) n n))
    have HTq3 := Lib.hid (h5.far (g := G) (by omega) (by omega) k (.slice (some ⟨g, 0, none⟩) n n))
    have HO3 := Lib.hid ((hO.out.trans kO).store (g := G) (by omega) k (.slice (some ⟨g, 0, none⟩) n n))
    clear h1 h3 h5 h6 hset hrw3 hr3 kO
    go_wp2
    exact ⟨⟨k + 1, _, r2, _, by omega, by go_num, HU, HSET.out, HALL3, HR3.out, HTq3, HO3⟩, by simp [intOf]; omega⟩
   ·have kO : On p wr w3 := (On.of K2.out).trans h6
    have hr3 := HR0.out.onN kO (by omega)
    have hw3 := kO.size
    have HS := Lib.hid (show unifS n q l L = none by
     have := zmj (zsv hu.out h1) (L - (k + 1))
     rwa [show k + 1 + (L - (k + 1)) = L by omega] at this)
    have cR := hr3.cell (i := 0) (by omega)
    have fR := hr3.frozen 0
    have sR := hr3.lt
    have HR3 := Lib.hid hr3
    have HTq3 := Lib.hid ((h5.far (g := R) (by omega) (by omega) 0 (.slice none 0 0)).tp (by simp [World.setCell]; omega))
    have HO3 := Lib.hid ((hO.out.trans kO).store (g := R) (by omega) 0 (.slice none 0 0))
    clear h1 h5 h6 hr3 kO
    go_wp2_with fail
    have d0 := zas HR3.out (.slice none 0 0)
    have h7 := HTq3.out
    have h8 := HO3.out
    generalize w3.setCell ⟨R, 0, none⟩ (.slice none 0 0) = w9 at *
    exact bodyPost_ret (v := .tuple #[.agg #[.slice none 0 0], .int .i64 11]) (by simp [results, Tryz.results98, go_sem, d0]) rfl (.inr ⟨HS.out, rfl, h7, h8⟩)
  ·obtain rfl : k = L := by omega
   have hrw' := hrw.congr (G := fun j => .slice (some ⟨gs j, 0, none⟩) n n) fun j hj => by rw [if_pos hj]
   have HRW := Lib.hid hrw'
   have HR0 := Lib.hid hr0
   have cR := hr0.cell (i := 0) (by omega)
   have fR := hr0.frozen 0
   have sR := hr0.lt
   have HPM := Lib.hid (show PM (wr.setCell ⟨R, 0, none⟩ (.slice (some ⟨G, 0, none⟩) k k)) G k n (fun j => some ⟨gs j, 0, none⟩) (fun _ => n) (fun j i => (acc.getD j []).getD i 0) from ⟨RW.aside hrw' hr0 (by decide) _ _, fun j hj => UW.fx (RW.aside (hall.out j hj).1 hr0 (by decide) _ _)⟩)
   have HTq3 := Lib.hid ((hTq.out.far (g := R) (by omega) (by omega) 0 (.slice (some ⟨G, 0, none⟩) k k)).tp (by simp [World.setCell]; omega))
   have HO3 := Lib.hid (hO.out.store (g := R) (by omega) 0 (.slice (some ⟨G, 0, none⟩) k k))
   clear hrw hrw' hr0
   go_wp2_with fail
   have d0 := zas HR0.out (.slice (some ⟨G, 0, none⟩) k k)
   have h7 := HTq3.out
   have h8 := HO3.out
   have h9 := HPM.out
   generalize wr.setCell ⟨R, 0, none⟩ (.slice (some ⟨G, 0, none⟩) k k) = w9 at *
   exact bodyPost_ret (v := .tuple #[.agg #[.slice (some ⟨G, 0, none⟩) k k], .int .i64 0]) (by simp [results, Tryz.results98, go_sem, d0]) rfl (.inl ⟨acc, r, G, gs, hu.out, rfl, h9, by omega, h7, h8⟩)
end Go.Proofs.YtopbibfpjgjalaaGreatDoor
