import Derived.Test.YtopbibfpjgjalaaGreatDoorZ25
import Derived.Test.YtopbibfpjgjalaaGreatDoorZ9
import Derived.Test.YtopbibfpjgjalaaGreatDoorZ24
namespace Go.Proofs.YtopbibfpjgjalaaGreatDoor
open Go.RowKit
set_option linter.unusedVariables false
set_option maxRecDepth 100000
theorem zq6 {w : World} {r n M : Nat} {q p : Nat → Nat} {a e : Nat → Nat → Nat} {A A' : Option Addr} {L c c' : Nat} {As As' : Nat → Option Addr} {ns cs ns' cs' : Nat → Nat} {f f' : Nat → Nat → Nat} (hR : Rg w r n M q p a e) (hP : PB w A L c As ns cs f) (hP' : PB w A' L c' As' ns' cs' f') (hE : El n M q L ns f ∧ El n M q L ns' f') (b5 b6 b7 : Nat) :
    ∀ w2, Ext w w2 → w2.cell? ⟨b5, 0, none⟩ = some (.slice A L c) → w2.cell? ⟨b6, 0, none⟩ = some (.slice A' L c') → w2.cell? ⟨b7, 0, none⟩ = some (.func (.func 170) #[] #[]) → Makes 177 #[.pointer (some ⟨b7, 0, none⟩), .pointer (some ⟨b5, 0, none⟩), .pointer (some ⟨b6, 0, none⟩)] w2 n L q p (fun j F => F = fun i => (f j i + f' j i) % q j) := fun w2 k2 h5 h6 h7 j w1 hj k1 => by
 obtain ⟨x1, x2, x3⟩ := zeh (hP.1.ext (k2.trans k1)) hE.1 hj
 obtain ⟨x1', x2', x3'⟩ := zeh (hP'.1.ext (k2.trans k1)) hE.2 hj
 have hLM := hE.1.2.1
 have hq := hR.ql j (by omega)
 have h32 := hR.l1
 exact zvn b7 b5 b6 n (q j) (p j) L c L c' (cs j) (cs' j) j A A' (As j) (As' j) (f j) (f' j) w1 (cE k1 h7) (cE k1 h5) (cE k1 h6) hj hj x1 x1' x2 x2' hR.n0 hR.n1 (by omega) (by omega) (by omega) (by omega) (Lib.hid x3) (Lib.hid x3')
theorem zp1 {w : World} {r n M : Nat} {q p : Nat → Nat} {a e : Nat → Nat → Nat} {A A' : Option Addr} {L c c' : Nat} {As As' : Nat → Option Addr} {ns cs ns' cs' : Nat → Nat} {f f' : Nat → Nat → Nat} (hR : Rg w r n M q p a e) (hP : PB w A L c As ns cs f) (hP' : PB w A' L c' As' ns' cs' f') (hE : El n M q L ns f ∧ El n M q L ns' f') (b5 b6 b7 : Nat) :
    ∀ w2, Ext w w2 → w2.cell? ⟨b5, 0, none⟩ = some (.slice A L c) → w2.cell? ⟨b6, 0, none⟩ = some (.slice A' L c') → w2.cell? ⟨b7, 0, none⟩ = some (.func (.func 110) #[] #[]) → Makes 177 #[.pointer (some ⟨b7, 0, none⟩), .pointer (some ⟨b5, 0, none⟩), .pointer (some ⟨b6, 0, none⟩)] w2 n L q p (fun j F => F = fun i => dif (f j i) (f' j i) (q j)) := fun w2 k2 h5 h6 h7 j w1 hj k1 => by
 obtain ⟨x1, x2, x3⟩ := zeh (hP.1.ext (k2.trans k1)) hE.1 hj
 obtain ⟨x1', x2', x3'⟩ := zeh (hP'.1.ext (k2.trans k1)) hE.2 hj
 have hLM := hE.1.2.1
 have hq := hR.ql j (by omega)
 have h32 := hR.l1
 exact zwp b7 b5 b6 n (q j) (p j) L c L c' (cs j) (cs' j) j A A' (As j) (As' j) (f j) (f' j) w1 (cE k1 h7) (cE k1 h5) (cE k1 h6) hj hj x1 x1' x2 x2' hR.n0 hR.n1 (by omega) (by omega) (by omega) (by omega) (Lib.hid x3) (Lib.hid x3')
theorem zk3 {w : World} {r n M : Nat} {q p : Nat → Nat} {a e : Nat → Nat → Nat} {A A' : Option Addr} {L c c' : Nat} {As As' : Nat → Option Addr} {ns cs ns' cs' : Nat → Nat} {f f' : Nat → Nat → Nat} (hR : Rg w r n M q p a e) (hP : PB w A L c As ns cs f) (hP' : PB w A' L c' As' ns' cs' f') (hE : El n M q L ns f ∧ El n M q L ns' f') (hS : ∀ j, j < L → ∃ x, x < q j ∧ noSq (q j) x = true) (b5 b6 b7 : Nat) :
    ∀ w2, Ext w w2 → w2.cell? ⟨b5, 0, none⟩ = some (.slice A L c) → w2.cell? ⟨b6, 0, none⟩ = some (.slice A' L c') → w2.cell? ⟨b7, 0, none⟩ = some (.func (.func 141) #[] #[]) → Makes 177 #[.pointer (some ⟨b7, 0, none⟩), .pointer (some ⟨b5, 0, none⟩), .pointer (some ⟨b6, 0, none⟩)] w2 n L q p (fun j F => ∀ i, i < n → F i < q j ∧ Go.Proofs.YtopbibfpjgjalaaGreatDoor.M (q j : Int) (F i : Int) (nega n (fun k => (f j k : Int)) (fun k => (f' j k : Int)) i)) := fun w2 k2 h5 h6 h7 j w1 hj k1 => by
 obtain ⟨x1, x2, x3⟩ := zeh (hP.1.ext (k2.trans k1)) hE.1 hj
 obtain ⟨x1', x2', x3'⟩ := zeh (hP'.1.ext (k2.trans k1)) hE.2 hj
 have hLM := hE.1.2.1
 have hq := hR.ql j (by omega)
 have h32 := hR.l1
 obtain ⟨k, r', v, ht⟩ := ((hR.ext (k2.trans k1)).tab j (by omega)).root (hS j hj)
 exact zor b7 b5 b6 n (q j) (p j) L c L c' (cs j) (cs' j) j A A' (As j) (As' j) (f j) (f' j) k r' v w1 (cE k1 h7) (cE k1 h5) (cE k1 h6) hj hj x1 x1' x2 x2' hR.n0 hR.n1 (by omega) (by omega) (by omega) (by omega) (Lib.hid x3) (Lib.hid x3') ht
set_option maxHeartbeats 2000000 in
theorem zly (r n M : Nat) (q p : Nat → Nat) (a e : Nat → Nat → Nat) (A A' : Option Addr) (L c c' : Nat) (As As' : Nat → Option Addr) (ns cs ns' cs' : Nat → Nat) (f f' : Nat → Nat → Nat) (w : World) (hR : Rg w r n M q p a e) (hP : Hid (PB w A L c As ns cs f)) (hP' : Hid (PB w A' L c' As' ns' cs' f')) (hE : El n M q L ns f ∧ El n M q L ns' f') :
    Calls Tryz.prog 100 #[.pointer (some ⟨r, 0, none⟩), .agg #[.slice A L c], .agg #[.slice A' L c']] w (Made w n L (fun j F => F = fun i => (f j i + f' j i) % q j)) := by
 have HR := Lib.hid hR
 have HE := Lib.hid hE
 clear hR hE
 go_enter Tryz.func100, Tryz.ntmps100
 go_wp2_with fail
 obtain ⟨V, hV⟩ : ∃ V, V = ((w.alloc (.cells #[.slice A L c] 56)).alloc (.cells #[.slice A' L c'] 56)).alloc (.cells #[.slice none 0 0] 56) := ⟨_, rfl⟩
 rw [← hV]
 have kV : Ext w V := by rw [hV]; exact ((((Ext.refl w).alloc _).alloc _).alloc _)
 have hr0 : RW V (w.heap.size + 1 + 1) 56 1 (fun _ => .slice none 0 0) := by
  have : RW V ((w.alloc (.cells #[.slice A L c] 56)).alloc (.cells #[.slice A' L c'] 56)).heap.size 56 1 (fun _ => .slice none 0 0) := by rw [hV]; exact heap_alloc_new _ _
  rwa [show ((w.alloc (.cells #[.slice A L c] 56)).alloc (.cells #[.slice A' L c'] 56)).heap.size = w.heap.size + 1 + 1 by simp] at this
 refine (zfh r n M q p a e A A' L c c' As As' ns cs ns' cs' f f' _ _ (fun j F => F = fun i => (f j i + f' j i) % q j) V (HR.out.ext kV) (Lib.hid (hP.out.ext kV)) (Lib.hid (hP'.out.ext kV)) HE.out (Lib.hid (zq6 (HR.out.ext kV) (hP.out.ext kV) (hP'.out.ext kV) HE.out _ _ _))).mono ?_
 rintro ee w2 ⟨G, Bs, ds, F, rfl, hpm, hF, k2⟩
 have hr2 := hr0.ext k2
 have c0 := hr2.cell (i := 0) (by omega)
 have z0 := hr2.frozen 0
 have hsz := hr2.lt
 go_wp2_with fail
 have d0 := zas hr2 (.slice (some ⟨G, 0, none⟩) (L) (L))
 have d1 := (kV.trans k2).set (p := ⟨w.heap.size + 1 + 1, 0, none⟩) (by show w.heap.size ≤ w.heap.size + 1 + 1; omega) (.slice (some ⟨G, 0, none⟩) (L) (L))
 have d2 := hpm.aside hr2 rfl (.slice (some ⟨G, 0, none⟩) (L) (L))
 generalize w2.setCell ⟨w.heap.size + 1 + 1, 0, none⟩ (.slice (some ⟨G, 0, none⟩) (L) (L)) = w5 at *
 exact bodyPost_ret (v := .tuple #[.agg #[.slice (some ⟨G, 0, none⟩) (L) (L)], .int .i64 0]) (by simp [results, Tryz.results100, go_sem, d0]) rfl ⟨G, Bs, ds, F, rfl, d2, hF, d1⟩
set_option maxHeartbeats 2000000 in
theorem zwh (r n M : Nat) (q p : Nat → Nat) (a e : Nat → Nat → Nat) (A A' : Option Addr) (L c c' : Nat) (As As' : Nat → Option Addr) (ns cs ns' cs' : Nat → Nat) (f f' : Nat → Nat → Nat) (w : World) (hR : Rg w r n M q p a e) (hP : Hid (PB w A L c As ns cs f)) (hP' : Hid (PB w A' L c' As' ns' cs' f')) (hE : El n M q L ns f ∧ El n M q L ns' f') :
    Calls Tryz.prog 59 #[.pointer (some ⟨r, 0, none⟩), .agg #[.slice A L c], .agg #[.slice A' L c']] w (Made w n L (fun j F => F = fun i => dif (f j i) (f' j i) (q j))) := by
 have HR := Lib.hid hR
 have HE := Lib.hid hE
 clear hR hE
 go_enter Tryz.func59, Tryz.ntmps59
 go_wp2_with fail
 obtain ⟨V, hV⟩ : ∃ V, V = ((w.alloc (.cells #[.slice A L c] 56)).alloc (.cells #[.slice A' L c'] 56)).alloc (.cells #[.slice none 0 0] 56) := ⟨_, rfl⟩
 rw [← hV]
 have kV : Ext w V := by rw [hV]; exact ((((Ext.refl w).alloc _).alloc _).alloc _)
 have hr0 : RW V (w.heap.size + 1 + 1) 56 1 (fun _ => .slice none 0 0) := by
  have : RW V ((w.alloc (.cells #[.slice A L c] 56)).alloc (.cells #[.slice A' L c'] 56)).heap.size 56 1 (fun _ => .slice none 0 0) := by rw [hV]; exact heap_alloc_new _ _
  rwa [show ((w.alloc (.cells #[.slice A L c] 56)).alloc (.cells #[.slice A' L c'] 56)).heap.size = w.heap.size + 1 + 1 by simp] at this
 refine (zfh r n M q p a e A A' L c c' As As' ns cs ns' cs' f f' _ _ (fun j F => F = fun i => dif (f j i) (f' j i) (q j)) V (HR.out.ext kV) (Lib.hid (hP.out.ext kV)) (Lib.hid (hP'.out.ext kV)) HE.out (Lib.hid (zp1 (HR.out.ext kV) (hP.out.ext kV) (hP'.out.ext kV) HE.out _ _ _))).mono ?_
 rintro ee w2 ⟨G, Bs, ds, F, rfl, hpm, hF, k2⟩
 have hr2 := hr0.ext k2
 have c0 := hr2.cell (i := 0) (by omega)
 have z0 := hr2.frozen 0
 have hsz := hr2.lt
 go_wp2_with fail
 have d0 := zas hr2 (.slice (some ⟨G, 0, none⟩) (L) (L))
 have d1 := (kV.trans k2).set (p := ⟨w.heap.size + 1 + 1, 0, none⟩) (by show w.heap.size ≤ w.heap.size + 1 + 1; omega) (.slice (some ⟨G, 0, none⟩) (L) (L))
 have d2 := hpm.aside hr2 rfl (.slice (some ⟨G, 0, none⟩) (L) (L))
 generalize w2.setCell ⟨w.heap.size + 1 + 1, 0, none⟩ (.slice (some ⟨G, 0, none⟩) (L) (L)) = w5 at *
 exact bodyPost_ret (v := .tuple #[.agg #[.slice (some ⟨G, 0, none⟩) (L) (L)], .int .i64 0]) (by simp [results, Tryz.results59, go_sem, d0]) rfl ⟨G, Bs, ds, F, rfl, d2, hF, d1⟩
set_option maxHeartbeats 2000000 in
theorem zmw (r n M : Nat) (q p : Nat → Nat) (a e : Nat → Nat → Nat) (A A' : Option Addr) (L c c' : Nat) (As As' : Nat → Option Addr) (ns cs ns' cs' : Nat → Nat) (f f' : Nat → Nat → Nat) (w : World) (hR : Rg w r n M q p a e) (hP : Hid (PB w A L c As ns cs f)) (hP' : Hid (PB w A' L c' As' ns' cs' f')) (hE : El n M q L ns f ∧ El n M q L ns' f') (hS : ∀ j, j < L → ∃ x, x < q j ∧ noSq (q j) x = true) :
    Calls Tryz.prog 80 #[.pointer (some ⟨r, 0, none⟩), .agg #[.slice A L c], .agg #[.slice A' L c']] w (Made w n L (fun j F => ∀ i, i < n → F i < q j ∧ Go.Proofs.YtopbibfpjgjalaaGreatDoor.M (q j : Int) (F i : Int) (nega n (fun k => (f j k : Int)) (fun k => (f' j k : Int)) i))) := by
 have HR := Lib.hid hR
 have HE := Lib.hid hE
 clear hR hE
 go_enter Tryz.func80, Tryz.ntmps80
 go_wp2_with fail
 obtain ⟨V, hV⟩ : ∃ V, V = ((w.alloc (.cells #[.slice A L c] 56)).alloc (.cells #[.slice A' L c'] 56)).alloc (.cells #[.slice none 0 0] 56) := ⟨_, rfl⟩
 rw [← hV]
 have kV : Ext w V := by rw [hV]; exact ((((Ext.refl w).alloc _).alloc _).alloc _)
 have hr0 : RW V (w.heap.size + 1 + 1) 56 1 (fun _ => .slice none 0 0) := by
  have : RW V ((w.alloc (.cells #[.slice A L c] 56)).alloc (.cells #[.slice A' L c'] 56)).heap.size 56 1 (fun _ => .slice none 0 0) := by rw [hV]; exact heap_alloc_new _ _
  rwa [show ((w.alloc (.cells #[.slice A L c] 56)).alloc (.cells #[.slice A' L c'] 56)).heap.size = w.heap.size + 1 + 1 by simp] at this
 refine (zfh r n M q p a e A A' L c c' As As' ns cs ns' cs' f f' _ _ (fun j F => ∀ i, i < n → F i < q j ∧ Go.Proofs.YtopbibfpjgjalaaGreatDoor.M (q j : Int) (F i : Int) (nega n (fun k => (f j k : Int)) (fun k => (f' j k : Int)) i)) V (HR.out.ext kV) (Lib.hid (hP.out.ext kV)) (Lib.hid (hP'.out.ext kV)) HE.out (Lib.hid (zk3 (HR.out.ext kV) (hP.out.ext kV) (hP'.out.ext kV) HE.out hS _ _ _))).mono ?_
 rintro ee w2 ⟨G, Bs, ds, F, rfl, hpm, hF, k2⟩
 have hr2 := hr0.ext k2
 have c0 := hr2.cell (i := 0) (by omega)
 have z0 := hr2.frozen 0
 have hsz := hr2.lt
 go_wp2_with fail
 have d0 := zas hr2 (.slice (some ⟨G, 0, none⟩) (L) (L))
 have d1 := (kV.trans k2).set (p := ⟨w.heap.size + 1 + 1, 0, none⟩) (by show w.heap.size ≤ w.heap.size + 1 + 1; omega) (.slice (some ⟨G, 0, none⟩) (L) (L))
 have d2 := hpm.aside hr2 rfl (.slice (some ⟨G, 0, none⟩) (L) (L))
 generalize w2.setCell ⟨w.heap.size + 1 + 1, 0, none⟩ (.slice (some ⟨G, 0, none⟩) (L) (L)) = w5 at *
 exact bodyPost_ret (v := .tuple #[.agg #[.slice (some ⟨G, 0, none⟩) (L) (L)], .int .i64 0]) (by simp [results, Tryz.results80, go_sem, d0]) rfl ⟨G, Bs, ds, F, rfl, d2, hF, d1⟩
set_option maxHeartbeats 4000000 in
theorem zrc (A A' : Option Addr) (L c c' : Nat) (As As' : Nat → Option Addr) (ns cs cs' : Nat → Nat) (f f' : Nat → Nat → Nat) (w : World) (hX : PX w A L c As ns cs f) (hX' : PX w A' L c' As' ns cs' f') (hL : L ≤ 100000) (hn : Hid (∀ j, j < L → ns j ≤ 100000)) (he : Hid (∀ j, j < L → ∀ i, i < ns j → f j i = f' j i)) :
    Calls Tryz.prog 72 #[.agg #[.slice A L c], .agg #[.slice A' L c']] w fun ee w' => ee = .returned (.bool true) ∧ Ext w w' := by
 have HX := Lib.hid hX
 have HX' := Lib.hid hX'
 clear hX hX'
 go_enter Tryz.func72, Tryz.ntmps72
 have kV : Ext w ((w.alloc (.cells #[.slice A L c] 56)).alloc (.cells #[.slice A' L c'] 56)) := ((Ext.refl w).alloc _).alloc _
 have h2 : ((w.alloc (.cells #[.slice A L c] 56)).alloc (.cells #[.slice A' L c'] 56)).cell? ⟨w.heap.size, 0, none⟩ = some (.slice A L c) := cE ((Ext.refl _).alloc _) (zam w _ _)
 have h3 : ((w.alloc (.cells #[.slice A L c] 56)).alloc (.cells #[.slice A' L c'] 56)).cell? ⟨w.heap.size + 1, 0, none⟩ = some (.slice A' L c') := by
  rw [show w.heap.size + 1 = (w.alloc (.cells #[.slice A L c] 56)).heap.size by simp]
  exact zam _ _ _
 have hee : ((L : Int) != (L : Int)) = false := by simp
 go_wp2
 generalize (w.alloc (.cells #[.slice A L c] 56)).alloc (.cells #[.slice A' L c'] 56) = V at *
 go_loopw [16] (fun i wr => ∃ m : Nat, m ≤ L ∧ i = .int .i64 (m : Int) ∧ Ext V wr) (fun i _ => L - (intOf i).toNat)
 case atStart => exact ⟨0, by omega, rfl, Ext.refl _⟩
 case round =>
  obtain ⟨m, hm, rfl, kr⟩ := hrel
  by_cases hlt : m < L
  ·have kw := kV.trans kr
   obtain ⟨ad, rfl, hc⟩ := (HX.out.ext kw).cells (by omega)
   obtain ⟨ad', rfl, hc'⟩ := (HX'.out.ext kw).cells (by omega)
   have x1 := hc m hlt
   have x2 := hc' m hlt
   have X1 := Lib.hid ((HX.out.ext kw).rows m hlt)
   have X2 := Lib.hid ((HX'.out.ext kw).rows m hlt)
   have y2 := cE kr h2
   have y3 := cE kr h3
   have HEQ := Lib.hid (he.out m hlt)
   have hnm := hn.out m hlt
   clear hc hc'
   have i0 : (0 : Int) ≤ (m : Int) := by omega
   have i1 : (m : Int) < (L : Int) := by omega
   go_wp2_with fail
   go_region_held3 (fun w' => w'.cell? ⟨w.heap.size, 0, none⟩ = some (.slice (some ad) L c) ∧ w'.cell? ⟨w.heap.size + 1, 0, none⟩ = some (.slice (some ad') L c') ∧ w'.cell? (ad.add m) = some (.slice (As m) (ns m) (cs m)) ∧ w'.cell? (ad'.add m) = some (.slice (As' m) (ns m) (cs' m))) (go_keep)
    (first
     | (go_at_call 29; refine (zhq (As m) (As' m) (ns m) (cs m) (cs' m) (f m) (f' m) _ (X1.out.ext (Ext.refl _).drew) (X2.out.ext (Ext.refl _).drew) hnm HEQ).mono ?_; rintro e5 w5 ⟨rfl, k5⟩; have k5' := (Ext.refl _).drew.trans k5; have d0 := cE k5' y2; have d1 := cE k5' y3; have d2 := cE k5' x1; have d3 := cE k5' x2)
     | fail)
   go_wp2
   exact ⟨⟨m + 1, by omega, by go_num, kr.trans k5'⟩, by simp [intOf]; omega⟩
  ·go_wp2
   go_ret
   exact ⟨rfl, kV.trans kr⟩
set_option maxHeartbeats 2000000 in
theorem zjz (r n M : Nat) (q p : Nat → Nat) (a e : Nat → Nat → Nat) (A : Option Addr) (L c : Nat) (As : Nat → Option Addr) (ns cs : Nat → Nat) (f : Nat → Nat → Nat) (w : World) (hR : Rg w r n M q p a e) (hP : Hid (PB w A L c As ns cs f)) :
    Calls Tryz.prog 102 #[.pointer (some ⟨r, 0, none⟩), .agg #[.slice A L c]] w fun ee w' => ((El n M q L ns f ∧ ee = .returned (.tuple #[.int .i64 ((L : Int) - 1), .int .i64 0])) ∨ (¬ El n M q L ns f ∧ ee = .returned (.tuple #[.int .i64 0, .int .i64 3]))) ∧ Ext w w' := by
 have HR := Lib.hid hR
 clear hR
 go_enter Tryz.func102, Tryz.ntmps102
 go_wp2_with fail
 obtain ⟨V, hV⟩ : ∃ V, V = w.alloc (.cells #[.slice A L c] 56) := ⟨_, rfl⟩
 rw [← hV]
 have kV : Ext w V := by rw [hV]; exact (Ext.refl w).alloc _
 have h4 : V.cell? ⟨w.heap.size, 0, none⟩ = some (.slice A L c) := by rw [hV]; exact zam w _ _
 have hsV : V.heap.size = w.heap.size + 1 := by rw [hV]; simp
 clear hV
 have kX : Ext V (V.alloc (.cells #[.slice A L c] 56)) := (Ext.refl V).alloc _
 have hx : (V.alloc (.cells #[.slice A L c] 56)).cell? ⟨w.heap.size + 1, 0, none⟩ = some (.slice A L c) := by rw [← hsV]; exact zam _ _ _
 refine (zx1 r n M q p a e A L c As ns cs f _ (w.heap.size + 1) hx (HR.out.ext (kV.trans kX)) (Lib.hid (hP.out.ext (kV.trans kX)))).mono ?_
 rintro ee w2 (⟨hE, rfl, k2⟩ | ⟨hE, rfl, k2⟩)
 ·have HE := Lib.hid hE
  have y4 := cE (kX.trans k2) h4
  have hLb := hP.out.2.1
  clear hE
  go_wp2_with fail
  refine (zcj A L c w2 hLb).mono ?_
  rintro ee w3 ⟨rfl, k3⟩
  go_wp2
  go_ret2
  exact ⟨.inl ⟨HE.out, rfl⟩, kV.trans (kX.trans (k2.trans k3))⟩
 ·have HE := Lib.hid hE
  clear hE
  go_wp2
  go_ret2
  exact ⟨.inr ⟨HE.out, rfl⟩, kV.trans (kX.trans k2)⟩
def filtP (b q : Nat) : Nat → List Nat
 | 0 => []
 | k + 1 => filtP b q k ++ (cond (isP (num b q k)) [num b q k] [])
theorem zm0 {b q : Nat} (hb : q * b + 1 < 18446744073709551616) : ∀ k, (∀ j, j < k → 2 ≤ num b q j) → filt b q k = filtP b q k
 | 0, _ => rfl
 | k + 1, h => by
  have ih := zm0 hb k (fun j hj => h j (by omega))
  have h2 := h k (by omega)
  have h3 : num b q k < 18446744073709551616 := by
   unfold num
   have := Nat.mul_le_mul_right b (Nat.sub_le q k)
   omega
  rw [filt, filtP, ih, zji h2 h3]
  cases isP (num b q k) <;> rfl
theorem zjq {b q : Nat} : ∀ {k j : Nat}, j ≤ k → filt b q j = (filt b q k).take (filt b q j).length
 | 0, j, h => by
  have h0 : j = 0 := by omega
  rw [h0, List.take_length]
 | k + 1, j, h => by
  rcases Nat.lt_or_eq_of_le h with g | g
  ·have ih := zjq (b := b) (q := q) (k := k) (j := j) (by omega)
   have hm := zsa (b := b) (q := q) (show j ≤ k by omega)
   rw [filt, List.take_append_of_le_length hm]
   exact ih
  ·rw [g, List.take_length]
end Go.Proofs.YtopbibfpjgjalaaGreatDoor
