/-
  What Add, Sub and Mul of package ring answer.
-/
import Derived.Test.YtbpehdfpiembfaaGreatDoorZ26
namespace Go.Proofs.YtbpehdfpiembfaaGreatDoor
open Go.RowKit
set_option linter.unusedVariables false
set_option maxRecDepth 100000

theorem sum_makes {w : World} {r n M : Nat} {q p : Nat → Nat} {a e : Nat → Nat → Nat} {A A' : Option Addr} {L c c' : Nat} {As As' : Nat → Option Addr} {ns cs ns' cs' : Nat → Nat} {f f' : Nat → Nat → Nat} (hR : Rg w r n M q p a e) (hP : PB w A L c As ns cs f) (hP' : PB w A' L c' As' ns' cs' f') (hE : El n M q L ns f ∧ El n M q L ns' f') (b5 b6 b7 : Nat) :
    ∀ w2, Ext w w2 → w2.cell? ⟨b5, 0, none⟩ = some (.slice A L c) → w2.cell? ⟨b6, 0, none⟩ = some (.slice A' L c') → w2.cell? ⟨b7, 0, none⟩ = some (.func (.func 188) #[] #[]) → Makes 246 #[.pointer (some ⟨b7, 0, none⟩), .pointer (some ⟨b5, 0, none⟩), .pointer (some ⟨b6, 0, none⟩)] w2 n L q p (fun j F => F = fun i => (f j i + f' j i) % q j) := fun w2 k2 h5 h6 h7 j w1 hj k1 => by
  obtain ⟨x1, x2, x3⟩ := el_cell (hP.1.ext (k2.trans k1)) hE.1 hj
  obtain ⟨x1', x2', x3'⟩ := el_cell (hP'.1.ext (k2.trans k1)) hE.2 hj
  have hLM := hE.1.2.1
  have hq := hR.ql j (by omega)
  have h32 := hR.l1
  exact sum2_any b7 b5 b6 n (q j) (p j) L c L c' (cs j) (cs' j) j A A' (As j) (As' j) (f j) (f' j) w1 (cell_ext k1 h7) (cell_ext k1 h5) (cell_ext k1 h6) hj hj x1 x1' x2 x2' hR.n0 hR.n1 (by omega) (by omega) (by omega) (by omega) (Lib.hid x3) (Lib.hid x3')
theorem dif_makes {w : World} {r n M : Nat} {q p : Nat → Nat} {a e : Nat → Nat → Nat} {A A' : Option Addr} {L c c' : Nat} {As As' : Nat → Option Addr} {ns cs ns' cs' : Nat → Nat} {f f' : Nat → Nat → Nat} (hR : Rg w r n M q p a e) (hP : PB w A L c As ns cs f) (hP' : PB w A' L c' As' ns' cs' f') (hE : El n M q L ns f ∧ El n M q L ns' f') (b5 b6 b7 : Nat) :
    ∀ w2, Ext w w2 → w2.cell? ⟨b5, 0, none⟩ = some (.slice A L c) → w2.cell? ⟨b6, 0, none⟩ = some (.slice A' L c') → w2.cell? ⟨b7, 0, none⟩ = some (.func (.func 204) #[] #[]) → Makes 246 #[.pointer (some ⟨b7, 0, none⟩), .pointer (some ⟨b5, 0, none⟩), .pointer (some ⟨b6, 0, none⟩)] w2 n L q p (fun j F => F = fun i => dif (f j i) (f' j i) (q j)) := fun w2 k2 h5 h6 h7 j w1 hj k1 => by
  obtain ⟨x1, x2, x3⟩ := el_cell (hP.1.ext (k2.trans k1)) hE.1 hj
  obtain ⟨x1', x2', x3'⟩ := el_cell (hP'.1.ext (k2.trans k1)) hE.2 hj
  have hLM := hE.1.2.1
  have hq := hR.ql j (by omega)
  have h32 := hR.l1
  exact dif2_any b7 b5 b6 n (q j) (p j) L c L c' (cs j) (cs' j) j A A' (As j) (As' j) (f j) (f' j) w1 (cell_ext k1 h7) (cell_ext k1 h5) (cell_ext k1 h6) hj hj x1 x1' x2 x2' hR.n0 hR.n1 (by omega) (by omega) (by omega) (by omega) (Lib.hid x3) (Lib.hid x3')
theorem prodP_makes {w : World} {r n M : Nat} {q p : Nat → Nat} {a e : Nat → Nat → Nat} {A A' : Option Addr} {L c c' : Nat} {As As' : Nat → Option Addr} {ns cs ns' cs' : Nat → Nat} {f f' : Nat → Nat → Nat} (hR : Rg w r n M q p a e) (hP : PB w A L c As ns cs f) (hP' : PB w A' L c' As' ns' cs' f') (hE : El n M q L ns f ∧ El n M q L ns' f') (hS : ∀ j, j < L → ∃ x, x < q j ∧ noSq (q j) x = true) (b5 b6 b7 : Nat) :
    ∀ w2, Ext w w2 → w2.cell? ⟨b5, 0, none⟩ = some (.slice A L c) → w2.cell? ⟨b6, 0, none⟩ = some (.slice A' L c') → w2.cell? ⟨b7, 0, none⟩ = some (.func (.func 187) #[] #[]) → Makes 246 #[.pointer (some ⟨b7, 0, none⟩), .pointer (some ⟨b5, 0, none⟩), .pointer (some ⟨b6, 0, none⟩)] w2 n L q p (fun j F => ∀ i, i < n → F i < q j ∧ Go.Proofs.YtbpehdfpiembfaaGreatDoor.M (q j : Int) (F i : Int) (nega n (fun k => (f j k : Int)) (fun k => (f' j k : Int)) i)) := fun w2 k2 h5 h6 h7 j w1 hj k1 => by
  obtain ⟨x1, x2, x3⟩ := el_cell (hP.1.ext (k2.trans k1)) hE.1 hj
  obtain ⟨x1', x2', x3'⟩ := el_cell (hP'.1.ext (k2.trans k1)) hE.2 hj
  have hLM := hE.1.2.1
  have hq := hR.ql j (by omega)
  have h32 := hR.l1
  obtain ⟨k, r', v, ht⟩ := ((hR.ext (k2.trans k1)).tab j (by omega)).root (hS j hj)
  exact prodP2_any b7 b5 b6 n (q j) (p j) L c L c' (cs j) (cs' j) j A A' (As j) (As' j) (f j) (f' j) k r' v w1 (cell_ext k1 h7) (cell_ext k1 h5) (cell_ext k1 h6) hj hj x1 x1' x2 x2' hR.n0 hR.n1 (by omega) (by omega) (by omega) (by omega) (Lib.hid x3) (Lib.hid x3') ht
set_option maxHeartbeats 2000000 in
theorem rAdd_any (r n M : Nat) (q p : Nat → Nat) (a e : Nat → Nat → Nat) (A A' : Option Addr) (L c c' : Nat) (As As' : Nat → Option Addr) (ns cs ns' cs' : Nat → Nat) (f f' : Nat → Nat → Nat) (w : World) (hR : Rg w r n M q p a e) (hP : Hid (PB w A L c As ns cs f)) (hP' : Hid (PB w A' L c' As' ns' cs' f')) (hE : El n M q L ns f ∧ El n M q L ns' f') :
    Calls Tryz.prog 127 #[.pointer (some ⟨r, 0, none⟩), .agg #[.slice A L c], .agg #[.slice A' L c']] w (Made w n L (fun j F => F = fun i => (f j i + f' j i) % q j)) := by
  have HR := Lib.hid hR
  have HE := Lib.hid hE
  clear hR hE
  go_enter Tryz.func127, Tryz.ntmps127
  go_wp2_with fail
  obtain ⟨V, hV⟩ : ∃ V, V = ((w.alloc (.cells #[.slice A L c] 28)).alloc (.cells #[.slice A' L c'] 28)).alloc (.cells #[.slice none 0 0] 28) := ⟨_, rfl⟩
  rw [← hV]
  have kV : Ext w V := by rw [hV]; exact ((((Ext.refl w).alloc _).alloc _).alloc _)
  have hr0 : RW V (w.heap.size + 1 + 1) 28 1 (fun _ => .slice none 0 0) := by
    have : RW V ((w.alloc (.cells #[.slice A L c] 28)).alloc (.cells #[.slice A' L c'] 28)).heap.size 28 1 (fun _ => .slice none 0 0) := by rw [hV]; exact heap_alloc_new _ _
    rwa [show ((w.alloc (.cells #[.slice A L c] 28)).alloc (.cells #[.slice A' L c'] 28)).heap.size = w.heap.size + 1 + 1 by simp] at this
  refine (ofTwo_any r n M q p a e A A' L c c' As As' ns cs ns' cs' f f' _ _ (fun j F => F = fun i => (f j i + f' j i) % q j) V (HR.out.ext kV) (Lib.hid (hP.out.ext kV)) (Lib.hid (hP'.out.ext kV)) HE.out (Lib.hid (sum_makes (HR.out.ext kV) (hP.out.ext kV) (hP'.out.ext kV) HE.out _ _ _))).mono ?_
  rintro ee w2 ⟨G, Bs, ds, F, rfl, hpm, hF, k2⟩
  have hr2 := hr0.ext k2
  have c0 := hr2.cell (i := 0) (by omega)
  have z0 := hr2.frozen 0
  have hsz := hr2.lt
  go_wp2_with fail
  have d0 := ret_cell hr2 (.slice (some ⟨G, 0, none⟩) (L) (L))
  have d1 := (kV.trans k2).set (p := ⟨w.heap.size + 1 + 1, 0, none⟩) (by show w.heap.size ≤ w.heap.size + 1 + 1; omega) (.slice (some ⟨G, 0, none⟩) (L) (L))
  have d2 := hpm.aside hr2 rfl (.slice (some ⟨G, 0, none⟩) (L) (L))
  generalize w2.setCell ⟨w.heap.size + 1 + 1, 0, none⟩ (.slice (some ⟨G, 0, none⟩) (L) (L)) = w5 at *
  exact bodyPost_ret (v := .tuple #[.agg #[.slice (some ⟨G, 0, none⟩) (L) (L)], .int .i64 0]) (by simp [results, Tryz.results127, go_sem, d0]) rfl ⟨G, Bs, ds, F, rfl, d2, hF, d1⟩
set_option maxHeartbeats 2000000 in
theorem rAdd_form (r n M : Nat) (q p : Nat → Nat) (a e : Nat → Nat → Nat) (A A' : Option Addr) (L c L' c' : Nat) (As As' : Nat → Option Addr) (ns cs ns' cs' : Nat → Nat) (f f' : Nat → Nat → Nat) (w : World) (hR : Rg w r n M q p a e) (hP : Hid (PB w A L c As ns cs f)) (hP' : Hid (PB w A' L' c' As' ns' cs' f')) (hE : ¬ (El n M q L ns f ∧ El n M q L' ns' f')) :
    Calls Tryz.prog 127 #[.pointer (some ⟨r, 0, none⟩), .agg #[.slice A L c], .agg #[.slice A' L' c']] w (Errs w 3) := by
  have HR := Lib.hid hR
  have HE := Lib.hid hE
  clear hR hE
  go_enter Tryz.func127, Tryz.ntmps127
  go_wp2_with fail
  obtain ⟨V, hV⟩ : ∃ V, V = ((w.alloc (.cells #[.slice A L c] 28)).alloc (.cells #[.slice A' L' c'] 28)).alloc (.cells #[.slice none 0 0] 28) := ⟨_, rfl⟩
  rw [← hV]
  have kV : Ext w V := by rw [hV]; exact ((((Ext.refl w).alloc _).alloc _).alloc _)
  have hr0 : RW V (w.heap.size + 1 + 1) 28 1 (fun _ => .slice none 0 0) := by
    have : RW V ((w.alloc (.cells #[.slice A L c] 28)).alloc (.cells #[.slice A' L' c'] 28)).heap.size 28 1 (fun _ => .slice none 0 0) := by rw [hV]; exact heap_alloc_new _ _
    rwa [show ((w.alloc (.cells #[.slice A L c] 28)).alloc (.cells #[.slice A' L' c'] 28)).heap.size = w.heap.size + 1 + 1 by simp] at this
  refine (ofTwo_form r n M q p a e A A' L c L' c' As As' ns cs ns' cs' f f' _ _ V (HR.out.ext kV) (Lib.hid (hP.out.ext kV)) (Lib.hid (hP'.out.ext kV)) HE.out).mono ?_
  rintro ee w2 ⟨rfl, k2⟩
  have hr2 := hr0.ext k2
  have c0 := hr2.cell (i := 0) (by omega)
  have z0 := hr2.frozen 0
  have hsz := hr2.lt
  go_wp2_with fail
  have d0 := ret_cell hr2 (.slice none 0 0)
  have d1 := (kV.trans k2).set (p := ⟨w.heap.size + 1 + 1, 0, none⟩) (by show w.heap.size ≤ w.heap.size + 1 + 1; omega) (.slice none 0 0)
  generalize w2.setCell ⟨w.heap.size + 1 + 1, 0, none⟩ (.slice none 0 0) = w5 at *
  exact bodyPost_ret (v := .tuple #[.agg #[.slice none 0 0], .int .i64 3]) (by simp [results, Tryz.results127, go_sem, d0]) rfl ⟨rfl, d1⟩
set_option maxHeartbeats 2000000 in
theorem rAdd_level (r n M : Nat) (q p : Nat → Nat) (a e : Nat → Nat → Nat) (A A' : Option Addr) (L c L' c' : Nat) (As As' : Nat → Option Addr) (ns cs ns' cs' : Nat → Nat) (f f' : Nat → Nat → Nat) (w : World) (hR : Rg w r n M q p a e) (hP : Hid (PB w A L c As ns cs f)) (hP' : Hid (PB w A' L' c' As' ns' cs' f')) (hE : El n M q L ns f ∧ El n M q L' ns' f') (hne : L ≠ L') :
    Calls Tryz.prog 127 #[.pointer (some ⟨r, 0, none⟩), .agg #[.slice A L c], .agg #[.slice A' L' c']] w (Errs w 10) := by
  have HR := Lib.hid hR
  have HE := Lib.hid hE
  clear hR hE
  go_enter Tryz.func127, Tryz.ntmps127
  go_wp2_with fail
  obtain ⟨V, hV⟩ : ∃ V, V = ((w.alloc (.cells #[.slice A L c] 28)).alloc (.cells #[.slice A' L' c'] 28)).alloc (.cells #[.slice none 0 0] 28) := ⟨_, rfl⟩
  rw [← hV]
  have kV : Ext w V := by rw [hV]; exact ((((Ext.refl w).alloc _).alloc _).alloc _)
  have hr0 : RW V (w.heap.size + 1 + 1) 28 1 (fun _ => .slice none 0 0) := by
    have : RW V ((w.alloc (.cells #[.slice A L c] 28)).alloc (.cells #[.slice A' L' c'] 28)).heap.size 28 1 (fun _ => .slice none 0 0) := by rw [hV]; exact heap_alloc_new _ _
    rwa [show ((w.alloc (.cells #[.slice A L c] 28)).alloc (.cells #[.slice A' L' c'] 28)).heap.size = w.heap.size + 1 + 1 by simp] at this
  refine (ofTwo_level r n M q p a e A A' L c L' c' As As' ns cs ns' cs' f f' _ _ V (HR.out.ext kV) (Lib.hid (hP.out.ext kV)) (Lib.hid (hP'.out.ext kV)) HE.out hne).mono ?_
  rintro ee w2 ⟨rfl, k2⟩
  have hr2 := hr0.ext k2
  have c0 := hr2.cell (i := 0) (by omega)
  have z0 := hr2.frozen 0
  have hsz := hr2.lt
  go_wp2_with fail
  have d0 := ret_cell hr2 (.slice none 0 0)
  have d1 := (kV.trans k2).set (p := ⟨w.heap.size + 1 + 1, 0, none⟩) (by show w.heap.size ≤ w.heap.size + 1 + 1; omega) (.slice none 0 0)
  generalize w2.setCell ⟨w.heap.size + 1 + 1, 0, none⟩ (.slice none 0 0) = w5 at *
  exact bodyPost_ret (v := .tuple #[.agg #[.slice none 0 0], .int .i64 10]) (by simp [results, Tryz.results127, go_sem, d0]) rfl ⟨rfl, d1⟩
set_option maxHeartbeats 2000000 in
theorem rAdd_nil (A A' : Option Addr) (L c L' c' : Nat) (w : World) :
    Calls Tryz.prog 127 #[.pointer none, .agg #[.slice A L c], .agg #[.slice A' L' c']] w (Errs w 1) := by
  go_enter Tryz.func127, Tryz.ntmps127
  go_wp2_with fail
  obtain ⟨V, hV⟩ : ∃ V, V = ((w.alloc (.cells #[.slice A L c] 28)).alloc (.cells #[.slice A' L' c'] 28)).alloc (.cells #[.slice none 0 0] 28) := ⟨_, rfl⟩
  rw [← hV]
  have kV : Ext w V := by rw [hV]; exact ((((Ext.refl w).alloc _).alloc _).alloc _)
  have hr0 : RW V (w.heap.size + 1 + 1) 28 1 (fun _ => .slice none 0 0) := by
    have : RW V ((w.alloc (.cells #[.slice A L c] 28)).alloc (.cells #[.slice A' L' c'] 28)).heap.size 28 1 (fun _ => .slice none 0 0) := by rw [hV]; exact heap_alloc_new _ _
    rwa [show ((w.alloc (.cells #[.slice A L c] 28)).alloc (.cells #[.slice A' L' c'] 28)).heap.size = w.heap.size + 1 + 1 by simp] at this
  refine (ofTwo_nil A A' L c L' c' _ _ V).mono ?_
  rintro ee w2 ⟨rfl, k2⟩
  have hr2 := hr0.ext k2
  have c0 := hr2.cell (i := 0) (by omega)
  have z0 := hr2.frozen 0
  have hsz := hr2.lt
  go_wp2_with fail
  have d0 := ret_cell hr2 (.slice none 0 0)
  have d1 := (kV.trans k2).set (p := ⟨w.heap.size + 1 + 1, 0, none⟩) (by show w.heap.size ≤ w.heap.size + 1 + 1; omega) (.slice none 0 0)
  generalize w2.setCell ⟨w.heap.size + 1 + 1, 0, none⟩ (.slice none 0 0) = w5 at *
  exact bodyPost_ret (v := .tuple #[.agg #[.slice none 0 0], .int .i64 1]) (by simp [results, Tryz.results127, go_sem, d0]) rfl ⟨rfl, d1⟩
set_option maxHeartbeats 2000000 in
theorem rSub_any (r n M : Nat) (q p : Nat → Nat) (a e : Nat → Nat → Nat) (A A' : Option Addr) (L c c' : Nat) (As As' : Nat → Option Addr) (ns cs ns' cs' : Nat → Nat) (f f' : Nat → Nat → Nat) (w : World) (hR : Rg w r n M q p a e) (hP : Hid (PB w A L c As ns cs f)) (hP' : Hid (PB w A' L c' As' ns' cs' f')) (hE : El n M q L ns f ∧ El n M q L ns' f') :
    Calls Tryz.prog 140 #[.pointer (some ⟨r, 0, none⟩), .agg #[.slice A L c], .agg #[.slice A' L c']] w (Made w n L (fun j F => F = fun i => dif (f j i) (f' j i) (q j))) := by
  have HR := Lib.hid hR
  have HE := Lib.hid hE
  clear hR hE
  go_enter Tryz.func140, Tryz.ntmps140
  go_wp2_with fail
  obtain ⟨V, hV⟩ : ∃ V, V = ((w.alloc (.cells #[.slice A L c] 28)).alloc (.cells #[.slice A' L c'] 28)).alloc (.cells #[.slice none 0 0] 28) := ⟨_, rfl⟩
  rw [← hV]
  have kV : Ext w V := by rw [hV]; exact ((((Ext.refl w).alloc _).alloc _).alloc _)
  have hr0 : RW V (w.heap.size + 1 + 1) 28 1 (fun _ => .slice none 0 0) := by
    have : RW V ((w.alloc (.cells #[.slice A L c] 28)).alloc (.cells #[.slice A' L c'] 28)).heap.size 28 1 (fun _ => .slice none 0 0) := by rw [hV]; exact heap_alloc_new _ _
    rwa [show ((w.alloc (.cells #[.slice A L c] 28)).alloc (.cells #[.slice A' L c'] 28)).heap.size = w.heap.size + 1 + 1 by simp] at this
  refine (ofTwo_any r n M q p a e A A' L c c' As As' ns cs ns' cs' f f' _ _ (fun j F => F = fun i => dif (f j i) (f' j i) (q j)) V (HR.out.ext kV) (Lib.hid (hP.out.ext kV)) (Lib.hid (hP'.out.ext kV)) HE.out (Lib.hid (dif_makes (HR.out.ext kV) (hP.out.ext kV) (hP'.out.ext kV) HE.out _ _ _))).mono ?_
  rintro ee w2 ⟨G, Bs, ds, F, rfl, hpm, hF, k2⟩
  have hr2 := hr0.ext k2
  have c0 := hr2.cell (i := 0) (by omega)
  have z0 := hr2.frozen 0
  have hsz := hr2.lt
  go_wp2_with fail
  have d0 := ret_cell hr2 (.slice (some ⟨G, 0, none⟩) (L) (L))
  have d1 := (kV.trans k2).set (p := ⟨w.heap.size + 1 + 1, 0, none⟩) (by show w.heap.size ≤ w.heap.size + 1 + 1; omega) (.slice (some ⟨G, 0, none⟩) (L) (L))
  have d2 := hpm.aside hr2 rfl (.slice (some ⟨G, 0, none⟩) (L) (L))
  generalize w2.setCell ⟨w.heap.size + 1 + 1, 0, none⟩ (.slice (some ⟨G, 0, none⟩) (L) (L)) = w5 at *
  exact bodyPost_ret (v := .tuple #[.agg #[.slice (some ⟨G, 0, none⟩) (L) (L)], .int .i64 0]) (by simp [results, Tryz.results140, go_sem, d0]) rfl ⟨G, Bs, ds, F, rfl, d2, hF, d1⟩
set_option maxHeartbeats 2000000 in
theorem rSub_form (r n M : Nat) (q p : Nat → Nat) (a e : Nat → Nat → Nat) (A A' : Option Addr) (L c L' c' : Nat) (As As' : Nat → Option Addr) (ns cs ns' cs' : Nat → Nat) (f f' : Nat → Nat → Nat) (w : World) (hR : Rg w r n M q p a e) (hP : Hid (PB w A L c As ns cs f)) (hP' : Hid (PB w A' L' c' As' ns' cs' f')) (hE : ¬ (El n M q L ns f ∧ El n M q L' ns' f')) :
    Calls Tryz.prog 140 #[.pointer (some ⟨r, 0, none⟩), .agg #[.slice A L c], .agg #[.slice A' L' c']] w (Errs w 3) := by
  have HR := Lib.hid hR
  have HE := Lib.hid hE
  clear hR hE
  go_enter Tryz.func140, Tryz.ntmps140
  go_wp2_with fail
  obtain ⟨V, hV⟩ : ∃ V, V = ((w.alloc (.cells #[.slice A L c] 28)).alloc (.cells #[.slice A' L' c'] 28)).alloc (.cells #[.slice none 0 0] 28) := ⟨_, rfl⟩
  rw [← hV]
  have kV : Ext w V := by rw [hV]; exact ((((Ext.refl w).alloc _).alloc _).alloc _)
  have hr0 : RW V (w.heap.size + 1 + 1) 28 1 (fun _ => .slice none 0 0) := by
    have : RW V ((w.alloc (.cells #[.slice A L c] 28)).alloc (.cells #[.slice A' L' c'] 28)).heap.size 28 1 (fun _ => .slice none 0 0) := by rw [hV]; exact heap_alloc_new _ _
    rwa [show ((w.alloc (.cells #[.slice A L c] 28)).alloc (.cells #[.slice A' L' c'] 28)).heap.size = w.heap.size + 1 + 1 by simp] at this
  refine (ofTwo_form r n M q p a e A A' L c L' c' As As' ns cs ns' cs' f f' _ _ V (HR.out.ext kV) (Lib.hid (hP.out.ext kV)) (Lib.hid (hP'.out.ext kV)) HE.out).mono ?_
  rintro ee w2 ⟨rfl, k2⟩
  have hr2 := hr0.ext k2
  have c0 := hr2.cell (i := 0) (by omega)
  have z0 := hr2.frozen 0
  have hsz := hr2.lt
  go_wp2_with fail
  have d0 := ret_cell hr2 (.slice none 0 0)
  have d1 := (kV.trans k2).set (p := ⟨w.heap.size + 1 + 1, 0, none⟩) (by show w.heap.size ≤ w.heap.size + 1 + 1; omega) (.slice none 0 0)
  generalize w2.setCell ⟨w.heap.size + 1 + 1, 0, none⟩ (.slice none 0 0) = w5 at *
  exact bodyPost_ret (v := .tuple #[.agg #[.slice none 0 0], .int .i64 3]) (by simp [results, Tryz.results140, go_sem, d0]) rfl ⟨rfl, d1⟩
set_option maxHeartbeats 2000000 in
theorem rSub_level (r n M : Nat) (q p : Nat → Nat) (a e : Nat → Nat → Nat) (A A' : Option Addr) (L c L' c' : Nat) (As As' : Nat → Option Addr) (ns cs ns' cs' : Nat → Nat) (f f' : Nat → Nat → Nat) (w : World) (hR : Rg w r n M q p a e) (hP : Hid (PB w A L c As ns cs f)) (hP' : Hid (PB w A' L' c' As' ns' cs' f')) (hE : El n M q L ns f ∧ El n M q L' ns' f') (hne : L ≠ L') :
    Calls Tryz.prog 140 #[.pointer (some ⟨r, 0, none⟩), .agg #[.slice A L c], .agg #[.slice A' L' c']] w (Errs w 10) := by
  have HR := Lib.hid hR
  have HE := Lib.hid hE
  clear hR hE
  go_enter Tryz.func140, Tryz.ntmps140
  go_wp2_with fail
  obtain ⟨V, hV⟩ : ∃ V, V = ((w.alloc (.cells #[.slice A L c] 28)).alloc (.cells #[.slice A' L' c'] 28)).alloc (.cells #[.slice none 0 0] 28) := ⟨_, rfl⟩
  rw [← hV]
  have kV : Ext w V := by rw [hV]; exact ((((Ext.refl w).alloc _).alloc _).alloc _)
  have hr0 : RW V (w.heap.size + 1 + 1) 28 1 (fun _ => .slice none 0 0) := by
    have : RW V ((w.alloc (.cells #[.slice A L c] 28)).alloc (.cells #[.slice A' L' c'] 28)).heap.size 28 1 (fun _ => .slice none 0 0) := by rw [hV]; exact heap_alloc_new _ _
    rwa [show ((w.alloc (.cells #[.slice A L c] 28)).alloc (.cells #[.slice A' L' c'] 28)).heap.size = w.heap.size + 1 + 1 by simp] at this
  refine (ofTwo_level r n M q p a e A A' L c L' c' As As' ns cs ns' cs' f f' _ _ V (HR.out.ext kV) (Lib.hid (hP.out.ext kV)) (Lib.hid (hP'.out.ext kV)) HE.out hne).mono ?_
  rintro ee w2 ⟨rfl, k2⟩
  have hr2 := hr0.ext k2
  have c0 := hr2.cell (i := 0) (by omega)
  have z0 := hr2.frozen 0
  have hsz := hr2.lt
  go_wp2_with fail
  have d0 := ret_cell hr2 (.slice none 0 0)
  have d1 := (kV.trans k2).set (p := ⟨w.heap.size + 1 + 1, 0, none⟩) (by show w.heap.size ≤ w.heap.size + 1 + 1; omega) (.slice none 0 0)
  generalize w2.setCell ⟨w.heap.size + 1 + 1, 0, none⟩ (.slice none 0 0) = w5 at *
  exact bodyPost_ret (v := .tuple #[.agg #[.slice none 0 0], .int .i64 10]) (by simp [results, Tryz.results140, go_sem, d0]) rfl ⟨rfl, d1⟩
set_option maxHeartbeats 2000000 in
theorem rSub_nil (A A' : Option Addr) (L c L' c' : Nat) (w : World) :
    Calls Tryz.prog 140 #[.pointer none, .agg #[.slice A L c], .agg #[.slice A' L' c']] w (Errs w 1) := by
  go_enter Tryz.func140, Tryz.ntmps140
  go_wp2_with fail
  obtain ⟨V, hV⟩ : ∃ V, V = ((w.alloc (.cells #[.slice A L c] 28)).alloc (.cells #[.slice A' L' c'] 28)).alloc (.cells #[.slice none 0 0] 28) := ⟨_, rfl⟩
  rw [← hV]
  have kV : Ext w V := by rw [hV]; exact ((((Ext.refl w).alloc _).alloc _).alloc _)
  have hr0 : RW V (w.heap.size + 1 + 1) 28 1 (fun _ => .slice none 0 0) := by
    have : RW V ((w.alloc (.cells #[.slice A L c] 28)).alloc (.cells #[.slice A' L' c'] 28)).heap.size 28 1 (fun _ => .slice none 0 0) := by rw [hV]; exact heap_alloc_new _ _
    rwa [show ((w.alloc (.cells #[.slice A L c] 28)).alloc (.cells #[.slice A' L' c'] 28)).heap.size = w.heap.size + 1 + 1 by simp] at this
  refine (ofTwo_nil A A' L c L' c' _ _ V).mono ?_
  rintro ee w2 ⟨rfl, k2⟩
  have hr2 := hr0.ext k2
  have c0 := hr2.cell (i := 0) (by omega)
  have z0 := hr2.frozen 0
  have hsz := hr2.lt
  go_wp2_with fail
  have d0 := ret_cell hr2 (.slice none 0 0)
  have d1 := (kV.trans k2).set (p := ⟨w.heap.size + 1 + 1, 0, none⟩) (by show w.heap.size ≤ w.heap.size + 1 + 1; omega) (.slice none 0 0)
  generalize w2.setCell ⟨w.heap.size + 1 + 1, 0, none⟩ (.slice none 0 0) = w5 at *
  exact bodyPost_ret (v := .tuple #[.agg #[.slice none 0 0], .int .i64 1]) (by simp [results, Tryz.results140, go_sem, d0]) rfl ⟨rfl, d1⟩
set_option maxHeartbeats 2000000 in
theorem rMul_any (r n M : Nat) (q p : Nat → Nat) (a e : Nat → Nat → Nat) (A A' : Option Addr) (L c c' : Nat) (As As' : Nat → Option Addr) (ns cs ns' cs' : Nat → Nat) (f f' : Nat → Nat → Nat) (w : World) (hR : Rg w r n M q p a e) (hP : Hid (PB w A L c As ns cs f)) (hP' : Hid (PB w A' L c' As' ns' cs' f')) (hE : El n M q L ns f ∧ El n M q L ns' f') (hS : ∀ j, j < L → ∃ x, x < q j ∧ noSq (q j) x = true) :
    Calls Tryz.prog 125 #[.pointer (some ⟨r, 0, none⟩), .agg #[.slice A L c], .agg #[.slice A' L c']] w (Made w n L (fun j F => ∀ i, i < n → F i < q j ∧ Go.Proofs.YtbpehdfpiembfaaGreatDoor.M (q j : Int) (F i : Int) (nega n (fun k => (f j k : Int)) (fun k => (f' j k : Int)) i))) := by
  have HR := Lib.hid hR
  have HE := Lib.hid hE
  clear hR hE
  go_enter Tryz.func125, Tryz.ntmps125
  go_wp2_with fail
  obtain ⟨V, hV⟩ : ∃ V, V = ((w.alloc (.cells #[.slice A L c] 28)).alloc (.cells #[.slice A' L c'] 28)).alloc (.cells #[.slice none 0 0] 28) := ⟨_, rfl⟩
  rw [← hV]
  have kV : Ext w V := by rw [hV]; exact ((((Ext.refl w).alloc _).alloc _).alloc _)
  have hr0 : RW V (w.heap.size + 1 + 1) 28 1 (fun _ => .slice none 0 0) := by
    have : RW V ((w.alloc (.cells #[.slice A L c] 28)).alloc (.cells #[.slice A' L c'] 28)).heap.size 28 1 (fun _ => .slice none 0 0) := by rw [hV]; exact heap_alloc_new _ _
    rwa [show ((w.alloc (.cells #[.slice A L c] 28)).alloc (.cells #[.slice A' L c'] 28)).heap.size = w.heap.size + 1 + 1 by simp] at this
  refine (ofTwo_any r n M q p a e A A' L c c' As As' ns cs ns' cs' f f' _ _ (fun j F => ∀ i, i < n → F i < q j ∧ Go.Proofs.YtbpehdfpiembfaaGreatDoor.M (q j : Int) (F i : Int) (nega n (fun k => (f j k : Int)) (fun k => (f' j k : Int)) i)) V (HR.out.ext kV) (Lib.hid (hP.out.ext kV)) (Lib.hid (hP'.out.ext kV)) HE.out (Lib.hid (prodP_makes (HR.out.ext kV) (hP.out.ext kV) (hP'.out.ext kV) HE.out hS _ _ _))).mono ?_
  rintro ee w2 ⟨G, Bs, ds, F, rfl, hpm, hF, k2⟩
  have hr2 := hr0.ext k2
  have c0 := hr2.cell (i := 0) (by omega)
  have z0 := hr2.frozen 0
  have hsz := hr2.lt
  go_wp2_with fail
  have d0 := ret_cell hr2 (.slice (some ⟨G, 0, none⟩) (L) (L))
  have d1 := (kV.trans k2).set (p := ⟨w.heap.size + 1 + 1, 0, none⟩) (by show w.heap.size ≤ w.heap.size + 1 + 1; omega) (.slice (some ⟨G, 0, none⟩) (L) (L))
  have d2 := hpm.aside hr2 rfl (.slice (some ⟨G, 0, none⟩) (L) (L))
  generalize w2.setCell ⟨w.heap.size + 1 + 1, 0, none⟩ (.slice (some ⟨G, 0, none⟩) (L) (L)) = w5 at *
  exact bodyPost_ret (v := .tuple #[.agg #[.slice (some ⟨G, 0, none⟩) (L) (L)], .int .i64 0]) (by simp [results, Tryz.results125, go_sem, d0]) rfl ⟨G, Bs, ds, F, rfl, d2, hF, d1⟩
set_option maxHeartbeats 2000000 in
theorem rMul_form (r n M : Nat) (q p : Nat → Nat) (a e : Nat → Nat → Nat) (A A' : Option Addr) (L c L' c' : Nat) (As As' : Nat → Option Addr) (ns cs ns' cs' : Nat → Nat) (f f' : Nat → Nat → Nat) (w : World) (hR : Rg w r n M q p a e) (hP : Hid (PB w A L c As ns cs f)) (hP' : Hid (PB w A' L' c' As' ns' cs' f')) (hE : ¬ (El n M q L ns f ∧ El n M q L' ns' f')) :
    Calls Tryz.prog 125 #[.pointer (some ⟨r, 0, none⟩), .agg #[.slice A L c], .agg #[.slice A' L' c']] w (Errs w 3) := by
  have HR := Lib.hid hR
  have HE := Lib.hid hE
  clear hR hE
  go_enter Tryz.func125, Tryz.ntmps125
  go_wp2_with fail
  obtain ⟨V, hV⟩ : ∃ V, V = ((w.alloc (.cells #[.slice A L c] 28)).alloc (.cells #[.slice A' L' c'] 28)).alloc (.cells #[.slice none 0 0] 28) := ⟨_, rfl⟩
  rw [← hV]
  have kV : Ext w V := by rw [hV]; exact ((((Ext.refl w).alloc _).alloc _).alloc _)
  have hr0 : RW V (w.heap.size + 1 + 1) 28 1 (fun _ => .slice none 0 0) := by
    have : RW V ((w.alloc (.cells #[.slice A L c] 28)).alloc (.cells #[.slice A' L' c'] 28)).heap.size 28 1 (fun _ => .slice none 0 0) := by rw [hV]; exact heap_alloc_new _ _
    rwa [show ((w.alloc (.cells #[.slice A L c] 28)).alloc (.cells #[.slice A' L' c'] 28)).heap.size = w.heap.size + 1 + 1 by simp] at this
  refine (ofTwo_form r n M q p a e A A' L c L' c' As As' ns cs ns' cs' f f' _ _ V (HR.out.ext kV) (Lib.hid (hP.out.ext kV)) (Lib.hid (hP'.out.ext kV)) HE.out).mono ?_
  rintro ee w2 ⟨rfl, k2⟩
  have hr2 := hr0.ext k2
  have c0 := hr2.cell (i := 0) (by omega)
  have z0 := hr2.frozen 0
  have hsz := hr2.lt
  go_wp2_with fail
  have d0 := ret_cell hr2 (.slice none 0 0)
  have d1 := (kV.trans k2).set (p := ⟨w.heap.size + 1 + 1, 0, none⟩) (by show w.heap.size ≤ w.heap.size + 1 + 1; omega) (.slice none 0 0)
  generalize w2.setCell ⟨w.heap.size + 1 + 1, 0, none⟩ (.slice none 0 0) = w5 at *
  exact bodyPost_ret (v := .tuple #[.agg #[.slice none 0 0], .int .i64 3]) (by simp [results, Tryz.results125, go_sem, d0]) rfl ⟨rfl, d1⟩
set_option maxHeartbeats 2000000 in
theorem rMul_level (r n M : Nat) (q p : Nat → Nat) (a e : Nat → Nat → Nat) (A A' : Option Addr) (L c L' c' : Nat) (As As' : Nat → Option Addr) (ns cs ns' cs' : Nat → Nat) (f f' : Nat → Nat → Nat) (w : World) (hR : Rg w r n M q p a e) (hP : Hid (PB w A L c As ns cs f)) (hP' : Hid (PB w A' L' c' As' ns' cs' f')) (hE : El n M q L ns f ∧ El n M q L' ns' f') (hne : L ≠ L') :
    Calls Tryz.prog 125 #[.pointer (some ⟨r, 0, none⟩), .agg #[.slice A L c], .agg #[.slice A' L' c']] w (Errs w 10) := by
  have HR := Lib.hid hR
  have HE := Lib.hid hE
  clear hR hE
  go_enter Tryz.func125, Tryz.ntmps125
  go_wp2_with fail
  obtain ⟨V, hV⟩ : ∃ V, V = ((w.alloc (.cells #[.slice A L c] 28)).alloc (.cells #[.slice A' L' c'] 28)).alloc (.cells #[.slice none 0 0] 28) := ⟨_, rfl⟩
  rw [← hV]
  have kV : Ext w V := by rw [hV]; exact ((((Ext.refl w).alloc _).alloc _).alloc _)
  have hr0 : RW V (w.heap.size + 1 + 1) 28 1 (fun _ => .slice none 0 0) := by
    have : RW V ((w.alloc (.cells #[.slice A L c] 28)).alloc (.cells #[.slice A' L' c'] 28)).heap.size 28 1 (fun _ => .slice none 0 0) := by rw [hV]; exact heap_alloc_new _ _
    rwa [show ((w.alloc (.cells #[.slice A L c] 28)).alloc (.cells #[.slice A' L' c'] 28)).heap.size = w.heap.size + 1 + 1 by simp] at this
  refine (ofTwo_level r n M q p a e A A' L c L' c' As As' ns cs ns' cs' f f' _ _ V (HR.out.ext kV) (Lib.hid (hP.out.ext kV)) (Lib.hid (hP'.out.ext kV)) HE.out hne).mono ?_
  rintro ee w2 ⟨rfl, k2⟩
  have hr2 := hr0.ext k2
  have c0 := hr2.cell (i := 0) (by omega)
  have z0 := hr2.frozen 0
  have hsz := hr2.lt
  go_wp2_with fail
  have d0 := ret_cell hr2 (.slice none 0 0)
  have d1 := (kV.trans k2).set (p := ⟨w.heap.size + 1 + 1, 0, none⟩) (by show w.heap.size ≤ w.heap.size + 1 + 1; omega) (.slice none 0 0)
  generalize w2.setCell ⟨w.heap.size + 1 + 1, 0, none⟩ (.slice none 0 0) = w5 at *
  exact bodyPost_ret (v := .tuple #[.agg #[.slice none 0 0], .int .i64 10]) (by simp [results, Tryz.results125, go_sem, d0]) rfl ⟨rfl, d1⟩
set_option maxHeartbeats 2000000 in
theorem rMul_nil (A A' : Option Addr) (L c L' c' : Nat) (w : World) :
    Calls Tryz.prog 125 #[.pointer none, .agg #[.slice A L c], .agg #[.slice A' L' c']] w (Errs w 1) := by
  go_enter Tryz.func125, Tryz.ntmps125
  go_wp2_with fail
  obtain ⟨V, hV⟩ : ∃ V, V = ((w.alloc (.cells #[.slice A L c] 28)).alloc (.cells #[.slice A' L' c'] 28)).alloc (.cells #[.slice none 0 0] 28) := ⟨_, rfl⟩
  rw [← hV]
  have kV : Ext w V := by rw [hV]; exact ((((Ext.refl w).alloc _).alloc _).alloc _)
  have hr0 : RW V (w.heap.size + 1 + 1) 28 1 (fun _ => .slice none 0 0) := by
    have : RW V ((w.alloc (.cells #[.slice A L c] 28)).alloc (.cells #[.slice A' L' c'] 28)).heap.size 28 1 (fun _ => .slice none 0 0) := by rw [hV]; exact heap_alloc_new _ _
    rwa [show ((w.alloc (.cells #[.slice A L c] 28)).alloc (.cells #[.slice A' L' c'] 28)).heap.size = w.heap.size + 1 + 1 by simp] at this
  refine (ofTwo_nil A A' L c L' c' _ _ V).mono ?_
  rintro ee w2 ⟨rfl, k2⟩
  have hr2 := hr0.ext k2
  have c0 := hr2.cell (i := 0) (by omega)
  have z0 := hr2.frozen 0
  have hsz := hr2.lt
  go_wp2_with fail
  have d0 := ret_cell hr2 (.slice none 0 0)
  have d1 := (kV.trans k2).set (p := ⟨w.heap.size + 1 + 1, 0, none⟩) (by show w.heap.size ≤ w.heap.size + 1 + 1; omega) (.slice none 0 0)
  generalize w2.setCell ⟨w.heap.size + 1 + 1, 0, none⟩ (.slice none 0 0) = w5 at *
  exact bodyPost_ret (v := .tuple #[.agg #[.slice none 0 0], .int .i64 1]) (by simp [results, Tryz.results125, go_sem, d0]) rfl ⟨rfl, d1⟩
end Go.Proofs.YtbpehdfpiembfaaGreatDoor

/-
  That two elements which are the same are told to be; the level; the calls of layer 5 whose answers the document fixes.
-/
namespace Go.Proofs.YtbpehdfpiembfaaGreatDoor
open Go.RowKit
set_option linter.unusedVariables false
set_option maxRecDepth 100000

set_option maxHeartbeats 4000000 in
theorem same5_yes (A A' : Option Addr) (L c c' : Nat) (As As' : Nat → Option Addr) (ns cs cs' : Nat → Nat) (f f' : Nat → Nat → Nat) (w : World) (hX : PX w A L c As ns cs f) (hX' : PX w A' L c' As' ns cs' f') (hL : L ≤ 100000) (hn : Hid (∀ j, j < L → ns j ≤ 100000)) (he : Hid (∀ j, j < L → ∀ i, i < ns j → f j i = f' j i)) :
    Calls Tryz.prog 18 #[.agg #[.slice A L c], .agg #[.slice A' L c']] w fun ee w' => ee = .returned (.bool true) ∧ Ext w w' := by
  have HX := Lib.hid hX
  have HX' := Lib.hid hX'
  clear hX hX'
  go_enter Tryz.func18, Tryz.ntmps18
  have kV : Ext w ((w.alloc (.cells #[.slice A L c] 28)).alloc (.cells #[.slice A' L c'] 28)) := ((Ext.refl w).alloc _).alloc _
  have h2 : ((w.alloc (.cells #[.slice A L c] 28)).alloc (.cells #[.slice A' L c'] 28)).cell? ⟨w.heap.size, 0, none⟩ = some (.slice A L c) := cell_ext ((Ext.refl _).alloc _) (one_at w _ _)
  have h3 : ((w.alloc (.cells #[.slice A L c] 28)).alloc (.cells #[.slice A' L c'] 28)).cell? ⟨w.heap.size + 1, 0, none⟩ = some (.slice A' L c') := by
    rw [show w.heap.size + 1 = (w.alloc (.cells #[.slice A L c] 28)).heap.size by simp]
    exact one_at _ _ _
  have hee : ((L : Int) != (L : Int)) = false := by simp
  go_wp2
  generalize (w.alloc (.cells #[.slice A L c] 28)).alloc (.cells #[.slice A' L c'] 28) = V at *
  go_loopw [16] (fun i wr => ∃ m : Nat, m ≤ L ∧ i = .int .i64 (m : Int) ∧ Ext V wr) (fun i _ => L - (intOf i).toNat)
  case atStart => exact ⟨0, by omega, rfl, Ext.refl _⟩
  case round =>
    obtain ⟨m, hm, rfl, kr⟩ := hrel
    by_cases hlt : m < L
    · have kw := kV.trans kr
      obtain ⟨ad, rfl, hc⟩ := (HX.out.ext kw).cells (by omega)
      obtain ⟨ad', rfl, hc'⟩ := (HX'.out.ext kw).cells (by omega)
      have x1 := hc m hlt
      have x2 := hc' m hlt
      have X1 := Lib.hid ((HX.out.ext kw).rows m hlt)
      have X2 := Lib.hid ((HX'.out.ext kw).rows m hlt)
      have y2 := cell_ext kr h2
      have y3 := cell_ext kr h3
      have HEQ := Lib.hid (he.out m hlt)
      have hnm := hn.out m hlt
      clear hc hc'
      have i0 : (0 : Int) ≤ (m : Int) := by omega
      have i1 : (m : Int) < (L : Int) := by omega
      go_wp2_with fail
      go_region_held3 (fun w' => w'.cell? ⟨w.heap.size, 0, none⟩ = some (.slice (some ad) L c) ∧ w'.cell? ⟨w.heap.size + 1, 0, none⟩ = some (.slice (some ad') L c') ∧ w'.cell? (ad.add m) = some (.slice (As m) (ns m) (cs m)) ∧ w'.cell? (ad'.add m) = some (.slice (As' m) (ns m) (cs' m))) (go_keep)
        (first
          | (go_at_call 68; refine (same_any (As m) (As' m) (ns m) (cs m) (cs' m) (f m) (f' m) _ (X1.out.ext (Ext.refl _).drew) (X2.out.ext (Ext.refl _).drew) hnm HEQ).mono ?_; rintro e5 w5 ⟨rfl, k5⟩; have k5' := (Ext.refl _).drew.trans k5; have d0 := cell_ext k5' y2; have d1 := cell_ext k5' y3; have d2 := cell_ext k5' x1; have d3 := cell_ext k5' x2)
          | fail)
      go_wp2
      exact ⟨⟨m + 1, by omega, by go_num, kr.trans k5'⟩, by simp [intOf]; omega⟩
    · go_wp2
      go_ret
      exact ⟨rfl, kV.trans kr⟩
theorem Level_nil (A : Option Addr) (L c : Nat) (w : World) :
    Calls Tryz.prog 65 #[.pointer none, .agg #[.slice A L c]] w fun ee w' => ee = .returned (.tuple #[.int .i64 0, .int .i64 1]) ∧ Ext w w' := by
  go_enter Tryz.func65, Tryz.ntmps65
  go_wp2_with fail
  refine (rcheck_nil _ _ _ _).mono ?_
  rintro ee w' ⟨rfl, rfl⟩
  go_wp2
  go_ret2
  exact ⟨rfl, ((Ext.refl w).alloc _).alloc _⟩
set_option maxHeartbeats 2000000 in
theorem Level_any (r n M : Nat) (q p : Nat → Nat) (a e : Nat → Nat → Nat) (A : Option Addr) (L c : Nat) (As : Nat → Option Addr) (ns cs : Nat → Nat) (f : Nat → Nat → Nat) (w : World) (hR : Rg w r n M q p a e) (hP : Hid (PB w A L c As ns cs f)) :
    Calls Tryz.prog 65 #[.pointer (some ⟨r, 0, none⟩), .agg #[.slice A L c]] w fun ee w' => ((El n M q L ns f ∧ ee = .returned (.tuple #[.int .i64 ((L : Int) - 1), .int .i64 0])) ∨ (¬ El n M q L ns f ∧ ee = .returned (.tuple #[.int .i64 0, .int .i64 3]))) ∧ Ext w w' := by
  have HR := Lib.hid hR
  clear hR
  go_enter Tryz.func65, Tryz.ntmps65
  go_wp2_with fail
  obtain ⟨V, hV⟩ : ∃ V, V = w.alloc (.cells #[.slice A L c] 28) := ⟨_, rfl⟩
  rw [← hV]
  have kV : Ext w V := by rw [hV]; exact (Ext.refl w).alloc _
  have h4 : V.cell? ⟨w.heap.size, 0, none⟩ = some (.slice A L c) := by rw [hV]; exact one_at w _ _
  have hsV : V.heap.size = w.heap.size + 1 := by rw [hV]; simp
  clear hV
  have kX : Ext V (V.alloc (.cells #[.slice A L c] 28)) := (Ext.refl V).alloc _
  have hx : (V.alloc (.cells #[.slice A L c] 28)).cell? ⟨w.heap.size + 1, 0, none⟩ = some (.slice A L c) := by rw [← hsV]; exact one_at _ _ _
  refine (rcheck1 r n M q p a e A L c As ns cs f _ (w.heap.size + 1) hx (HR.out.ext (kV.trans kX)) (Lib.hid (hP.out.ext (kV.trans kX)))).mono ?_
  rintro ee w2 (⟨hE, rfl, k2⟩ | ⟨hE, rfl, k2⟩)
  · have HE := Lib.hid hE
    have y4 := cell_ext (kX.trans k2) h4
    have hLb := hP.out.2.1
    clear hE
    go_wp2_with fail
    refine (levelOf_any A L c w2 hLb).mono ?_
    rintro ee w3 ⟨rfl, k3⟩
    go_wp2
    go_ret2
    exact ⟨.inl ⟨HE.out, rfl⟩, kV.trans (kX.trans (k2.trans k3))⟩
  · have HE := Lib.hid hE
    clear hE
    go_wp2
    go_ret2
    exact ⟨.inr ⟨HE.out, rfl⟩, kV.trans (kX.trans k2)⟩
end Go.Proofs.YtbpehdfpiembfaaGreatDoor

/-
  What the transforms of package ntt make, as functions of the lists and of the table alone, whatever the root is; that they go over sums.
-/
namespace Go.Proofs.YtbpehdfpiembfaaGreatDoor
open Go.RowKit
set_option linter.unusedVariables false
set_option maxRecDepth 100000

/-- A list behind s joins. -/
def trF (q k : Nat) (b : Nat → Nat → Nat) (f : Nat → Nat) : Nat → Nat → Nat
  | 0, i => f (rev k i)
  | s + 1, i => joinF q (2 ^ s) (b s) (trF q k b f s) i
theorem trF_lt {q k n : Nat} {b : Nat → Nat → Nat} {f : Nat → Nat} (hq : 0 < q) (hnk : n = 2 ^ k) (h0 : 1 ≤ k) (h9 : k ≤ 9) (hf : ∀ i, i < n → f i < q) : ∀ s i, i < n → trF q k b f s i < q
  | 0, i, hi => by
    have := (rev_two h0 h9 (show i < 2 ^ k by rw [← hnk]; exact hi)).2
    rw [← hnk] at this
    exact hf _ this
  | s + 1, i, _ => joinF_lt hq i
def onF (k : Nat) (a : Nat → Nat) (s P : Nat) : Nat := a ((2 * P + 1) * 2 ^ (k - (s + 1)))
def baF (n k : Nat) (a : Nat → Nat) (s P : Nat) : Nat := a ((2 * n - 2 * P * 2 ^ (k - (s + 1))) % (2 * n))
set_option maxHeartbeats 2000000 in
theorem transform_onE (p n q k : Nat) (a e : Nat → Nat) (gp ge : Nat) (A : Option Addr) (cp : Nat) (f : Nat → Nat) (w : World) (hT : Tb w w.heap.size p n q a e gp ge) (hnk : Hid (n = 2 ^ k)) (hk0 : 1 ≤ k) (hk9 : k ≤ 9) (hq0 : 2 ≤ q) (hq1 : q ≤ 2305843009213693952) (hal : Hid (∀ i, i < 2 * n → a i < q)) (hX : FX w A n cp f) (hf : Hid (∀ i, i < n → f i < q)) :
    Calls Tryz.prog 274 #[.pointer (some ⟨p, 0, none⟩), .slice A n cp, .func (.func 275) #[.pointer (some ⟨p, 0, none⟩)] #[]] w fun ee w' => ee = .returned (.slice (some ⟨w.heap.size, 0, none⟩) n n) ∧ UW w' w.heap.size n (trF q k (onF k a) f k) ∧ Ext w w' := by
  have HT := Lib.hid hT
  have hp := hT.hp
  have t0 := hT.size
  have hn2 := two_le hk0 hk9
  rw [← hnk.out] at hn2
  obtain ⟨hn0, hn1⟩ := hn2
  have HL := Lib.hid (fun s => trF_lt (b := onF k a) (show 0 < q by omega) hnk.out hk0 hk9 hf.out s)
  clear hT
  obtain ⟨b, hb⟩ : ∃ b, b = onF k a := ⟨_, rfl⟩
  have HB := Lib.hid hb
  rw [← hb] at HL ⊢
  clear hb
  go_enter Tryz.func274, Tryz.ntmps274
  go_wp2_with fail
  refine (scattered_any A n cp k f w hX hnk hk0 hk9).mono ?_
  rintro ee w1 ⟨rfl, hu, k1⟩
  go_wp2_with fail
  go_loopw [8] (fun i wr => ∃ s : Nat, s ≤ k ∧ i = .int .i64 ((2 ^ s : Nat) : Int) ∧ UW wr w.heap.size n (trF q k b f s) ∧ Ext w wr) (fun i _ => n - (intOf i).toNat)
  case atStart => exact ⟨0, by omega, rfl, hu, k1⟩
  case round =>
    obtain ⟨s, hs, rfl, hu2, kr⟩ := hrel
    clear hu k1
    have p0 := cell_ext kr t0
    have hsz := RW.lt hu2
    have hh0 := Nat.two_pow_pos s
    by_cases hlt : s < k
    · have HK := Lib.hid (pow_split hnk.out hlt)
      have hhn : 2 ^ s < n := by rw [hnk.out]; exact Nat.pow_lt_pow_right (by omega) hlt
      have HP := Lib.hid (show 2 ^ (s + 1) = 2 ^ s * 2 by rw [Nat.pow_succ])
      have e1 : k - s - 1 = k - (s + 1) := by omega
      rw [e1] at HK
      clear e1
      have HNX := Lib.hid (show ∀ i, joinF q (2 ^ s) (fun P => a ((2 * P + 1) * 2 ^ (k - (s + 1)))) (trF q k b f s) i = trF q k b f (s + 1) i from fun i => by rw [HB.out]; rfl)
      have HLs := Lib.hid (HL.out s)
      generalize 2 ^ (k - (s + 1)) = K at *
      generalize 2 ^ s = hf2 at *
      go_wp2_with fail
      refine (join_on w.heap.size p n q hf2 K a e gp ge w.heap.size _ wr (HT.out.below kr) hu2 (by omega) (Nat.le_refl _) HK hh0 (by omega) (by omega) (by omega) hq1 HLs hal).mono ?_
      rintro ee w2 ⟨rfl, hu3, k3⟩
      have hu4 := hu3.congr (f' := trF q k b f (s + 1)) fun i _ => HNX.out i
      clear hu3
      go_wp2
      refine ⟨⟨s + 1, by omega, ?_, hu4, Below.trans kr k3⟩, ?_⟩
      · rw [HP.out]; go_num
      · simp [intOf]; omega
    · obtain rfl : s = k := by omega
      have hge : ((2 ^ s : Nat) : Int) = (n : Int) := by rw [hnk.out]
      rw [hge]
      clear hge
      go_wp2
      go_ret
      exact ⟨rfl, hu2, kr⟩
set_option maxHeartbeats 2000000 in
theorem transform_backE (p n q k : Nat) (a e : Nat → Nat) (gp ge : Nat) (A : Option Addr) (cp : Nat) (f : Nat → Nat) (w : World) (hT : Tb w w.heap.size p n q a e gp ge) (hnk : Hid (n = 2 ^ k)) (hk0 : 1 ≤ k) (hk9 : k ≤ 9) (hq0 : 2 ≤ q) (hq1 : q ≤ 2305843009213693952) (hal : Hid (∀ i, i < 2 * n → a i < q)) (hX : FX w A n cp f) (hf : Hid (∀ i, i < n → f i < q)) :
    Calls Tryz.prog 274 #[.pointer (some ⟨p, 0, none⟩), .slice A n cp, .func (.func 276) #[.pointer (some ⟨p, 0, none⟩)] #[]] w fun ee w' => ee = .returned (.slice (some ⟨w.heap.size, 0, none⟩) n n) ∧ UW w' w.heap.size n (trF q k (baF n k a) f k) ∧ Ext w w' := by
  have HT := Lib.hid hT
  have hp := hT.hp
  have t0 := hT.size
  have hn2 := two_le hk0 hk9
  rw [← hnk.out] at hn2
  obtain ⟨hn0, hn1⟩ := hn2
  have HL := Lib.hid (fun s => trF_lt (b := baF n k a) (show 0 < q by omega) hnk.out hk0 hk9 hf.out s)
  clear hT
  obtain ⟨b, hb⟩ : ∃ b, b = baF n k a := ⟨_, rfl⟩
  have HB := Lib.hid hb
  rw [← hb] at HL ⊢
  clear hb
  go_enter Tryz.func274, Tryz.ntmps274
  go_wp2_with fail
  refine (scattered_any A n cp k f w hX hnk hk0 hk9).mono ?_
  rintro ee w1 ⟨rfl, hu, k1⟩
  go_wp2_with fail
  go_loopw [8] (fun i wr => ∃ s : Nat, s ≤ k ∧ i = .int .i64 ((2 ^ s : Nat) : Int) ∧ UW wr w.heap.size n (trF q k b f s) ∧ Ext w wr) (fun i _ => n - (intOf i).toNat)
  case atStart => exact ⟨0, by omega, rfl, hu, k1⟩
  case round =>
    obtain ⟨s, hs, rfl, hu2, kr⟩ := hrel
    clear hu k1
    have p0 := cell_ext kr t0
    have hsz := RW.lt hu2
    have hh0 := Nat.two_pow_pos s
    by_cases hlt : s < k
    · have HK := Lib.hid (pow_split hnk.out hlt)
      have hhn : 2 ^ s < n := by rw [hnk.out]; exact Nat.pow_lt_pow_right (by omega) hlt
      have HP := Lib.hid (show 2 ^ (s + 1) = 2 ^ s * 2 by rw [Nat.pow_succ])
      have e1 : k - s - 1 = k - (s + 1) := by omega
      rw [e1] at HK
      clear e1
      have HNX := Lib.hid (show ∀ i, joinF q (2 ^ s) (fun P => a ((2 * n - 2 * P * 2 ^ (k - (s + 1))) % (2 * n))) (trF q k b f s) i = trF q k b f (s + 1) i from fun i => by rw [HB.out]; rfl)
      have HLs := Lib.hid (HL.out s)
      generalize 2 ^ (k - (s + 1)) = K at *
      generalize 2 ^ s = hf2 at *
      go_wp2_with fail
      refine (join_back w.heap.size p n q hf2 K a e gp ge w.heap.size _ wr (HT.out.below kr) hu2 (by omega) (Nat.le_refl _) HK hh0 (by omega) (by omega) (by omega) hq1 HLs hal).mono ?_
      rintro ee w2 ⟨rfl, hu3, k3⟩
      have hu4 := hu3.congr (f' := trF q k b f (s + 1)) fun i _ => HNX.out i
      clear hu3
      go_wp2
      refine ⟨⟨s + 1, by omega, ?_, hu4, Below.trans kr k3⟩, ?_⟩
      · rw [HP.out]; go_num
      · simp [intOf]; omega
    · obtain rfl : s = k := by omega
      have hge : ((2 ^ s : Nat) : Int) = (n : Int) := by rw [hnk.out]
      rw [hge]
      clear hge
      go_wp2
      go_ret
      exact ⟨rfl, hu2, kr⟩
theorem values_E (p n q k : Nat) (a e : Nat → Nat) (gp ge : Nat) (A : Option Addr) (cp : Nat) (f : Nat → Nat) (w : World) (hT : Tb w w.heap.size p n q a e gp ge) (hnk : Hid (n = 2 ^ k)) (hk0 : 1 ≤ k) (hk9 : k ≤ 9) (hq0 : 2 ≤ q) (hq1 : q ≤ 2305843009213693952) (hal : Hid (∀ i, i < 2 * n → a i < q)) (hX : FX w A n cp f) (hf : Hid (∀ i, i < n → f i < q)) :
    Calls Tryz.prog 252 #[.pointer (some ⟨p, 0, none⟩), .slice A n cp] w fun ee w' => ee = .returned (.slice (some ⟨w.heap.size, 0, none⟩) n n) ∧ UW w' w.heap.size n (trF q k (onF k a) f k) ∧ Ext w w' := by
  have HT := Lib.hid hT
  clear hT
  go_enter Tryz.func252, Tryz.ntmps252
  go_wp2_with fail
  refine (transform_onE p n q k a e gp ge A cp f w HT.out hnk hk0 hk9 hq0 hq1 hal hX hf).mono ?_
  rintro ee w1 ⟨rfl, hu, k1⟩
  go_wp2
  go_ret
  exact ⟨rfl, hu, k1⟩
set_option maxHeartbeats 2000000 in
theorem coefficients_E (p n q k : Nat) (a e : Nat → Nat) (gp ge : Nat) (A : Option Addr) (cp : Nat) (f : Nat → Nat) (w : World) (hT : Tb w w.heap.size p n q a e gp ge) (hnk : Hid (n = 2 ^ k)) (hk0 : 1 ≤ k) (hk9 : k ≤ 9) (hq0 : 2 ≤ q) (hq1 : q ≤ 2305843009213693952) (hal : Hid (∀ i, i < 2 * n → a i < q)) (hel_ : Hid (∀ i, i < n → e i < q)) (hX : FX w A n cp f) (hf : Hid (∀ i, i < n → f i < q)) :
    Calls Tryz.prog 253 #[.pointer (some ⟨p, 0, none⟩), .slice A n cp] w fun ee w' => ee = .returned (.slice (some ⟨w.heap.size, 0, none⟩) n n) ∧ UW w' w.heap.size n (fun i => trF q k (baF n k a) f k i * e i % q) ∧ Ext w w' := by
  have HT := Lib.hid hT
  have t1 := hT.prime
  have t3 := hT.ends
  have hp := hT.hp
  have hge := hT.hge
  have hn2 := two_le hk0 hk9
  rw [← hnk.out] at hn2
  obtain ⟨hn0, hn1⟩ := hn2
  clear hT
  go_enter Tryz.func253, Tryz.ntmps253
  go_wp2_with fail
  refine (transform_backE p n q k a e gp ge A cp f w HT.out hnk hk0 hk9 hq0 hq1 hal hX hf).mono ?_
  rintro ee w1 ⟨rfl, hu, k1⟩
  have HFL := Lib.hid (trF_lt (b := baF n k a) (show 0 < q by omega) hnk.out hk0 hk9 hf.out k)
  obtain ⟨F, hFd⟩ : ∃ F, F = trF q k (baF n k a) f k := ⟨_, rfl⟩
  rw [← hFd] at hu HFL
  have HFD := Lib.hid hFd
  clear hFd
  have t3' := cell_ext k1 t3
  go_wp2_with fail
  clear t3'
  go_loopw [18] (fun i wr => ∃ m : Nat, m ≤ n ∧ i = .int .i64 (m : Int) ∧ UW wr w.heap.size n (fun i => if i < m then F i * e i % q else F i) ∧ Ext w wr) (fun i _ => n - (intOf i).toNat)
  case atStart => exact ⟨0, by omega, rfl, hu.congr fun i _ => by rw [if_neg (by omega)], k1⟩
  case round =>
    obtain ⟨m, hm, rfl, hu2, kr⟩ := hrel
    clear hu
    have hsz := RW.lt hu2
    by_cases hlt : m < n
    · have hen := HT.out.en
      have c0 := cell_ext kr (hen.by_ hlt)
      have c1 := cell_ext kr (hen.share hlt)
      have t1' := cell_ext kr t1
      have f0 := RW.cell hu2 hlt
      have z0 := RW.frozen hu2 m
      have hFl := HFL.out m hlt
      have hel := hel_.out m hlt
      simp only [Nat.lt_irrefl, if_false] at f0
      have HS := Lib.hid (show ∀ i, i < n → (if i = m then F m * e m % q else if i < m then F i * e i % q else F i) = if i < m + 1 then F i * e i % q else F i from fun i _ => by
        by_cases h1 : i = m
        · subst h1; rw [if_pos rfl, if_pos (by omega)]
        · rw [if_neg h1]
          by_cases h2 : i < m
          · rw [if_pos h2, if_pos (by omega)]
          · rw [if_neg h2, if_neg (by omega)])
      generalize F m = Fm at *
      generalize e m = em at *
      have i0 : (0 : Int) ≤ (m : Int) := by omega
      have i1 : (m : Int) < (n : Int) := by omega
      clear hen
      go_wp2_with fail
      have kV : Ext wr (wr.alloc (Obj.cells #[Value.int IntKind.u64 (em : Int), Value.int IntKind.u64 (shr em q : Int)] 231)) := (Ext.refl wr).alloc _
      have x0 : (wr.alloc (Obj.cells #[Value.int IntKind.u64 (em : Int), Value.int IntKind.u64 (shr em q : Int)] 231)).cell? ⟨wr.heap.size, 0, none⟩ = some (.int .u64 (em : Int)) := by simp
      have x1 : (wr.alloc (Obj.cells #[Value.int IntKind.u64 (em : Int), Value.int IntKind.u64 (shr em q : Int)] 231)).cell? ⟨wr.heap.size, 1, none⟩ = some (.int .u64 (shr em q : Int)) := by simp
      generalize wr.alloc (Obj.cells #[Value.int IntKind.u64 (em : Int), Value.int IntKind.u64 (shr em q : Int)] 231) = V at *
      have v0 := cell_ext kV f0
      have v1 := cell_ext kV t1'
      have zV := kept_free kV hsz z0
      have huV := hu2.below (B := 0) kV
      have krV := kr.trans kV
      obtain ⟨X, hX0⟩ : ∃ X, X = wr.heap.size := ⟨_, rfl⟩
      rw [← hX0] at x0 x1 hsz ⊢
      have hXg : X ≠ w.heap.size := by omega
      have hpg : p ≠ w.heap.size := by omega
      clear hX0 f0 z0 t1' c0 c1 kr hu2 kV
      go_region_law (first
          | (go_simp; go_at_call 277; refine (times_m Fm em q _ (by omega) hq1 hel (by omega)).mono ?_; rintro e2 w3 ⟨y, HM, hlm, rfl, k3⟩; have k3' := (Ext.refl _).drew.trans k3; have d0 := cell_ext k3' v0; have z3 := kept_free k3' (RW.lt huV) zV)
          | fail)
      all_goals
        have hu4 := (UW.below (B := 0) huV k3').set hlt y
        have kr4 := (krV.trans k3').set (p := ⟨w.heap.size, m, none⟩) (Nat.le_refl _) (.int .u64 (y : Int))
        have hu5 := hu4.congr (f' := fun i => if i < m + 1 then F i * e i % q else F i) fun i hi => by rw [HM.out]; exact HS.out i hi
        clear hu4 huV
        go_wp2
        exact ⟨⟨m + 1, by omega, by go_num, hu5, kr4⟩, by simp [intOf]; omega⟩
    · obtain rfl : m = n := by omega
      have hfin := hu2.congr (f' := fun i => F i * e i % q) fun i hi => by rw [if_pos hi]
      clear hu2
      go_wp2
      go_ret
      exact ⟨rfl, by rw [← HFD.out]; exact hfin, kr⟩
/-- What Mul makes. -/
def mulF (n q k : Nat) (a e f f' : Nat → Nat) (i : Nat) : Nat := trF q k (baF n k a) (fun j => trF q k (onF k a) f k j * trF q k (onF k a) f' k j % q) k i * e i % q
set_option maxHeartbeats 4000000 in
theorem mulE_any (p n q k : Nat) (a e : Nat → Nat) (gp ge : Nat) (A A' : Option Addr) (c c' : Nat) (f f' : Nat → Nat) (w : World) (hT : Tb w w.heap.size p n q a e gp ge) (hnk : Hid (n = 2 ^ k)) (hk0 : 1 ≤ k) (hk9 : k ≤ 9) (hq0 : 2 ≤ q) (hq1 : q ≤ 2305843009213693952) (hal : Hid (∀ i, i < 2 * n → a i < q)) (hel_ : Hid (∀ i, i < n → e i < q)) (hX : FX w A n c f) (hf : Hid (∀ i, i < n → f i < q)) (hX' : FX w A' n c' f') (hf' : Hid (∀ i, i < n → f' i < q)) :
    Calls Tryz.prog 247 #[.pointer (some ⟨p, 0, none⟩), .slice A n c, .slice A' n c'] w fun ee w' => ∃ g : Nat, ee = .returned (.tuple #[.slice (some ⟨g, 0, none⟩) n n, .int .i64 0]) ∧ UW w' g n (mulF n q k a e f f') ∧ Ext w w' := by
  unfold mulF
  have hn2 := two_le hk0 hk9
  rw [← hnk.out] at hn2
  obtain ⟨hn0, hn1⟩ := hn2
  have HT := Lib.hid hT
  have HX := Lib.hid hX
  have HX' := Lib.hid hX'
  have H1 := Lib.hid (two_lists hX hf.out hX' hf'.out)
  clear hT hX hX'
  go_enter Tryz.func247, Tryz.ntmps247
  go_wp2_with fail
  have kV : Ext w (w.alloc (.cells #[.slice A n c, .slice A' n c'] 23)) := (Ext.refl w).alloc _
  refine (check_yes _ p n q w.heap.size 2 a e gp ge (fun j => if j = 0 then A else A') (fun j => if j = 0 then c else c') (fun j => if j = 0 then f else f') _ (HT.out.ext kV) (by omega) (by omega) (by omega) (by omega) H1).mono ?_
  rintro ee w' ⟨rfl, rfl⟩
  clear H1
  go_wp2_with fail
  refine (values_E p n q k a e gp ge A c f _ (HT.out.ext kV) hnk hk0 hk9 hq0 hq1 hal (HX.out.ext kV) hf).mono ?_
  rintro ee w2 ⟨rfl, hu, k2⟩
  have HF := Lib.hid (trF_lt (b := onF k a) (show 0 < q by omega) hnk.out hk0 hk9 hf.out k)
  obtain ⟨F, hFd⟩ : ∃ F, F = trF q k (onF k a) f k := ⟨_, rfl⟩
  rw [← hFd] at hu HF
  have HFD := Lib.hid hFd
  clear hFd
  rw [show (w.alloc (.cells #[.slice A n c, .slice A' n c'] 23)).heap.size = w.heap.size + 1 by simp] at hu
  have kw2 := kV.trans k2
  clear kV k2
  go_wp2_with fail
  refine (values_E p n q k a e gp ge A' c' f' _ (HT.out.ext kw2) hnk hk0 hk9 hq0 hq1 hal (HX'.out.ext kw2) hf').mono ?_
  rintro ee w3 ⟨rfl, hv, k3⟩
  have HG := Lib.hid (trF_lt (b := onF k a) (show 0 < q by omega) hnk.out hk0 hk9 hf'.out k)
  obtain ⟨G, hGd⟩ : ∃ G, G = trF q k (onF k a) f' k := ⟨_, rfl⟩
  rw [← hGd] at hv HG
  have HGD := Lib.hid hGd
  clear hGd
  have hgs := RW.lt hu
  have hu3 := hu.below (B := 0) k3
  have kw3 := kw2.trans k3
  have hvs := RW.lt hv
  have hne : w2.heap.size ≠ w.heap.size + 1 := by omega
  clear hu kw2 k3
  obtain ⟨g1, hg1⟩ : ∃ g1, g1 = w.heap.size + 1 := ⟨_, rfl⟩
  obtain ⟨g2, hg2⟩ : ∃ g2, g2 = w2.heap.size := ⟨_, rfl⟩
  rw [← hg1] at hu3 hgs hne ⊢
  rw [← hg2] at hv hvs hne hgs ⊢
  have hg1w : w.heap.size ≤ g1 := by omega
  have hg2w : w.heap.size ≤ g2 := by omega
  clear hg1 hg2
  go_wp2_with fail
  go_loopw [27] (fun i wr => ∃ m : Nat, m ≤ n ∧ i = .int .i64 (m : Int) ∧ UW wr g1 n (fun i => if i < m then F i * G i % q else F i) ∧ UW wr g2 n G ∧ Ext w wr) (fun i _ => n - (intOf i).toNat)
  case atStart => exact ⟨0, by omega, rfl, hu3.congr fun i _ => by rw [if_neg (by omega)], hv, kw3⟩
  case round =>
    obtain ⟨m, hm, rfl, hu4, hv4, kr⟩ := hrel
    clear hu3 hv kw3
    have hsz := RW.lt hu4
    by_cases hlt : m < n
    · have t1 := (HT.out.ext kr).prime
      have hp := (HT.out).hp
      have hp2 := kr.size
      have f0 := RW.cell hu4 hlt
      have z0 := RW.frozen hu4 m
      have e0 := RW.cell hv4 hlt
      have hFl := HF.out m hlt
      have hGl := HG.out m hlt
      simp only [Nat.lt_irrefl, if_false] at f0
      have HS := Lib.hid (show ∀ i, i < n → (if i = m then F m * G m % q else if i < m then F i * G i % q else F i) = if i < m + 1 then F i * G i % q else F i from fun i _ => by
        by_cases h1 : i = m
        · subst h1; rw [if_pos rfl, if_pos (by omega)]
        · rw [if_neg h1]
          by_cases h2 : i < m
          · rw [if_pos h2, if_pos (by omega)]
          · rw [if_neg h2, if_neg (by omega)])
      generalize F m = Fm at *
      generalize G m = Gm at *
      have i0 : (0 : Int) ≤ (m : Int) := by omega
      have i1 : (m : Int) < (n : Int) := by omega
      have hpg : p ≠ g1 := by omega
      go_wp2_with fail
      go_region_law (first
          | (go_simp; go_at_call 236; refine (mul_m Fm Gm q _ (by omega) hq1 hGl hFl).mono ?_; rintro e2 w5 ⟨y, HM, hlm, rfl, k5⟩; have k5' := (Ext.refl _).drew.trans k5; have d0 := cell_ext k5' f0; have z3 := kept_free k5' hsz z0)
          | fail)
      all_goals
        have hu5 := (UW.below (B := 0) hu4 k5').set hlt y
        have hv5 := UW.below (B := 0) hv4 k5'
        have hv6 : UW (w5.setCell ⟨g1, m, none⟩ (.int .u64 (y : Int))) g2 n G := RW.keep hv5 (Below.heap_setCell _ _ _ _ (fun e => hne e))
        have kr5 := (kr.trans k5').set (p := ⟨g1, m, none⟩) hg1w (.int .u64 (y : Int))
        have hu6 := hu5.congr (f' := fun i => if i < m + 1 then F i * G i % q else F i) fun i hi => by rw [HM.out]; exact HS.out i hi
        clear hu5 hu4 hv4 hv5
        go_wp2
        exact ⟨⟨m + 1, by omega, by go_num, hu6, hv6, kr5⟩, by simp [intOf]; omega⟩
    · obtain rfl : m = n := by omega
      have hfin := hu4.congr (f' := fun i => F i * G i % q) fun i hi => by rw [if_pos hi]
      have HL := Lib.hid (show ∀ i, i < m → F i * G i % q < q from fun i _ => Nat.mod_lt _ (by omega))
      clear hu4 hv4
      go_wp2_with fail
      refine (coefficients_E p m q k a e gp ge (some ⟨g1, 0, none⟩) m _ _ (HT.out.ext kr) hnk hk0 hk9 hq0 hq1 hal hel_ hfin.fx HL).mono ?_
      rintro ee w6 ⟨rfl, hr6, k6⟩
      go_wp2
      go_ret2
      exact ⟨_, rfl, by rw [← HFD.out, ← HGD.out]; exact hr6, kr.trans k6⟩
/-- Naturals below q that are alike modulo q. -/
theorem lin_join {q : Nat} (hq : 0 < q) (h : Nat) (b F G H : Nat → Nat) (hH : ∀ i, H i = (F i + G i) % q) (i : Nat) : joinF q h b H i = (joinF q h b F i + joinF q h b G i) % q := by
  have hs : ∀ i, M (q : Int) (H i : Int) ((F i : Int) + (G i : Int)) := fun i => by
    rw [hH]; exact (M.nat _).trans (M.of (Int.natCast_add _ _))
  have hm : ∀ (X : Nat → Nat) i c, M (q : Int) ((X i * c % q : Nat) : Int) ((X i : Int) * (c : Int)) := fun X i c => (M.nat _).trans (M.of (Int.natCast_mul _ _))
  refine M.lt (q := q) ?_ (joinF_lt hq i) (Nat.mod_lt _ hq)
  refine M.trans ?_ ((M.nat _).trans (M.of (Int.natCast_add _ _))).symm
  unfold joinF
  by_cases hlt : i % (2 * h) < h
  · simp only [if_pos hlt]
    have one : ∀ X : Nat → Nat, M (q : Int) (((X i + X (i + h) * b (i % (2 * h)) % q) % q : Nat) : Int) ((X i : Int) + (X (i + h) : Int) * (b (i % (2 * h)) : Int)) := fun X => (M.nat _).trans ((M.of (Int.natCast_add _ _)).trans (M.rfl.add (hm X _ _)))
    refine (one H).trans (M.trans ?_ ((one F).add (one G)).symm)
    refine ((hs i).add ((hs (i + h)).mul M.rfl)).trans (M.of ?_)
    rw [Int.add_mul]; omega
  · simp only [if_neg hlt]
    have one : ∀ X : Nat → Nat, M (q : Int) ((dif (X (i - h)) (X i * b (i % (2 * h) - h) % q) q : Nat) : Int) ((X (i - h) : Int) - (X i : Int) * (b (i % (2 * h) - h) : Int)) := fun X => (M.dif (Nat.mod_lt _ hq)).trans (M.rfl.sub (hm X _ _))
    refine (one H).trans (M.trans ?_ ((one F).add (one G)).symm)
    refine ((hs (i - h)).sub ((hs i).mul M.rfl)).trans (M.of ?_)
    rw [Int.add_mul]; omega
theorem lin_tr {q k : Nat} (hq : 0 < q) (b : Nat → Nat → Nat) (f g : Nat → Nat) : ∀ s i, trF q k b (fun i => (f i + g i) % q) s i = (trF q k b f s i + trF q k b g s i) % q
  | 0, i => rfl
  | s + 1, i => lin_join hq _ _ _ _ _ (lin_tr hq b f g s) i
theorem mulF_comm (n q k : Nat) (a e f f' : Nat → Nat) : mulF n q k a e f f' = mulF n q k a e f' f := by
  funext i
  unfold mulF
  rw [show (fun j => trF q k (onF k a) f k j * trF q k (onF k a) f' k j % q) = (fun j => trF q k (onF k a) f' k j * trF q k (onF k a) f k j % q) from funext fun j => by rw [Nat.mul_comm]]
theorem mul_over {q : Nat} (x y z : Nat) : x * ((y + z) % q) % q = (x * y % q + x * z % q) % q := by
  rw [Nat.mul_mod, Nat.mod_mod, ← Nat.mul_mod, Nat.mul_add, Nat.add_mod]
theorem mulF_over {n q k : Nat} (hq : 0 < q) (a e f f' : Nat → Nat) : mulF n q k a e f (fun i => (f i + f' i) % q) = fun i => (mulF n q k a e f f i + mulF n q k a e f f' i) % q := by
  funext i
  unfold mulF
  rw [show (fun j => trF q k (onF k a) f k j * trF q k (onF k a) (fun i => (f i + f' i) % q) k j % q) = (fun j => (trF q k (onF k a) f k j * trF q k (onF k a) f k j % q + trF q k (onF k a) f k j * trF q k (onF k a) f' k j % q) % q) from funext fun j => by rw [lin_tr hq, mul_over]]
  rw [lin_tr hq, Nat.mul_comm, mul_over, Nat.mul_comm (e i), Nat.mul_comm (e i)]
theorem mulF_lt {n q k : Nat} (hq : 0 < q) (a e f f' : Nat → Nat) (i : Nat) : mulF n q k a e f f' i < q := Nat.mod_lt _ hq
end Go.Proofs.YtbpehdfpiembfaaGreatDoor

/-
  What Mul of package ring makes, as a function of the lists and of the tables alone.
-/
namespace Go.Proofs.YtbpehdfpiembfaaGreatDoor
open Go.RowKit
set_option linter.unusedVariables false
set_option maxRecDepth 100000

theorem productE_any (p n q k : Nat) (a e : Nat → Nat) (A A' : Option Addr) (c c' : Nat) (f f' : Nat → Nat) (w : World) (hT : Tab w p n q a e) (hk : Hid (1 ≤ k ∧ k ≤ 9 ∧ n = 2 ^ k)) (hX : FX w A n c f) (hX' : FX w A' n c' f') (hf : Hid (∀ i, i < n → f i < q)) (hf' : Hid (∀ i, i < n → f' i < q)) :
    Calls Tryz.prog 187 #[.agg #[.int .u64 (q : Int), .pointer (some ⟨p, 0, none⟩)], .slice A n c, .slice A' n c'] w fun ee w' => ∃ g : Nat, ee = .returned (.slice (some ⟨g, 0, none⟩) n n) ∧ UW w' g n (mulF n q k a e f f') ∧ Ext w w' := by
  have kV : Ext w (w.alloc (.cells #[.int .u64 (q : Int), .pointer (some ⟨p, 0, none⟩)] 181)) := (Ext.refl w).alloc _
  have HX := Lib.hid (hX.ext kV)
  have HX' := Lib.hid (hX'.ext kV)
  obtain ⟨gp, ge, ht⟩ := (hT.ext kV).tb
  have HT := Lib.hid ht
  have HA := Lib.hid hT.al
  have HE := Lib.hid hT.el
  have hq0 := hT.q0
  have hq1 := hT.q1
  clear hX hX' hT ht
  go_enter Tryz.func187, Tryz.ntmps187
  go_wp2_with fail
  refine (mulE_any p n q k a e gp ge A A' c c' f f' _ HT.out (Lib.hid hk.out.2.2) hk.out.1 hk.out.2.1 hq0 (by omega) HA HE HX.out hf HX'.out hf').mono ?_
  rintro ee w2 ⟨g, rfl, hu, k2⟩
  go_wp2
  go_ret
  exact ⟨g, rfl, hu, kV.trans k2⟩
set_option maxHeartbeats 4000000 in
theorem prodE2_any (b7 b5 b6 n q p L c L' c' cj cj' j : Nat) (A A' Aj Aj' : Option Addr) (f f' : Nat → Nat) (k : Nat) (a e : Nat → Nat) (w : World) (h7 : w.cell? ⟨b7, 0, none⟩ = some (.func (.func 187) #[] #[])) (h5 : w.cell? ⟨b5, 0, none⟩ = some (.slice A L c)) (h6 : w.cell? ⟨b6, 0, none⟩ = some (.slice A' L' c')) (hj : j < L) (hj' : j < L') (hA : ∃ ad, A = some ad ∧ w.cell? (ad.add j) = some (.slice Aj n cj)) (hA' : ∃ ad, A' = some ad ∧ w.cell? (ad.add j) = some (.slice Aj' n cj')) (hX : FX w Aj n cj f) (hX' : FX w Aj' n cj' f') (hn0 : 2 ≤ n) (hn : n ≤ 32) (hL : L ≤ 1000000) (hL' : L' ≤ 1000000) (hq0 : 0 < q) (hq : q < 18446744073709551616) (hf : Hid (∀ i, i < n → f i < q)) (hf' : Hid (∀ i, i < n → f' i < q)) (hT : Tab w p n q a e) (hk : Hid (1 ≤ k ∧ k ≤ 9 ∧ n = 2 ^ k)) :
    Calls Tryz.prog 246 (#[.agg #[.int .u64 (q : Int), .pointer (some ⟨p, 0, none⟩)], .int .i64 (j : Int)] ++ #[.pointer (some ⟨b7, 0, none⟩), .pointer (some ⟨b5, 0, none⟩), .pointer (some ⟨b6, 0, none⟩)]) w fun ee w' => ∃ (A2 : Option Addr) (c2 : Nat) (F : Nat → Nat), ee = .returned (.slice A2 n c2) ∧ FX w' A2 n c2 F ∧ Hid (F = mulF n q k a e f f') ∧ Ext w w' := by
  have kV : Ext w (w.alloc (.cells #[.int .u64 (q : Int), .pointer (some ⟨p, 0, none⟩)] 181)) := (Ext.refl w).alloc _
  have HX := Lib.hid (hX.ext kV)
  have HX' := Lib.hid (hX'.ext kV)
  have x7 := cell_ext kV h7
  have x5 := cell_ext kV h5
  have x6 := cell_ext kV h6
  obtain ⟨ad, rfl, hc⟩ := hA
  obtain ⟨ad', rfl, hc'⟩ := hA'
  have xj := cell_ext kV hc
  have xj' := cell_ext kV hc'
  have hb7 : b7 < w.heap.size := World.block_lt_of_cell? _ _ h7
  have hb5 : b5 < w.heap.size := World.block_lt_of_cell? _ _ h5
  have hb6 : b6 < w.heap.size := World.block_lt_of_cell? _ _ h6
  have HT := Lib.hid (hT.ext kV)
  clear hX hX' hT
  rw [show (#[Value.agg #[.int .u64 (q : Int), .pointer (some ⟨p, 0, none⟩)], .int .i64 (j : Int)] ++ #[.pointer (some ⟨b7, 0, none⟩), .pointer (some ⟨b5, 0, none⟩), .pointer (some ⟨b6, 0, none⟩)] : Array Value) = #[.agg #[.int .u64 (q : Int), .pointer (some ⟨p, 0, none⟩)], .int .i64 (j : Int), .pointer (some ⟨b7, 0, none⟩), .pointer (some ⟨b5, 0, none⟩), .pointer (some ⟨b6, 0, none⟩)] from rfl]
  have i0 : (0 : Int) ≤ (j : Int) := by omega
  have i1 : (j : Int) < (L : Int) := by omega
  have i2 : (j : Int) < (L' : Int) := by omega
  go_enter Tryz.func246, Tryz.ntmps246
  go_wp2_with fail
  have f0 : (w.alloc (.cells #[.int .u64 (q : Int), .pointer (some ⟨p, 0, none⟩)] 181)).cell? ⟨w.heap.size, 0, none⟩ = some (.int .u64 (q : Int)) := by simp
  have f1 : (w.alloc (.cells #[.int .u64 (q : Int), .pointer (some ⟨p, 0, none⟩)] 181)).cell? ⟨w.heap.size, 1, none⟩ = some (.pointer (some ⟨p, 0, none⟩)) := by simp
  generalize w.alloc (.cells #[.int .u64 (q : Int), .pointer (some ⟨p, 0, none⟩)] 181) = V at *
  clear h7 h5 h6 hc hc'
  go_region_held3 (fun w' => w'.cell? ⟨b7, 0, none⟩ = some (.func (.func 187) #[] #[]) ∧ w'.cell? ⟨b5, 0, none⟩ = some (.slice (some ad) L c) ∧ w'.cell? ⟨b6, 0, none⟩ = some (.slice (some ad') L' c') ∧ w'.cell? (ad.add j) = some (.slice Aj n cj) ∧ w'.cell? (ad'.add j) = some (.slice Aj' n cj') ∧ w'.cell? ⟨w.heap.size, 0, none⟩ = some (.int .u64 (q : Int)) ∧ w'.cell? ⟨w.heap.size, 1, none⟩ = some (.pointer (some ⟨p, 0, none⟩))) (go_keep)
    (first
      | (go_at_call 187; refine (productE_any p n q k a e Aj Aj' cj cj' f f' _ (HT.out.ext (Ext.refl _).drew) hk (FX.ext HX.out (Ext.refl _).drew) (FX.ext HX'.out (Ext.refl _).drew) hf hf').mono ?_; rintro e2 w5 ⟨g5, rfl, hu5, k5⟩; have k5' := (Ext.refl _).drew.trans k5; have d0 := cell_ext k5' x7; have d1 := cell_ext k5' x5; have d2 := cell_ext k5' x6; have d3 := cell_ext k5' xj; have d4 := cell_ext k5' xj'; have d5 := cell_ext k5' f0; have d6 := cell_ext k5' f1)
      | fail)
  go_wp2
  go_ret
  exact ⟨_, _, _, rfl, UW.fx hu5, Lib.hid rfl, kV.trans k5'⟩
theorem prodE_makes {w : World} {r n M : Nat} {q p : Nat → Nat} {a e : Nat → Nat → Nat} {A A' : Option Addr} {L c c' : Nat} {As As' : Nat → Option Addr} {ns cs ns' cs' : Nat → Nat} {f f' : Nat → Nat → Nat} (hR : Rg w r n M q p a e) (hP : PB w A L c As ns cs f) (hP' : PB w A' L c' As' ns' cs' f') (hE : El n M q L ns f ∧ El n M q L ns' f') (k : Nat) (hk : Hid (1 ≤ k ∧ k ≤ 9 ∧ n = 2 ^ k)) (b5 b6 b7 : Nat) :
    ∀ w2, Ext w w2 → w2.cell? ⟨b5, 0, none⟩ = some (.slice A L c) → w2.cell? ⟨b6, 0, none⟩ = some (.slice A' L c') → w2.cell? ⟨b7, 0, none⟩ = some (.func (.func 187) #[] #[]) → Makes 246 #[.pointer (some ⟨b7, 0, none⟩), .pointer (some ⟨b5, 0, none⟩), .pointer (some ⟨b6, 0, none⟩)] w2 n L q p (fun j F => F = mulF n (q j) k (a j) (e j) (f j) (f' j)) := fun w2 k2 h5 h6 h7 j w1 hj k1 => by
  obtain ⟨x1, x2, x3⟩ := el_cell (hP.1.ext (k2.trans k1)) hE.1 hj
  obtain ⟨x1', x2', x3'⟩ := el_cell (hP'.1.ext (k2.trans k1)) hE.2 hj
  have hLM := hE.1.2.1
  have hq := hR.ql j (by omega)
  have h32 := hR.l1
  exact prodE2_any b7 b5 b6 n (q j) (p j) L c L c' (cs j) (cs' j) j A A' (As j) (As' j) (f j) (f' j) k (a j) (e j) w1 (cell_ext k1 h7) (cell_ext k1 h5) (cell_ext k1 h6) hj hj x1 x1' x2 x2' hR.n0 hR.n1 (by omega) (by omega) (by omega) (by omega) (Lib.hid x3) (Lib.hid x3') ((hR.ext (k2.trans k1)).tab j (by omega)) hk
set_option maxHeartbeats 2000000 in
theorem rMulE_any (r n M : Nat) (q p : Nat → Nat) (a e : Nat → Nat → Nat) (A A' : Option Addr) (L c c' : Nat) (As As' : Nat → Option Addr) (ns cs ns' cs' : Nat → Nat) (f f' : Nat → Nat → Nat) (w : World) (hR : Rg w r n M q p a e) (hP : Hid (PB w A L c As ns cs f)) (hP' : Hid (PB w A' L c' As' ns' cs' f')) (hE : El n M q L ns f ∧ El n M q L ns' f') (k : Nat) (hk : Hid (1 ≤ k ∧ k ≤ 9 ∧ n = 2 ^ k)) :
    Calls Tryz.prog 125 #[.pointer (some ⟨r, 0, none⟩), .agg #[.slice A L c], .agg #[.slice A' L c']] w (Made w n L (fun j F => F = mulF n (q j) k (a j) (e j) (f j) (f' j))) := by
  have HR := Lib.hid hR
  have HE := Lib.hid hE
  clear hR hE
  go_enter Tryz.func125, Tryz.ntmps125
  go_wp2_with fail
  obtain ⟨V, hV⟩ : ∃ V, V = ((w.alloc (.cells #[.slice A L c] 28)).alloc (.cells #[.slice A' L c'] 28)).alloc (.cells #[.slice none 0 0] 28) := ⟨_, rfl⟩
  rw [← hV]
  have kV : Ext w V := by rw [hV]; exact ((((Ext.refl w).alloc _).alloc _).alloc _)
  have hr0 : RW V (w.heap.size + 1 + 1) 28 1 (fun _ => .slice none 0 0) := by
    have : RW V ((w.alloc (.cells #[.slice A L c] 28)).alloc (.cells #[.slice A' L c'] 28)).heap.size 28 1 (fun _ => .slice none 0 0) := by rw [hV]; exact heap_alloc_new _ _
    rwa [show ((w.alloc (.cells #[.slice A L c] 28)).alloc (.cells #[.slice A' L c'] 28)).heap.size = w.heap.size + 1 + 1 by simp] at this
  refine (ofTwo_any r n M q p a e A A' L c c' As As' ns cs ns' cs' f f' _ _ (fun j F => F = mulF n (q j) k (a j) (e j) (f j) (f' j)) V (HR.out.ext kV) (Lib.hid (hP.out.ext kV)) (Lib.hid (hP'.out.ext kV)) HE.out (Lib.hid (prodE_makes (HR.out.ext kV) (hP.out.ext kV) (hP'.out.ext kV) HE.out k hk _ _ _))).mono ?_
  rintro ee w2 ⟨G, Bs, ds, F, rfl, hpm, hF, k2⟩
  have hr2 := hr0.ext k2
  have c0 := hr2.cell (i := 0) (by omega)
  have z0 := hr2.frozen 0
  have hsz := hr2.lt
  go_wp2_with fail
  have d0 := ret_cell hr2 (.slice (some ⟨G, 0, none⟩) (L) (L))
  have d1 := (kV.trans k2).set (p := ⟨w.heap.size + 1 + 1, 0, none⟩) (by show w.heap.size ≤ w.heap.size + 1 + 1; omega) (.slice (some ⟨G, 0, none⟩) (L) (L))
  have d2 := hpm.aside hr2 rfl (.slice (some ⟨G, 0, none⟩) (L) (L))
  generalize w2.setCell ⟨w.heap.size + 1 + 1, 0, none⟩ (.slice (some ⟨G, 0, none⟩) (L) (L)) = w5 at *
  exact bodyPost_ret (v := .tuple #[.agg #[.slice (some ⟨G, 0, none⟩) (L) (L)], .int .i64 0]) (by simp [results, Tryz.results125, go_sem, d0]) rfl ⟨G, Bs, ds, F, rfl, d2, hF, d1⟩
end Go.Proofs.YtbpehdfpiembfaaGreatDoor
