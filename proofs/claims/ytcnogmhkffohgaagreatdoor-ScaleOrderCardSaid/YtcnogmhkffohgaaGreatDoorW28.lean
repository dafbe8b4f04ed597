/-
  What Add, Sub and Mul of package ring answer.
-/
import Derived.Test.YtcnogmhkffohgaaGreatDoorW27
import Derived.Test.YtcnogmhkffohgaaGreatDoorW9
import Derived.Test.YtcnogmhkffohgaaGreatDoorW26
namespace Go.Proofs.YtcnogmhkffohgaaGreatDoor
open Go.RowKit
set_option linter.unusedVariables false
set_option maxRecDepth 100000

theorem two_at0 (w : World) (v u : Value) (t : TypeId) : (w.alloc (.cells #[v, u] t)).cell? ⟨w.heap.size, 0, none⟩ = some v := by simp
theorem two_at1 (w : World) (v u : Value) (t : TypeId) : (w.alloc (.cells #[v, u] t)).cell? ⟨w.heap.size, 1, none⟩ = some u := by simp
set_option maxHeartbeats 4000000 in
theorem ofTwo_form (r n M : Nat) (q p : Nat → Nat) (a e : Nat → Nat → Nat) (A A' : Option Addr) (L c L' c' : Nat) (As As' : Nat → Option Addr) (ns cs ns' cs' : Nat → Nat) (f f' : Nat → Nat → Nat) (fn : Nat) (cap : Array Value) (w : World) (hR : Rg w r n M q p a e) (hP : Hid (PB w A L c As ns cs f)) (hP' : Hid (PB w A' L' c' As' ns' cs' f')) (hE : ¬ (El n M q L ns f ∧ El n M q L' ns' f')) :
    Calls Tryz.prog 85 #[.pointer (some ⟨r, 0, none⟩), .agg #[.slice A L c], .agg #[.slice A' L' c'], .func (.func fn) #[] cap] w (Errs w 3) := by
  have HR := Lib.hid hR
  have HE := Lib.hid hE
  clear hR hE
  go_enter Tryz.func85, Tryz.ntmps85
  go_wp2_with fail
  obtain ⟨V, hV⟩ : ∃ V, V = (((w.alloc (.cells #[.slice A L c] 36)).alloc (.cells #[.slice A' L' c'] 36)).alloc (.cells #[.func (.func fn) #[] cap] 143)).alloc (.cells #[.slice none 0 0] 36) := ⟨_, rfl⟩
  rw [← hV]
  have kV : Ext w V := by rw [hV]; exact (((((Ext.refl w).alloc _).alloc _).alloc _).alloc _)
  have hr0 : RW V (w.heap.size + 1 + 1 + 1) 36 1 (fun _ => .slice none 0 0) := by
    have : RW V (((w.alloc (.cells #[.slice A L c] 36)).alloc (.cells #[.slice A' L' c'] 36)).alloc (.cells #[.func (.func fn) #[] cap] 143)).heap.size 36 1 (fun _ => .slice none 0 0) := by rw [hV]; exact heap_alloc_new _ _
    rwa [show (((w.alloc (.cells #[.slice A L c] 36)).alloc (.cells #[.slice A' L' c'] 36)).alloc (.cells #[.func (.func fn) #[] cap] 143)).heap.size = w.heap.size + 1 + 1 + 1 by simp] at this
  have h5 : V.cell? ⟨w.heap.size, 0, none⟩ = some (.slice A L c) := by rw [hV]; exact cell_ext ((((Ext.refl _).alloc _).alloc _).alloc _) (one_at w _ _)
  have h6 : V.cell? ⟨w.heap.size + 1, 0, none⟩ = some (.slice A' L' c') := by
    rw [hV, show w.heap.size + 1 = (w.alloc (.cells #[.slice A L c] 36)).heap.size by simp]
    exact cell_ext (((Ext.refl _).alloc _).alloc _) (one_at _ _ _)
  have h7 : V.cell? ⟨w.heap.size + 1 + 1, 0, none⟩ = some (.func (.func fn) #[] cap) := by
    rw [hV, show w.heap.size + 1 + 1 = ((w.alloc (.cells #[.slice A L c] 36)).alloc (.cells #[.slice A' L' c'] 36)).heap.size by simp]
    exact cell_ext ((Ext.refl _).alloc _) (one_at _ _ _)
  have hsV : V.heap.size = w.heap.size + 1 + 1 + 1 + 1 := by rw [hV]; simp
  clear hV
  have kX : Ext V (V.alloc (.cells #[.slice A L c, .slice A' L' c'] 36)) := (Ext.refl V).alloc _
  have hx0 : (V.alloc (.cells #[.slice A L c, .slice A' L' c'] 36)).cell? ⟨w.heap.size + 1 + 1 + 1 + 1, 0, none⟩ = some (.slice A L c) := by rw [← hsV]; exact two_at0 _ _ _ _
  have hx1 : (V.alloc (.cells #[.slice A L c, .slice A' L' c'] 36)).cell? ⟨w.heap.size + 1 + 1 + 1 + 1, 1, none⟩ = some (.slice A' L' c') := by rw [← hsV]; exact two_at1 _ _ _ _
  refine (rcheck2 r n M q p a e A A' L c L' c' As As' ns cs ns' cs' f f' _ (w.heap.size + 1 + 1 + 1 + 1) hx0 hx1 (HR.out.ext (kV.trans kX)) (Lib.hid (hP.out.ext (kV.trans kX))) (Lib.hid (hP'.out.ext (kV.trans kX)))).mono ?_
  intro ee w2 hchk
  obtain ⟨rfl, k2'⟩ := chk_false hchk HE.out
  clear hchk
  have k2 := kX.trans k2'
  have hr2 := hr0.ext k2
  have c0 := hr2.cell (i := 0) (by omega)
  have z0 := hr2.frozen 0
  have hsz := hr2.lt
  go_wp2_with fail
  have d0 := ret_cell hr2 (.slice none 0 0)
  have d1 := (kV.trans k2).set (p := ⟨w.heap.size + 1 + 1 + 1, 0, none⟩) (by show w.heap.size ≤ w.heap.size + 1 + 1 + 1; omega) (.slice none 0 0)
  generalize w2.setCell ⟨w.heap.size + 1 + 1 + 1, 0, none⟩ (.slice none 0 0) = w5 at *
  exact bodyPost_ret (v := .tuple #[.agg #[.slice none 0 0], .int .i64 3]) (by simp [results, Tryz.results85, go_sem, d0]) rfl ⟨rfl, d1⟩
theorem ofTwo_nil (A A' : Option Addr) (L c L' c' : Nat) (fn : Nat) (cap : Array Value) (w : World) :
    Calls Tryz.prog 85 #[.pointer none, .agg #[.slice A L c], .agg #[.slice A' L' c'], .func (.func fn) #[] cap] w (Errs w 1) := by
  go_enter Tryz.func85, Tryz.ntmps85
  go_wp2_with fail
  refine (rcheck_nil _ _ _ _).mono ?_
  rintro ee w' ⟨rfl, rfl⟩
  go_wp2
  exact bodyPost_ret (v := .tuple #[.agg #[.slice none 0 0], .int .i64 1]) (by simp [results, Tryz.results85, go_sem]) rfl ⟨rfl, (((((Ext.refl w).alloc _).alloc _).alloc _).alloc _).alloc _⟩
set_option maxHeartbeats 4000000 in
theorem ofTwo_level (r n M : Nat) (q p : Nat → Nat) (a e : Nat → Nat → Nat) (A A' : Option Addr) (L c L' c' : Nat) (As As' : Nat → Option Addr) (ns cs ns' cs' : Nat → Nat) (f f' : Nat → Nat → Nat) (fn : Nat) (cap : Array Value) (w : World) (hR : Rg w r n M q p a e) (hP : Hid (PB w A L c As ns cs f)) (hP' : Hid (PB w A' L' c' As' ns' cs' f')) (hE : El n M q L ns f ∧ El n M q L' ns' f') (hne : L ≠ L') :
    Calls Tryz.prog 85 #[.pointer (some ⟨r, 0, none⟩), .agg #[.slice A L c], .agg #[.slice A' L' c'], .func (.func fn) #[] cap] w (Errs w 10) := by
  have hl1 := hR.l1
  have HR := Lib.hid hR
  have HE := Lib.hid hE
  clear hR hE
  go_enter Tryz.func85, Tryz.ntmps85
  go_wp2_with fail
  obtain ⟨V, hV⟩ : ∃ V, V = (((w.alloc (.cells #[.slice A L c] 36)).alloc (.cells #[.slice A' L' c'] 36)).alloc (.cells #[.func (.func fn) #[] cap] 143)).alloc (.cells #[.slice none 0 0] 36) := ⟨_, rfl⟩
  rw [← hV]
  have kV : Ext w V := by rw [hV]; exact (((((Ext.refl w).alloc _).alloc _).alloc _).alloc _)
  have hr0 : RW V (w.heap.size + 1 + 1 + 1) 36 1 (fun _ => .slice none 0 0) := by
    have : RW V (((w.alloc (.cells #[.slice A L c] 36)).alloc (.cells #[.slice A' L' c'] 36)).alloc (.cells #[.func (.func fn) #[] cap] 143)).heap.size 36 1 (fun _ => .slice none 0 0) := by rw [hV]; exact heap_alloc_new _ _
    rwa [show (((w.alloc (.cells #[.slice A L c] 36)).alloc (.cells #[.slice A' L' c'] 36)).alloc (.cells #[.func (.func fn) #[] cap] 143)).heap.size = w.heap.size + 1 + 1 + 1 by simp] at this
  have h5 : V.cell? ⟨w.heap.size, 0, none⟩ = some (.slice A L c) := by rw [hV]; exact cell_ext ((((Ext.refl _).alloc _).alloc _).alloc _) (one_at w _ _)
  have h6 : V.cell? ⟨w.heap.size + 1, 0, none⟩ = some (.slice A' L' c') := by
    rw [hV, show w.heap.size + 1 = (w.alloc (.cells #[.slice A L c] 36)).heap.size by simp]
    exact cell_ext (((Ext.refl _).alloc _).alloc _) (one_at _ _ _)
  have h7 : V.cell? ⟨w.heap.size + 1 + 1, 0, none⟩ = some (.func (.func fn) #[] cap) := by
    rw [hV, show w.heap.size + 1 + 1 = ((w.alloc (.cells #[.slice A L c] 36)).alloc (.cells #[.slice A' L' c'] 36)).heap.size by simp]
    exact cell_ext ((Ext.refl _).alloc _) (one_at _ _ _)
  have hsV : V.heap.size = w.heap.size + 1 + 1 + 1 + 1 := by rw [hV]; simp
  clear hV
  have kX : Ext V (V.alloc (.cells #[.slice A L c, .slice A' L' c'] 36)) := (Ext.refl V).alloc _
  have hx0 : (V.alloc (.cells #[.slice A L c, .slice A' L' c'] 36)).cell? ⟨w.heap.size + 1 + 1 + 1 + 1, 0, none⟩ = some (.slice A L c) := by rw [← hsV]; exact two_at0 _ _ _ _
  have hx1 : (V.alloc (.cells #[.slice A L c, .slice A' L' c'] 36)).cell? ⟨w.heap.size + 1 + 1 + 1 + 1, 1, none⟩ = some (.slice A' L' c') := by rw [← hsV]; exact two_at1 _ _ _ _
  refine (rcheck2 r n M q p a e A A' L c L' c' As As' ns cs ns' cs' f f' _ (w.heap.size + 1 + 1 + 1 + 1) hx0 hx1 (HR.out.ext (kV.trans kX)) (Lib.hid (hP.out.ext (kV.trans kX))) (Lib.hid (hP'.out.ext (kV.trans kX)))).mono ?_
  intro ee w2 hchk
  obtain ⟨rfl, k2'⟩ := chk_true hchk HE.out
  clear hchk
  have k2 := kX.trans k2'
  have hr2 := hr0.ext k2
  have y5 := cell_ext k2 h5
  have y6 := cell_ext k2 h6
  have y7 := cell_ext k2 h7
  have hLl := HE.out.1.2.1
  have hLl' := HE.out.2.2.1
  clear hx0 hx1 h5 h6 h7 hr0
  have kk : Ext w2 w2 := Ext.refl w2
  go_wp2_with fail
  go_region_held3 (fun w' => w'.cell? ⟨w.heap.size, 0, none⟩ = some (.slice A L c) ∧ w'.cell? ⟨w.heap.size + 1, 0, none⟩ = some (.slice A' L' c')) (go_keep)
    (first
      | (go_at_call 55; refine (levelOf_any A L c _ (by omega)).mono ?_; rintro e5 w5 ⟨rfl, k5⟩; replace kk : Ext w2 w5 := (by first | exact Ext.trans kk k5 | exact Ext.trans (Ext.drew kk) k5); have d5 := cell_ext kk y5; have d6 := cell_ext kk y6)
      | (go_at_call 55; refine (levelOf_any A' L' c' _ (by omega)).mono ?_; rintro e5 w5 ⟨rfl, k5⟩; replace kk : Ext w2 w5 := (by first | exact Ext.trans kk k5 | exact Ext.trans (Ext.drew kk) k5); have d5 := cell_ext kk y5; have d6 := cell_ext kk y6)
      | fail)
  have hb : ((L : Int) - 1 != (L' : Int) - 1) = true := by simp; omega
  have kz := k2.trans kk
  have hr5 := hr2.ext kk
  have c0 := hr5.cell (i := 0) (by omega)
  have z0 := hr5.frozen 0
  have hsz := hr5.lt
  go_wp2_with fail
  have d0 := ret_cell hr5 (.slice none 0 0)
  have d1 := (kV.trans kz).set (p := ⟨w.heap.size + 1 + 1 + 1, 0, none⟩) (by show w.heap.size ≤ w.heap.size + 1 + 1 + 1; omega) (.slice none 0 0)
  generalize w5.setCell ⟨w.heap.size + 1 + 1 + 1, 0, none⟩ (.slice none 0 0) = w9 at *
  exact bodyPost_ret (v := .tuple #[.agg #[.slice none 0 0], .int .i64 10]) (by simp [results, Tryz.results85, go_sem, d0]) rfl ⟨rfl, d1⟩
set_option maxHeartbeats 4000000 in
theorem ofTwo_any (r n M : Nat) (q p : Nat → Nat) (a e : Nat → Nat → Nat) (A A' : Option Addr) (L c c' : Nat) (As As' : Nat → Option Addr) (ns cs ns' cs' : Nat → Nat) (f f' : Nat → Nat → Nat) (fn : Nat) (cap : Array Value) (R : Nat → (Nat → Nat) → Prop) (w : World) (hR : Rg w r n M q p a e) (hP : Hid (PB w A L c As ns cs f)) (hP' : Hid (PB w A' L c' As' ns' cs' f')) (hE : El n M q L ns f ∧ El n M q L ns' f')
    (hM : Hid (∀ w2, Ext w w2 → w2.cell? ⟨w.heap.size, 0, none⟩ = some (.slice A L c) → w2.cell? ⟨w.heap.size + 1, 0, none⟩ = some (.slice A' L c') → w2.cell? ⟨w.heap.size + 1 + 1, 0, none⟩ = some (.func (.func fn) #[] cap) → Makes 123 #[.pointer (some ⟨w.heap.size + 1 + 1, 0, none⟩), .pointer (some ⟨w.heap.size, 0, none⟩), .pointer (some ⟨w.heap.size + 1, 0, none⟩)] w2 n L q p R)) :
    Calls Tryz.prog 85 #[.pointer (some ⟨r, 0, none⟩), .agg #[.slice A L c], .agg #[.slice A' L c'], .func (.func fn) #[] cap] w (Made w n L R) := by
  have hl1 := hR.l1
  have HR := Lib.hid hR
  have HE := Lib.hid hE
  clear hR hE
  go_enter Tryz.func85, Tryz.ntmps85
  go_wp2_with fail
  obtain ⟨V, hV⟩ : ∃ V, V = (((w.alloc (.cells #[.slice A L c] 36)).alloc (.cells #[.slice A' L c'] 36)).alloc (.cells #[.func (.func fn) #[] cap] 143)).alloc (.cells #[.slice none 0 0] 36) := ⟨_, rfl⟩
  rw [← hV]
  have kV : Ext w V := by rw [hV]; exact (((((Ext.refl w).alloc _).alloc _).alloc _).alloc _)
  have hr0 : RW V (w.heap.size + 1 + 1 + 1) 36 1 (fun _ => .slice none 0 0) := by
    have : RW V (((w.alloc (.cells #[.slice A L c] 36)).alloc (.cells #[.slice A' L c'] 36)).alloc (.cells #[.func (.func fn) #[] cap] 143)).heap.size 36 1 (fun _ => .slice none 0 0) := by rw [hV]; exact heap_alloc_new _ _
    rwa [show (((w.alloc (.cells #[.slice A L c] 36)).alloc (.cells #[.slice A' L c'] 36)).alloc (.cells #[.func (.func fn) #[] cap] 143)).heap.size = w.heap.size + 1 + 1 + 1 by simp] at this
  have h5 : V.cell? ⟨w.heap.size, 0, none⟩ = some (.slice A L c) := by rw [hV]; exact cell_ext ((((Ext.refl _).alloc _).alloc _).alloc _) (one_at w _ _)
  have h6 : V.cell? ⟨w.heap.size + 1, 0, none⟩ = some (.slice A' L c') := by
    rw [hV, show w.heap.size + 1 = (w.alloc (.cells #[.slice A L c] 36)).heap.size by simp]
    exact cell_ext (((Ext.refl _).alloc _).alloc _) (one_at _ _ _)
  have h7 : V.cell? ⟨w.heap.size + 1 + 1, 0, none⟩ = some (.func (.func fn) #[] cap) := by
    rw [hV, show w.heap.size + 1 + 1 = ((w.alloc (.cells #[.slice A L c] 36)).alloc (.cells #[.slice A' L c'] 36)).heap.size by simp]
    exact cell_ext ((Ext.refl _).alloc _) (one_at _ _ _)
  have hsV : V.heap.size = w.heap.size + 1 + 1 + 1 + 1 := by rw [hV]; simp
  clear hV
  have kX : Ext V (V.alloc (.cells #[.slice A L c, .slice A' L c'] 36)) := (Ext.refl V).alloc _
  have hx0 : (V.alloc (.cells #[.slice A L c, .slice A' L c'] 36)).cell? ⟨w.heap.size + 1 + 1 + 1 + 1, 0, none⟩ = some (.slice A L c) := by rw [← hsV]; exact two_at0 _ _ _ _
  have hx1 : (V.alloc (.cells #[.slice A L c, .slice A' L c'] 36)).cell? ⟨w.heap.size + 1 + 1 + 1 + 1, 1, none⟩ = some (.slice A' L c') := by rw [← hsV]; exact two_at1 _ _ _ _
  refine (rcheck2 r n M q p a e A A' L c L c' As As' ns cs ns' cs' f f' _ (w.heap.size + 1 + 1 + 1 + 1) hx0 hx1 (HR.out.ext (kV.trans kX)) (Lib.hid (hP.out.ext (kV.trans kX))) (Lib.hid (hP'.out.ext (kV.trans kX)))).mono ?_
  intro ee w2 hchk
  obtain ⟨rfl, k2'⟩ := chk_true hchk HE.out
  clear hchk
  have k2 := kX.trans k2'
  have hr2 := hr0.ext k2
  have y5 := cell_ext k2 h5
  have y6 := cell_ext k2 h6
  have y7 := cell_ext k2 h7
  have hLl := HE.out.1.2.1
  have hLl' := HE.out.2.2.1
  clear hx0 hx1 h5 h6 h7 hr0
  have kk : Ext w2 w2 := Ext.refl w2
  go_wp2_with fail
  go_region_held3 (fun w' => w'.cell? ⟨w.heap.size, 0, none⟩ = some (.slice A L c) ∧ w'.cell? ⟨w.heap.size + 1, 0, none⟩ = some (.slice A' L c')) (go_keep)
    (first
      | (go_at_call 55; refine (levelOf_any A L c _ (by omega)).mono ?_; rintro e5 w5 ⟨rfl, k5⟩; replace kk : Ext w2 w5 := (by first | exact Ext.trans kk k5 | exact Ext.trans (Ext.drew kk) k5); have d5 := cell_ext kk y5; have d6 := cell_ext kk y6)
      | (go_at_call 55; refine (levelOf_any A' L c' _ (by omega)).mono ?_; rintro e5 w5 ⟨rfl, k5⟩; replace kk : Ext w2 w5 := (by first | exact Ext.trans kk k5 | exact Ext.trans (Ext.drew kk) k5); have d5 := cell_ext kk y5; have d6 := cell_ext kk y6)
      | fail)
  have hb : ((L : Int) - 1 != (L : Int) - 1) = false := by simp
  have kz := kV.trans (k2.trans kk)
  have hr5 := hr2.ext kk
  have hL0 := HE.out.1.1
  go_wp2_with fail
  refine (levelOf_any A L c w5 (by omega)).mono ?_
  rintro ee w6 ⟨rfl, k6⟩
  have u5 := cell_ext (kk.trans k6) y5
  have u6 := cell_ext (kk.trans k6) y6
  have u7 := cell_ext (kk.trans k6) y7
  have hr6 := hr5.ext k6
  have kz6 := kz.trans k6
  obtain ⟨l, rfl⟩ : ∃ l, L = l + 1 := ⟨L - 1, by omega⟩
  have hl : ((l + 1 : Nat) : Int) - 1 = (l : Int) := by omega
  rw [hl]
  go_wp2_with fail
  refine (byPrime_any _ _ r n M l q p a e R _ (HR.out.ext kz6) (by omega) (Lib.hid Tryz.call123) (Lib.hid (hM.out w6 kz6 u5 u6 u7))).mono ?_
  rintro ee w7 ⟨G, Bs, ds, F, rfl, hpm, hF, k7⟩
  have hr7 := hr6.ext k7
  have c0 := hr7.cell (i := 0) (by omega)
  have z0 := hr7.frozen 0
  have hsz := hr7.lt
  go_wp2_with fail
  have d0 := ret_cell hr7 (.slice (some ⟨G, 0, none⟩) (l + 1) (l + 1))
  have d1 := (kz6.trans k7).set (p := ⟨w.heap.size + 1 + 1 + 1, 0, none⟩) (by show w.heap.size ≤ w.heap.size + 1 + 1 + 1; omega) (.slice (some ⟨G, 0, none⟩) (l + 1) (l + 1))
  have d2 := hpm.aside hr7 rfl (.slice (some ⟨G, 0, none⟩) (l + 1) (l + 1))
  generalize w7.setCell ⟨w.heap.size + 1 + 1 + 1, 0, none⟩ (.slice (some ⟨G, 0, none⟩) (l + 1) (l + 1)) = w9 at *
  exact bodyPost_ret (v := .tuple #[.agg #[.slice (some ⟨G, 0, none⟩) (l + 1) (l + 1)], .int .i64 0]) (by simp [results, Tryz.results85, go_sem, d0]) rfl ⟨G, Bs, ds, F, rfl, d2, hF, d1⟩
end Go.Proofs.YtcnogmhkffohgaaGreatDoor

/-
  What Add, Sub and Mul of package ring answer.
-/
namespace Go.Proofs.YtcnogmhkffohgaaGreatDoor
open Go.RowKit
set_option linter.unusedVariables false
set_option maxRecDepth 100000

theorem sum_makes {w : World} {r n M : Nat} {q p : Nat → Nat} {a e : Nat → Nat → Nat} {A A' : Option Addr} {L c c' : Nat} {As As' : Nat → Option Addr} {ns cs ns' cs' : Nat → Nat} {f f' : Nat → Nat → Nat} (hR : Rg w r n M q p a e) (hP : PB w A L c As ns cs f) (hP' : PB w A' L c' As' ns' cs' f') (hE : El n M q L ns f ∧ El n M q L ns' f') (b5 b6 b7 : Nat) :
    ∀ w2, Ext w w2 → w2.cell? ⟨b5, 0, none⟩ = some (.slice A L c) → w2.cell? ⟨b6, 0, none⟩ = some (.slice A' L c') → w2.cell? ⟨b7, 0, none⟩ = some (.func (.func 87) #[] #[]) → Makes 123 #[.pointer (some ⟨b7, 0, none⟩), .pointer (some ⟨b5, 0, none⟩), .pointer (some ⟨b6, 0, none⟩)] w2 n L q p (fun j F => F = fun i => (f j i + f' j i) % q j) := fun w2 k2 h5 h6 h7 j w1 hj k1 => by
  obtain ⟨x1, x2, x3⟩ := el_cell (hP.1.ext (k2.trans k1)) hE.1 hj
  obtain ⟨x1', x2', x3'⟩ := el_cell (hP'.1.ext (k2.trans k1)) hE.2 hj
  have hLM := hE.1.2.1
  have hq := hR.ql j (by omega)
  have h32 := hR.l1
  exact sum2_any b7 b5 b6 n (q j) (p j) L c L c' (cs j) (cs' j) j A A' (As j) (As' j) (f j) (f' j) w1 (cell_ext k1 h7) (cell_ext k1 h5) (cell_ext k1 h6) hj hj x1 x1' x2 x2' hR.n0 hR.n1 (by omega) (by omega) (by omega) (by omega) (Lib.hid x3) (Lib.hid x3')
theorem prodP_makes {w : World} {r n M : Nat} {q p : Nat → Nat} {a e : Nat → Nat → Nat} {A A' : Option Addr} {L c c' : Nat} {As As' : Nat → Option Addr} {ns cs ns' cs' : Nat → Nat} {f f' : Nat → Nat → Nat} (hR : Rg w r n M q p a e) (hP : PB w A L c As ns cs f) (hP' : PB w A' L c' As' ns' cs' f') (hE : El n M q L ns f ∧ El n M q L ns' f') (hS : ∀ j, j < L → ∃ x, x < q j ∧ noSq (q j) x = true) (b5 b6 b7 : Nat) :
    ∀ w2, Ext w w2 → w2.cell? ⟨b5, 0, none⟩ = some (.slice A L c) → w2.cell? ⟨b6, 0, none⟩ = some (.slice A' L c') → w2.cell? ⟨b7, 0, none⟩ = some (.func (.func 86) #[] #[]) → Makes 123 #[.pointer (some ⟨b7, 0, none⟩), .pointer (some ⟨b5, 0, none⟩), .pointer (some ⟨b6, 0, none⟩)] w2 n L q p (fun j F => ∀ i, i < n → F i < q j ∧ Go.Proofs.YtcnogmhkffohgaaGreatDoor.M (q j : Int) (F i : Int) (nega n (fun k => (f j k : Int)) (fun k => (f' j k : Int)) i)) := fun w2 k2 h5 h6 h7 j w1 hj k1 => by
  obtain ⟨x1, x2, x3⟩ := el_cell (hP.1.ext (k2.trans k1)) hE.1 hj
  obtain ⟨x1', x2', x3'⟩ := el_cell (hP'.1.ext (k2.trans k1)) hE.2 hj
  have hLM := hE.1.2.1
  have hq := hR.ql j (by omega)
  have h32 := hR.l1
  obtain ⟨k, r', v, ht⟩ := ((hR.ext (k2.trans k1)).tab j (by omega)).root (hS j hj)
  exact prodP2_any b7 b5 b6 n (q j) (p j) L c L c' (cs j) (cs' j) j A A' (As j) (As' j) (f j) (f' j) k r' v w1 (cell_ext k1 h7) (cell_ext k1 h5) (cell_ext k1 h6) hj hj x1 x1' x2 x2' hR.n0 hR.n1 (by omega) (by omega) (by omega) (by omega) (Lib.hid x3) (Lib.hid x3') ht
set_option maxHeartbeats 2000000 in
theorem rAdd_any (r n M : Nat) (q p : Nat → Nat) (a e : Nat → Nat → Nat) (A A' : Option Addr) (L c c' : Nat) (As As' : Nat → Option Addr) (ns cs ns' cs' : Nat → Nat) (f f' : Nat → Nat → Nat) (w : World) (hR : Rg w r n M q p a e) (hP : Hid (PB w A L c As ns cs f)) (hP' : Hid (PB w A' L c' As' ns' cs' f')) (hE : El n M q L ns f ∧ El n M q L ns' f') :
    Calls Tryz.prog 50 #[.pointer (some ⟨r, 0, none⟩), .agg #[.slice A L c], .agg #[.slice A' L c']] w (Made w n L (fun j F => F = fun i => (f j i + f' j i) % q j)) := by
  have HR := Lib.hid hR
  have HE := Lib.hid hE
  clear hR hE
  go_enter Tryz.func50, Tryz.ntmps50
  go_wp2_with fail
  obtain ⟨V, hV⟩ : ∃ V, V = ((w.alloc (.cells #[.slice A L c] 36)).alloc (.cells #[.slice A' L c'] 36)).alloc (.cells #[.slice none 0 0] 36) := ⟨_, rfl⟩
  rw [← hV]
  have kV : Ext w V := by rw [hV]; exact ((((Ext.refl w).alloc _).alloc _).alloc _)
  have hr0 : RW V (w.heap.size + 1 + 1) 36 1 (fun _ => .slice none 0 0) := by
    have : RW V ((w.alloc (.cells #[.slice A L c] 36)).alloc (.cells #[.slice A' L c'] 36)).heap.size 36 1 (fun _ => .slice none 0 0) := by rw [hV]; exact heap_alloc_new _ _
    rwa [show ((w.alloc (.cells #[.slice A L c] 36)).alloc (.cells #[.slice A' L c'] 36)).heap.size = w.heap.size + 1 + 1 by simp] at this
  refine (ofTwo_any r n M q p a e A A' L c c' As As' ns cs ns' cs' f f' _ _ (fun j F => F = fun i => (f j i + f' j i) % q j) V (HR.out.ext kV) (Lib.hid (hP.out.ext kV)) (Lib.hid (hP'.out.ext kV)) HE.out (Lib.hid (sum_makes (HR.out.ext kV) (hP.out.ext kV) (hP'.out.ext kV) HE.out _ _ _))).mono ?_
  rintro ee w2 ⟨G, Bs, ds, F, rfl, hpm, hF, k2⟩
  have hr2 := hr0.ext k2
  have c0 := hr2.cell (i := 0) (by omega)
  have z0 := hr2.frozen 0
  have hsz := hr2.lt
  go_wp2_with fail
  have d0 := ret_cell hr2 (.slice (some ⟨G, 0, none⟩) (L) (L))
  have d1 := (kV.trans k2).set (p := ⟨w.heap.size + 1 + 1, 0, none⟩) (by show w.heap.size ≤ w.heap.size + 1 + 1; omega) (.slice (some ⟨G, 0, none⟩) (L) (L))
  have d2 := hpm.aside hr2 rfl (.slice (some ⟨G, 0, none⟩) (L) (L))
  generalize w2.setCell ⟨w.heap.size + 1 + 1, 0, none⟩ (.slice (some ⟨G, 0, none⟩) (L) (L)) = w5 at *
  exact bodyPost_ret (v := .tuple #[.agg #[.slice (some ⟨G, 0, none⟩) (L) (L)], .int .i64 0]) (by simp [results, Tryz.results50, go_sem, d0]) rfl ⟨G, Bs, ds, F, rfl, d2, hF, d1⟩
set_option maxHeartbeats 2000000 in
theorem rAdd_form (r n M : Nat) (q p : Nat → Nat) (a e : Nat → Nat → Nat) (A A' : Option Addr) (L c L' c' : Nat) (As As' : Nat → Option Addr) (ns cs ns' cs' : Nat → Nat) (f f' : Nat → Nat → Nat) (w : World) (hR : Rg w r n M q p a e) (hP : Hid (PB w A L c As ns cs f)) (hP' : Hid (PB w A' L' c' As' ns' cs' f')) (hE : ¬ (El n M q L ns f ∧ El n M q L' ns' f')) :
    Calls Tryz.prog 50 #[.pointer (some ⟨r, 0, none⟩), .agg #[.slice A L c], .agg #[.slice A' L' c']] w (Errs w 3) := by
  have HR := Lib.hid hR
  have HE := Lib.hid hE
  clear hR hE
  go_enter Tryz.func50, Tryz.ntmps50
  go_wp2_with fail
  obtain ⟨V, hV⟩ : ∃ V, V = ((w.alloc (.cells #[.slice A L c] 36)).alloc (.cells #[.slice A' L' c'] 36)).alloc (.cells #[.slice none 0 0] 36) := ⟨_, rfl⟩
  rw [← hV]
  have kV : Ext w V := by rw [hV]; exact ((((Ext.refl w).alloc _).alloc _).alloc _)
  have hr0 : RW V (w.heap.size + 1 + 1) 36 1 (fun _ => .slice none 0 0) := by
    have : RW V ((w.alloc (.cells #[.slice A L c] 36)).alloc (.cells #[.slice A' L' c'] 36)).heap.size 36 1 (fun _ => .slice none 0 0) := by rw [hV]; exact heap_alloc_new _ _
    rwa [show ((w.alloc (.cells #[.slice A L c] 36)).alloc (.cells #[.slice A' L' c'] 36)).heap.size = w.heap.size + 1 + 1 by simp] at this
  refine (ofTwo_form r n M q p a e A A' L c L' c' As As' ns cs ns' cs' f f' _ _ V (HR.out.ext kV) (Lib.hid (hP.out.ext kV)) (Lib.hid (hP'.out.ext kV)) HE.out).mono ?_
  rintro ee w2 ⟨rfl, k2⟩
  have hr2 := hr0.ext k2
  have c0 := hr2.cell (i := 0) (by omega)
  have z0 := hr2.frozen 0
  have hsz := hr2.lt
  go_wp2_with fail
  have d0 := ret_cell hr2 (.slice none 0 0)
  have d1 := (kV.trans k2).set (p := ⟨w.heap.size + 1 + 1, 0, none⟩) (by show w.heap.size ≤ w.heap.size + 1 + 1; omega) (.slice none 0 0)
  generalize w2.setCell ⟨w.heap.size + 1 + 1, 0, none⟩ (.slice none 0 0) = w5 at *
  exact bodyPost_ret (v := .tuple #[.agg #[.slice none 0 0], .int .i64 3]) (by simp [results, Tryz.results50, go_sem, d0]) rfl ⟨rfl, d1⟩
set_option maxHeartbeats 2000000 in
theorem rAdd_level (r n M : Nat) (q p : Nat → Nat) (a e : Nat → Nat → Nat) (A A' : Option Addr) (L c L' c' : Nat) (As As' : Nat → Option Addr) (ns cs ns' cs' : Nat → Nat) (f f' : Nat → Nat → Nat) (w : World) (hR : Rg w r n M q p a e) (hP : Hid (PB w A L c As ns cs f)) (hP' : Hid (PB w A' L' c' As' ns' cs' f')) (hE : El n M q L ns f ∧ El n M q L' ns' f') (hne : L ≠ L') :
    Calls Tryz.prog 50 #[.pointer (some ⟨r, 0, none⟩), .agg #[.slice A L c], .agg #[.slice A' L' c']] w (Errs w 10) := by
  have HR := Lib.hid hR
  have HE := Lib.hid hE
  clear hR hE
  go_enter Tryz.func50, Tryz.ntmps50
  go_wp2_with fail
  obtain ⟨V, hV⟩ : ∃ V, V = ((w.alloc (.cells #[.slice A L c] 36)).alloc (.cells #[.slice A' L' c'] 36)).alloc (.cells #[.slice none 0 0] 36) := ⟨_, rfl⟩
  rw [← hV]
  have kV : Ext w V := by rw [hV]; exact ((((Ext.refl w).alloc _).alloc _).alloc _)
  have hr0 : RW V (w.heap.size + 1 + 1) 36 1 (fun _ => .slice none 0 0) := by
    have : RW V ((w.alloc (.cells #[.slice A L c] 36)).alloc (.cells #[.slice A' L' c'] 36)).heap.size 36 1 (fun _ => .slice none 0 0) := by rw [hV]; exact heap_alloc_new _ _
    rwa [show ((w.alloc (.cells #[.slice A L c] 36)).alloc (.cells #[.slice A' L' c'] 36)).heap.size = w.heap.size + 1 + 1 by simp] at this
  refine (ofTwo_level r n M q p a e A A' L c L' c' As As' ns cs ns' cs' f f' _ _ V (HR.out.ext kV) (Lib.hid (hP.out.ext kV)) (Lib.hid (hP'.out.ext kV)) HE.out hne).mono ?_
  rintro ee w2 ⟨rfl, k2⟩
  have hr2 := hr0.ext k2
  have c0 := hr2.cell (i := 0) (by omega)
  have z0 := hr2.frozen 0
  have hsz := hr2.lt
  go_wp2_with fail
  have d0 := ret_cell hr2 (.slice none 0 0)
  have d1 := (kV.trans k2).set (p := ⟨w.heap.size + 1 + 1, 0, none⟩) (by show w.heap.size ≤ w.heap.size + 1 + 1; omega) (.slice none 0 0)
  generalize w2.setCell ⟨w.heap.size + 1 + 1, 0, none⟩ (.slice none 0 0) = w5 at *
  exact bodyPost_ret (v := .tuple #[.agg #[.slice none 0 0], .int .i64 10]) (by simp [results, Tryz.results50, go_sem, d0]) rfl ⟨rfl, d1⟩
set_option maxHeartbeats 2000000 in
theorem rAdd_nil (A A' : Option Addr) (L c L' c' : Nat) (w : World) :
    Calls Tryz.prog 50 #[.pointer none, .agg #[.slice A L c], .agg #[.slice A' L' c']] w (Errs w 1) := by
  go_enter Tryz.func50, Tryz.ntmps50
  go_wp2_with fail
  obtain ⟨V, hV⟩ : ∃ V, V = ((w.alloc (.cells #[.slice A L c] 36)).alloc (.cells #[.slice A' L' c'] 36)).alloc (.cells #[.slice none 0 0] 36) := ⟨_, rfl⟩
  rw [← hV]
  have kV : Ext w V := by rw [hV]; exact ((((Ext.refl w).alloc _).alloc _).alloc _)
  have hr0 : RW V (w.heap.size + 1 + 1) 36 1 (fun _ => .slice none 0 0) := by
    have : RW V ((w.alloc (.cells #[.slice A L c] 36)).alloc (.cells #[.slice A' L' c'] 36)).heap.size 36 1 (fun _ => .slice none 0 0) := by rw [hV]; exact heap_alloc_new _ _
    rwa [show ((w.alloc (.cells #[.slice A L c] 36)).alloc (.cells #[.slice A' L' c'] 36)).heap.size = w.heap.size + 1 + 1 by simp] at this
  refine (ofTwo_nil A A' L c L' c' _ _ V).mono ?_
  rintro ee w2 ⟨rfl, k2⟩
  have hr2 := hr0.ext k2
  have c0 := hr2.cell (i := 0) (by omega)
  have z0 := hr2.frozen 0
  have hsz := hr2.lt
  go_wp2_with fail
  have d0 := ret_cell hr2 (.slice none 0 0)
  have d1 := (kV.trans k2).set (p := ⟨w.heap.size + 1 + 1, 0, none⟩) (by show w.heap.size ≤ w.heap.size + 1 + 1; omega) (.slice none 0 0)
  generalize w2.setCell ⟨w.heap.size + 1 + 1, 0, none⟩ (.slice none 0 0) = w5 at *
  exact bodyPost_ret (v := .tuple #[.agg #[.slice none 0 0], .int .i64 1]) (by simp [results, Tryz.results50, go_sem, d0]) rfl ⟨rfl, d1⟩
set_option maxHeartbeats 2000000 in
theorem rMul_any (r n M : Nat) (q p : Nat → Nat) (a e : Nat → Nat → Nat) (A A' : Option Addr) (L c c' : Nat) (As As' : Nat → Option Addr) (ns cs ns' cs' : Nat → Nat) (f f' : Nat → Nat → Nat) (w : World) (hR : Rg w r n M q p a e) (hP : Hid (PB w A L c As ns cs f)) (hP' : Hid (PB w A' L c' As' ns' cs' f')) (hE : El n M q L ns f ∧ El n M q L ns' f') (hS : ∀ j, j < L → ∃ x, x < q j ∧ noSq (q j) x = true) :
    Calls Tryz.prog 48 #[.pointer (some ⟨r, 0, none⟩), .agg #[.slice A L c], .agg #[.slice A' L c']] w (Made w n L (fun j F => ∀ i, i < n → F i < q j ∧ Go.Proofs.YtcnogmhkffohgaaGreatDoor.M (q j : Int) (F i : Int) (nega n (fun k => (f j k : Int)) (fun k => (f' j k : Int)) i))) := by
  have HR := Lib.hid hR
  have HE := Lib.hid hE
  clear hR hE
  go_enter Tryz.func48, Tryz.ntmps48
  go_wp2_with fail
  obtain ⟨V, hV⟩ : ∃ V, V = ((w.alloc (.cells #[.slice A L c] 36)).alloc (.cells #[.slice A' L c'] 36)).alloc (.cells #[.slice none 0 0] 36) := ⟨_, rfl⟩
  rw [← hV]
  have kV : Ext w V := by rw [hV]; exact ((((Ext.refl w).alloc _).alloc _).alloc _)
  have hr0 : RW V (w.heap.size + 1 + 1) 36 1 (fun _ => .slice none 0 0) := by
    have : RW V ((w.alloc (.cells #[.slice A L c] 36)).alloc (.cells #[.slice A' L c'] 36)).heap.size 36 1 (fun _ => .slice none 0 0) := by rw [hV]; exact heap_alloc_new _ _
    rwa [show ((w.alloc (.cells #[.slice A L c] 36)).alloc (.cells #[.slice A' L c'] 36)).heap.size = w.heap.size + 1 + 1 by simp] at this
  refine (ofTwo_any r n M q p a e A A' L c c' As As' ns cs ns' cs' f f' _ _ (fun j F => ∀ i, i < n → F i < q j ∧ Go.Proofs.YtcnogmhkffohgaaGreatDoor.M (q j : Int) (F i : Int) (nega n (fun k => (f j k : Int)) (fun k => (f' j k : Int)) i)) V (HR.out.ext kV) (Lib.hid (hP.out.ext kV)) (Lib.hid (hP'.out.ext kV)) HE.out (Lib.hid (prodP_makes (HR.out.ext kV) (hP.out.ext kV) (hP'.out.ext kV) HE.out hS _ _ _))).mono ?_
  rintro ee w2 ⟨G, Bs, ds, F, rfl, hpm, hF, k2⟩
  have hr2 := hr0.ext k2
  have c0 := hr2.cell (i := 0) (by omega)
  have z0 := hr2.frozen 0
  have hsz := hr2.lt
  go_wp2_with fail
  have d0 := ret_cell hr2 (.slice (some ⟨G, 0, none⟩) (L) (L))
  have d1 := (kV.trans k2).set (p := ⟨w.heap.size + 1 + 1, 0, none⟩) (by show w.heap.size ≤ w.heap.size + 1 + 1; omega) (.slice (some ⟨G, 0, none⟩) (L) (L))
  have d2 := hpm.aside hr2 rfl (.slice (some ⟨G, 0, none⟩) (L) (L))
  generalize w2.setCell ⟨w.heap.size + 1 + 1, 0, none⟩ (.slice (some ⟨G, 0, none⟩) (L) (L)) = w5 at *
  exact bodyPost_ret (v := .tuple #[.agg #[.slice (some ⟨G, 0, none⟩) (L) (L)], .int .i64 0]) (by simp [results, Tryz.results48, go_sem, d0]) rfl ⟨G, Bs, ds, F, rfl, d2, hF, d1⟩
set_option maxHeartbeats 2000000 in
theorem rMul_form (r n M : Nat) (q p : Nat → Nat) (a e : Nat → Nat → Nat) (A A' : Option Addr) (L c L' c' : Nat) (As As' : Nat → Option Addr) (ns cs ns' cs' : Nat → Nat) (f f' : Nat → Nat → Nat) (w : World) (hR : Rg w r n M q p a e) (hP : Hid (PB w A L c As ns cs f)) (hP' : Hid (PB w A' L' c' As' ns' cs' f')) (hE : ¬ (El n M q L ns f ∧ El n M q L' ns' f')) :
    Calls Tryz.prog 48 #[.pointer (some ⟨r, 0, none⟩), .agg #[.slice A L c], .agg #[.slice A' L' c']] w (Errs w 3) := by
  have HR := Lib.hid hR
  have HE := Lib.hid hE
  clear hR hE
  go_enter Tryz.func48, Tryz.ntmps48
  go_wp2_with fail
  obtain ⟨V, hV⟩ : ∃ V, V = ((w.alloc (.cells #[.slice A L c] 36)).alloc (.cells #[.slice A' L' c'] 36)).alloc (.cells #[.slice none 0 0] 36) := ⟨_, rfl⟩
  rw [← hV]
  have kV : Ext w V := by rw [hV]; exact ((((Ext.refl w).alloc _).alloc _).alloc _)
  have hr0 : RW V (w.heap.size + 1 + 1) 36 1 (fun _ => .slice none 0 0) := by
    have : RW V ((w.alloc (.cells #[.slice A L c] 36)).alloc (.cells #[.slice A' L' c'] 36)).heap.size 36 1 (fun _ => .slice none 0 0) := by rw [hV]; exact heap_alloc_new _ _
    rwa [show ((w.alloc (.cells #[.slice A L c] 36)).alloc (.cells #[.slice A' L' c'] 36)).heap.size = w.heap.size + 1 + 1 by simp] at this
  refine (ofTwo_form r n M q p a e A A' L c L' c' As As' ns cs ns' cs' f f' _ _ V (HR.out.ext kV) (Lib.hid (hP.out.ext kV)) (Lib.hid (hP'.out.ext kV)) HE.out).mono ?_
  rintro ee w2 ⟨rfl, k2⟩
  have hr2 := hr0.ext k2
  have c0 := hr2.cell (i := 0) (by omega)
  have z0 := hr2.frozen 0
  have hsz := hr2.lt
  go_wp2_with fail
  have d0 := ret_cell hr2 (.slice none 0 0)
  have d1 := (kV.trans k2).set (p := ⟨w.heap.size + 1 + 1, 0, none⟩) (by show w.heap.size ≤ w.heap.size + 1 + 1; omega) (.slice none 0 0)
  generalize w2.setCell ⟨w.heap.size + 1 + 1, 0, none⟩ (.slice none 0 0) = w5 at *
  exact bodyPost_ret (v := .tuple #[.agg #[.slice none 0 0], .int .i64 3]) (by simp [results, Tryz.results48, go_sem, d0]) rfl ⟨rfl, d1⟩
set_option maxHeartbeats 2000000 in
theorem rMul_level (r n M : Nat) (q p : Nat → Nat) (a e : Nat → Nat → Nat) (A A' : Option Addr) (L c L' c' : Nat) (As As' : Nat → Option Addr) (ns cs ns' cs' : Nat → Nat) (f f' : Nat → Nat → Nat) (w : World) (hR : Rg w r n M q p a e) (hP : Hid (PB w A L c As ns cs f)) (hP' : Hid (PB w A' L' c' As' ns' cs' f')) (hE : El n M q L ns f ∧ El n M q L' ns' f') (hne : L ≠ L') :
    Calls Tryz.prog 48 #[.pointer (some ⟨r, 0, none⟩), .agg #[.slice A L c], .agg #[.slice A' L' c']] w (Errs w 10) := by
  have HR := Lib.hid hR
  have HE := Lib.hid hE
  clear hR hE
  go_enter Tryz.func48, Tryz.ntmps48
  go_wp2_with fail
  obtain ⟨V, hV⟩ : ∃ V, V = ((w.alloc (.cells #[.slice A L c] 36)).alloc (.cells #[.slice A' L' c'] 36)).alloc (.cells #[.slice none 0 0] 36) := ⟨_, rfl⟩
  rw [← hV]
  have kV : Ext w V := by rw [hV]; exact ((((Ext.refl w).alloc _).alloc _).alloc _)
  have hr0 : RW V (w.heap.size + 1 + 1) 36 1 (fun _ => .slice none 0 0) := by
    have : RW V ((w.alloc (.cells #[.slice A L c] 36)).alloc (.cells #[.slice A' L' c'] 36)).heap.size 36 1 (fun _ => .slice none 0 0) := by rw [hV]; exact heap_alloc_new _ _
    rwa [show ((w.alloc (.cells #[.slice A L c] 36)).alloc (.cells #[.slice A' L' c'] 36)).heap.size = w.heap.size + 1 + 1 by simp] at this
  refine (ofTwo_level r n M q p a e A A' L c L' c' As As' ns cs ns' cs' f f' _ _ V (HR.out.ext kV) (Lib.hid (hP.out.ext kV)) (Lib.hid (hP'.out.ext kV)) HE.out hne).mono ?_
  rintro ee w2 ⟨rfl, k2⟩
  have hr2 := hr0.ext k2
  have c0 := hr2.cell (i := 0) (by omega)
  have z0 := hr2.frozen 0
  have hsz := hr2.lt
  go_wp2_with fail
  have d0 := ret_cell hr2 (.slice none 0 0)
  have d1 := (kV.trans k2).set (p := ⟨w.heap.size + 1 + 1, 0, none⟩) (by show w.heap.size ≤ w.heap.size + 1 + 1; omega) (.slice none 0 0)
  generalize w2.setCell ⟨w.heap.size + 1 + 1, 0, none⟩ (.slice none 0 0) = w5 at *
  exact bodyPost_ret (v := .tuple #[.agg #[.slice none 0 0], .int .i64 10]) (by simp [results, Tryz.results48, go_sem, d0]) rfl ⟨rfl, d1⟩
set_option maxHeartbeats 2000000 in
theorem rMul_nil (A A' : Option Addr) (L c L' c' : Nat) (w : World) :
    Calls Tryz.prog 48 #[.pointer none, .agg #[.slice A L c], .agg #[.slice A' L' c']] w (Errs w 1) := by
  go_enter Tryz.func48, Tryz.ntmps48
  go_wp2_with fail
  obtain ⟨V, hV⟩ : ∃ V, V = ((w.alloc (.cells #[.slice A L c] 36)).alloc (.cells #[.slice A' L' c'] 36)).alloc (.cells #[.slice none 0 0] 36) := ⟨_, rfl⟩
  rw [← hV]
  have kV : Ext w V := by rw [hV]; exact ((((Ext.refl w).alloc _).alloc _).alloc _)
  have hr0 : RW V (w.heap.size + 1 + 1) 36 1 (fun _ => .slice none 0 0) := by
    have : RW V ((w.alloc (.cells #[.slice A L c] 36)).alloc (.cells #[.slice A' L' c'] 36)).heap.size 36 1 (fun _ => .slice none 0 0) := by rw [hV]; exact heap_alloc_new _ _
    rwa [show ((w.alloc (.cells #[.slice A L c] 36)).alloc (.cells #[.slice A' L' c'] 36)).heap.size = w.heap.size + 1 + 1 by simp] at this
  refine (ofTwo_nil A A' L c L' c' _ _ V).mono ?_
  rintro ee w2 ⟨rfl, k2⟩
  have hr2 := hr0.ext k2
  have c0 := hr2.cell (i := 0) (by omega)
  have z0 := hr2.frozen 0
  have hsz := hr2.lt
  go_wp2_with fail
  have d0 := ret_cell hr2 (.slice none 0 0)
  have d1 := (kV.trans k2).set (p := ⟨w.heap.size + 1 + 1, 0, none⟩) (by show w.heap.size ≤ w.heap.size + 1 + 1; omega) (.slice none 0 0)
  generalize w2.setCell ⟨w.heap.size + 1 + 1, 0, none⟩ (.slice none 0 0) = w5 at *
  exact bodyPost_ret (v := .tuple #[.agg #[.slice none 0 0], .int .i64 1]) (by simp [results, Tryz.results48, go_sem, d0]) rfl ⟨rfl, d1⟩
end Go.Proofs.YtcnogmhkffohgaaGreatDoor

/-
  That two elements which are the same are told to be; the level; the calls of layer 5 whose answers the document fixes.
-/
namespace Go.Proofs.YtcnogmhkffohgaaGreatDoor
open Go.RowKit
set_option linter.unusedVariables false
set_option maxRecDepth 100000

set_option maxHeartbeats 4000000 in
theorem same5_yes (A A' : Option Addr) (L c c' : Nat) (As As' : Nat → Option Addr) (ns cs cs' : Nat → Nat) (f f' : Nat → Nat → Nat) (w : World) (hX : PX w A L c As ns cs f) (hX' : PX w A' L c' As' ns cs' f') (hL : L ≤ 100000) (hn : Hid (∀ j, j < L → ns j ≤ 100000)) (he : Hid (∀ j, j < L → ∀ i, i < ns j → f j i = f' j i)) :
    Calls Tryz.prog 9 #[.agg #[.slice A L c], .agg #[.slice A' L c']] w fun ee w' => ee = .returned (.bool true) ∧ Ext w w' := by
  have HX := Lib.hid hX
  have HX' := Lib.hid hX'
  clear hX hX'
  go_enter Tryz.func9, Tryz.ntmps9
  have kV : Ext w ((w.alloc (.cells #[.slice A L c] 36)).alloc (.cells #[.slice A' L c'] 36)) := ((Ext.refl w).alloc _).alloc _
  have h2 : ((w.alloc (.cells #[.slice A L c] 36)).alloc (.cells #[.slice A' L c'] 36)).cell? ⟨w.heap.size, 0, none⟩ = some (.slice A L c) := cell_ext ((Ext.refl _).alloc _) (one_at w _ _)
  have h3 : ((w.alloc (.cells #[.slice A L c] 36)).alloc (.cells #[.slice A' L c'] 36)).cell? ⟨w.heap.size + 1, 0, none⟩ = some (.slice A' L c') := by
    rw [show w.heap.size + 1 = (w.alloc (.cells #[.slice A L c] 36)).heap.size by simp]
    exact one_at _ _ _
  have hee : ((L : Int) != (L : Int)) = false := by simp
  go_wp2
  generalize (w.alloc (.cells #[.slice A L c] 36)).alloc (.cells #[.slice A' L c'] 36) = V at *
  go_loopw [16] (fun i wr => ∃ m : Nat, m ≤ L ∧ i = .int .i64 (m : Int) ∧ Ext V wr) (fun i _ => L - (intOf i).toNat)
  case atStart => exact ⟨0, by omega, rfl, Ext.refl _⟩
  case round =>
    obtain ⟨m, hm, rfl, kr⟩ := hrel
    by_cases hlt : m < L
    · have kw := kV.trans kr
      obtain ⟨ad, rfl, hc⟩ := (HX.out.ext kw).cells (by omega)
      obtain ⟨ad', rfl, hc'⟩ := (HX'.out.ext kw).cells (by omega)
      have x1 := hc m hlt
      have x2 := hc' m hlt
      have X1 := Lib.hid ((HX.out.ext kw).rows m hlt)
      have X2 := Lib.hid ((HX'.out.ext kw).rows m hlt)
      have y2 := cell_ext kr h2
      have y3 := cell_ext kr h3
      have HEQ := Lib.hid (he.out m hlt)
      have hnm := hn.out m hlt
      clear hc hc'
      have i0 : (0 : Int) ≤ (m : Int) := by omega
      have i1 : (m : Int) < (L : Int) := by omega
      go_wp2_with fail
      go_region_held3 (fun w' => w'.cell? ⟨w.heap.size, 0, none⟩ = some (.slice (some ad) L c) ∧ w'.cell? ⟨w.heap.size + 1, 0, none⟩ = some (.slice (some ad') L c') ∧ w'.cell? (ad.add m) = some (.slice (As m) (ns m) (cs m)) ∧ w'.cell? (ad'.add m) = some (.slice (As' m) (ns m) (cs' m))) (go_keep)
        (first
          | (go_at_call 27; refine (same_any (As m) (As' m) (ns m) (cs m) (cs' m) (f m) (f' m) _ (X1.out.ext (Ext.refl _).drew) (X2.out.ext (Ext.refl _).drew) hnm HEQ).mono ?_; rintro e5 w5 ⟨rfl, k5⟩; have k5' := (Ext.refl _).drew.trans k5; have d0 := cell_ext k5' y2; have d1 := cell_ext k5' y3; have d2 := cell_ext k5' x1; have d3 := cell_ext k5' x2)
          | fail)
      go_wp2
      exact ⟨⟨m + 1, by omega, by go_num, kr.trans k5'⟩, by simp [intOf]; omega⟩
    · go_wp2
      go_ret
      exact ⟨rfl, kV.trans kr⟩
theorem Level_nil (A : Option Addr) (L c : Nat) (w : World) :
    Calls Tryz.prog 32 #[.pointer none, .agg #[.slice A L c]] w fun ee w' => ee = .returned (.tuple #[.int .i64 0, .int .i64 1]) ∧ Ext w w' := by
  go_enter Tryz.func32, Tryz.ntmps32
  go_wp2_with fail
  refine (rcheck_nil _ _ _ _).mono ?_
  rintro ee w' ⟨rfl, rfl⟩
  go_wp2
  go_ret2
  exact ⟨rfl, ((Ext.refl w).alloc _).alloc _⟩
set_option maxHeartbeats 2000000 in
theorem Level_any (r n M : Nat) (q p : Nat → Nat) (a e : Nat → Nat → Nat) (A : Option Addr) (L c : Nat) (As : Nat → Option Addr) (ns cs : Nat → Nat) (f : Nat → Nat → Nat) (w : World) (hR : Rg w r n M q p a e) (hP : Hid (PB w A L c As ns cs f)) :
    Calls Tryz.prog 32 #[.pointer (some ⟨r, 0, none⟩), .agg #[.slice A L c]] w fun ee w' => ((El n M q L ns f ∧ ee = .returned (.tuple #[.int .i64 ((L : Int) - 1), .int .i64 0])) ∨ (¬ El n M q L ns f ∧ ee = .returned (.tuple #[.int .i64 0, .int .i64 3]))) ∧ Ext w w' := by
  have HR := Lib.hid hR
  clear hR
  go_enter Tryz.func32, Tryz.ntmps32
  go_wp2_with fail
  obtain ⟨V, hV⟩ : ∃ V, V = w.alloc (.cells #[.slice A L c] 36) := ⟨_, rfl⟩
  rw [← hV]
  have kV : Ext w V := by rw [hV]; exact (Ext.refl w).alloc _
  have h4 : V.cell? ⟨w.heap.size, 0, none⟩ = some (.slice A L c) := by rw [hV]; exact one_at w _ _
  have hsV : V.heap.size = w.heap.size + 1 := by rw [hV]; simp
  clear hV
  have kX : Ext V (V.alloc (.cells #[.slice A L c] 36)) := (Ext.refl V).alloc _
  have hx : (V.alloc (.cells #[.slice A L c] 36)).cell? ⟨w.heap.size + 1, 0, none⟩ = some (.slice A L c) := by rw [← hsV]; exact one_at _ _ _
  refine (rcheck1 r n M q p a e A L c As ns cs f _ (w.heap.size + 1) hx (HR.out.ext (kV.trans kX)) (Lib.hid (hP.out.ext (kV.trans kX)))).mono ?_
  rintro ee w2 (⟨hE, rfl, k2⟩ | ⟨hE, rfl, k2⟩)
  · have HE := Lib.hid hE
    have y4 := cell_ext (kX.trans k2) h4
    have hLb := hP.out.2.1
    clear hE
    go_wp2_with fail
    refine (levelOf_any A L c w2 hLb).mono ?_
    rintro ee w3 ⟨rfl, k3⟩
    go_wp2
    go_ret2
    exact ⟨.inl ⟨HE.out, rfl⟩, kV.trans (kX.trans (k2.trans k3))⟩
  · have HE := Lib.hid hE
    clear hE
    go_wp2
    go_ret2
    exact ⟨.inr ⟨HE.out, rfl⟩, kV.trans (kX.trans k2)⟩
end Go.Proofs.YtcnogmhkffohgaaGreatDoor

/-
  The wide rings' primes: the first sixteen below 2^61 that are 1 modulo 16, 32 and 64, and what Search answers of them.
-/
namespace Go.Proofs.YtcnogmhkffohgaaGreatDoor
open Go.RowKit
set_option linter.unusedVariables false
set_option maxRecDepth 100000

/-- Those that pass, by squares. -/
def filtP (b q : Nat) : Nat → List Nat
  | 0 => []
  | k + 1 => filtP b q k ++ (cond (isP (num b q k)) [num b q k] [])
theorem filtP_eq {b q : Nat} (hb : q * b + 1 < 18446744073709551616) : ∀ k, (∀ j, j < k → 2 ≤ num b q j) → filt b q k = filtP b q k
  | 0, _ => rfl
  | k + 1, h => by
    have ih := filtP_eq hb k (fun j hj => h j (by omega))
    have h2 := h k (by omega)
    have h3 : num b q k < 18446744073709551616 := by
      unfold num
      have := Nat.mul_le_mul_right b (Nat.sub_le q k)
      omega
    rw [filt, filtP, ih, isP_eq h2 h3]
    cases isP (num b q k) <;> rfl
def wideL16 : List Nat := [2305843009213693921, 2305843009213693153, 2305843009213692737, 2305843009213692097, 2305843009213691569, 2305843009213691041, 2305843009213690801, 2305843009213690769, 2305843009213690657, 2305843009213689937, 2305843009213689601, 2305843009213689521, 2305843009213689377, 2305843009213689089, 2305843009213688849, 2305843009213688689]
def wideL32 : List Nat := [2305843009213693921, 2305843009213693153, 2305843009213692737, 2305843009213692097, 2305843009213691041, 2305843009213690657, 2305843009213689601, 2305843009213689377, 2305843009213689089, 2305843009213687297, 2305843009213686401, 2305843009213685729, 2305843009213685569, 2305843009213685441, 2305843009213685377, 2305843009213685057]
def wideL64 : List Nat := [2305843009213692737, 2305843009213692097, 2305843009213689601, 2305843009213689089, 2305843009213687297, 2305843009213686401, 2305843009213685569, 2305843009213685441, 2305843009213685377, 2305843009213685057, 2305843009213683713, 2305843009213683521, 2305843009213683073, 2305843009213682689, 2305843009213681793, 2305843009213680257]
theorem wide16 : filtP 16 144115188075855871 329 = wideL16 := by decide +kernel
theorem wide32 : filtP 32 72057594037927935 278 = wideL32 := by decide +kernel
theorem wide64 : filtP 64 36028797018963967 214 = wideL64 := by decide +kernel
/-- The wide primes of a step. -/
def wideL (b : Nat) : List Nat := if b = 16 then wideL16 else if b = 32 then wideL32 else wideL64
def wideK (b : Nat) : Nat := if b = 16 then 329 else if b = 32 then 278 else 214
def StepW (b : Nat) : Prop := b = 16 ∨ b = 32 ∨ b = 64
theorem num_low {b : Nat} (hb : StepW b) {j : Nat} (hj : j ≤ wideK b) : 1152921504606846976 < num b ((2 ^ 61 - 2) / b) j := by
  rcases hb with rfl | rfl | rfl
  · have : wideK 16 = 329 := by decide
    rw [show (2 ^ 61 - 2) / 16 = 144115188075855871 by decide]
    unfold num; omega
  · have : wideK 32 = 278 := by decide
    rw [show (2 ^ 61 - 2) / 32 = 72057594037927935 by decide]
    unfold num; omega
  · have : wideK 64 = 214 := by decide
    rw [show (2 ^ 61 - 2) / 64 = 36028797018963967 by decide]
    unfold num; omega
theorem wide_all {b : Nat} (hb : StepW b) : filt b ((2 ^ 61 - 2) / b) (wideK b) = wideL b := by
  have hl := fun j (hj : j < wideK b) => num_low hb (Nat.le_of_lt hj)
  rcases hb with rfl | rfl | rfl
  · rw [show (2 ^ 61 - 2) / 16 = 144115188075855871 by decide] at hl ⊢
    rw [filtP_eq (by omega) _ (fun j hj => by have := hl j hj; omega)]
    exact wide16
  · rw [show (2 ^ 61 - 2) / 32 = 72057594037927935 by decide] at hl ⊢
    rw [filtP_eq (by omega) _ (fun j hj => by have := hl j hj; omega)]
    exact wide32
  · rw [show (2 ^ 61 - 2) / 64 = 36028797018963967 by decide] at hl ⊢
    rw [filtP_eq (by omega) _ (fun j hj => by have := hl j hj; omega)]
    exact wide64
theorem filt_head {b q : Nat} : ∀ {k j : Nat}, j ≤ k → filt b q j = (filt b q k).take (filt b q j).length
  | 0, j, h => by
    have h0 : j = 0 := by omega
    rw [h0, List.take_length]
  | k + 1, j, h => by
    rcases Nat.lt_or_eq_of_le h with g | g
    · have ih := filt_head (b := b) (q := q) (k := k) (j := j) (by omega)
      have hm := filt_mono (b := b) (q := q) (show j ≤ k by omega)
      rw [filt, List.take_append_of_le_length hm]
      exact ih
    · rw [g, List.take_length]
theorem wideL_len {b : Nat} (hb : StepW b) : (wideL b).length = 16 := by
  rcases hb with rfl | rfl | rfl <;> decide
/-- What Search answers of the wide primes. -/
theorem searchW {b c : Nat} {w : World} (hb : StepW b) (hc0 : 1 ≤ c) (hc : c ≤ 16) (hT : Tabs w) :
    Calls Tryz.prog 38 #[.int .i64 61, .int .u64 (b : Int), .int .i64 (c : Int)] w fun e w' => ∃ A n cp, e = .returned (.tuple #[.slice A n cp, .int .i64 0]) ∧ NX w' A n cp ((wideL b).take c) ∧ Ext w w' := by
  have hb2 : b < 18446744073709551616 := by rcases hb with rfl | rfl | rfl <;> omega
  refine (search_any 61 b (c : Int) w (by omega) (by omega) hb2 (by omega) (by omega) hT).mono ?_
  rintro e w' (⟨hbad, _⟩ | ⟨_, k, ⟨hkq, hgone⟩, h⟩)
  · exfalso
    have hs : stepS b = true := by rcases hb with rfl | rfl | rfl <;> decide +kernel
    rcases hbad with h | h | h | h | h
    · omega
    · omega
    · rw [hs] at h; cases h
    · omega
    · omega
  · have e61 : (61 : Int).toNat = 61 := rfl
    have ec : ((c : Int)).toNat = c := Int.toNat_natCast c
    rw [e61] at h hgone hkq
    rw [ec] at h hgone
    have hall := wide_all hb
    have hlen := wideL_len hb
    have hkK : k ≤ wideK b := by
      rcases Nat.lt_or_ge (wideK b) k with g | g
      · have := (hgone _ g).2
        rw [hall, hlen] at this
        omega
      · exact g
    rcases h with ⟨hlo, _, _, _⟩ | ⟨hl, A, n, cp, rfl, hx, hk⟩
    · have := num_low hb hkK
      omega
    · refine ⟨A, n, cp, rfl, ?_, hk⟩
      have := filt_head (b := b) (q := (2 ^ 61 - 2) / b) hkK
      rw [hl, hall] at this
      rw [← this]
      exact hx
end Go.Proofs.YtcnogmhkffohgaaGreatDoor
