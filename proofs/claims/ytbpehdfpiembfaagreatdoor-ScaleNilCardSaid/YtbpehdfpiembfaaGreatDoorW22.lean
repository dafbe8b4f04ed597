/-
  What Neg and Turn of package ring answer.
-/
import Derived.Test.YtbpehdfpiembfaaGreatDoorW21
import Derived.Deep.RegionHeld3
namespace Go.Proofs.YtbpehdfpiembfaaGreatDoor
open Go.RowKit
set_option linter.unusedVariables false
set_option maxRecDepth 100000

theorem tmod2 (k : Int) : k.tmod 2 = 0 ↔ k % 2 = 0 := by
  rw [← Int.dvd_iff_tmod_eq_zero, ← Int.dvd_iff_emod_eq_zero]
theorem turnIn_any (b6 n c q : Nat) (A : Option Addr) (k : Int) (P : Option Addr) (f : Nat → Nat) (w : World) (h6 : w.cell? ⟨b6, 0, none⟩ = some (.int .i64 k)) (hX : FX w A n c f) (hn0 : 2 ≤ n) (hn : n ≤ 32) (hnk : Hid (∃ k, 1 ≤ k ∧ k ≤ 9 ∧ n = 2 ^ k)) (hq0 : 0 < q) (hq : q < 18446744073709551616) (hf : Hid (∀ i, i < n → f i < q)) (k0 : -9223372036854775808 ≤ k) (k1 : k < 9223372036854775808) :
    Calls Tryz.prog 209 #[.agg #[.int .u64 (q : Int), .pointer P], .slice A n c, .pointer (some ⟨b6, 0, none⟩)] w fun ee w' => ∃ g, ee = .returned (.slice (some ⟨g, 0, none⟩) n n) ∧ UW w' g n (turnUp q n (kM k n) f n) ∧ Ext w w' := by
  have kV : Ext w (w.alloc (.cells #[.int .u64 (q : Int), .pointer P] 181)) := (Ext.refl w).alloc _
  have HX := Lib.hid (hX.ext kV)
  have x6 := cell_ext kV h6
  have hb6 : b6 < w.heap.size := World.block_lt_of_cell? _ _ h6
  clear hX
  go_enter Tryz.func209, Tryz.ntmps209
  go_wp2_with fail
  refine (turned_any A n c q k P f _ HX.out hn0 hn hnk hq0 hq hf k0 k1).mono ?_
  rintro ee w2 ⟨g, rfl, hu, k2⟩
  go_wp2
  go_ret
  exact ⟨g, rfl, hu, kV.trans k2⟩
set_option maxHeartbeats 4000000 in
theorem turn1_any (b5 b4 n q p L c cj j : Nat) (A Aj : Option Addr) (f : Nat → Nat) (k : Int) (b6 : Nat) (w : World) (h5 : w.cell? ⟨b5, 0, none⟩ = some (.func (.func 209) #[] #[.pointer (some ⟨b6, 0, none⟩)])) (h4 : w.cell? ⟨b4, 0, none⟩ = some (.slice A L c)) (hj : j < L) (hA : ∃ ad, A = some ad ∧ w.cell? (ad.add j) = some (.slice Aj n cj)) (hX : FX w Aj n cj f) (hn0 : 2 ≤ n) (hn : n ≤ 32) (hL : L ≤ 1000000) (hq0 : 0 < q) (hq : q < 18446744073709551616) (hf : Hid (∀ i, i < n → f i < q)) (hnk : Hid (∃ k, 1 ≤ k ∧ k ≤ 9 ∧ n = 2 ^ k)) (h6 : w.cell? ⟨b6, 0, none⟩ = some (.int .i64 k)) (k0 : -9223372036854775808 ≤ k) (k1 : k < 9223372036854775808) :
    Calls Tryz.prog 259 (#[.agg #[.int .u64 (q : Int), .pointer (some ⟨p, 0, none⟩)], .int .i64 (j : Int)] ++ #[.pointer (some ⟨b5, 0, none⟩), .pointer (some ⟨b4, 0, none⟩)]) w fun ee w' => ∃ (A2 : Option Addr) (c2 : Nat) (F : Nat → Nat), ee = .returned (.slice A2 n c2) ∧ FX w' A2 n c2 F ∧ Hid (F = fun i => turnUp q n (kM k n) f n i) ∧ Ext w w' := by
  have kV : Ext w (w.alloc (.cells #[.int .u64 (q : Int), .pointer (some ⟨p, 0, none⟩)] 181)) := (Ext.refl w).alloc _
  have HX := Lib.hid (hX.ext kV)
  have x5 := cell_ext kV h5
  have x4 := cell_ext kV h4
  obtain ⟨ad, rfl, hc⟩ := hA
  have xj := cell_ext kV hc
  have x6 := cell_ext kV h6
  have hb5 : b5 < w.heap.size := World.block_lt_of_cell? _ _ h5
  have hb4 : b4 < w.heap.size := World.block_lt_of_cell? _ _ h4
  clear hX
  rw [show (#[Value.agg #[.int .u64 (q : Int), .pointer (some ⟨p, 0, none⟩)], .int .i64 (j : Int)] ++ #[.pointer (some ⟨b5, 0, none⟩), .pointer (some ⟨b4, 0, none⟩)] : Array Value) = #[.agg #[.int .u64 (q : Int), .pointer (some ⟨p, 0, none⟩)], .int .i64 (j : Int), .pointer (some ⟨b5, 0, none⟩), .pointer (some ⟨b4, 0, none⟩)] from rfl]
  have i0 : (0 : Int) ≤ (j : Int) := by omega
  have i1 : (j : Int) < (L : Int) := by omega
  go_enter Tryz.func259, Tryz.ntmps259
  go_wp2_with fail
  have f0 : (w.alloc (.cells #[.int .u64 (q : Int), .pointer (some ⟨p, 0, none⟩)] 181)).cell? ⟨w.heap.size, 0, none⟩ = some (.int .u64 (q : Int)) := by simp
  have f1 : (w.alloc (.cells #[.int .u64 (q : Int), .pointer (some ⟨p, 0, none⟩)] 181)).cell? ⟨w.heap.size, 1, none⟩ = some (.pointer (some ⟨p, 0, none⟩)) := by simp
  generalize w.alloc (.cells #[.int .u64 (q : Int), .pointer (some ⟨p, 0, none⟩)] 181) = V at *
  go_region_law (first
      | (go_simp; go_at_call 209; refine (turnIn_any b6 n cj q Aj k (some ⟨p, 0, none⟩) f _ (cell_ext (Ext.refl _).drew x6) (FX.ext HX.out (Ext.refl _).drew) hn0 hn hnk hq0 hq hf k0 k1).mono ?_; rintro e2 w5 ⟨g5, rfl, hu5, k5⟩; have k5' := (Ext.refl _).drew.trans k5)
      | fail)
  all_goals
    go_wp2
    go_ret
    exact ⟨_, _, _, rfl, UW.fx hu5, Lib.hid rfl, kV.trans k5'⟩
theorem el_cell {w : World} {A : Option Addr} {L c n M : Nat} {q : Nat → Nat} {As : Nat → Option Addr} {ns cs : Nat → Nat} {f : Nat → Nat → Nat} (hP : PX w A L c As ns cs f) (hE : El n M q L ns f) {j : Nat} (hj : j < L) : (∃ ad, A = some ad ∧ w.cell? (ad.add j) = some (.slice (As j) n (cs j))) ∧ FX w (As j) n (cs j) (f j) ∧ ∀ i, i < n → f j i < q j := by
  obtain ⟨ad, e, hc⟩ := hP.cells (by omega)
  obtain ⟨h1, h2⟩ := hE.2.2 j hj
  have h3 := hc j hj
  have h4 := hP.rows j hj
  rw [h1] at h3 h4 h2
  exact ⟨⟨ad, e, h3⟩, h4, h2⟩
theorem turn_makes {w : World} {r n M : Nat} {q p : Nat → Nat} {a e : Nat → Nat → Nat} {A : Option Addr} {L c : Nat} {As : Nat → Option Addr} {ns cs : Nat → Nat} {f : Nat → Nat → Nat} (k : Int) (k0 : -9223372036854775808 ≤ k) (k1 : k < 9223372036854775808) (b6 : Nat) (h6 : w.cell? ⟨b6, 0, none⟩ = some (.int .i64 k)) (hR : Rg w r n M q p a e) (hP : PB w A L c As ns cs f) (hE : El n M q L ns f) (b4 b5 : Nat) :
    ∀ w2, Ext w w2 → w2.cell? ⟨b4, 0, none⟩ = some (.slice A L c) → w2.cell? ⟨b5, 0, none⟩ = some (.func (.func 209) #[] #[.pointer (some ⟨b6, 0, none⟩)]) → Makes 259 #[.pointer (some ⟨b5, 0, none⟩), .pointer (some ⟨b4, 0, none⟩)] w2 n L q p (fun j F => F = fun i => turnUp (q j) n (kM k n) (f j) n i) := fun w2 k2 h4 h5 j w1 hj k1' => by
  obtain ⟨x1, x2, x3⟩ := el_cell (hP.1.ext (k2.trans k1')) hE hj
  have hq := hR.ql j (by have := hE.2.1; omega)
  have h32 := hR.l1
  have hLM := hE.2.1
  have hnk := (hR.tab j (by omega)).nk
  exact turn1_any b5 b4 n (q j) (p j) L c (cs j) j A (As j) (f j) k b6 w1 (cell_ext k1' h5) (cell_ext k1' h4) hj x1 x2 hR.n0 hR.n1 (by omega) (by omega) (by omega) (Lib.hid x3) (Lib.hid hnk) (cell_ext (k2.trans k1') h6) k0 k1
set_option maxHeartbeats 2000000 in
theorem rTurn_any (r n M : Nat) (q p : Nat → Nat) (a e : Nat → Nat → Nat) (A : Option Addr) (L c : Nat) (As : Nat → Option Addr) (ns cs : Nat → Nat) (f : Nat → Nat → Nat) (k : Int) (w : World) (hR : Rg w r n M q p a e) (hP : Hid (PB w A L c As ns cs f)) (hE : El n M q L ns f) (k0 : -9223372036854775808 ≤ k) (k1 : k < 9223372036854775808) (ho : k % 2 ≠ 0) :
    Calls Tryz.prog 149 #[.pointer (some ⟨r, 0, none⟩), .agg #[.slice A L c], .int .i64 k] w (Made w n L (fun j F => F = fun i => turnUp (q j) n (kM k n) (f j) n i)) := by
  have ho2 : ((k.tmod 2) == 0) = false := by
    have : k.tmod 2 ≠ 0 := fun h => ho ((tmod2 k).1 h)
    simpa using this
  have HR := Lib.hid hR
  have HE := Lib.hid hE
  clear hR hE
  go_enter Tryz.func149, Tryz.ntmps149
  go_wp2_with fail
  obtain ⟨V, hV⟩ : ∃ V, V = ((w.alloc (.cells #[.slice A L c] 28)).alloc (.cells #[.int .i64 k] 3)).alloc (.cells #[.slice none 0 0] 28) := ⟨_, rfl⟩
  rw [← hV]
  have kV : Ext w V := by rw [hV]; exact ((((Ext.refl w).alloc _).alloc _).alloc _)
  have h6 : V.cell? ⟨w.heap.size + 1, 0, none⟩ = some (.int .i64 k) := by
    rw [hV, show w.heap.size + 1 = (w.alloc (.cells #[.slice A L c] 28)).heap.size by simp]
    exact cell_ext ((Ext.refl _).alloc _) (one_at _ _ _)
  have hr0 : RW V (w.heap.size + 1 + 1) 28 1 (fun _ => .slice none 0 0) := by
    have : RW V ((w.alloc (.cells #[.slice A L c] 28)).alloc (.cells #[.int .i64 k] 3)).heap.size 28 1 (fun _ => .slice none 0 0) := by rw [hV]; exact heap_alloc_new _ _
    rwa [show ((w.alloc (.cells #[.slice A L c] 28)).alloc (.cells #[.int .i64 k] 3)).heap.size = w.heap.size + 1 + 1 by simp] at this
  refine (ofOne_any r n M q p a e A L c As ns cs f _ _ (fun j F => F = fun i => turnUp (q j) n (kM k n) (f j) n i) V (HR.out.ext kV) (Lib.hid (hP.out.ext kV)) HE.out (Lib.hid (turn_makes k k0 k1 (w.heap.size + 1) h6 (HR.out.ext kV) (hP.out.ext kV) HE.out _ _))).mono ?_
  rintro ee w2 ⟨G, Bs, ds, F, rfl, hpm, hF, k2⟩
  have hr2 := hr0.ext k2
  have c0 := hr2.cell (i := 0) (by omega)
  have z0 := hr2.frozen 0
  have hsz := hr2.lt
  go_wp2_with fail
  have d0 := ret_cell hr2 (.slice (some ⟨G, 0, none⟩) (L) (L))
  have d1 := (kV.trans k2).set (p := ⟨w.heap.size + 1 + 1, 0, none⟩) (by show w.heap.size ≤ w.heap.size + 1 + 1; omega) (.slice (some ⟨G, 0, none⟩) (L) (L))
  have d2 := hpm.aside hr2 rfl (.slice (some ⟨G, 0, none⟩) (L) (L))
  generalize w2.setCell ⟨w.heap.size + 1 + 1, 0, none⟩ (.slice (some ⟨G, 0, none⟩) (L) (L)) = w5 at *
  exact bodyPost_ret (v := .tuple #[.agg #[.slice (some ⟨G, 0, none⟩) (L) (L)], .int .i64 0]) (by simp [results, Tryz.results149, go_sem, d0]) rfl ⟨G, Bs, ds, F, rfl, d2, hF, d1⟩
set_option maxHeartbeats 2000000 in
theorem rTurn_no (r n M : Nat) (q p : Nat → Nat) (a e : Nat → Nat → Nat) (A : Option Addr) (L c : Nat) (As : Nat → Option Addr) (ns cs : Nat → Nat) (f : Nat → Nat → Nat) (k : Int) (w : World) (hR : Rg w r n M q p a e) (hP : Hid (PB w A L c As ns cs f)) (hE : ¬ El n M q L ns f) (k0 : -9223372036854775808 ≤ k) (k1 : k < 9223372036854775808) (ho : k % 2 ≠ 0) :
    Calls Tryz.prog 149 #[.pointer (some ⟨r, 0, none⟩), .agg #[.slice A L c], .int .i64 k] w (Errs w 3) := by
  have ho2 : ((k.tmod 2) == 0) = false := by
    have : k.tmod 2 ≠ 0 := fun h => ho ((tmod2 k).1 h)
    simpa using this
  have HR := Lib.hid hR
  have HE := Lib.hid hE
  clear hR hE
  go_enter Tryz.func149, Tryz.ntmps149
  go_wp2_with fail
  obtain ⟨V, hV⟩ : ∃ V, V = ((w.alloc (.cells #[.slice A L c] 28)).alloc (.cells #[.int .i64 k] 3)).alloc (.cells #[.slice none 0 0] 28) := ⟨_, rfl⟩
  rw [← hV]
  have kV : Ext w V := by rw [hV]; exact ((((Ext.refl w).alloc _).alloc _).alloc _)
  have h6 : V.cell? ⟨w.heap.size + 1, 0, none⟩ = some (.int .i64 k) := by
    rw [hV, show w.heap.size + 1 = (w.alloc (.cells #[.slice A L c] 28)).heap.size by simp]
    exact cell_ext ((Ext.refl _).alloc _) (one_at _ _ _)
  have hr0 : RW V (w.heap.size + 1 + 1) 28 1 (fun _ => .slice none 0 0) := by
    have : RW V ((w.alloc (.cells #[.slice A L c] 28)).alloc (.cells #[.int .i64 k] 3)).heap.size 28 1 (fun _ => .slice none 0 0) := by rw [hV]; exact heap_alloc_new _ _
    rwa [show ((w.alloc (.cells #[.slice A L c] 28)).alloc (.cells #[.int .i64 k] 3)).heap.size = w.heap.size + 1 + 1 by simp] at this
  refine (ofOne_no r n M q p a e A L c As ns cs f _ _ V (HR.out.ext kV) (Lib.hid (hP.out.ext kV)) HE.out).mono ?_
  rintro ee w2 ⟨rfl, k2⟩
  have hr2 := hr0.ext k2
  have c0 := hr2.cell (i := 0) (by omega)
  have z0 := hr2.frozen 0
  have hsz := hr2.lt
  go_wp2_with fail
  have d0 := ret_cell hr2 (.slice none 0 0)
  have d1 := (kV.trans k2).set (p := ⟨w.heap.size + 1 + 1, 0, none⟩) (by show w.heap.size ≤ w.heap.size + 1 + 1; omega) (.slice none 0 0)
  generalize w2.setCell ⟨w.heap.size + 1 + 1, 0, none⟩ (.slice none 0 0) = w5 at *
  exact bodyPost_ret (v := .tuple #[.agg #[.slice none 0 0], .int .i64 3]) (by simp [results, Tryz.results149, go_sem, d0]) rfl ⟨rfl, d1⟩
set_option maxHeartbeats 2000000 in
theorem rTurn_nil (A : Option Addr) (L c : Nat) (k : Int) (w : World) (k0 : -9223372036854775808 ≤ k) (k1 : k < 9223372036854775808) (ho : k % 2 ≠ 0) :
    Calls Tryz.prog 149 #[.pointer none, .agg #[.slice A L c], .int .i64 k] w (Errs w 1) := by
  have ho2 : ((k.tmod 2) == 0) = false := by
    have : k.tmod 2 ≠ 0 := fun h => ho ((tmod2 k).1 h)
    simpa using this
  go_enter Tryz.func149, Tryz.ntmps149
  go_wp2_with fail
  obtain ⟨V, hV⟩ : ∃ V, V = ((w.alloc (.cells #[.slice A L c] 28)).alloc (.cells #[.int .i64 k] 3)).alloc (.cells #[.slice none 0 0] 28) := ⟨_, rfl⟩
  rw [← hV]
  have kV : Ext w V := by rw [hV]; exact ((((Ext.refl w).alloc _).alloc _).alloc _)
  have h6 : V.cell? ⟨w.heap.size + 1, 0, none⟩ = some (.int .i64 k) := by
    rw [hV, show w.heap.size + 1 = (w.alloc (.cells #[.slice A L c] 28)).heap.size by simp]
    exact cell_ext ((Ext.refl _).alloc _) (one_at _ _ _)
  have hr0 : RW V (w.heap.size + 1 + 1) 28 1 (fun _ => .slice none 0 0) := by
    have : RW V ((w.alloc (.cells #[.slice A L c] 28)).alloc (.cells #[.int .i64 k] 3)).heap.size 28 1 (fun _ => .slice none 0 0) := by rw [hV]; exact heap_alloc_new _ _
    rwa [show ((w.alloc (.cells #[.slice A L c] 28)).alloc (.cells #[.int .i64 k] 3)).heap.size = w.heap.size + 1 + 1 by simp] at this
  refine (ofOne_nil A L c _ _ V).mono ?_
  rintro ee w2 ⟨rfl, k2⟩
  have hr2 := hr0.ext k2
  have c0 := hr2.cell (i := 0) (by omega)
  have z0 := hr2.frozen 0
  have hsz := hr2.lt
  go_wp2_with fail
  have d0 := ret_cell hr2 (.slice none 0 0)
  have d1 := (kV.trans k2).set (p := ⟨w.heap.size + 1 + 1, 0, none⟩) (by show w.heap.size ≤ w.heap.size + 1 + 1; omega) (.slice none 0 0)
  generalize w2.setCell ⟨w.heap.size + 1 + 1, 0, none⟩ (.slice none 0 0) = w5 at *
  exact bodyPost_ret (v := .tuple #[.agg #[.slice none 0 0], .int .i64 1]) (by simp [results, Tryz.results149, go_sem, d0]) rfl ⟨rfl, d1⟩
theorem rTurn_even (rp : Option Addr) (A : Option Addr) (L c : Nat) (k : Int) (w : World) (k0 : -9223372036854775808 ≤ k) (k1 : k < 9223372036854775808) (ho : k % 2 = 0) :
    Calls Tryz.prog 149 #[.pointer rp, .agg #[.slice A L c], .int .i64 k] w (Errs w 1) := by
  have ho2 : k.tmod 2 = 0 := (tmod2 k).2 ho
  go_enter Tryz.func149, Tryz.ntmps149
  go_wp2
  exact bodyPost_ret (v := .tuple #[.agg #[.slice none 0 0], .int .i64 1]) (by simp [results, Tryz.results149, go_sem]) rfl ⟨rfl, (((Ext.refl w).alloc _).alloc _).alloc _⟩
end Go.Proofs.YtbpehdfpiembfaaGreatDoor

/-
  What Add, Sub and Mul of package ring answer.
-/
namespace Go.Proofs.YtbpehdfpiembfaaGreatDoor
open Go.RowKit
set_option linter.unusedVariables false
set_option maxRecDepth 100000

set_option maxHeartbeats 4000000 in
theorem sum2_any (b7 b5 b6 n q p L c L' c' cj cj' j : Nat) (A A' Aj Aj' : Option Addr) (f f' : Nat → Nat) (w : World) (h7 : w.cell? ⟨b7, 0, none⟩ = some (.func (.func 188) #[] #[])) (h5 : w.cell? ⟨b5, 0, none⟩ = some (.slice A L c)) (h6 : w.cell? ⟨b6, 0, none⟩ = some (.slice A' L' c')) (hj : j < L) (hj' : j < L') (hA : ∃ ad, A = some ad ∧ w.cell? (ad.add j) = some (.slice Aj n cj)) (hA' : ∃ ad, A' = some ad ∧ w.cell? (ad.add j) = some (.slice Aj' n cj')) (hX : FX w Aj n cj f) (hX' : FX w Aj' n cj' f') (hn0 : 2 ≤ n) (hn : n ≤ 32) (hL : L ≤ 1000000) (hL' : L' ≤ 1000000) (hq0 : 0 < q) (hq : q < 18446744073709551616) (hf : Hid (∀ i, i < n → f i < q)) (hf' : Hid (∀ i, i < n → f' i < q)) :
    Calls Tryz.prog 246 (#[.agg #[.int .u64 (q : Int), .pointer (some ⟨p, 0, none⟩)], .int .i64 (j : Int)] ++ #[.pointer (some ⟨b7, 0, none⟩), .pointer (some ⟨b5, 0, none⟩), .pointer (some ⟨b6, 0, none⟩)]) w fun ee w' => ∃ (A2 : Option Addr) (c2 : Nat) (F : Nat → Nat), ee = .returned (.slice A2 n c2) ∧ FX w' A2 n c2 F ∧ Hid (F = fun i => (f i + f' i) % q) ∧ Ext w w' := by
  have kV : Ext w (w.alloc (.cells #[.int .u64 (q : Int), .pointer (some ⟨p, 0, none⟩)] 181)) := (Ext.refl w).alloc _
  have HX := Lib.hid (hX.ext kV)
  have HX' := Lib.hid (hX'.ext kV)
  have x7 := cell_ext kV h7
  have x5 := cell_ext kV h5
  have x6 := cell_ext kV h6
  obtain ⟨ad, rfl, hc⟩ := hA
  obtain ⟨ad', rfl, hc'⟩ := hA'
  have xj := cell_ext kV hc
  have xj' := cell_ext kV hc'
  have hb7 : b7 < w.heap.size := World.block_lt_of_cell? _ _ h7
  have hb5 : b5 < w.heap.size := World.block_lt_of_cell? _ _ h5
  have hb6 : b6 < w.heap.size := World.block_lt_of_cell? _ _ h6
  clear hX hX'
  rw [show (#[Value.agg #[.int .u64 (q : Int), .pointer (some ⟨p, 0, none⟩)], .int .i64 (j : Int)] ++ #[.pointer (some ⟨b7, 0, none⟩), .pointer (some ⟨b5, 0, none⟩), .pointer (some ⟨b6, 0, none⟩)] : Array Value) = #[.agg #[.int .u64 (q : Int), .pointer (some ⟨p, 0, none⟩)], .int .i64 (j : Int), .pointer (some ⟨b7, 0, none⟩), .pointer (some ⟨b5, 0, none⟩), .pointer (some ⟨b6, 0, none⟩)] from rfl]
  have i0 : (0 : Int) ≤ (j : Int) := by omega
  have i1 : (j : Int) < (L : Int) := by omega
  have i2 : (j : Int) < (L' : Int) := by omega
  go_enter Tryz.func246, Tryz.ntmps246
  go_wp2_with fail
  have f0 : (w.alloc (.cells #[.int .u64 (q : Int), .pointer (some ⟨p, 0, none⟩)] 181)).cell? ⟨w.heap.size, 0, none⟩ = some (.int .u64 (q : Int)) := by simp
  have f1 : (w.alloc (.cells #[.int .u64 (q : Int), .pointer (some ⟨p, 0, none⟩)] 181)).cell? ⟨w.heap.size, 1, none⟩ = some (.pointer (some ⟨p, 0, none⟩)) := by simp
  generalize w.alloc (.cells #[.int .u64 (q : Int), .pointer (some ⟨p, 0, none⟩)] 181) = V at *
  clear h7 h5 h6 hc hc'
  go_region_held3 (fun w' => w'.cell? ⟨b7, 0, none⟩ = some (.func (.func 188) #[] #[]) ∧ w'.cell? ⟨b5, 0, none⟩ = some (.slice (some ad) L c) ∧ w'.cell? ⟨b6, 0, none⟩ = some (.slice (some ad') L' c') ∧ w'.cell? (ad.add j) = some (.slice Aj n cj) ∧ w'.cell? (ad'.add j) = some (.slice Aj' n cj') ∧ w'.cell? ⟨w.heap.size, 0, none⟩ = some (.int .u64 (q : Int)) ∧ w'.cell? ⟨w.heap.size, 1, none⟩ = some (.pointer (some ⟨p, 0, none⟩))) (go_keep)
    (first
      | (go_at_call 188; refine (sum_any Aj Aj' n cj cj' q (some ⟨p, 0, none⟩) f f' _ (FX.ext HX.out (Ext.refl _).drew) (FX.ext HX'.out (Ext.refl _).drew) (by omega) hq0 hq hf hf').mono ?_; rintro e2 w5 ⟨g5, rfl, hu5, k5⟩; have k5' := (Ext.refl _).drew.trans k5; have d0 := cell_ext k5' x7; have d1 := cell_ext k5' x5; have d2 := cell_ext k5' x6; have d3 := cell_ext k5' xj; have d4 := cell_ext k5' xj'; have d5 := cell_ext k5' f0; have d6 := cell_ext k5' f1)
      | fail)
  go_wp2
  go_ret
  exact ⟨_, _, _, rfl, UW.fx hu5, Lib.hid rfl, kV.trans k5'⟩
set_option maxHeartbeats 4000000 in
theorem dif2_any (b7 b5 b6 n q p L c L' c' cj cj' j : Nat) (A A' Aj Aj' : Option Addr) (f f' : Nat → Nat) (w : World) (h7 : w.cell? ⟨b7, 0, none⟩ = some (.func (.func 204) #[] #[])) (h5 : w.cell? ⟨b5, 0, none⟩ = some (.slice A L c)) (h6 : w.cell? ⟨b6, 0, none⟩ = some (.slice A' L' c')) (hj : j < L) (hj' : j < L') (hA : ∃ ad, A = some ad ∧ w.cell? (ad.add j) = some (.slice Aj n cj)) (hA' : ∃ ad, A' = some ad ∧ w.cell? (ad.add j) = some (.slice Aj' n cj')) (hX : FX w Aj n cj f) (hX' : FX w Aj' n cj' f') (hn0 : 2 ≤ n) (hn : n ≤ 32) (hL : L ≤ 1000000) (hL' : L' ≤ 1000000) (hq0 : 0 < q) (hq : q < 18446744073709551616) (hf : Hid (∀ i, i < n → f i < q)) (hf' : Hid (∀ i, i < n → f' i < q)) :
    Calls Tryz.prog 246 (#[.agg #[.int .u64 (q : Int), .pointer (some ⟨p, 0, none⟩)], .int .i64 (j : Int)] ++ #[.pointer (some ⟨b7, 0, none⟩), .pointer (some ⟨b5, 0, none⟩), .pointer (some ⟨b6, 0, none⟩)]) w fun ee w' => ∃ (A2 : Option Addr) (c2 : Nat) (F : Nat → Nat), ee = .returned (.slice A2 n c2) ∧ FX w' A2 n c2 F ∧ Hid (F = fun i => dif (f i) (f' i) q) ∧ Ext w w' := by
  have kV : Ext w (w.alloc (.cells #[.int .u64 (q : Int), .pointer (some ⟨p, 0, none⟩)] 181)) := (Ext.refl w).alloc _
  have HX := Lib.hid (hX.ext kV)
  have HX' := Lib.hid (hX'.ext kV)
  have x7 := cell_ext kV h7
  have x5 := cell_ext kV h5
  have x6 := cell_ext kV h6
  obtain ⟨ad, rfl, hc⟩ := hA
  obtain ⟨ad', rfl, hc'⟩ := hA'
  have xj := cell_ext kV hc
  have xj' := cell_ext kV hc'
  have hb7 : b7 < w.heap.size := World.block_lt_of_cell? _ _ h7
  have hb5 : b5 < w.heap.size := World.block_lt_of_cell? _ _ h5
  have hb6 : b6 < w.heap.size := World.block_lt_of_cell? _ _ h6
  clear hX hX'
  rw [show (#[Value.agg #[.int .u64 (q : Int), .pointer (some ⟨p, 0, none⟩)], .int .i64 (j : Int)] ++ #[.pointer (some ⟨b7, 0, none⟩), .pointer (some ⟨b5, 0, none⟩), .pointer (some ⟨b6, 0, none⟩)] : Array Value) = #[.agg #[.int .u64 (q : Int), .pointer (some ⟨p, 0, none⟩)], .int .i64 (j : Int), .pointer (some ⟨b7, 0, none⟩), .pointer (some ⟨b5, 0, none⟩), .pointer (some ⟨b6, 0, none⟩)] from rfl]
  have i0 : (0 : Int) ≤ (j : Int) := by omega
  have i1 : (j : Int) < (L : Int) := by omega
  have i2 : (j : Int) < (L' : Int) := by omega
  go_enter Tryz.func246, Tryz.ntmps246
  go_wp2_with fail
  have f0 : (w.alloc (.cells #[.int .u64 (q : Int), .pointer (some ⟨p, 0, none⟩)] 181)).cell? ⟨w.heap.size, 0, none⟩ = some (.int .u64 (q : Int)) := by simp
  have f1 : (w.alloc (.cells #[.int .u64 (q : Int), .pointer (some ⟨p, 0, none⟩)] 181)).cell? ⟨w.heap.size, 1, none⟩ = some (.pointer (some ⟨p, 0, none⟩)) := by simp
  generalize w.alloc (.cells #[.int .u64 (q : Int), .pointer (some ⟨p, 0, none⟩)] 181) = V at *
  clear h7 h5 h6 hc hc'
  go_region_held3 (fun w' => w'.cell? ⟨b7, 0, none⟩ = some (.func (.func 204) #[] #[]) ∧ w'.cell? ⟨b5, 0, none⟩ = some (.slice (some ad) L c) ∧ w'.cell? ⟨b6, 0, none⟩ = some (.slice (some ad') L' c') ∧ w'.cell? (ad.add j) = some (.slice Aj n cj) ∧ w'.cell? (ad'.add j) = some (.slice Aj' n cj') ∧ w'.cell? ⟨w.heap.size, 0, none⟩ = some (.int .u64 (q : Int)) ∧ w'.cell? ⟨w.heap.size, 1, none⟩ = some (.pointer (some ⟨p, 0, none⟩))) (go_keep)
    (first
      | (go_at_call 204; refine (difference_any Aj Aj' n cj cj' q (some ⟨p, 0, none⟩) f f' _ (FX.ext HX.out (Ext.refl _).drew) (FX.ext HX'.out (Ext.refl _).drew) (by omega) hq0 hq hf hf').mono ?_; rintro e2 w5 ⟨g5, rfl, hu5, k5⟩; have k5' := (Ext.refl _).drew.trans k5; have d0 := cell_ext k5' x7; have d1 := cell_ext k5' x5; have d2 := cell_ext k5' x6; have d3 := cell_ext k5' xj; have d4 := cell_ext k5' xj'; have d5 := cell_ext k5' f0; have d6 := cell_ext k5' f1)
      | fail)
  go_wp2
  go_ret
  exact ⟨_, _, _, rfl, UW.fx hu5, Lib.hid rfl, kV.trans k5'⟩
theorem productP_any (p n q k r v : Nat) (A A' : Option Addr) (c c' : Nat) (f f' : Nat → Nat) (w : World) (hT : Table w p n q k r v) (hX : FX w A n c f) (hX' : FX w A' n c' f') (hf : Hid (∀ i, i < n → f i < q)) (hf' : Hid (∀ i, i < n → f' i < q)) :
    Calls Tryz.prog 187 #[.agg #[.int .u64 (q : Int), .pointer (some ⟨p, 0, none⟩)], .slice A n c, .slice A' n c'] w fun ee w' => ∃ (g : Nat) (F : Nat → Nat), ee = .returned (.slice (some ⟨g, 0, none⟩) n n) ∧ UW w' g n F ∧ Hid (∀ i, i < n → F i < q ∧ M (q : Int) (F i : Int) (nega n (fun j => (f j : Int)) (fun j => (f' j : Int)) i)) ∧ Ext w w' := by
  have kV : Ext w (w.alloc (.cells #[.int .u64 (q : Int), .pointer (some ⟨p, 0, none⟩)] 181)) := (Ext.refl w).alloc _
  have HX := Lib.hid (hX.ext kV)
  have HX' := Lib.hid (hX'.ext kV)
  have HT := Lib.hid (hT.ext kV)
  clear hX hX' hT
  go_enter Tryz.func187, Tryz.ntmps187
  go_wp2_with fail
  refine (mulP_any p n q k r v A A' c c' f f' _ HT.out HX.out hf HX'.out hf').mono ?_
  rintro ee w2 ⟨g, F, rfl, hu, hF, k2⟩
  go_wp2
  go_ret
  exact ⟨g, F, rfl, hu, hF, kV.trans k2⟩
set_option maxHeartbeats 4000000 in
theorem prodP2_any (b7 b5 b6 n q p L c L' c' cj cj' j : Nat) (A A' Aj Aj' : Option Addr) (f f' : Nat → Nat) (k r v : Nat) (w : World) (h7 : w.cell? ⟨b7, 0, none⟩ = some (.func (.func 187) #[] #[])) (h5 : w.cell? ⟨b5, 0, none⟩ = some (.slice A L c)) (h6 : w.cell? ⟨b6, 0, none⟩ = some (.slice A' L' c')) (hj : j < L) (hj' : j < L') (hA : ∃ ad, A = some ad ∧ w.cell? (ad.add j) = some (.slice Aj n cj)) (hA' : ∃ ad, A' = some ad ∧ w.cell? (ad.add j) = some (.slice Aj' n cj')) (hX : FX w Aj n cj f) (hX' : FX w Aj' n cj' f') (hn0 : 2 ≤ n) (hn : n ≤ 32) (hL : L ≤ 1000000) (hL' : L' ≤ 1000000) (hq0 : 0 < q) (hq : q < 18446744073709551616) (hf : Hid (∀ i, i < n → f i < q)) (hf' : Hid (∀ i, i < n → f' i < q)) (hT : Table w p n q k r v) :
    Calls Tryz.prog 246 (#[.agg #[.int .u64 (q : Int), .pointer (some ⟨p, 0, none⟩)], .int .i64 (j : Int)] ++ #[.pointer (some ⟨b7, 0, none⟩), .pointer (some ⟨b5, 0, none⟩), .pointer (some ⟨b6, 0, none⟩)]) w fun ee w' => ∃ (A2 : Option Addr) (c2 : Nat) (F : Nat → Nat), ee = .returned (.slice A2 n c2) ∧ FX w' A2 n c2 F ∧ Hid (∀ i, i < n → F i < q ∧ M (q : Int) (F i : Int) (nega n (fun j => (f j : Int)) (fun j => (f' j : Int)) i)) ∧ Ext w w' := by
  have kV : Ext w (w.alloc (.cells #[.int .u64 (q : Int), .pointer (some ⟨p, 0, none⟩)] 181)) := (Ext.refl w).alloc _
  have HX := Lib.hid (hX.ext kV)
  have HX' := Lib.hid (hX'.ext kV)
  have x7 := cell_ext kV h7
  have x5 := cell_ext kV h5
  have x6 := cell_ext kV h6
  obtain ⟨ad, rfl, hc⟩ := hA
  obtain ⟨ad', rfl, hc'⟩ := hA'
  have xj := cell_ext kV hc
  have xj' := cell_ext kV hc'
  have hb7 : b7 < w.heap.size := World.block_lt_of_cell? _ _ h7
  have hb5 : b5 < w.heap.size := World.block_lt_of_cell? _ _ h5
  have hb6 : b6 < w.heap.size := World.block_lt_of_cell? _ _ h6
  have HT := Lib.hid (hT.ext kV)
  clear hX hX' hT
  rw [show (#[Value.agg #[.int .u64 (q : Int), .pointer (some ⟨p, 0, none⟩)], .int .i64 (j : Int)] ++ #[.pointer (some ⟨b7, 0, none⟩), .pointer (some ⟨b5, 0, none⟩), .pointer (some ⟨b6, 0, none⟩)] : Array Value) = #[.agg #[.int .u64 (q : Int), .pointer (some ⟨p, 0, none⟩)], .int .i64 (j : Int), .pointer (some ⟨b7, 0, none⟩), .pointer (some ⟨b5, 0, none⟩), .pointer (some ⟨b6, 0, none⟩)] from rfl]
  have i0 : (0 : Int) ≤ (j : Int) := by omega
  have i1 : (j : Int) < (L : Int) := by omega
  have i2 : (j : Int) < (L' : Int) := by omega
  go_enter Tryz.func246, Tryz.ntmps246
  go_wp2_with fail
  have f0 : (w.alloc (.cells #[.int .u64 (q : Int), .pointer (some ⟨p, 0, none⟩)] 181)).cell? ⟨w.heap.size, 0, none⟩ = some (.int .u64 (q : Int)) := by simp
  have f1 : (w.alloc (.cells #[.int .u64 (q : Int), .pointer (some ⟨p, 0, none⟩)] 181)).cell? ⟨w.heap.size, 1, none⟩ = some (.pointer (some ⟨p, 0, none⟩)) := by simp
  generalize w.alloc (.cells #[.int .u64 (q : Int), .pointer (some ⟨p, 0, none⟩)] 181) = V at *
  clear h7 h5 h6 hc hc'
  go_region_held3 (fun w' => w'.cell? ⟨b7, 0, none⟩ = some (.func (.func 187) #[] #[]) ∧ w'.cell? ⟨b5, 0, none⟩ = some (.slice (some ad) L c) ∧ w'.cell? ⟨b6, 0, none⟩ = some (.slice (some ad') L' c') ∧ w'.cell? (ad.add j) = some (.slice Aj n cj) ∧ w'.cell? (ad'.add j) = some (.slice Aj' n cj') ∧ w'.cell? ⟨w.heap.size, 0, none⟩ = some (.int .u64 (q : Int)) ∧ w'.cell? ⟨w.heap.size, 1, none⟩ = some (.pointer (some ⟨p, 0, none⟩))) (go_keep)
    (first
      | (go_at_call 187; refine (productP_any p n q k r v Aj Aj' cj cj' f f' _ (HT.out.ext (Ext.refl _).drew) (FX.ext HX.out (Ext.refl _).drew) (FX.ext HX'.out (Ext.refl _).drew) hf hf').mono ?_; rintro e2 w5 ⟨g5, F5, rfl, hu5, hF5, k5⟩; have k5' := (Ext.refl _).drew.trans k5; have d0 := cell_ext k5' x7; have d1 := cell_ext k5' x5; have d2 := cell_ext k5' x6; have d3 := cell_ext k5' xj; have d4 := cell_ext k5' xj'; have d5 := cell_ext k5' f0; have d6 := cell_ext k5' f1)
      | fail)
  go_wp2
  go_ret
  exact ⟨_, _, _, rfl, UW.fx hu5, hF5, kV.trans k5'⟩
end Go.Proofs.YtbpehdfpiembfaaGreatDoor

/-
  What Add, Sub and Mul of package ring answer.
-/
namespace Go.Proofs.YtbpehdfpiembfaaGreatDoor
open Go.RowKit
set_option linter.unusedVariables false
set_option maxRecDepth 100000

theorem two_at0 (w : World) (v u : Value) (t : TypeId) : (w.alloc (.cells #[v, u] t)).cell? ⟨w.heap.size, 0, none⟩ = some v := by simp
theorem two_at1 (w : World) (v u : Value) (t : TypeId) : (w.alloc (.cells #[v, u] t)).cell? ⟨w.heap.size, 1, none⟩ = some u := by simp
set_option maxHeartbeats 4000000 in
theorem ofTwo_form (r n M : Nat) (q p : Nat → Nat) (a e : Nat → Nat → Nat) (A A' : Option Addr) (L c L' c' : Nat) (As As' : Nat → Option Addr) (ns cs ns' cs' : Nat → Nat) (f f' : Nat → Nat → Nat) (fn : Nat) (cap : Array Value) (w : World) (hR : Rg w r n M q p a e) (hP : Hid (PB w A L c As ns cs f)) (hP' : Hid (PB w A' L' c' As' ns' cs' f')) (hE : ¬ (El n M q L ns f ∧ El n M q L' ns' f')) :
    Calls Tryz.prog 186 #[.pointer (some ⟨r, 0, none⟩), .agg #[.slice A L c], .agg #[.slice A' L' c'], .func (.func fn) #[] cap] w (Errs w 3) := by
  have HR := Lib.hid hR
  have HE := Lib.hid hE
  clear hR hE
  go_enter Tryz.func186, Tryz.ntmps186
  go_wp2_with fail
  obtain ⟨V, hV⟩ : ∃ V, V = (((w.alloc (.cells #[.slice A L c] 28)).alloc (.cells #[.slice A' L' c'] 28)).alloc (.cells #[.func (.func fn) #[] cap] 246)).alloc (.cells #[.slice none 0 0] 28) := ⟨_, rfl⟩
  rw [← hV]
  have kV : Ext w V := by rw [hV]; exact (((((Ext.refl w).alloc _).alloc _).alloc _).alloc _)
  have hr0 : RW V (w.heap.size + 1 + 1 + 1) 28 1 (fun _ => .slice none 0 0) := by
    have : RW V (((w.alloc (.cells #[.slice A L c] 28)).alloc (.cells #[.slice A' L' c'] 28)).alloc (.cells #[.func (.func fn) #[] cap] 246)).heap.size 28 1 (fun _ => .slice none 0 0) := by rw [hV]; exact heap_alloc_new _ _
    rwa [show (((w.alloc (.cells #[.slice A L c] 28)).alloc (.cells #[.slice A' L' c'] 28)).alloc (.cells #[.func (.func fn) #[] cap] 246)).heap.size = w.heap.size + 1 + 1 + 1 by simp] at this
  have h5 : V.cell? ⟨w.heap.size, 0, none⟩ = some (.slice A L c) := by rw [hV]; exact cell_ext ((((Ext.refl _).alloc _).alloc _).alloc _) (one_at w _ _)
  have h6 : V.cell? ⟨w.heap.size + 1, 0, none⟩ = some (.slice A' L' c') := by
    rw [hV, show w.heap.size + 1 = (w.alloc (.cells #[.slice A L c] 28)).heap.size by simp]
    exact cell_ext (((Ext.refl _).alloc _).alloc _) (one_at _ _ _)
  have h7 : V.cell? ⟨w.heap.size + 1 + 1, 0, none⟩ = some (.func (.func fn) #[] cap) := by
    rw [hV, show w.heap.size + 1 + 1 = ((w.alloc (.cells #[.slice A L c] 28)).alloc (.cells #[.slice A' L' c'] 28)).heap.size by simp]
    exact cell_ext ((Ext.refl _).alloc _) (one_at _ _ _)
  have hsV : V.heap.size = w.heap.size + 1 + 1 + 1 + 1 := by rw [hV]; simp
  clear hV
  have kX : Ext V (V.alloc (.cells #[.slice A L c, .slice A' L' c'] 28)) := (Ext.refl V).alloc _
  have hx0 : (V.alloc (.cells #[.slice A L c, .slice A' L' c'] 28)).cell? ⟨w.heap.size + 1 + 1 + 1 + 1, 0, none⟩ = some (.slice A L c) := by rw [← hsV]; exact two_at0 _ _ _ _
  have hx1 : (V.alloc (.cells #[.slice A L c, .slice A' L' c'] 28)).cell? ⟨w.heap.size + 1 + 1 + 1 + 1, 1, none⟩ = some (.slice A' L' c') := by rw [← hsV]; exact two_at1 _ _ _ _
  refine (rcheck2 r n M q p a e A A' L c L' c' As As' ns cs ns' cs' f f' _ (w.heap.size + 1 + 1 + 1 + 1) hx0 hx1 (HR.out.ext (kV.trans kX)) (Lib.hid (hP.out.ext (kV.trans kX))) (Lib.hid (hP'.out.ext (kV.trans kX)))).mono ?_
  intro ee w2 hchk
  obtain ⟨rfl, k2'⟩ := chk_false hchk HE.out
  clear hchk
  have k2 := kX.trans k2'
  have hr2 := hr0.ext k2
  have c0 := hr2.cell (i := 0) (by omega)
  have z0 := hr2.frozen 0
  have hsz := hr2.lt
  go_wp2_with fail
  have d0 := ret_cell hr2 (.slice none 0 0)
  have d1 := (kV.trans k2).set (p := ⟨w.heap.size + 1 + 1 + 1, 0, none⟩) (by show w.heap.size ≤ w.heap.size + 1 + 1 + 1; omega) (.slice none 0 0)
  generalize w2.setCell ⟨w.heap.size + 1 + 1 + 1, 0, none⟩ (.slice none 0 0) = w5 at *
  exact bodyPost_ret (v := .tuple #[.agg #[.slice none 0 0], .int .i64 3]) (by simp [results, Tryz.results186, go_sem, d0]) rfl ⟨rfl, d1⟩
theorem ofTwo_nil (A A' : Option Addr) (L c L' c' : Nat) (fn : Nat) (cap : Array Value) (w : World) :
    Calls Tryz.prog 186 #[.pointer none, .agg #[.slice A L c], .agg #[.slice A' L' c'], .func (.func fn) #[] cap] w (Errs w 1) := by
  go_enter Tryz.func186, Tryz.ntmps186
  go_wp2_with fail
  refine (rcheck_nil _ _ _ _).mono ?_
  rintro ee w' ⟨rfl, rfl⟩
  go_wp2
  exact bodyPost_ret (v := .tuple #[.agg #[.slice none 0 0], .int .i64 1]) (by simp [results, Tryz.results186, go_sem]) rfl ⟨rfl, (((((Ext.refl w).alloc _).alloc _).alloc _).alloc _).alloc _⟩
set_option maxHeartbeats 4000000 in
theorem ofTwo_level (r n M : Nat) (q p : Nat → Nat) (a e : Nat → Nat → Nat) (A A' : Option Addr) (L c L' c' : Nat) (As As' : Nat → Option Addr) (ns cs ns' cs' : Nat → Nat) (f f' : Nat → Nat → Nat) (fn : Nat) (cap : Array Value) (w : World) (hR : Rg w r n M q p a e) (hP : Hid (PB w A L c As ns cs f)) (hP' : Hid (PB w A' L' c' As' ns' cs' f')) (hE : El n M q L ns f ∧ El n M q L' ns' f') (hne : L ≠ L') :
    Calls Tryz.prog 186 #[.pointer (some ⟨r, 0, none⟩), .agg #[.slice A L c], .agg #[.slice A' L' c'], .func (.func fn) #[] cap] w (Errs w 10) := by
  have hl1 := hR.l1
  have HR := Lib.hid hR
  have HE := Lib.hid hE
  clear hR hE
  go_enter Tryz.func186, Tryz.ntmps186
  go_wp2_with fail
  obtain ⟨V, hV⟩ : ∃ V, V = (((w.alloc (.cells #[.slice A L c] 28)).alloc (.cells #[.slice A' L' c'] 28)).alloc (.cells #[.func (.func fn) #[] cap] 246)).alloc (.cells #[.slice none 0 0] 28) := ⟨_, rfl⟩
  rw [← hV]
  have kV : Ext w V := by rw [hV]; exact (((((Ext.refl w).alloc _).alloc _).alloc _).alloc _)
  have hr0 : RW V (w.heap.size + 1 + 1 + 1) 28 1 (fun _ => .slice none 0 0) := by
    have : RW V (((w.alloc (.cells #[.slice A L c] 28)).alloc (.cells #[.slice A' L' c'] 28)).alloc (.cells #[.func (.func fn) #[] cap] 246)).heap.size 28 1 (fun _ => .slice none 0 0) := by rw [hV]; exact heap_alloc_new _ _
    rwa [show (((w.alloc (.cells #[.slice A L c] 28)).alloc (.cells #[.slice A' L' c'] 28)).alloc (.cells #[.func (.func fn) #[] cap] 246)).heap.size = w.heap.size + 1 + 1 + 1 by simp] at this
  have h5 : V.cell? ⟨w.heap.size, 0, none⟩ = some (.slice A L c) := by rw [hV]; exact cell_ext ((((Ext.refl _).alloc _).alloc _).alloc _) (one_at w _ _)
  have h6 : V.cell? ⟨w.heap.size + 1, 0, none⟩ = some (.slice A' L' c') := by
    rw [hV, show w.heap.size + 1 = (w.alloc (.cells #[.slice A L c] 28)).heap.size by simp]
    exact cell_ext (((Ext.refl _).alloc _).alloc _) (one_at _ _ _)
  have h7 : V.cell? ⟨w.heap.size + 1 + 1, 0, none⟩ = some (.func (.func fn) #[] cap) := by
    rw [hV, show w.heap.size + 1 + 1 = ((w.alloc (.cells #[.slice A L c] 28)).alloc (.cells #[.slice A' L' c'] 28)).heap.size by simp]
    exact cell_ext ((Ext.refl _).alloc _) (one_at _ _ _)
  have hsV : V.heap.size = w.heap.size + 1 + 1 + 1 + 1 := by rw [hV]; simp
  clear hV
  have kX : Ext V (V.alloc (.cells #[.slice A L c, .slice A' L' c'] 28)) := (Ext.refl V).alloc _
  have hx0 : (V.alloc (.cells #[.slice A L c, .slice A' L' c'] 28)).cell? ⟨w.heap.size + 1 + 1 + 1 + 1, 0, none⟩ = some (.slice A L c) := by rw [← hsV]; exact two_at0 _ _ _ _
  have hx1 : (V.alloc (.cells #[.slice A L c, .slice A' L' c'] 28)).cell? ⟨w.heap.size + 1 + 1 + 1 + 1, 1, none⟩ = some (.slice A' L' c') := by rw [← hsV]; exact two_at1 _ _ _ _
  refine (rcheck2 r n M q p a e A A' L c L' c' As As' ns cs ns' cs' f f' _ (w.heap.size + 1 + 1 + 1 + 1) hx0 hx1 (HR.out.ext (kV.trans kX)) (Lib.hid (hP.out.ext (kV.trans kX))) (Lib.hid (hP'.out.ext (kV.trans kX)))).mono ?_
  intro ee w2 hchk
  obtain ⟨rfl, k2'⟩ := chk_true hchk HE.out
  clear hchk
  have k2 := kX.trans k2'
  have hr2 := hr0.ext k2
  have y5 := cell_ext k2 h5
  have y6 := cell_ext k2 h6
  have y7 := cell_ext k2 h7
  have hLl := HE.out.1.2.1
  have hLl' := HE.out.2.2.1
  clear hx0 hx1 h5 h6 h7 hr0
  have kk : Ext w2 w2 := Ext.refl w2
  go_wp2_with fail
  go_region_held3 (fun w' => w'.cell? ⟨w.heap.size, 0, none⟩ = some (.slice A L c) ∧ w'.cell? ⟨w.heap.size + 1, 0, none⟩ = some (.slice A' L' c')) (go_keep)
    (first
      | (go_at_call 115; refine (levelOf_any A L c _ (by omega)).mono ?_; rintro e5 w5 ⟨rfl, k5⟩; replace kk : Ext w2 w5 := (by first | exact Ext.trans kk k5 | exact Ext.trans (Ext.drew kk) k5); have d5 := cell_ext kk y5; have d6 := cell_ext kk y6)
      | (go_at_call 115; refine (levelOf_any A' L' c' _ (by omega)).mono ?_; rintro e5 w5 ⟨rfl, k5⟩; replace kk : Ext w2 w5 := (by first | exact Ext.trans kk k5 | exact Ext.trans (Ext.drew kk) k5); have d5 := cell_ext kk y5; have d6 := cell_ext kk y6)
      | fail)
  have hb : ((L : Int) - 1 != (L' : Int) - 1) = true := by simp; omega
  have kz := k2.trans kk
  have hr5 := hr2.ext kk
  have c0 := hr5.cell (i := 0) (by omega)
  have z0 := hr5.frozen 0
  have hsz := hr5.lt
  go_wp2_with fail
  have d0 := ret_cell hr5 (.slice none 0 0)
  have d1 := (kV.trans kz).set (p := ⟨w.heap.size + 1 + 1 + 1, 0, none⟩) (by show w.heap.size ≤ w.heap.size + 1 + 1 + 1; omega) (.slice none 0 0)
  generalize w5.setCell ⟨w.heap.size + 1 + 1 + 1, 0, none⟩ (.slice none 0 0) = w9 at *
  exact bodyPost_ret (v := .tuple #[.agg #[.slice none 0 0], .int .i64 10]) (by simp [results, Tryz.results186, go_sem, d0]) rfl ⟨rfl, d1⟩
set_option maxHeartbeats 4000000 in
theorem ofTwo_any (r n M : Nat) (q p : Nat → Nat) (a e : Nat → Nat → Nat) (A A' : Option Addr) (L c c' : Nat) (As As' : Nat → Option Addr) (ns cs ns' cs' : Nat → Nat) (f f' : Nat → Nat → Nat) (fn : Nat) (cap : Array Value) (R : Nat → (Nat → Nat) → Prop) (w : World) (hR : Rg w r n M q p a e) (hP : Hid (PB w A L c As ns cs f)) (hP' : Hid (PB w A' L c' As' ns' cs' f')) (hE : El n M q L ns f ∧ El n M q L ns' f')
    (hM : Hid (∀ w2, Ext w w2 → w2.cell? ⟨w.heap.size, 0, none⟩ = some (.slice A L c) → w2.cell? ⟨w.heap.size + 1, 0, none⟩ = some (.slice A' L c') → w2.cell? ⟨w.heap.size + 1 + 1, 0, none⟩ = some (.func (.func fn) #[] cap) → Makes 246 #[.pointer (some ⟨w.heap.size + 1 + 1, 0, none⟩), .pointer (some ⟨w.heap.size, 0, none⟩), .pointer (some ⟨w.heap.size + 1, 0, none⟩)] w2 n L q p R)) :
    Calls Tryz.prog 186 #[.pointer (some ⟨r, 0, none⟩), .agg #[.slice A L c], .agg #[.slice A' L c'], .func (.func fn) #[] cap] w (Made w n L R) := by
  have hl1 := hR.l1
  have HR := Lib.hid hR
  have HE := Lib.hid hE
  clear hR hE
  go_enter Tryz.func186, Tryz.ntmps186
  go_wp2_with fail
  obtain ⟨V, hV⟩ : ∃ V, V = (((w.alloc (.cells #[.slice A L c] 28)).alloc (.cells #[.slice A' L c'] 28)).alloc (.cells #[.func (.func fn) #[] cap] 246)).alloc (.cells #[.slice none 0 0] 28) := ⟨_, rfl⟩
  rw [← hV]
  have kV : Ext w V := by rw [hV]; exact (((((Ext.refl w).alloc _).alloc _).alloc _).alloc _)
  have hr0 : RW V (w.heap.size + 1 + 1 + 1) 28 1 (fun _ => .slice none 0 0) := by
    have : RW V (((w.alloc (.cells #[.slice A L c] 28)).alloc (.cells #[.slice A' L c'] 28)).alloc (.cells #[.func (.func fn) #[] cap] 246)).heap.size 28 1 (fun _ => .slice none 0 0) := by rw [hV]; exact heap_alloc_new _ _
    rwa [show (((w.alloc (.cells #[.slice A L c] 28)).alloc (.cells #[.slice A' L c'] 28)).alloc (.cells #[.func (.func fn) #[] cap] 246)).heap.size = w.heap.size + 1 + 1 + 1 by simp] at this
  have h5 : V.cell? ⟨w.heap.size, 0, none⟩ = some (.slice A L c) := by rw [hV]; exact cell_ext ((((Ext.refl _).alloc _).alloc _).alloc _) (one_at w _ _)
  have h6 : V.cell? ⟨w.heap.size + 1, 0, none⟩ = some (.slice A' L c') := by
    rw [hV, show w.heap.size + 1 = (w.alloc (.cells #[.slice A L c] 28)).heap.size by simp]
    exact cell_ext (((Ext.refl _).alloc _).alloc _) (one_at _ _ _)
  have h7 : V.cell? ⟨w.heap.size + 1 + 1, 0, none⟩ = some (.func (.func fn) #[] cap) := by
    rw [hV, show w.heap.size + 1 + 1 = ((w.alloc (.cells #[.slice A L c] 28)).alloc (.cells #[.slice A' L c'] 28)).heap.size by simp]
    exact cell_ext ((Ext.refl _).alloc _) (one_at _ _ _)
  have hsV : V.heap.size = w.heap.size + 1 + 1 + 1 + 1 := by rw [hV]; simp
  clear hV
  have kX : Ext V (V.alloc (.cells #[.slice A L c, .slice A' L c'] 28)) := (Ext.refl V).alloc _
  have hx0 : (V.alloc (.cells #[.slice A L c, .slice A' L c'] 28)).cell? ⟨w.heap.size + 1 + 1 + 1 + 1, 0, none⟩ = some (.slice A L c) := by rw [← hsV]; exact two_at0 _ _ _ _
  have hx1 : (V.alloc (.cells #[.slice A L c, .slice A' L c'] 28)).cell? ⟨w.heap.size + 1 + 1 + 1 + 1, 1, none⟩ = some (.slice A' L c') := by rw [← hsV]; exact two_at1 _ _ _ _
  refine (rcheck2 r n M q p a e A A' L c L c' As As' ns cs ns' cs' f f' _ (w.heap.size + 1 + 1 + 1 + 1) hx0 hx1 (HR.out.ext (kV.trans kX)) (Lib.hid (hP.out.ext (kV.trans kX))) (Lib.hid (hP'.out.ext (kV.trans kX)))).mono ?_
  intro ee w2 hchk
  obtain ⟨rfl, k2'⟩ := chk_true hchk HE.out
  clear hchk
  have k2 := kX.trans k2'
  have hr2 := hr0.ext k2
  have y5 := cell_ext k2 h5
  have y6 := cell_ext k2 h6
  have y7 := cell_ext k2 h7
  have hLl := HE.out.1.2.1
  have hLl' := HE.out.2.2.1
  clear hx0 hx1 h5 h6 h7 hr0
  have kk : Ext w2 w2 := Ext.refl w2
  go_wp2_with fail
  go_region_held3 (fun w' => w'.cell? ⟨w.heap.size, 0, none⟩ = some (.slice A L c) ∧ w'.cell? ⟨w.heap.size + 1, 0, none⟩ = some (.slice A' L c')) (go_keep)
    (first
      | (go_at_call 115; refine (levelOf_any A L c _ (by omega)).mono ?_; rintro e5 w5 ⟨rfl, k5⟩; replace kk : Ext w2 w5 := (by first | exact Ext.trans kk k5 | exact Ext.trans (Ext.drew kk) k5); have d5 := cell_ext kk y5; have d6 := cell_ext kk y6)
      | (go_at_call 115; refine (levelOf_any A' L c' _ (by omega)).mono ?_; rintro e5 w5 ⟨rfl, k5⟩; replace kk : Ext w2 w5 := (by first | exact Ext.trans kk k5 | exact Ext.trans (Ext.drew kk) k5); have d5 := cell_ext kk y5; have d6 := cell_ext kk y6)
      | fail)
  have hb : ((L : Int) - 1 != (L : Int) - 1) = false := by simp
  have kz := kV.trans (k2.trans kk)
  have hr5 := hr2.ext kk
  have hL0 := HE.out.1.1
  go_wp2_with fail
  refine (levelOf_any A L c w5 (by omega)).mono ?_
  rintro ee w6 ⟨rfl, k6⟩
  have u5 := cell_ext (kk.trans k6) y5
  have u6 := cell_ext (kk.trans k6) y6
  have u7 := cell_ext (kk.trans k6) y7
  have hr6 := hr5.ext k6
  have kz6 := kz.trans k6
  obtain ⟨l, rfl⟩ : ∃ l, L = l + 1 := ⟨L - 1, by omega⟩
  have hl : ((l + 1 : Nat) : Int) - 1 = (l : Int) := by omega
  rw [hl]
  go_wp2_with fail
  refine (byPrime_any _ _ r n M l q p a e R _ (HR.out.ext kz6) (by omega) (Lib.hid Tryz.call246) (Lib.hid (hM.out w6 kz6 u5 u6 u7))).mono ?_
  rintro ee w7 ⟨G, Bs, ds, F, rfl, hpm, hF, k7⟩
  have hr7 := hr6.ext k7
  have c0 := hr7.cell (i := 0) (by omega)
  have z0 := hr7.frozen 0
  have hsz := hr7.lt
  go_wp2_with fail
  have d0 := ret_cell hr7 (.slice (some ⟨G, 0, none⟩) (l + 1) (l + 1))
  have d1 := (kz6.trans k7).set (p := ⟨w.heap.size + 1 + 1 + 1, 0, none⟩) (by show w.heap.size ≤ w.heap.size + 1 + 1 + 1; omega) (.slice (some ⟨G, 0, none⟩) (l + 1) (l + 1))
  have d2 := hpm.aside hr7 rfl (.slice (some ⟨G, 0, none⟩) (l + 1) (l + 1))
  generalize w7.setCell ⟨w.heap.size + 1 + 1 + 1, 0, none⟩ (.slice (some ⟨G, 0, none⟩) (l + 1) (l + 1)) = w9 at *
  exact bodyPost_ret (v := .tuple #[.agg #[.slice (some ⟨G, 0, none⟩) (l + 1) (l + 1)], .int .i64 0]) (by simp [results, Tryz.results186, go_sem, d0]) rfl ⟨G, Bs, ds, F, rfl, d2, hF, d1⟩
end Go.Proofs.YtbpehdfpiembfaaGreatDoor
