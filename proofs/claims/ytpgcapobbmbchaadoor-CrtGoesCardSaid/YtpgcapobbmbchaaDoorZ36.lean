/-
  Lists copied by append to an empty one; what Drop of package ring answers.
-/
import Derived.Test.YtpgcapobbmbchaaDoorZ23
import Derived.Test.YtpgcapobbmbchaaDoorZTShifts
import Derived.Deep.Upon
import Derived.Lib.SliceRun
namespace Go.Proofs.YtpgcapobbmbchaaDoor
open Go.RowKit
set_option linter.unusedVariables false
set_option maxRecDepth 100000

theorem own_emptyU (w0 : World) : (w0.alloc (.cells #[] 79)).ownsRow w0.heap.size 79 1 (.slice (some ⟨w0.heap.size, 0, none⟩) 0 0) 0 (u64s []) :=
  ⟨rfl, .inr ⟨w0.heap.size, 0, #[], rfl, Nat.le_refl _, (show (w0.heap.push (.cells #[] 79))[w0.heap.size]? = _ by simp), Nat.le_refl _, Nat.zero_le _, rfl, rfl⟩⟩
theorem getD_range {n i : Nat} {f : Nat → Nat} (hi : i < n) : ((List.range n).map f).getD i 0 = f i := by
  rw [List.getD_eq_getElem?_getD, List.getElem?_map, List.getElem?_range hi]; rfl
theorem wpList_copyU {w0 : World} {ops : Array Oper} {rest : List Oper} {o : Oper} {a : Act} {Q : Exit → Act → World → Prop} (hgd : o.guard = none) (s x : Operand)
    (ho : o.op = .call { callee := .builtin .append, args := #[s, x], argTypes := #[22, 22] })
    (g : Nat) (hg : g = w0.heap.size) (A : Option Addr) (n c : Nat) (f : Nat → Nat) (hs : a.eval s = .slice (some ⟨g, 0, none⟩) 0 0) (hx : a.eval x = .slice A n c) (hX : FX w0 A n c f) (hf : ∀ i, i < n → f i < 18446744073709551616) (hn : n ≤ 1000)
    (h : ∀ A2 c2 w', FX w' A2 n c2 f → Ext w0 w' → wpList Tryd.prog ops Q rest (a.put o.dst (.slice A2 n c2)) w') : wpList Tryd.prog ops Q (o :: rest) a (w0.alloc (.cells #[] 79)) := by
  obtain ⟨i0, hi, hz0, hz1, hz2⟩ := info_parts info_u64
  subst hg
  have hX' : FX (w0.alloc (.cells #[] 79)) A n c f := hX.ext ((Ext.refl w0).alloc _)
  rcases A with _ | ad
  · have hn0 : n = 0 := by
      rcases Nat.eq_zero_or_pos n with h0 | h0
      · exact h0
      · obtain ⟨ad, e, _⟩ := hX.cells h0
        cases e
    subst hn0
    refine wpList_plain hgd fun K hK => ?_
    have hrun := run_append_nothing (P := Tryd.prog) (w0.alloc (.cells #[] 79)) 22 22 o.type 79 i0 Tryd.underlying22 hi (some ⟨w0.heap.size, 0, none⟩) 0 0 (Nat.le_refl _) (.slice none 0 c) (Src.ofNil _ Tryd.underlying22 c)
    unfold Oper.wp
    simp [execOp, ho, resolve, invoke, builtin, hs, hx, hrun, Result.andThen]
    exact hK _ _ (h _ _ _ ⟨Nat.zero_le _, fun h => absurd h (by omega)⟩ ((Ext.refl w0).alloc _))
  · refine wpList_append_own _ hgd s x 22 ho w0.heap.size 79 i0 (.int .u64 0) 1 8 Tryd.underlying22 hi hz0 hz1 hz2 rfl (by decide) _ _ _ hs (own_emptyU w0) ad n c (u64s ((List.range n).map f)) hx (by rw [u64s_length]; simp) (fun j u hu => ?_) u64s_one (by unfold maxLen; omega) (by omega) (by simp) ?_
    · unfold u64s at hu
      rw [List.getElem?_map, List.getElem?_map] at hu
      by_cases hj : j < n
      · rw [List.getElem?_range hj] at hu
        simp only [Option.map_some, Option.some.injEq] at hu
        obtain ⟨ad', e, hc⟩ := hX'.cells (by omega)
        injection e with e
        subst e
        rw [← hu]
        exact hc j hj
      · rw [List.getElem?_eq_none (by simp; omega)] at hu
        cases hu
    · intro v2 w2 hown2 hgrow2 _
      obtain ⟨A2, c2, rfl, hr2⟩ := rd_of_own (zs := (List.range n).map f) (n := n) (by simpa [u64s] using hown2) (fun x hx => by
        obtain ⟨j, hj, rfl⟩ := List.mem_map.1 hx
        rw [W64_eq]; exact hf j (List.mem_range.1 hj))
      refine h A2 c2 w2 ((fx_of_rd hr2).congr fun i hi => getD_range hi) ?_
      refine Below.grown ((Ext.refl w0).alloc _) hgrow2 (by simp) (fun k e => ?_)
      simp [Value.ownBlock] at e
      omega
set_option maxHeartbeats 1000000 in
theorem clone_any (ad : Addr) (n c : Nat) (f : Nat → Nat) (w : World) (hX : FX w (some ad) n c f) (hn : n ≤ 1000) (hf : Hid (∀ i, i < n → f i < 18446744073709551616)) :
    Calls Tryd.prog 78 #[.slice (some ad) n c] w fun ee w' => ∃ (A2 : Option Addr) (c2 : Nat), ee = .returned (.slice A2 n c2) ∧ FX w' A2 n c2 f ∧ Ext w w' := by
  have HX := Lib.hid hX
  clear hX
  have heq := Lib.run_eql_slice_nil (P := Tryd.prog) w 22 79 (some ad) n c 0 0 Tryd.underlying22
  go_enter Tryd.func78, Tryd.ntmps78
  go_wp2_with (at_builtin; go_loud (refine wpList_copyU rfl _ _ rfl w.heap.size rfl (some ad) n c f rfl rfl HX.out hf.out hn ?_; intro A2 c2 w2 hx2 k2))
  clear heq
  go_ret
  exact ⟨A2, c2, rfl, hx2, k2⟩
end Go.Proofs.YtpgcapobbmbchaaDoor

/-
  What Drop of package ring answers.
-/
namespace Go.Proofs.YtpgcapobbmbchaaDoor
open Go.RowKit
set_option linter.unusedVariables false
set_option maxRecDepth 100000

theorem drop1_any (b4 n q p L c cj j : Nat) (A Aj : Option Addr) (f : Nat → Nat) (w : World) (h4 : w.cell? ⟨b4, 0, none⟩ = some (.slice A L c)) (hj : j < L) (hA : ∃ ad, A = some ad ∧ w.cell? (ad.add j) = some (.slice Aj n cj)) (hX : FX w Aj n cj f) (hn0 : 2 ≤ n) (hn : n ≤ 32) (hL : L ≤ 1000000) (hf : Hid (∀ i, i < n → f i < 18446744073709551616)) :
    Calls Tryd.prog 77 (#[.agg #[.int .u64 (q : Int), .pointer (some ⟨p, 0, none⟩)], .int .i64 (j : Int)] ++ #[.pointer (some ⟨b4, 0, none⟩)]) w fun ee w' => ∃ (A2 : Option Addr) (c2 : Nat) (F : Nat → Nat), ee = .returned (.slice A2 n c2) ∧ FX w' A2 n c2 F ∧ Hid (F = f) ∧ Ext w w' := by
  have kV : Ext w (w.alloc (.cells #[.int .u64 (q : Int), .pointer (some ⟨p, 0, none⟩)] 93)) := (Ext.refl w).alloc _
  have x4 := cell_ext kV h4
  obtain ⟨ad, rfl, hc⟩ := hA
  have xj := cell_ext kV hc
  obtain ⟨ad2, rfl, _⟩ := hX.cells (by omega)
  have HX := Lib.hid (hX.ext kV)
  have hb4 : b4 < w.heap.size := World.block_lt_of_cell? _ _ h4
  clear hX
  rw [show (#[Value.agg #[.int .u64 (q : Int), .pointer (some ⟨p, 0, none⟩)], .int .i64 (j : Int)] ++ #[.pointer (some ⟨b4, 0, none⟩)] : Array Value) = #[.agg #[.int .u64 (q : Int), .pointer (some ⟨p, 0, none⟩)], .int .i64 (j : Int), .pointer (some ⟨b4, 0, none⟩)] from rfl]
  have i0 : (0 : Int) ≤ (j : Int) := by omega
  have i1 : (j : Int) < (L : Int) := by omega
  go_enter Tryd.func77, Tryd.ntmps77
  go_wp2_with fail
  refine (clone_any ad2 n cj f _ HX.out (by omega) hf).mono ?_
  rintro ee w2 ⟨A2, c2, rfl, hx2, k2⟩
  go_wp2
  go_ret
  exact ⟨A2, c2, f, rfl, hx2, Lib.hid rfl, kV.trans k2⟩
set_option maxHeartbeats 2000000 in
theorem rDrop_no (r n M : Nat) (q p : Nat → Nat) (a e : Nat → Nat → Nat) (A : Option Addr) (L c : Nat) (As : Nat → Option Addr) (ns cs : Nat → Nat) (f : Nat → Nat → Nat) (k : Int) (w : World) (hR : Rg w r n M q p a e) (hP : Hid (PB w A L c As ns cs f)) (hE : ¬ El n M q L ns f) :
    Calls Tryd.prog 33 #[.pointer (some ⟨r, 0, none⟩), .agg #[.slice A L c], .int .i64 k] w (Errs w 3) := by
  have HR := Lib.hid hR
  have HE := Lib.hid hE
  have hl1 := hR.l1
  clear hR hE
  go_enter Tryd.func33, Tryd.ntmps33
  go_wp2_with fail
  obtain ⟨V, hV⟩ : ∃ V, V = (w.alloc (.cells #[.slice A L c] 25)).alloc (.cells #[.slice none 0 0] 25) := ⟨_, rfl⟩
  rw [← hV]
  have kV : Ext w V := by rw [hV]; exact (((Ext.refl w).alloc _).alloc _)
  have hr0 : RW V (w.heap.size + 1) 25 1 (fun _ => .slice none 0 0) := by
    have : RW V (w.alloc (.cells #[.slice A L c] 25)).heap.size 25 1 (fun _ => .slice none 0 0) := by rw [hV]; exact heap_alloc_new _ _
    rwa [show (w.alloc (.cells #[.slice A L c] 25)).heap.size = w.heap.size + 1 by simp] at this
  have h4 : V.cell? ⟨w.heap.size, 0, none⟩ = some (.slice A L c) := by rw [hV]; exact cell_ext ((Ext.refl _).alloc _) (one_at w _ _)
  have hsV : V.heap.size = w.heap.size + 1 + 1 := by rw [hV]; simp
  clear hV
  have kX : Ext V (V.alloc (.cells #[.slice A L c] 25)) := (Ext.refl V).alloc _
  have hx : (V.alloc (.cells #[.slice A L c] 25)).cell? ⟨w.heap.size + 1 + 1, 0, none⟩ = some (.slice A L c) := by rw [← hsV]; exact one_at _ _ _
  refine (rcheck1 r n M q p a e A L c As ns cs f _ (w.heap.size + 1 + 1) hx (HR.out.ext (kV.trans kX)) (Lib.hid (hP.out.ext (kV.trans kX)))).mono ?_
  intro ee w2 hchk
  obtain ⟨rfl, k2'⟩ := chk_false hchk HE.out
  clear hchk
  have k2 := kX.trans k2'
  have hr2 := hr0.ext k2
  have c0 := hr2.cell (i := 0) (by omega)
  have z0 := hr2.frozen 0
  have hsz := hr2.lt
  go_wp2_with fail
  have d0 := ret_cell hr2 (.slice none 0 0)
  have d1 := (kV.trans k2).set (p := ⟨w.heap.size + 1, 0, none⟩) (by show w.heap.size ≤ w.heap.size + 1; omega) (.slice none 0 0)
  generalize w2.setCell ⟨w.heap.size + 1, 0, none⟩ (.slice none 0 0) = w5 at *
  exact bodyPost_ret (v := .tuple #[.agg #[.slice none 0 0], .int .i64 3]) (by simp [results, Tryd.results33, go_sem, d0]) rfl ⟨rfl, d1⟩
theorem rDrop_nil (A : Option Addr) (L c : Nat) (k : Int) (w : World) :
    Calls Tryd.prog 33 #[.pointer none, .agg #[.slice A L c], .int .i64 k] w (Errs w 1) := by
  go_enter Tryd.func33, Tryd.ntmps33
  go_wp2_with fail
  refine (rcheck_nil _ _ _ _).mono ?_
  rintro ee w' ⟨rfl, rfl⟩
  go_wp2
  exact bodyPost_ret (v := .tuple #[.agg #[.slice none 0 0], .int .i64 1]) (by simp [results, Tryd.results33, go_sem]) rfl ⟨rfl, (((Ext.refl w).alloc _).alloc _).alloc _⟩
set_option maxHeartbeats 2000000 in
theorem rDrop_level (r n M : Nat) (q p : Nat → Nat) (a e : Nat → Nat → Nat) (A : Option Addr) (L c : Nat) (As : Nat → Option Addr) (ns cs : Nat → Nat) (f : Nat → Nat → Nat) (k : Int) (w : World) (hR : Rg w r n M q p a e) (hP : Hid (PB w A L c As ns cs f)) (hE : El n M q L ns f) (k0 : -9223372036854775808 ≤ k) (k1 : k < 9223372036854775808) (hk : k < 0 ∨ (L : Int) ≤ k) :
    Calls Tryd.prog 33 #[.pointer (some ⟨r, 0, none⟩), .agg #[.slice A L c], .int .i64 k] w (Errs w 10) := by
  have HR := Lib.hid hR
  have HE := Lib.hid hE
  have hl1 := hR.l1
  clear hR hE
  go_enter Tryd.func33, Tryd.ntmps33
  go_wp2_with fail
  obtain ⟨V, hV⟩ : ∃ V, V = (w.alloc (.cells #[.slice A L c] 25)).alloc (.cells #[.slice none 0 0] 25) := ⟨_, rfl⟩
  rw [← hV]
  have kV : Ext w V := by rw [hV]; exact (((Ext.refl w).alloc _).alloc _)
  have hr0 : RW V (w.heap.size + 1) 25 1 (fun _ => .slice none 0 0) := by
    have : RW V (w.alloc (.cells #[.slice A L c] 25)).heap.size 25 1 (fun _ => .slice none 0 0) := by rw [hV]; exact heap_alloc_new _ _
    rwa [show (w.alloc (.cells #[.slice A L c] 25)).heap.size = w.heap.size + 1 by simp] at this
  have h4 : V.cell? ⟨w.heap.size, 0, none⟩ = some (.slice A L c) := by rw [hV]; exact cell_ext ((Ext.refl _).alloc _) (one_at w _ _)
  have hsV : V.heap.size = w.heap.size + 1 + 1 := by rw [hV]; simp
  clear hV
  have kX : Ext V (V.alloc (.cells #[.slice A L c] 25)) := (Ext.refl V).alloc _
  have hx : (V.alloc (.cells #[.slice A L c] 25)).cell? ⟨w.heap.size + 1 + 1, 0, none⟩ = some (.slice A L c) := by rw [← hsV]; exact one_at _ _ _
  refine (rcheck1 r n M q p a e A L c As ns cs f _ (w.heap.size + 1 + 1) hx (HR.out.ext (kV.trans kX)) (Lib.hid (hP.out.ext (kV.trans kX)))).mono ?_
  intro ee w2 hchk
  obtain ⟨rfl, k2'⟩ := chk_true hchk HE.out
  clear hchk
  have hLM := HE.out.2.1
  have y4 := cell_ext (kX.trans k2') h4
  by_cases hk0 : k < 0
  · have k2 := kX.trans k2'
    have hr2 := hr0.ext k2
    have c0 := hr2.cell (i := 0) (by omega)
    have z0 := hr2.frozen 0
    have hsz := hr2.lt
    go_wp2_with fail
    have d0 := ret_cell hr2 (.slice none 0 0)
    have d1 := (kV.trans k2).set (p := ⟨w.heap.size + 1, 0, none⟩) (by show w.heap.size ≤ w.heap.size + 1; omega) (.slice none 0 0)
    generalize w2.setCell ⟨w.heap.size + 1, 0, none⟩ (.slice none 0 0) = w5 at *
    exact bodyPost_ret (v := .tuple #[.agg #[.slice none 0 0], .int .i64 10]) (by simp [results, Tryd.results33, go_sem, d0]) rfl ⟨rfl, d1⟩
  · have hk2 : (L : Int) - 1 < k := by omega
    go_wp2_with fail
    refine (levelOf_any A L c w2 (by omega)).mono ?_
    rintro ee w3 ⟨rfl, k3⟩
    have k2 := kX.trans (k2'.trans k3)
    have hr2 := hr0.ext k2
    have c0 := hr2.cell (i := 0) (by omega)
    have z0 := hr2.frozen 0
    have hsz := hr2.lt
    go_wp2_with fail
    have d0 := ret_cell hr2 (.slice none 0 0)
    have d1 := (kV.trans k2).set (p := ⟨w.heap.size + 1, 0, none⟩) (by show w.heap.size ≤ w.heap.size + 1; omega) (.slice none 0 0)
    generalize w3.setCell ⟨w.heap.size + 1, 0, none⟩ (.slice none 0 0) = w5 at *
    exact bodyPost_ret (v := .tuple #[.agg #[.slice none 0 0], .int .i64 10]) (by simp [results, Tryd.results33, go_sem, d0]) rfl ⟨rfl, d1⟩
set_option maxHeartbeats 2000000 in
theorem rDrop_any (r n M : Nat) (q p : Nat → Nat) (a e : Nat → Nat → Nat) (A : Option Addr) (L c : Nat) (As : Nat → Option Addr) (ns cs : Nat → Nat) (f : Nat → Nat → Nat) (k : Nat) (w : World) (hR : Rg w r n M q p a e) (hP : Hid (PB w A L c As ns cs f)) (hE : El n M q L ns f) (hk : k < L) :
    Calls Tryd.prog 33 #[.pointer (some ⟨r, 0, none⟩), .agg #[.slice A L c], .int .i64 (k : Int)] w (Made w n (k + 1) (fun j F => F = f j)) := by
  have HR := Lib.hid hR
  have HE := Lib.hid hE
  have hl1 := hR.l1
  clear hR hE
  go_enter Tryd.func33, Tryd.ntmps33
  go_wp2_with fail
  obtain ⟨V, hV⟩ : ∃ V, V = (w.alloc (.cells #[.slice A L c] 25)).alloc (.cells #[.slice none 0 0] 25) := ⟨_, rfl⟩
  rw [← hV]
  have kV : Ext w V := by rw [hV]; exact (((Ext.refl w).alloc _).alloc _)
  have hr0 : RW V (w.heap.size + 1) 25 1 (fun _ => .slice none 0 0) := by
    have : RW V (w.alloc (.cells #[.slice A L c] 25)).heap.size 25 1 (fun _ => .slice none 0 0) := by rw [hV]; exact heap_alloc_new _ _
    rwa [show (w.alloc (.cells #[.slice A L c] 25)).heap.size = w.heap.size + 1 by simp] at this
  have h4 : V.cell? ⟨w.heap.size, 0, none⟩ = some (.slice A L c) := by rw [hV]; exact cell_ext ((Ext.refl _).alloc _) (one_at w _ _)
  have hsV : V.heap.size = w.heap.size + 1 + 1 := by rw [hV]; simp
  clear hV
  have kX : Ext V (V.alloc (.cells #[.slice A L c] 25)) := (Ext.refl V).alloc _
  have hx : (V.alloc (.cells #[.slice A L c] 25)).cell? ⟨w.heap.size + 1 + 1, 0, none⟩ = some (.slice A L c) := by rw [← hsV]; exact one_at _ _ _
  refine (rcheck1 r n M q p a e A L c As ns cs f _ (w.heap.size + 1 + 1) hx (HR.out.ext (kV.trans kX)) (Lib.hid (hP.out.ext (kV.trans kX)))).mono ?_
  intro ee w2 hchk
  obtain ⟨rfl, k2'⟩ := chk_true hchk HE.out
  clear hchk
  have hLM := HE.out.2.1
  have y4 := cell_ext (kX.trans k2') h4
  have hk2 : ¬ (L : Int) - 1 < (k : Int) := by omega
  go_wp2_with fail
  refine (levelOf_any A L c w2 (by omega)).mono ?_
  rintro ee w3 ⟨rfl, k3⟩
  have Y4 := Lib.hid (cell_ext k3 y4)
  have kz := kV.trans (kX.trans (k2'.trans k3))
  have hr3 := hr0.ext (kX.trans (k2'.trans k3))
  go_wp2_with fail
  refine (byPrime_any _ _ r n M k q p a e (fun j F => F = f j) _ (HR.out.ext kz) (by omega) (Lib.hid Tryd.call77) (Lib.hid fun j w1 hj k1 => ?_)).mono ?_
  · obtain ⟨x1, x2, x3⟩ := el_cell (hP.out.1.ext (kz.trans k1)) HE.out (show j < L by omega)
    have hq := HR.out.ql j (by omega)
    exact drop1_any w.heap.size n (q j) (p j) L c (cs j) j A (As j) (f j) w1 (cell_ext k1 Y4.out) (by omega) x1 x2 HR.out.n0 HR.out.n1 (by omega) (Lib.hid fun i hi => by have := x3 i hi; omega)
  rintro ee w4 ⟨G, Bs, ds, F, rfl, hpm, hF, k4⟩
  have hr4 := hr3.ext k4
  have c0 := hr4.cell (i := 0) (by omega)
  have z0 := hr4.frozen 0
  have hsz := hr4.lt
  go_wp2_with fail
  have d0 := ret_cell hr4 (.slice (some ⟨G, 0, none⟩) (k + 1) (k + 1))
  have d1 := (kz.trans k4).set (p := ⟨w.heap.size + 1, 0, none⟩) (by show w.heap.size ≤ w.heap.size + 1; omega) (.slice (some ⟨G, 0, none⟩) (k + 1) (k + 1))
  have d2 := hpm.aside hr4 rfl (.slice (some ⟨G, 0, none⟩) (k + 1) (k + 1))
  generalize w4.setCell ⟨w.heap.size + 1, 0, none⟩ (.slice (some ⟨G, 0, none⟩) (k + 1) (k + 1)) = w5 at *
  exact bodyPost_ret (v := .tuple #[.agg #[.slice (some ⟨G, 0, none⟩) (k + 1) (k + 1)], .int .i64 0]) (by simp [results, Tryd.results33, go_sem, d0]) rfl ⟨G, Bs, ds, F, rfl, d2, hF, d1⟩
end Go.Proofs.YtpgcapobbmbchaaDoor
