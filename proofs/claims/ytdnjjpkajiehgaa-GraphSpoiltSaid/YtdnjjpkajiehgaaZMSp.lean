/-
  The law GraphSpoilt walked.
-/
import Derived.Test.YtdnjjpkajiehgaaZ28
namespace Go.Proofs.Ytdnjjpkajiehgaa
open Go.RowKit
set_option linter.unusedVariables false
set_option maxRecDepth 100000

theorem own_set {w : World} {B s n g cap i : Nat} {T : TypeId} {xs : List Value} (h : w.ownsRow B T s (.slice (some ⟨g, 0, none⟩) n cap) n xs) (hi : i < n * s) (u : Value) : (w.setCell ⟨g, i, none⟩ u).ownsRow B T s (.slice (some ⟨g, 0, none⟩) n cap) n (xs.set i u) := by
  refine ⟨by rw [List.length_set]; exact h.1, ?_⟩
  rcases h.2 with ⟨e, _⟩ | ⟨q, cap', cur, e, hb, hh, h1, h2, h3, h4⟩
  · cases e
  · injection e with e1 _ e3
    injection e1 with e1
    injection e1 with e1
    subst e1 e3
    refine .inr ⟨g, cap, cur.setIfInBounds i u, rfl, hb, ?_, h1, h2, by simpa using h3, ?_⟩
    · simp [World.setCell, Array.getElem?_modify, hh]
    · rw [Array.toList_setIfInBounds, ← h4]
      exact List.take_set
/-- One node of a row is another one. -/
theorem ns_poke {B n g cap j f : Nat} {w : World} {nodes : List Nd} {us : List Value} {x x' : Nd} {As Ad Ab : Option Addr} {cs cd cb : Nat} {u : Value} (hn : nodes.length = n) (ho : w.ownsRow B 40 9 (.slice (some ⟨g, 0, none⟩) n cap) n us) (hu : ∀ (j : Nat) (x : Nd), nodes[j]? = some x → ∃ As Ad Ab cs cd cb, NdY w x As Ad Ab cs cd cb ∧ ∀ (f : Nat) (u : Value), (nodeC x As Ad Ab cs cd cb)[f]? = some u → us[j * 9 + f]? = some u)
    (hx : nodes[j]? = some x) (hf : f < 9) (hX : NdX (w.setCell ⟨g, j * 9 + f, none⟩ u) x' As Ad Ab cs cd cb) (hc : ∀ (k : Nat) (v : Value), (nodeC x' As Ad Ab cs cd cb)[k]? = some v → (us.set (j * 9 + f) u)[j * 9 + k]? = some v) :
    GX (w.setCell ⟨g, j * 9 + f, none⟩ u) (some ⟨g, 0, none⟩) cap (nodes.set j x') := by
  have hj := (List.getElem?_eq_some_iff.1 hx).1
  have ho2 := own_set (i := j * 9 + f) ho (by omega) u
  obtain ⟨hle, hh⟩ : n ≤ cap ∧ ∃ cur, w.heap[g]? = some (.cells cur 40 (0, 0)) := by
    rcases ho.2 with ⟨e, _⟩ | ⟨q, cap', cur, e, hb, hh, h1, _⟩
    · cases e
    · injection e with e1 _ e3
      injection e1 with e1
      injection e1 with e1
      subst e1 e3
      exact ⟨h1, cur, hh⟩
  obtain ⟨cur, hh⟩ := hh
  refine ⟨by rw [List.length_set]; omega, fun _ => ⟨_, rfl, fun i y hy => ?_⟩⟩
  have hcell : ∀ (k : Nat) (v : Value), (us.set (j * 9 + f) u)[i * 9 + k]? = some v → (w.setCell ⟨g, j * 9 + f, none⟩ u).cell? (((⟨g, 0, none⟩ : Addr).add (i * 9)).add k) = some v := fun k v hv => by
    have := World.ownsRow.cells (g := g) ho2 rfl (i * 9 + k) v hv
    rw [Addr.add_lit] at this
    rw [Addr.add_lit, Addr.add_lit, Nat.add_assoc]
    exact this
  by_cases e : i = j
  · subst e
    rw [List.getElem?_set_self hj] at hy
    injection hy with hy
    subst hy
    exact ⟨As, Ad, Ab, cs, cd, cb, hX, fun k v hv => hcell k v (hc k v hv)⟩
  · rw [List.getElem?_set_ne (fun h => e h.symm)] at hy
    obtain ⟨As', Ad', Ab', cs', cd', cb', h1, h2⟩ := hu i y hy
    have h3 := h1.map fun _ _ _ _ h => h.onp hh (by decide) ((On.refl g w).set (j * 9 + f) u)
    refine ⟨As', Ad', Ab', cs', cd', cb', ⟨h3.1.1.1, h3.1.2.1.1, h3.1.2.2.1, by have := h3.2.1; omega, by have := h3.2.2.1; omega, by have := h3.2.2.2; omega⟩, fun k v hv => hcell k v ?_⟩
    have hk : k < 9 := (List.getElem?_eq_some_iff.1 hv).1
    rw [List.getElem?_set_ne (by omega)]
    exact h2 k v hv
theorem poke_at {x : Nd} {As Ad Ab : Option Addr} {cs cd cb j f : Nat} {us : List Value} {L : List Value} {u : Value} (hu : ∀ (k : Nat) (v : Value), (nodeC x As Ad Ab cs cd cb)[k]? = some v → us[j * 9 + k]? = some v) (hf : f < 9) (hL : L = (nodeC x As Ad Ab cs cd cb).set f u) : ∀ (k : Nat) (v : Value), L[k]? = some v → (us.set (j * 9 + f) u)[j * 9 + k]? = some v := fun k v hv => by
  subst hL
  by_cases e : k = f
  · subst e
    rw [List.getElem?_set_self (by rw [nodeC_length]; exact hf)] at hv
    have hlt : j * 9 + k < us.length := by
      obtain ⟨v', hv'⟩ : ∃ v', (nodeC x As Ad Ab cs cd cb)[k]? = some v' := ⟨_, List.getElem?_eq_getElem (by rw [nodeC_length]; exact hf)⟩
      exact (List.getElem?_eq_some_iff.1 (hu k v' hv')).1
    rw [List.getElem?_set_self hlt]
    exact hv
  · rw [List.getElem?_set_ne (fun h => e h.symm)] at hv
    rw [List.getElem?_set_ne (by omega)]
    exact hu k v hv
theorem wpList_consZ {w0 : World} {ops : Array Oper} {rest : List Oper} {o : Oper} {a : Act} {Q : Exit → Act → World → Prop} (hgd : o.guard = none) (s x : Operand)
    (ho : o.op = .call { callee := .builtin .append, args := #[s, x], argTypes := #[38, 38] })
    (g : Nat) (hg : g = w0.heap.size) (z : Int) (A : Option Addr) (n c : Nat) (xs : List Int) (hs : a.eval s = .slice (some ⟨g, 0, none⟩) 1 1) (hx : a.eval x = .slice A n c) (hX : ZX w0 A n c xs) (hn : n ≤ 100000)
    (h : ∀ A2 c2 w', ZX w' A2 (n + 1) c2 (z :: xs) → TyM w' A2 → Ext w0 w' → wpList Try.prog ops Q rest (a.put o.dst (.slice A2 (n + 1) c2)) w') : wpList Try.prog ops Q (o :: rest) a (w0.alloc (.cells #[.int .i64 z] 3)) := by
  obtain ⟨i0, hi, hz0, hz1, hz2⟩ := info_partsJ info_intJ
  subst hg
  have hX' : ZX (w0.alloc (.cells #[.int .i64 z] 3)) A n c xs := hX.ext ((Ext.refl w0).alloc _)
  rcases A with _ | ad
  · have hn0 : n = 0 := by
      rcases Nat.eq_zero_or_pos n with h0 | h0
      · exact h0
      · obtain ⟨ad, e, _⟩ := hX.cells h0
        cases e
    subst hn0
    refine wpList_plain hgd fun K hK => ?_
    have hrun := run_append_nothing (P := Try.prog) (w0.alloc (.cells #[.int .i64 z] 3)) 38 38 o.type 3 i0 Try.underlying38 hi (some ⟨w0.heap.size, 0, none⟩) 1 1 (Nat.le_refl _) (.slice none 0 c) (Src.ofNil _ Try.underlying38 c)
    unfold Oper.wp
    simp [execOp, ho, resolve, invoke, builtin, hs, hx, hrun, Result.andThen]
    refine hK _ _ (h _ _ _ ?_ (TyM.new _ _) ((Ext.refl w0).alloc _))
    rw [List.eq_nil_of_length_eq_zero hX.len]
    exact zx_newL w0 [z] (by simp)
  · refine wpList_append_own _ hgd s x 38 ho w0.heap.size 3 i0 (.int .i64 0) 1 8 Try.underlying38 hi hz0 hz1 hz2 rfl (by decide) _ _ _ hs (own_newJ w0 3 1 1 [.int .i64 z] rfl (by unfold maxLen; omega)) ad n c (i64s xs) hx (by unfold i64s; rw [List.length_map, hX.len]; omega) (fun j u hu => ?_) (fun u hu => by obtain ⟨_, _, rfl⟩ := List.mem_map.1 hu; rfl) (by unfold maxLen; omega) (by omega) (by simp) ?_
    · skip
      unfold i64s at hu
      rw [List.getElem?_map] at hu
      obtain ⟨z', hz, rfl⟩ := Option.map_eq_some_iff.1 hu
      have hl := (List.getElem?_eq_some_iff.1 hz).1
      obtain ⟨ad', e, hc⟩ := hX'.cells (by have := hX.len; omega)
      injection e with e
      subst e
      exact hc j z' hz
    · intro v2 w2 hown2 hgrow2 _
      obtain ⟨A2, c2, e, hr2, _, hy2⟩ := rdZ_tyM (zs := z :: xs) (n := n + 1) (by rw [show n + 1 = 1 + n by omega]; exact hown2)
      subst e
      refine h A2 c2 w2 hr2 hy2 ?_
      refine Below.grown ((Ext.refl w0).alloc _) hgrow2 (by simp) (fun k e => ?_)
      simp [Value.ownBlock] at e
      omega
end Go.Proofs.Ytdnjjpkajiehgaa
namespace Go.Proofs.Ytdnjjpkajiehgaa
open Go.RowKit
set_option linter.unusedVariables false
set_option maxRecDepth 100000

theorem ZX.tail1 {w : World} {ad : Addr} {n c : Nat} {z : Int} {l : List Int} (h : ZX w (some ad) (n + 1) c (z :: l)) : ZX w (if c = 1 then some ad else some (ad.add 1)) n (c - 1) l := by
  have hl : l.length = n := by have := h.len; simpa using this
  have hr := h.room
  by_cases hc : c = 1
  · rw [if_pos hc]
    obtain rfl : n = 0 := by omega
    rw [List.eq_nil_of_length_eq_zero hl, show c - 1 = 0 by omega]
    exact ⟨rfl, Nat.le_refl _, fun h => absurd h (by omega)⟩
  · rw [if_neg hc]
    refine ⟨hl, by omega, fun hn => ⟨_, rfl, fun j y hy => ?_⟩⟩
    obtain ⟨ad', e, hcell⟩ := h.cells (by omega)
    injection e with e
    subst e
    have := hcell (j + 1) y (by simpa using hy)
    rw [show (ad.add 1).add j = ad.add (j + 1) by unfold Addr.add; split <;> simp_all <;> omega]
    exact this
set_option maxHeartbeats 16000000 in
theorem graphSpoilt_walk (A : Option Addr) (n c at_ how : Nat) (v : Int) (w : World) (hX : Hid (ByX w A n)) (ha : at_ < 256) (hh : how < 256) :
    Calls Try.prog 4 #[.slice A n c, .int .u8 (at_ : Int), .int .u8 (how : Int), .int .i64 v] w fun e w' => e = .returned (.bool true) ∧ Ext w w' := by
  go_enter Try.func4, Try.ntmps4
  go_wp2_with fail
  refine (fixed16_any w).mono ?_
  rintro e1 w1 ⟨rfl, k1⟩
  have HX1 := Lib.hid (hX.out.ext k1)
  have K1 := Lib.hid k1
  clear k1
  by_cases h3 : (300 : Int) < (n : Int)
  · go_wp2
    go_ret
    exact ⟨rfl, K1.out⟩
  have hT := tm_new (c := c) HX1.out (by omega)
  have kT : Ext w1 (w1.alloc (.cells #[.slice A n c, .int .i64 0] 30)) := (Ext.refl w1).alloc _
  have hgb : w1.heap.size < (w1.alloc (.cells #[.slice A n c, .int .i64 0] 30)).heap.size := by simp
  go_wp2_with fail
  generalize w1.alloc (.cells #[.slice A n c, .int .i64 0] 30) = V at *
  obtain ⟨g, hg⟩ : ∃ g, w1.heap.size = g := ⟨_, rfl⟩
  rw [hg] at hT hgb ⊢
  have HT := Lib.hid hT
  have KT := Lib.hid kT
  have hgle : w1.heap.size ≤ g := by omega
  have hwV : w.heap.size ≤ V.heap.size := by have := K1.out.size; omega
  clear hT kT hg
  refine (mkGraph_any g V HT).mono ?_
  rintro e2 w2 ⟨v2, nodes, out, shs, rfl, hns, hn0, hn9, hout, hck, hgs, ht2, ho2⟩
  obtain ⟨us, ho, hu⟩ := hns
  obtain ⟨nb, cap, rfl, hnbV, cur, hnb⟩ : ∃ nb cap, v2 = .slice (some ⟨nb, 0, none⟩) nodes.length cap ∧ V.heap.size ≤ nb ∧ ∃ cur, w2.heap[nb]? = some (.cells cur 40 (0, 0)) := by
    rcases ho.2 with ⟨_, e⟩ | ⟨q, cap, cur, e, hb, hh2, _⟩
    · exact absurd e (by omega)
    · exact ⟨q, cap, e, hb, cur, hh2⟩
  have K2 := Lib.hid (show Ext w w2 from K1.out.trans (below_only KT.out ho2 KT.out.size (by omega)))
  clear hck hgs ht2 ho2
  have h5 := heap_alloc_new w2 (.cells #[.slice (some ⟨nb, 0, none⟩) nodes.length cap, .int .i64 (out : Int)] 26)
  have k5 : Ext w2 (w2.alloc (.cells #[.slice (some ⟨nb, 0, none⟩) nodes.length cap, .int .i64 (out : Int)] 26)) := (Ext.refl w2).alloc _
  have q0 := cell_of_heap h5 (j := 0) rfl
  have q1 := cell_of_heap h5 (j := 1) rfl
  have hnbl : nb < w2.heap.size := (Array.getElem?_eq_some_iff.1 hnb).1
  obtain ⟨j, hj⟩ : ∃ j : Nat, at_ % nodes.length = j := ⟨_, rfl⟩
  have hjl : j < nodes.length := by rw [← hj]; exact Nat.mod_lt _ (by omega)
  have hcm : (at_ : Int).tmod (nodes.length : Int) = (j : Int) := by
    rw [Int.tmod_eq_emod_of_nonneg (by omega), ← hj, Int.natCast_emod]
  have hem : (at_ : Int) % (nodes.length : Int) = (j : Int) := by rw [← hj, Int.natCast_emod]
  have n0 : ¬ nodes.length = 0 := by omega
  have i0 : (0 : Int) ≤ (j : Int) := by omega
  have i1 : (j : Int) < (nodes.length : Int) := by omega
  clear hj
  go_wp2_with fail
  go_quiet (fail)
  have kq : Ext (w2.alloc (.cells #[.slice (some ⟨nb, 0, none⟩) nodes.length cap, .int .i64 (out : Int)] 26)) ((w2.alloc (.cells #[.slice (some ⟨nb, 0, none⟩) nodes.length cap, .int .i64 (out : Int)] 26)).drewN nq) := (Ext.refl _).drewN nq
  have KW := Lib.hid (K2.out.trans (k5.trans kq))
  have H5 := Lib.hid ((kq.block w2.heap.size (Array.getElem?_eq_some_iff.1 h5).1).trans h5)
  have HNB := Lib.hid (((k5.trans kq).block nb hnbl).trans hnb)
  have HOR := Lib.hid (own_extJ ho (k5.trans kq))
  have HU := Lib.hid (show ∀ (j : Nat) (x : Nd), nodes[j]? = some x → ∃ As Ad Ab cs cd cb, NdY ((w2.alloc (.cells #[.slice (some ⟨nb, 0, none⟩) nodes.length cap, .int .i64 (out : Int)] 26)).drewN nq) x As Ad Ab cs cd cb ∧ ∀ (f : Nat) (u : Value), (nodeC x As Ad Ab cs cd cb)[f]? = some u → us[j * 9 + f]? = some u from fun j x hx => by
    obtain ⟨As, Ad, Ab, cs, cd, cb, h1, h2⟩ := hu j x hx
    exact ⟨As, Ad, Ab, cs, cd, cb, h1.map fun _ _ _ _ h => h.ext (k5.trans kq), h2⟩)
  clear q0 q1 kq k5 h5 hnb ho hu hcm hem
  generalize (w2.alloc (.cells #[.slice (some ⟨nb, 0, none⟩) nodes.length cap, .int .i64 (out : Int)] 26)).drewN nq = W at *
  obtain ⟨p5, hp5⟩ : ∃ p, w2.heap.size = p := ⟨_, rfl⟩
  rw [hp5] at H5 hnbl ⊢
  clear hp5
  obtain ⟨x, hx⟩ : ∃ x, nodes[j]? = some x := ⟨_, List.getElem?_eq_getElem hjl⟩
  obtain ⟨As, Ad, Ab, cs, cd, cb, hnd, huj⟩ := HU.out j x hx
  obtain ⟨xk, xa, xb, xsh, xlo, xhi, xsz, xda, xbi⟩ := x
  have HXJ := Lib.hid hx
  have HND := Lib.hid hnd
  have HUJ := Lib.hid huj
  have hcj : ∀ (f : Nat) (u : Value), (nodeC ⟨xk, xa, xb, xsh, xlo, xhi, xsz, xda, xbi⟩ As Ad Ab cs cd cb)[f]? = some u → W.cell? ⟨nb, j * 9 + f, none⟩ = some u := fun f u hf => by
    have := World.ownsRow.cells (g := nb) HOR.out rfl (j * 9 + f) u (huj f u hf)
    rw [Addr.add_lit, Nat.zero_add] at this
    exact this
  have HCJ := Lib.hid hcj
  have hwp5 : w.heap.size ≤ nb := by omega
  obtain ⟨r, hr⟩ : ∃ r : Nat, how % 12 = r := ⟨_, rfl⟩
  have hr12 : r < 12 := by rw [← hr]; exact Nat.mod_lt _ (by omega)
  have hrm : (how : Int).tmod 12 = (r : Int) := by
    rw [Int.tmod_eq_emod_of_nonneg (by omega), ← hr, Int.natCast_emod]
    rfl
  have hre : (how : Int) % 12 = (r : Int) := by rw [← hr, Int.natCast_emod]; rfl
  have p0 := cell_of_heap H5.out (j := 0) rfl
  have p1 := cell_of_heap H5.out (j := 1) rfl
  clear hr hx hnd huj hcj
  have hlx : xsh.length ≤ 1000 ∧ xda.length ≤ 1000 ∧ xbi.length ≤ 1000 := HND.out.2
  obtain ⟨hl1, hl2, hl3⟩ := hlx
  rcases (show r = 0 ∨ r = 1 ∨ r = 2 ∨ r = 3 ∨ r = 4 ∨ r = 5 ∨ r = 6 ∨ r = 7 ∨ r = 8 ∨ r = 9 ∨ r = 10 ∨ r = 11 by omega) with rfl | rfl | rfl | rfl | rfl | rfl | rfl | rfl | rfl | rfl | rfl | rfl
  ·
    have c0 : W.cell? ⟨nb, j * 9, none⟩ = some (.int .i64 xk) := HCJ.out 0 _ rfl
    have z0 : W.frozen? ⟨nb, j * 9, none⟩ = false := frozen_of_heap HNB.out
    have hst : On nb W (W.setCell ⟨nb, j * 9, none⟩ (.int .i64 v)) := (On.refl nb W).set (j * 9 + 0) _
    have HGG := Lib.hid (show GX (W.setCell ⟨nb, j * 9, none⟩ (.int .i64 v)) (some ⟨nb, 0, none⟩) cap (nodes.set j ⟨v, xa, xb, xsh, xlo, xhi, xsz, xda, xbi⟩) by
      have h4 := HND.out.map fun _ _ _ _ h => h.onp HNB.out (by decide) hst
      exact ns_poke (f := 0) rfl HOR.out HU.out HXJ.out (by decide) ⟨h4.1.1.1, h4.1.2.1.1, h4.1.2.2.1, by show xsh.length ≤ 100000; omega, by show xda.length ≤ 100000; omega, by show xbi.length ≤ 100000; omega⟩ (poke_at HUJ.out (by decide) rfl))
    have HKK := Lib.hid (show Ext w (W.setCell ⟨nb, j * 9, none⟩ (.int .i64 v)) from KW.out.set (p := ⟨nb, j * 9, none⟩) hwp5 _)
    have h55 := heap_on H5.out hst (by omega)
    have q0 := cell_of_heap h55 (j := 0) rfl
    have q1 := cell_of_heap h55 (j := 1) rfl
    clear hst h55 p0 p1
    go_upto_region 33 with fail
    generalize W.setCell ⟨nb, j * 9, none⟩ (.int .i64 v) = WN at *
    clear c0 z0 hrm hre
    have hn1 : (nodes.set j ⟨v, xa, xb, xsh, xlo, xhi, xsz, xda, xbi⟩).length ≤ 1000 := by rw [show (nodes.set j ⟨v, xa, xb, xsh, xlo, xhi, xsz, xda, xbi⟩).length = nodes.length by rw [List.length_set]]; omega
    have hCk := graphCheck (nodes.set j ⟨v, xa, xb, xsh, xlo, xhi, xsz, xda, xbi⟩) (some ⟨nb, 0, none⟩) cap (out : Int) WN HGG hn1
    rw [show (nodes.set j ⟨v, xa, xb, xsh, xlo, xhi, xsz, xda, xbi⟩).length = nodes.length by rw [List.length_set]] at hCk
    have HCk := Lib.hid hCk
    have HR := Lib.hid (fun (w9 : World) (k9 : Ext WN w9) => rcheck_any (nodes.set j ⟨v, xa, xb, xsh, xlo, xhi, xsz, xda, xbi⟩) (some ⟨nb, 0, none⟩) cap (out : Int) w9 (Lib.hid (HGG.out.ext k9)) hn1)
    rw [show (nodes.set j ⟨v, xa, xb, xsh, xlo, xhi, xsz, xda, xbi⟩).length = nodes.length by rw [List.length_set]] at HR
    clear hCk hn1
    go_wp2_with fail
    refine HCk.out.mono ?_
    intro e3 w3 h3
    have H3 := Lib.hid h3
    have k1 : Ext WN w3 := by rcases h3 with ⟨_, _, _, _, _, _, _, _, h⟩ | ⟨_, _, _, _, h⟩ <;> exact h
    replace q0 := cell_ext k1 q0
    replace q1 := cell_ext k1 q1
    have kk := Lib.hid (HKK.out.trans k1)
    have HR3 := Lib.hid (HR.out w3 k1)
    clear h3 k1
    rcases H3.out with ⟨shs', A1, c1, h1, rfl, h2, h4, h5, _⟩ | ⟨m1, h1, h2, rfl, _⟩
    · have H1 := Lib.hid h1
      have H2 := Lib.hid h2
      have H4 := Lib.hid h4
      have H5' := Lib.hid h5
      clear h1 h2 h4 h5 H3
      go_wp2_with fail
      refine HR3.out.mono ?_
      rintro e4 w4 (⟨shs2, A2, c2, g1, rfl, g2, _, g5, k4⟩ | ⟨m2, g1, _⟩)
      · rw [H1.out] at g1
        injection g1 with g1
        subst g1
        have G2 := Lib.hid g2
        have K4 := Lib.hid k4
        clear g2 k4 g5
        go_wp2_with fail
        refine (sameShapes_any A1 A2 c1 c2 shs' w4 (Lib.hid (H2.out.ext K4.out)) G2 H4 (by have := H5'.out; omega)).mono ?_
        rintro e5 w5 ⟨rfl, k5⟩
        go_wp2
        go_ret
        exact ⟨rfl, kk.out.trans (K4.out.trans k5)⟩
      · rw [H1.out] at g1
        cases g1
    · have H1 := Lib.hid h1
      clear h1 H3
      go_wp2_with fail
      refine HR3.out.mono ?_
      rintro e4 w4 (⟨shs2, A2, c2, g1, _⟩ | ⟨m2, g1, _, rfl, k4⟩)
      · rw [H1.out] at g1
        cases g1
      · rw [H1.out] at g1
        injection g1 with g1
        subst g1
        have K4 := Lib.hid k4
        clear k4
        go_wp2_with fail
        refine (sameNone_any w4).mono ?_
        rintro e5 w5 ⟨rfl, k5⟩
        go_wp2
        go_ret
        exact ⟨rfl, kk.out.trans (K4.out.trans k5)⟩
  ·
    have c0 : W.cell? ⟨nb, j * 9 + 1, none⟩ = some (.int .i64 xa) := HCJ.out 1 _ rfl
    have z0 : W.frozen? ⟨nb, j * 9 + 1, none⟩ = false := frozen_of_heap HNB.out
    have hst : On nb W (W.setCell ⟨nb, j * 9 + 1, none⟩ (.int .i64 v)) := (On.refl nb W).set (j * 9 + 1) _
    have HGG := Lib.hid (show GX (W.setCell ⟨nb, j * 9 + 1, none⟩ (.int .i64 v)) (some ⟨nb, 0, none⟩) cap (nodes.set j ⟨xk, v, xb, xsh, xlo, xhi, xsz, xda, xbi⟩) by
      have h4 := HND.out.map fun _ _ _ _ h => h.onp HNB.out (by decide) hst
      exact ns_poke (f := 1) rfl HOR.out HU.out HXJ.out (by decide) ⟨h4.1.1.1, h4.1.2.1.1, h4.1.2.2.1, by show xsh.length ≤ 100000; omega, by show xda.length ≤ 100000; omega, by show xbi.length ≤ 100000; omega⟩ (poke_at HUJ.out (by decide) rfl))
    have HKK := Lib.hid (show Ext w (W.setCell ⟨nb, j * 9 + 1, none⟩ (.int .i64 v)) from KW.out.set (p := ⟨nb, j * 9 + 1, none⟩) hwp5 _)
    have h55 := heap_on H5.out hst (by omega)
    have q0 := cell_of_heap h55 (j := 0) rfl
    have q1 := cell_of_heap h55 (j := 1) rfl
    clear hst h55 p0 p1
    go_upto_region 33 with fail
    generalize W.setCell ⟨nb, j * 9 + 1, none⟩ (.int .i64 v) = WN at *
    clear c0 z0 hrm hre
    have hn1 : (nodes.set j ⟨xk, v, xb, xsh, xlo, xhi, xsz, xda, xbi⟩).length ≤ 1000 := by rw [show (nodes.set j ⟨xk, v, xb, xsh, xlo, xhi, xsz, xda, xbi⟩).length = nodes.length by rw [List.length_set]]; omega
    have hCk := graphCheck (nodes.set j ⟨xk, v, xb, xsh, xlo, xhi, xsz, xda, xbi⟩) (some ⟨nb, 0, none⟩) cap (out : Int) WN HGG hn1
    rw [show (nodes.set j ⟨xk, v, xb, xsh, xlo, xhi, xsz, xda, xbi⟩).length = nodes.length by rw [List.length_set]] at hCk
    have HCk := Lib.hid hCk
    have HR := Lib.hid (fun (w9 : World) (k9 : Ext WN w9) => rcheck_any (nodes.set j ⟨xk, v, xb, xsh, xlo, xhi, xsz, xda, xbi⟩) (some ⟨nb, 0, none⟩) cap (out : Int) w9 (Lib.hid (HGG.out.ext k9)) hn1)
    rw [show (nodes.set j ⟨xk, v, xb, xsh, xlo, xhi, xsz, xda, xbi⟩).length = nodes.length by rw [List.length_set]] at HR
    clear hCk hn1
    go_wp2_with fail
    refine HCk.out.mono ?_
    intro e3 w3 h3
    have H3 := Lib.hid h3
    have k1 : Ext WN w3 := by rcases h3 with ⟨_, _, _, _, _, _, _, _, h⟩ | ⟨_, _, _, _, h⟩ <;> exact h
    replace q0 := cell_ext k1 q0
    replace q1 := cell_ext k1 q1
    have kk := Lib.hid (HKK.out.trans k1)
    have HR3 := Lib.hid (HR.out w3 k1)
    clear h3 k1
    rcases H3.out with ⟨shs', A1, c1, h1, rfl, h2, h4, h5, _⟩ | ⟨m1, h1, h2, rfl, _⟩
    · have H1 := Lib.hid h1
      have H2 := Lib.hid h2
      have H4 := Lib.hid h4
      have H5' := Lib.hid h5
      clear h1 h2 h4 h5 H3
      go_wp2_with fail
      refine HR3.out.mono ?_
      rintro e4 w4 (⟨shs2, A2, c2, g1, rfl, g2, _, g5, k4⟩ | ⟨m2, g1, _⟩)
      · rw [H1.out] at g1
        injection g1 with g1
        subst g1
        have G2 := Lib.hid g2
        have K4 := Lib.hid k4
        clear g2 k4 g5
        go_wp2_with fail
        refine (sameShapes_any A1 A2 c1 c2 shs' w4 (Lib.hid (H2.out.ext K4.out)) G2 H4 (by have := H5'.out; omega)).mono ?_
        rintro e5 w5 ⟨rfl, k5⟩
        go_wp2
        go_ret
        exact ⟨rfl, kk.out.trans (K4.out.trans k5)⟩
      · rw [H1.out] at g1
        cases g1
    · have H1 := Lib.hid h1
      clear h1 H3
      go_wp2_with fail
      refine HR3.out.mono ?_
      rintro e4 w4 (⟨shs2, A2, c2, g1, _⟩ | ⟨m2, g1, _, rfl, k4⟩)
      · rw [H1.out] at g1
        cases g1
      · rw [H1.out] at g1
        injection g1 with g1
        subst g1
        have K4 := Lib.hid k4
        clear k4
        go_wp2_with fail
        refine (sameNone_any w4).mono ?_
        rintro e5 w5 ⟨rfl, k5⟩
        go_wp2
        go_ret
        exact ⟨rfl, kk.out.trans (K4.out.trans k5)⟩
  ·
    have c0 : W.cell? ⟨nb, j * 9 + 2, none⟩ = some (.int .i64 xb) := HCJ.out 2 _ rfl
    have z0 : W.frozen? ⟨nb, j * 9 + 2, none⟩ = false := frozen_of_heap HNB.out
    have hst : On nb W (W.setCell ⟨nb, j * 9 + 2, none⟩ (.int .i64 v)) := (On.refl nb W).set (j * 9 + 2) _
    have HGG := Lib.hid (show GX (W.setCell ⟨nb, j * 9 + 2, none⟩ (.int .i64 v)) (some ⟨nb, 0, none⟩) cap (nodes.set j ⟨xk, xa, v, xsh, xlo, xhi, xsz, xda, xbi⟩) by
      have h4 := HND.out.map fun _ _ _ _ h => h.onp HNB.out (by decide) hst
      exact ns_poke (f := 2) rfl HOR.out HU.out HXJ.out (by decide) ⟨h4.1.1.1, h4.1.2.1.1, h4.1.2.2.1, by show xsh.length ≤ 100000; omega, by show xda.length ≤ 100000; omega, by show xbi.length ≤ 100000; omega⟩ (poke_at HUJ.out (by decide) rfl))
    have HKK := Lib.hid (show Ext w (W.setCell ⟨nb, j * 9 + 2, none⟩ (.int .i64 v)) from KW.out.set (p := ⟨nb, j * 9 + 2, none⟩) hwp5 _)
    have h55 := heap_on H5.out hst (by omega)
    have q0 := cell_of_heap h55 (j := 0) rfl
    have q1 := cell_of_heap h55 (j := 1) rfl
    clear hst h55 p0 p1
    go_upto_region 33 with fail
    generalize W.setCell ⟨nb, j * 9 + 2, none⟩ (.int .i64 v) = WN at *
    clear c0 z0 hrm hre
    have hn1 : (nodes.set j ⟨xk, xa, v, xsh, xlo, xhi, xsz, xda, xbi⟩).length ≤ 1000 := by rw [show (nodes.set j ⟨xk, xa, v, xsh, xlo, xhi, xsz, xda, xbi⟩).length = nodes.length by rw [List.length_set]]; omega
    have hCk := graphCheck (nodes.set j ⟨xk, xa, v, xsh, xlo, xhi, xsz, xda, xbi⟩) (some ⟨nb, 0, none⟩) cap (out : Int) WN HGG hn1
    rw [show (nodes.set j ⟨xk, xa, v, xsh, xlo, xhi, xsz, xda, xbi⟩).length = nodes.length by rw [List.length_set]] at hCk
    have HCk := Lib.hid hCk
    have HR := Lib.hid (fun (w9 : World) (k9 : Ext WN w9) => rcheck_any (nodes.set j ⟨xk, xa, v, xsh, xlo, xhi, xsz, xda, xbi⟩) (some ⟨nb, 0, none⟩) cap (out : Int) w9 (Lib.hid (HGG.out.ext k9)) hn1)
    rw [show (nodes.set j ⟨xk, xa, v, xsh, xlo, xhi, xsz, xda, xbi⟩).length = nodes.length by rw [List.length_set]] at HR
    clear hCk hn1
    go_wp2_with fail
    refine HCk.out.mono ?_
    intro e3 w3 h3
    have H3 := Lib.hid h3
    have k1 : Ext WN w3 := by rcases h3 with ⟨_, _, _, _, _, _, _, _, h⟩ | ⟨_, _, _, _, h⟩ <;> exact h
    replace q0 := cell_ext k1 q0
    replace q1 := cell_ext k1 q1
    have kk := Lib.hid (HKK.out.trans k1)
    have HR3 := Lib.hid (HR.out w3 k1)
    clear h3 k1
    rcases H3.out with ⟨shs', A1, c1, h1, rfl, h2, h4, h5, _⟩ | ⟨m1, h1, h2, rfl, _⟩
    · have H1 := Lib.hid h1
      have H2 := Lib.hid h2
      have H4 := Lib.hid h4
      have H5' := Lib.hid h5
      clear h1 h2 h4 h5 H3
      go_wp2_with fail
      refine HR3.out.mono ?_
      rintro e4 w4 (⟨shs2, A2, c2, g1, rfl, g2, _, g5, k4⟩ | ⟨m2, g1, _⟩)
      · rw [H1.out] at g1
        injection g1 with g1
        subst g1
        have G2 := Lib.hid g2
        have K4 := Lib.hid k4
        clear g2 k4 g5
        go_wp2_with fail
        refine (sameShapes_any A1 A2 c1 c2 shs' w4 (Lib.hid (H2.out.ext K4.out)) G2 H4 (by have := H5'.out; omega)).mono ?_
        rintro e5 w5 ⟨rfl, k5⟩
        go_wp2
        go_ret
        exact ⟨rfl, kk.out.trans (K4.out.trans k5)⟩
      · rw [H1.out] at g1
        cases g1
    · have H1 := Lib.hid h1
      clear h1 H3
      go_wp2_with fail
      refine HR3.out.mono ?_
      rintro e4 w4 (⟨shs2, A2, c2, g1, _⟩ | ⟨m2, g1, _, rfl, k4⟩)
      · rw [H1.out] at g1
        cases g1
      · rw [H1.out] at g1
        injection g1 with g1
        subst g1
        have K4 := Lib.hid k4
        clear k4
        go_wp2_with fail
        refine (sameNone_any w4).mono ?_
        rintro e5 w5 ⟨rfl, k5⟩
        go_wp2
        go_ret
        exact ⟨rfl, kk.out.trans (K4.out.trans k5)⟩
  ·
    have c0 : W.cell? ⟨nb, j * 9 + 4, none⟩ = some (.int .i64 xlo) := HCJ.out 4 _ rfl
    have z0 : W.frozen? ⟨nb, j * 9 + 4, none⟩ = false := frozen_of_heap HNB.out
    have hst : On nb W (W.setCell ⟨nb, j * 9 + 4, none⟩ (.int .i64 v)) := (On.refl nb W).set (j * 9 + 4) _
    have HGG := Lib.hid (show GX (W.setCell ⟨nb, j * 9 + 4, none⟩ (.int .i64 v)) (some ⟨nb, 0, none⟩) cap (nodes.set j ⟨xk, xa, xb, xsh, v, xhi, xsz, xda, xbi⟩) by
      have h4 := HND.out.map fun _ _ _ _ h => h.onp HNB.out (by decide) hst
      exact ns_poke (f := 4) rfl HOR.out HU.out HXJ.out (by decide) ⟨h4.1.1.1, h4.1.2.1.1, h4.1.2.2.1, by show xsh.length ≤ 100000; omega, by show xda.length ≤ 100000; omega, by show xbi.length ≤ 100000; omega⟩ (poke_at HUJ.out (by decide) rfl))
    have HKK := Lib.hid (show Ext w (W.setCell ⟨nb, j * 9 + 4, none⟩ (.int .i64 v)) from KW.out.set (p := ⟨nb, j * 9 + 4, none⟩) hwp5 _)
    have h55 := heap_on H5.out hst (by omega)
    have q0 := cell_of_heap h55 (j := 0) rfl
    have q1 := cell_of_heap h55 (j := 1) rfl
    clear hst h55 p0 p1
    go_upto_region 33 with fail
    generalize W.setCell ⟨nb, j * 9 + 4, none⟩ (.int .i64 v) = WN at *
    clear c0 z0 hrm hre
    have hn1 : (nodes.set j ⟨xk, xa, xb, xsh, v, xhi, xsz, xda, xbi⟩).length ≤ 1000 := by rw [show (nodes.set j ⟨xk, xa, xb, xsh, v, xhi, xsz, xda, xbi⟩).length = nodes.length by rw [List.length_set]]; omega
    have hCk := graphCheck (nodes.set j ⟨xk, xa, xb, xsh, v, xhi, xsz, xda, xbi⟩) (some ⟨nb, 0, none⟩) cap (out : Int) WN HGG hn1
    rw [show (nodes.set j ⟨xk, xa, xb, xsh, v, xhi, xsz, xda, xbi⟩).length = nodes.length by rw [List.length_set]] at hCk
    have HCk := Lib.hid hCk
    have HR := Lib.hid (fun (w9 : World) (k9 : Ext WN w9) => rcheck_any (nodes.set j ⟨xk, xa, xb, xsh, v, xhi, xsz, xda, xbi⟩) (some ⟨nb, 0, none⟩) cap (out : Int) w9 (Lib.hid (HGG.out.ext k9)) hn1)
    rw [show (nodes.set j ⟨xk, xa, xb, xsh, v, xhi, xsz, xda, xbi⟩).length = nodes.length by rw [List.length_set]] at HR
    clear hCk hn1
    go_wp2_with fail
    refine HCk.out.mono ?_
    intro e3 w3 h3
    have H3 := Lib.hid h3
    have k1 : Ext WN w3 := by rcases h3 with ⟨_, _, _, _, _, _, _, _, h⟩ | ⟨_, _, _, _, h⟩ <;> exact h
    replace q0 := cell_ext k1 q0
    replace q1 := cell_ext k1 q1
    have kk := Lib.hid (HKK.out.trans k1)
    have HR3 := Lib.hid (HR.out w3 k1)
    clear h3 k1
    rcases H3.out with ⟨shs', A1, c1, h1, rfl, h2, h4, h5, _⟩ | ⟨m1, h1, h2, rfl, _⟩
    · have H1 := Lib.hid h1
      have H2 := Lib.hid h2
      have H4 := Lib.hid h4
      have H5' := Lib.hid h5
      clear h1 h2 h4 h5 H3
      go_wp2_with fail
      refine HR3.out.mono ?_
      rintro e4 w4 (⟨shs2, A2, c2, g1, rfl, g2, _, g5, k4⟩ | ⟨m2, g1, _⟩)
      · rw [H1.out] at g1
        injection g1 with g1
        subst g1
        have G2 := Lib.hid g2
        have K4 := Lib.hid k4
        clear g2 k4 g5
        go_wp2_with fail
        refine (sameShapes_any A1 A2 c1 c2 shs' w4 (Lib.hid (H2.out.ext K4.out)) G2 H4 (by have := H5'.out; omega)).mono ?_
        rintro e5 w5 ⟨rfl, k5⟩
        go_wp2
        go_ret
        exact ⟨rfl, kk.out.trans (K4.out.trans k5)⟩
      · rw [H1.out] at g1
        cases g1
    · have H1 := Lib.hid h1
      clear h1 H3
      go_wp2_with fail
      refine HR3.out.mono ?_
      rintro e4 w4 (⟨shs2, A2, c2, g1, _⟩ | ⟨m2, g1, _, rfl, k4⟩)
      · rw [H1.out] at g1
        cases g1
      · rw [H1.out] at g1
        injection g1 with g1
        subst g1
        have K4 := Lib.hid k4
        clear k4
        go_wp2_with fail
        refine (sameNone_any w4).mono ?_
        rintro e5 w5 ⟨rfl, k5⟩
        go_wp2
        go_ret
        exact ⟨rfl, kk.out.trans (K4.out.trans k5)⟩
  ·
    have c0 : W.cell? ⟨nb, j * 9 + 5, none⟩ = some (.int .i64 xhi) := HCJ.out 5 _ rfl
    have z0 : W.frozen? ⟨nb, j * 9 + 5, none⟩ = false := frozen_of_heap HNB.out
    have hst : On nb W (W.setCell ⟨nb, j * 9 + 5, none⟩ (.int .i64 v)) := (On.refl nb W).set (j * 9 + 5) _
    have HGG := Lib.hid (show GX (W.setCell ⟨nb, j * 9 + 5, none⟩ (.int .i64 v)) (some ⟨nb, 0, none⟩) cap (nodes.set j ⟨xk, xa, xb, xsh, xlo, v, xsz, xda, xbi⟩) by
      have h4 := HND.out.map fun _ _ _ _ h => h.onp HNB.out (by decide) hst
      exact ns_poke (f := 5) rfl HOR.out HU.out HXJ.out (by decide) ⟨h4.1.1.1, h4.1.2.1.1, h4.1.2.2.1, by show xsh.length ≤ 100000; omega, by show xda.length ≤ 100000; omega, by show xbi.length ≤ 100000; omega⟩ (poke_at HUJ.out (by decide) rfl))
    have HKK := Lib.hid (show Ext w (W.setCell ⟨nb, j * 9 + 5, none⟩ (.int .i64 v)) from KW.out.set (p := ⟨nb, j * 9 + 5, none⟩) hwp5 _)
    have h55 := heap_on H5.out hst (by omega)
    have q0 := cell_of_heap h55 (j := 0) rfl
    have q1 := cell_of_heap h55 (j := 1) rfl
    clear hst h55 p0 p1
    go_upto_region 33 with fail
    generalize W.setCell ⟨nb, j * 9 + 5, none⟩ (.int .i64 v) = WN at *
    clear c0 z0 hrm hre
    have hn1 : (nodes.set j ⟨xk, xa, xb, xsh, xlo, v, xsz, xda, xbi⟩).length ≤ 1000 := by rw [show (nodes.set j ⟨xk, xa, xb, xsh, xlo, v, xsz, xda, xbi⟩).length = nodes.length by rw [List.length_set]]; omega
    have hCk := graphCheck (nodes.set j ⟨xk, xa, xb, xsh, xlo, v, xsz, xda, xbi⟩) (some ⟨nb, 0, none⟩) cap (out : Int) WN HGG hn1
    rw [show (nodes.set j ⟨xk, xa, xb, xsh, xlo, v, xsz, xda, xbi⟩).length = nodes.length by rw [List.length_set]] at hCk
    have HCk := Lib.hid hCk
    have HR := Lib.hid (fun (w9 : World) (k9 : Ext WN w9) => rcheck_any (nodes.set j ⟨xk, xa, xb, xsh, xlo, v, xsz, xda, xbi⟩) (some ⟨nb, 0, none⟩) cap (out : Int) w9 (Lib.hid (HGG.out.ext k9)) hn1)
    rw [show (nodes.set j ⟨xk, xa, xb, xsh, xlo, v, xsz, xda, xbi⟩).length = nodes.length by rw [List.length_set]] at HR
    clear hCk hn1
    go_wp2_with fail
    refine HCk.out.mono ?_
    intro e3 w3 h3
    have H3 := Lib.hid h3
    have k1 : Ext WN w3 := by rcases h3 with ⟨_, _, _, _, _, _, _, _, h⟩ | ⟨_, _, _, _, h⟩ <;> exact h
    replace q0 := cell_ext k1 q0
    replace q1 := cell_ext k1 q1
    have kk := Lib.hid (HKK.out.trans k1)
    have HR3 := Lib.hid (HR.out w3 k1)
    clear h3 k1
    rcases H3.out with ⟨shs', A1, c1, h1, rfl, h2, h4, h5, _⟩ | ⟨m1, h1, h2, rfl, _⟩
    · have H1 := Lib.hid h1
      have H2 := Lib.hid h2
      have H4 := Lib.hid h4
      have H5' := Lib.hid h5
      clear h1 h2 h4 h5 H3
      go_wp2_with fail
      refine HR3.out.mono ?_
      rintro e4 w4 (⟨shs2, A2, c2, g1, rfl, g2, _, g5, k4⟩ | ⟨m2, g1, _⟩)
      · rw [H1.out] at g1
        injection g1 with g1
        subst g1
        have G2 := Lib.hid g2
        have K4 := Lib.hid k4
        clear g2 k4 g5
        go_wp2_with fail
        refine (sameShapes_any A1 A2 c1 c2 shs' w4 (Lib.hid (H2.out.ext K4.out)) G2 H4 (by have := H5'.out; omega)).mono ?_
        rintro e5 w5 ⟨rfl, k5⟩
        go_wp2
        go_ret
        exact ⟨rfl, kk.out.trans (K4.out.trans k5)⟩
      · rw [H1.out] at g1
        cases g1
    · have H1 := Lib.hid h1
      clear h1 H3
      go_wp2_with fail
      refine HR3.out.mono ?_
      rintro e4 w4 (⟨shs2, A2, c2, g1, _⟩ | ⟨m2, g1, _, rfl, k4⟩)
      · rw [H1.out] at g1
        cases g1
      · rw [H1.out] at g1
        injection g1 with g1
        subst g1
        have K4 := Lib.hid k4
        clear k4
        go_wp2_with fail
        refine (sameNone_any w4).mono ?_
        rintro e5 w5 ⟨rfl, k5⟩
        go_wp2
        go_ret
        exact ⟨rfl, kk.out.trans (K4.out.trans k5)⟩
  ·
    have c0 : W.cell? ⟨nb, j * 9 + 6, none⟩ = some (.int .i64 xsz) := HCJ.out 6 _ rfl
    have z0 : W.frozen? ⟨nb, j * 9 + 6, none⟩ = false := frozen_of_heap HNB.out
    have hst : On nb W (W.setCell ⟨nb, j * 9 + 6, none⟩ (.int .i64 v)) := (On.refl nb W).set (j * 9 + 6) _
    have HGG := Lib.hid (show GX (W.setCell ⟨nb, j * 9 + 6, none⟩ (.int .i64 v)) (some ⟨nb, 0, none⟩) cap (nodes.set j ⟨xk, xa, xb, xsh, xlo, xhi, v, xda, xbi⟩) by
      have h4 := HND.out.map fun _ _ _ _ h => h.onp HNB.out (by decide) hst
      exact ns_poke (f := 6) rfl HOR.out HU.out HXJ.out (by decide) ⟨h4.1.1.1, h4.1.2.1.1, h4.1.2.2.1, by show xsh.length ≤ 100000; omega, by show xda.length ≤ 100000; omega, by show xbi.length ≤ 100000; omega⟩ (poke_at HUJ.out (by decide) rfl))
    have HKK := Lib.hid (show Ext w (W.setCell ⟨nb, j * 9 + 6, none⟩ (.int .i64 v)) from KW.out.set (p := ⟨nb, j * 9 + 6, none⟩) hwp5 _)
    have h55 := heap_on H5.out hst (by omega)
    have q0 := cell_of_heap h55 (j := 0) rfl
    have q1 := cell_of_heap h55 (j := 1) rfl
    clear hst h55 p0 p1
    go_upto_region 33 with fail
    generalize W.setCell ⟨nb, j * 9 + 6, none⟩ (.int .i64 v) = WN at *
    clear c0 z0 hrm hre
    have hn1 : (nodes.set j ⟨xk, xa, xb, xsh, xlo, xhi, v, xda, xbi⟩).length ≤ 1000 := by rw [show (nodes.set j ⟨xk, xa, xb, xsh, xlo, xhi, v, xda, xbi⟩).length = nodes.length by rw [List.length_set]]; omega
    have hCk := graphCheck (nodes.set j ⟨xk, xa, xb, xsh, xlo, xhi, v, xda, xbi⟩) (some ⟨nb, 0, none⟩) cap (out : Int) WN HGG hn1
    rw [show (nodes.set j ⟨xk, xa, xb, xsh, xlo, xhi, v, xda, xbi⟩).length = nodes.length by rw [List.length_set]] at hCk
    have HCk := Lib.hid hCk
    have HR := Lib.hid (fun (w9 : World) (k9 : Ext WN w9) => rcheck_any (nodes.set j ⟨xk, xa, xb, xsh, xlo, xhi, v, xda, xbi⟩) (some ⟨nb, 0, none⟩) cap (out : Int) w9 (Lib.hid (HGG.out.ext k9)) hn1)
    rw [show (nodes.set j ⟨xk, xa, xb, xsh, xlo, xhi, v, xda, xbi⟩).length = nodes.length by rw [List.length_set]] at HR
    clear hCk hn1
    go_wp2_with fail
    refine HCk.out.mono ?_
    intro e3 w3 h3
    have H3 := Lib.hid h3
    have k1 : Ext WN w3 := by rcases h3 with ⟨_, _, _, _, _, _, _, _, h⟩ | ⟨_, _, _, _, h⟩ <;> exact h
    replace q0 := cell_ext k1 q0
    replace q1 := cell_ext k1 q1
    have kk := Lib.hid (HKK.out.trans k1)
    have HR3 := Lib.hid (HR.out w3 k1)
    clear h3 k1
    rcases H3.out with ⟨shs', A1, c1, h1, rfl, h2, h4, h5, _⟩ | ⟨m1, h1, h2, rfl, _⟩
    · have H1 := Lib.hid h1
      have H2 := Lib.hid h2
      have H4 := Lib.hid h4
      have H5' := Lib.hid h5
      clear h1 h2 h4 h5 H3
      go_wp2_with fail
      refine HR3.out.mono ?_
      rintro e4 w4 (⟨shs2, A2, c2, g1, rfl, g2, _, g5, k4⟩ | ⟨m2, g1, _⟩)
      · rw [H1.out] at g1
        injection g1 with g1
        subst g1
        have G2 := Lib.hid g2
        have K4 := Lib.hid k4
        clear g2 k4 g5
        go_wp2_with fail
        refine (sameShapes_any A1 A2 c1 c2 shs' w4 (Lib.hid (H2.out.ext K4.out)) G2 H4 (by have := H5'.out; omega)).mono ?_
        rintro e5 w5 ⟨rfl, k5⟩
        go_wp2
        go_ret
        exact ⟨rfl, kk.out.trans (K4.out.trans k5)⟩
      · rw [H1.out] at g1
        cases g1
    · have H1 := Lib.hid h1
      clear h1 H3
      go_wp2_with fail
      refine HR3.out.mono ?_
      rintro e4 w4 (⟨shs2, A2, c2, g1, _⟩ | ⟨m2, g1, _, rfl, k4⟩)
      · rw [H1.out] at g1
        cases g1
      · rw [H1.out] at g1
        injection g1 with g1
        subst g1
        have K4 := Lib.hid k4
        clear k4
        go_wp2_with fail
        refine (sameNone_any w4).mono ?_
        rintro e5 w5 ⟨rfl, k5⟩
        go_wp2
        go_ret
        exact ⟨rfl, kk.out.trans (K4.out.trans k5)⟩
  ·
    have c0 : W.cell? ⟨nb, j * 9 + 3, none⟩ = some (.slice As xsh.length cs) := HCJ.out 3 _ rfl
    have c1 := cell_ext ((Ext.refl W).alloc (.cells #[.int .i64 v] 3)) c0
    go_wp2_with (at_builtin; go_loud (refine wpList_consZ rfl _ _ rfl W.heap.size rfl v As xsh.length cs xsh rfl rfl (HND.out.1.1.1) (by omega) ?_; intro A9 c9 w9 hz9 hy9 k9; have x9 := cell_ext k9 c0; have z9 : w9.frozen? ⟨nb, j * 9 + 3, none⟩ = false := frozen_of_heap ((k9.block nb (Array.getElem?_eq_some_iff.1 HNB.out).1).trans HNB.out); have h55 := heap_on ((k9.block p5 (Array.getElem?_eq_some_iff.1 H5.out).1).trans H5.out) ((On.refl nb w9).set (j * 9 + 3) (.slice A9 (xsh.length + 1) c9)) (by omega); have q0 := cell_of_heap h55 (j := 0) rfl; have q1 := cell_of_heap h55 (j := 1) rfl))
    have HNB9 := Lib.hid ((k9.block nb (Array.getElem?_eq_some_iff.1 HNB.out).1).trans HNB.out)
    have hst : On nb w9 (w9.setCell ⟨nb, j * 9 + 3, none⟩ (.slice A9 (xsh.length + 1) c9)) := (On.refl nb w9).set (j * 9 + 3) _
    have HGG := Lib.hid (show GX (w9.setCell ⟨nb, j * 9 + 3, none⟩ (.slice A9 (xsh.length + 1) c9)) (some ⟨nb, 0, none⟩) cap (nodes.set j ⟨xk, xa, xb, (v :: xsh), xlo, xhi, xsz, xda, xbi⟩) by
      have h4 := (HND.out.map fun _ _ _ _ h => h.ext k9).map fun _ _ _ _ h => h.onp HNB9.out (by decide) hst
      have hnew := ZY.onp (show ZY w9 A9 (xsh.length + 1) c9 (v :: xsh) from ⟨hz9, hy9⟩) HNB9.out (by decide) hst
      exact ns_poke (As := A9) (Ad := Ad) (Ab := Ab) (cs := c9) (cd := cd) (cb := cb) (f := 3) rfl (own_extJ HOR.out k9) (fun j x hx => by
        obtain ⟨As', Ad', Ab', cs', cd', cb', g1, g2⟩ := HU.out j x hx
        exact ⟨As', Ad', Ab', cs', cd', cb', g1.map fun _ _ _ _ h => h.ext k9, g2⟩) HXJ.out (by decide) ⟨hnew.1, h4.1.2.1.1, h4.1.2.2.1, by show (v :: xsh).length ≤ 100000; first | omega | (rw [List.length_cons]; omega) | simp, by show xda.length ≤ 100000; first | omega | (rw [List.length_cons]; omega) | simp, by show xbi.length ≤ 100000; first | omega | (rw [List.length_cons]; omega) | simp⟩ (poke_at HUJ.out (by decide) rfl))
    have HKK := Lib.hid (show Ext w (w9.setCell ⟨nb, j * 9 + 3, none⟩ (.slice A9 (xsh.length + 1) c9)) from (KW.out.trans k9).set (p := ⟨nb, j * 9 + 3, none⟩) hwp5 _)
    clear hst h55
    generalize w9.setCell ⟨nb, j * 9 + 3, none⟩ (.slice A9 (xsh.length + 1) c9) = WN at *
    clear hrm hre c0 c1 x9 z9 k9 hz9 hy9 p0 p1
    have hn1 : (nodes.set j ⟨xk, xa, xb, (v :: xsh), xlo, xhi, xsz, xda, xbi⟩).length ≤ 1000 := by rw [show (nodes.set j ⟨xk, xa, xb, (v :: xsh), xlo, xhi, xsz, xda, xbi⟩).length = nodes.length by rw [List.length_set]]; omega
    have hCk := graphCheck (nodes.set j ⟨xk, xa, xb, (v :: xsh), xlo, xhi, xsz, xda, xbi⟩) (some ⟨nb, 0, none⟩) cap (out : Int) WN HGG hn1
    rw [show (nodes.set j ⟨xk, xa, xb, (v :: xsh), xlo, xhi, xsz, xda, xbi⟩).length = nodes.length by rw [List.length_set]] at hCk
    have HCk := Lib.hid hCk
    have HR := Lib.hid (fun (w9 : World) (k9 : Ext WN w9) => rcheck_any (nodes.set j ⟨xk, xa, xb, (v :: xsh), xlo, xhi, xsz, xda, xbi⟩) (some ⟨nb, 0, none⟩) cap (out : Int) w9 (Lib.hid (HGG.out.ext k9)) hn1)
    rw [show (nodes.set j ⟨xk, xa, xb, (v :: xsh), xlo, xhi, xsz, xda, xbi⟩).length = nodes.length by rw [List.length_set]] at HR
    clear hCk hn1
    refine HCk.out.mono ?_
    intro e3 w3 h3
    have H3 := Lib.hid h3
    have k1 : Ext WN w3 := by rcases h3 with ⟨_, _, _, _, _, _, _, _, h⟩ | ⟨_, _, _, _, h⟩ <;> exact h
    replace q0 := cell_ext k1 q0
    replace q1 := cell_ext k1 q1
    have kk := Lib.hid (HKK.out.trans k1)
    have HR3 := Lib.hid (HR.out w3 k1)
    clear h3 k1
    rcases H3.out with ⟨shs', A1, c1, h1, rfl, h2, h4, h5, _⟩ | ⟨m1, h1, h2, rfl, _⟩
    · have H1 := Lib.hid h1
      have H2 := Lib.hid h2
      have H4 := Lib.hid h4
      have H5' := Lib.hid h5
      clear h1 h2 h4 h5 H3
      go_wp2_with fail
      refine HR3.out.mono ?_
      rintro e4 w4 (⟨shs2, A2, c2, g1, rfl, g2, _, g5, k4⟩ | ⟨m2, g1, _⟩)
      · rw [H1.out] at g1
        injection g1 with g1
        subst g1
        have G2 := Lib.hid g2
        have K4 := Lib.hid k4
        clear g2 k4 g5
        go_wp2_with fail
        refine (sameShapes_any A1 A2 c1 c2 shs' w4 (Lib.hid (H2.out.ext K4.out)) G2 H4 (by have := H5'.out; omega)).mono ?_
        rintro e5 w5 ⟨rfl, k5⟩
        go_wp2
        go_ret
        exact ⟨rfl, kk.out.trans (K4.out.trans k5)⟩
      · rw [H1.out] at g1
        cases g1
    · have H1 := Lib.hid h1
      clear h1 H3
      go_wp2_with fail
      refine HR3.out.mono ?_
      rintro e4 w4 (⟨shs2, A2, c2, g1, _⟩ | ⟨m2, g1, _, rfl, k4⟩)
      · rw [H1.out] at g1
        cases g1
      · rw [H1.out] at g1
        injection g1 with g1
        subst g1
        have K4 := Lib.hid k4
        clear k4
        go_wp2_with fail
        refine (sameNone_any w4).mono ?_
        rintro e5 w5 ⟨rfl, k5⟩
        go_wp2
        go_ret
        exact ⟨rfl, kk.out.trans (K4.out.trans k5)⟩
  ·
    have c0 : W.cell? ⟨nb, j * 9 + 7, none⟩ = some (.slice Ad xda.length cd) := HCJ.out 7 _ rfl
    have c1 := cell_ext ((Ext.refl W).alloc (.cells #[.int .i64 v] 3)) c0
    go_wp2_with (at_builtin; go_loud (refine wpList_consZ rfl _ _ rfl W.heap.size rfl v Ad xda.length cd xda rfl rfl (HND.out.1.2.1.1) (by omega) ?_; intro A9 c9 w9 hz9 hy9 k9; have x9 := cell_ext k9 c0; have z9 : w9.frozen? ⟨nb, j * 9 + 7, none⟩ = false := frozen_of_heap ((k9.block nb (Array.getElem?_eq_some_iff.1 HNB.out).1).trans HNB.out); have h55 := heap_on ((k9.block p5 (Array.getElem?_eq_some_iff.1 H5.out).1).trans H5.out) ((On.refl nb w9).set (j * 9 + 7) (.slice A9 (xda.length + 1) c9)) (by omega); have q0 := cell_of_heap h55 (j := 0) rfl; have q1 := cell_of_heap h55 (j := 1) rfl))
    have HNB9 := Lib.hid ((k9.block nb (Array.getElem?_eq_some_iff.1 HNB.out).1).trans HNB.out)
    have hst : On nb w9 (w9.setCell ⟨nb, j * 9 + 7, none⟩ (.slice A9 (xda.length + 1) c9)) := (On.refl nb w9).set (j * 9 + 7) _
    have HGG := Lib.hid (show GX (w9.setCell ⟨nb, j * 9 + 7, none⟩ (.slice A9 (xda.length + 1) c9)) (some ⟨nb, 0, none⟩) cap (nodes.set j ⟨xk, xa, xb, xsh, xlo, xhi, xsz, (v :: xda), xbi⟩) by
      have h4 := (HND.out.map fun _ _ _ _ h => h.ext k9).map fun _ _ _ _ h => h.onp HNB9.out (by decide) hst
      have hnew := ZY.onp (show ZY w9 A9 (xda.length + 1) c9 (v :: xda) from ⟨hz9, hy9⟩) HNB9.out (by decide) hst
      exact ns_poke (As := As) (Ad := A9) (Ab := Ab) (cs := cs) (cd := c9) (cb := cb) (f := 7) rfl (own_extJ HOR.out k9) (fun j x hx => by
        obtain ⟨As', Ad', Ab', cs', cd', cb', g1, g2⟩ := HU.out j x hx
        exact ⟨As', Ad', Ab', cs', cd', cb', g1.map fun _ _ _ _ h => h.ext k9, g2⟩) HXJ.out (by decide) ⟨h4.1.1.1, hnew.1, h4.1.2.2.1, by show xsh.length ≤ 100000; first | omega | (rw [List.length_cons]; omega) | simp, by show (v :: xda).length ≤ 100000; first | omega | (rw [List.length_cons]; omega) | simp, by show xbi.length ≤ 100000; first | omega | (rw [List.length_cons]; omega) | simp⟩ (poke_at HUJ.out (by decide) rfl))
    have HKK := Lib.hid (show Ext w (w9.setCell ⟨nb, j * 9 + 7, none⟩ (.slice A9 (xda.length + 1) c9)) from (KW.out.trans k9).set (p := ⟨nb, j * 9 + 7, none⟩) hwp5 _)
    clear hst h55
    generalize w9.setCell ⟨nb, j * 9 + 7, none⟩ (.slice A9 (xda.length + 1) c9) = WN at *
    clear hrm hre c0 c1 x9 z9 k9 hz9 hy9 p0 p1
    have hn1 : (nodes.set j ⟨xk, xa, xb, xsh, xlo, xhi, xsz, (v :: xda), xbi⟩).length ≤ 1000 := by rw [show (nodes.set j ⟨xk, xa, xb, xsh, xlo, xhi, xsz, (v :: xda), xbi⟩).length = nodes.length by rw [List.length_set]]; omega
    have hCk := graphCheck (nodes.set j ⟨xk, xa, xb, xsh, xlo, xhi, xsz, (v :: xda), xbi⟩) (some ⟨nb, 0, none⟩) cap (out : Int) WN HGG hn1
    rw [show (nodes.set j ⟨xk, xa, xb, xsh, xlo, xhi, xsz, (v :: xda), xbi⟩).length = nodes.length by rw [List.length_set]] at hCk
    have HCk := Lib.hid hCk
    have HR := Lib.hid (fun (w9 : World) (k9 : Ext WN w9) => rcheck_any (nodes.set j ⟨xk, xa, xb, xsh, xlo, xhi, xsz, (v :: xda), xbi⟩) (some ⟨nb, 0, none⟩) cap (out : Int) w9 (Lib.hid (HGG.out.ext k9)) hn1)
    rw [show (nodes.set j ⟨xk, xa, xb, xsh, xlo, xhi, xsz, (v :: xda), xbi⟩).length = nodes.length by rw [List.length_set]] at HR
    clear hCk hn1
    refine HCk.out.mono ?_
    intro e3 w3 h3
    have H3 := Lib.hid h3
    have k1 : Ext WN w3 := by rcases h3 with ⟨_, _, _, _, _, _, _, _, h⟩ | ⟨_, _, _, _, h⟩ <;> exact h
    replace q0 := cell_ext k1 q0
    replace q1 := cell_ext k1 q1
    have kk := Lib.hid (HKK.out.trans k1)
    have HR3 := Lib.hid (HR.out w3 k1)
    clear h3 k1
    rcases H3.out with ⟨shs', A1, c1, h1, rfl, h2, h4, h5, _⟩ | ⟨m1, h1, h2, rfl, _⟩
    · have H1 := Lib.hid h1
      have H2 := Lib.hid h2
      have H4 := Lib.hid h4
      have H5' := Lib.hid h5
      clear h1 h2 h4 h5 H3
      go_wp2_with fail
      refine HR3.out.mono ?_
      rintro e4 w4 (⟨shs2, A2, c2, g1, rfl, g2, _, g5, k4⟩ | ⟨m2, g1, _⟩)
      · rw [H1.out] at g1
        injection g1 with g1
        subst g1
        have G2 := Lib.hid g2
        have K4 := Lib.hid k4
        clear g2 k4 g5
        go_wp2_with fail
        refine (sameShapes_any A1 A2 c1 c2 shs' w4 (Lib.hid (H2.out.ext K4.out)) G2 H4 (by have := H5'.out; omega)).mono ?_
        rintro e5 w5 ⟨rfl, k5⟩
        go_wp2
        go_ret
        exact ⟨rfl, kk.out.trans (K4.out.trans k5)⟩
      · rw [H1.out] at g1
        cases g1
    · have H1 := Lib.hid h1
      clear h1 H3
      go_wp2_with fail
      refine HR3.out.mono ?_
      rintro e4 w4 (⟨shs2, A2, c2, g1, _⟩ | ⟨m2, g1, _, rfl, k4⟩)
      · rw [H1.out] at g1
        cases g1
      · rw [H1.out] at g1
        injection g1 with g1
        subst g1
        have K4 := Lib.hid k4
        clear k4
        go_wp2_with fail
        refine (sameNone_any w4).mono ?_
        rintro e5 w5 ⟨rfl, k5⟩
        go_wp2
        go_ret
        exact ⟨rfl, kk.out.trans (K4.out.trans k5)⟩
  ·
    have c0 : W.cell? ⟨nb, j * 9 + 8, none⟩ = some (.slice Ab xbi.length cb) := HCJ.out 8 _ rfl
    have c1 := cell_ext ((Ext.refl W).alloc (.cells #[.int .i64 v] 3)) c0
    go_wp2_with (at_builtin; go_loud (refine wpList_consZ rfl _ _ rfl W.heap.size rfl v Ab xbi.length cb xbi rfl rfl (HND.out.1.2.2.1) (by omega) ?_; intro A9 c9 w9 hz9 hy9 k9; have x9 := cell_ext k9 c0; have z9 : w9.frozen? ⟨nb, j * 9 + 8, none⟩ = false := frozen_of_heap ((k9.block nb (Array.getElem?_eq_some_iff.1 HNB.out).1).trans HNB.out); have h55 := heap_on ((k9.block p5 (Array.getElem?_eq_some_iff.1 H5.out).1).trans H5.out) ((On.refl nb w9).set (j * 9 + 8) (.slice A9 (xbi.length + 1) c9)) (by omega); have q0 := cell_of_heap h55 (j := 0) rfl; have q1 := cell_of_heap h55 (j := 1) rfl))
    have HNB9 := Lib.hid ((k9.block nb (Array.getElem?_eq_some_iff.1 HNB.out).1).trans HNB.out)
    have hst : On nb w9 (w9.setCell ⟨nb, j * 9 + 8, none⟩ (.slice A9 (xbi.length + 1) c9)) := (On.refl nb w9).set (j * 9 + 8) _
    have HGG := Lib.hid (show GX (w9.setCell ⟨nb, j * 9 + 8, none⟩ (.slice A9 (xbi.length + 1) c9)) (some ⟨nb, 0, none⟩) cap (nodes.set j ⟨xk, xa, xb, xsh, xlo, xhi, xsz, xda, (v :: xbi)⟩) by
      have h4 := (HND.out.map fun _ _ _ _ h => h.ext k9).map fun _ _ _ _ h => h.onp HNB9.out (by decide) hst
      have hnew := ZY.onp (show ZY w9 A9 (xbi.length + 1) c9 (v :: xbi) from ⟨hz9, hy9⟩) HNB9.out (by decide) hst
      exact ns_poke (As := As) (Ad := Ad) (Ab := A9) (cs := cs) (cd := cd) (cb := c9) (f := 8) rfl (own_extJ HOR.out k9) (fun j x hx => by
        obtain ⟨As', Ad', Ab', cs', cd', cb', g1, g2⟩ := HU.out j x hx
        exact ⟨As', Ad', Ab', cs', cd', cb', g1.map fun _ _ _ _ h => h.ext k9, g2⟩) HXJ.out (by decide) ⟨h4.1.1.1, h4.1.2.1.1, hnew.1, by show xsh.length ≤ 100000; first | omega | (rw [List.length_cons]; omega) | simp, by show xda.length ≤ 100000; first | omega | (rw [List.length_cons]; omega) | simp, by show (v :: xbi).length ≤ 100000; first | omega | (rw [List.length_cons]; omega) | simp⟩ (poke_at HUJ.out (by decide) rfl))
    have HKK := Lib.hid (show Ext w (w9.setCell ⟨nb, j * 9 + 8, none⟩ (.slice A9 (xbi.length + 1) c9)) from (KW.out.trans k9).set (p := ⟨nb, j * 9 + 8, none⟩) hwp5 _)
    clear hst h55
    generalize w9.setCell ⟨nb, j * 9 + 8, none⟩ (.slice A9 (xbi.length + 1) c9) = WN at *
    clear hrm hre c0 c1 x9 z9 k9 hz9 hy9 p0 p1
    have hn1 : (nodes.set j ⟨xk, xa, xb, xsh, xlo, xhi, xsz, xda, (v :: xbi)⟩).length ≤ 1000 := by rw [show (nodes.set j ⟨xk, xa, xb, xsh, xlo, xhi, xsz, xda, (v :: xbi)⟩).length = nodes.length by rw [List.length_set]]; omega
    have hCk := graphCheck (nodes.set j ⟨xk, xa, xb, xsh, xlo, xhi, xsz, xda, (v :: xbi)⟩) (some ⟨nb, 0, none⟩) cap (out : Int) WN HGG hn1
    rw [show (nodes.set j ⟨xk, xa, xb, xsh, xlo, xhi, xsz, xda, (v :: xbi)⟩).length = nodes.length by rw [List.length_set]] at hCk
    have HCk := Lib.hid hCk
    have HR := Lib.hid (fun (w9 : World) (k9 : Ext WN w9) => rcheck_any (nodes.set j ⟨xk, xa, xb, xsh, xlo, xhi, xsz, xda, (v :: xbi)⟩) (some ⟨nb, 0, none⟩) cap (out : Int) w9 (Lib.hid (HGG.out.ext k9)) hn1)
    rw [show (nodes.set j ⟨xk, xa, xb, xsh, xlo, xhi, xsz, xda, (v :: xbi)⟩).length = nodes.length by rw [List.length_set]] at HR
    clear hCk hn1
    refine HCk.out.mono ?_
    intro e3 w3 h3
    have H3 := Lib.hid h3
    have k1 : Ext WN w3 := by rcases h3 with ⟨_, _, _, _, _, _, _, _, h⟩ | ⟨_, _, _, _, h⟩ <;> exact h
    replace q0 := cell_ext k1 q0
    replace q1 := cell_ext k1 q1
    have kk := Lib.hid (HKK.out.trans k1)
    have HR3 := Lib.hid (HR.out w3 k1)
    clear h3 k1
    rcases H3.out with ⟨shs', A1, c1, h1, rfl, h2, h4, h5, _⟩ | ⟨m1, h1, h2, rfl, _⟩
    · have H1 := Lib.hid h1
      have H2 := Lib.hid h2
      have H4 := Lib.hid h4
      have H5' := Lib.hid h5
      clear h1 h2 h4 h5 H3
      go_wp2_with fail
      refine HR3.out.mono ?_
      rintro e4 w4 (⟨shs2, A2, c2, g1, rfl, g2, _, g5, k4⟩ | ⟨m2, g1, _⟩)
      · rw [H1.out] at g1
        injection g1 with g1
        subst g1
        have G2 := Lib.hid g2
        have K4 := Lib.hid k4
        clear g2 k4 g5
        go_wp2_with fail
        refine (sameShapes_any A1 A2 c1 c2 shs' w4 (Lib.hid (H2.out.ext K4.out)) G2 H4 (by have := H5'.out; omega)).mono ?_
        rintro e5 w5 ⟨rfl, k5⟩
        go_wp2
        go_ret
        exact ⟨rfl, kk.out.trans (K4.out.trans k5)⟩
      · rw [H1.out] at g1
        cases g1
    · have H1 := Lib.hid h1
      clear h1 H3
      go_wp2_with fail
      refine HR3.out.mono ?_
      rintro e4 w4 (⟨shs2, A2, c2, g1, _⟩ | ⟨m2, g1, _, rfl, k4⟩)
      · rw [H1.out] at g1
        cases g1
      · rw [H1.out] at g1
        injection g1 with g1
        subst g1
        have K4 := Lib.hid k4
        clear k4
        go_wp2_with fail
        refine (sameNone_any w4).mono ?_
        rintro e5 w5 ⟨rfl, k5⟩
        go_wp2
        go_ret
        exact ⟨rfl, kk.out.trans (K4.out.trans k5)⟩
  ·
    have z0 : W.frozen? ⟨p5, 1, none⟩ = false := frozen_of_heap H5.out
    have hst : On p5 W (W.setCell ⟨p5, 1, none⟩ (.int .i64 v)) := (On.refl p5 W).set 1 _
    have HGG := Lib.hid (show GX (W.setCell ⟨p5, 1, none⟩ (.int .i64 v)) (some ⟨nb, 0, none⟩) cap nodes by
      have hns : NsY V.heap.size W (.slice (some ⟨nb, 0, none⟩) nodes.length cap) nodes := ⟨us, HOR.out, HU.out⟩
      obtain ⟨A', c', e, hgx⟩ := (hns.onp H5.out (by decide) (by decide) hst).gx
      injection e with e1 _ e3
      subst e1 e3
      exact hgx)
    have HKK := Lib.hid (show Ext w (W.setCell ⟨p5, 1, none⟩ (.int .i64 v)) from KW.out.set (p := ⟨p5, 1, none⟩) (by show w.heap.size ≤ p5; omega) _)
    have h55 := setCell_heap_two H5.out (.int .i64 v)
    have q0 := cell_of_heap h55 (j := 0) rfl
    have q1 := cell_of_heap h55 (j := 1) rfl
    clear hst h55
    go_upto_region 33 with fail
    generalize W.setCell ⟨p5, 1, none⟩ (.int .i64 v) = WN at *
    clear z0 hrm hre p0 p1
    have hn1 : (nodes).length ≤ 1000 := by rw [show (nodes).length = nodes.length by rfl]; omega
    have hCk := graphCheck (nodes) (some ⟨nb, 0, none⟩) cap v WN HGG hn1
    rw [show (nodes).length = nodes.length by rfl] at hCk
    have HCk := Lib.hid hCk
    have HR := Lib.hid (fun (w9 : World) (k9 : Ext WN w9) => rcheck_any (nodes) (some ⟨nb, 0, none⟩) cap v w9 (Lib.hid (HGG.out.ext k9)) hn1)
    rw [show (nodes).length = nodes.length by rfl] at HR
    clear hCk hn1
    go_wp2_with fail
    refine HCk.out.mono ?_
    intro e3 w3 h3
    have H3 := Lib.hid h3
    have k1 : Ext WN w3 := by rcases h3 with ⟨_, _, _, _, _, _, _, _, h⟩ | ⟨_, _, _, _, h⟩ <;> exact h
    replace q0 := cell_ext k1 q0
    replace q1 := cell_ext k1 q1
    have kk := Lib.hid (HKK.out.trans k1)
    have HR3 := Lib.hid (HR.out w3 k1)
    clear h3 k1
    rcases H3.out with ⟨shs', A1, c1, h1, rfl, h2, h4, h5, _⟩ | ⟨m1, h1, h2, rfl, _⟩
    · have H1 := Lib.hid h1
      have H2 := Lib.hid h2
      have H4 := Lib.hid h4
      have H5' := Lib.hid h5
      clear h1 h2 h4 h5 H3
      go_wp2_with fail
      refine HR3.out.mono ?_
      rintro e4 w4 (⟨shs2, A2, c2, g1, rfl, g2, _, g5, k4⟩ | ⟨m2, g1, _⟩)
      · rw [H1.out] at g1
        injection g1 with g1
        subst g1
        have G2 := Lib.hid g2
        have K4 := Lib.hid k4
        clear g2 k4 g5
        go_wp2_with fail
        refine (sameShapes_any A1 A2 c1 c2 shs' w4 (Lib.hid (H2.out.ext K4.out)) G2 H4 (by have := H5'.out; omega)).mono ?_
        rintro e5 w5 ⟨rfl, k5⟩
        go_wp2
        go_ret
        exact ⟨rfl, kk.out.trans (K4.out.trans k5)⟩
      · rw [H1.out] at g1
        cases g1
    · have H1 := Lib.hid h1
      clear h1 H3
      go_wp2_with fail
      refine HR3.out.mono ?_
      rintro e4 w4 (⟨shs2, A2, c2, g1, _⟩ | ⟨m2, g1, _, rfl, k4⟩)
      · rw [H1.out] at g1
        cases g1
      · rw [H1.out] at g1
        injection g1 with g1
        subst g1
        have K4 := Lib.hid k4
        clear k4
        go_wp2_with fail
        refine (sameNone_any w4).mono ?_
        rintro e5 w5 ⟨rfl, k5⟩
        go_wp2
        go_ret
        exact ⟨rfl, kk.out.trans (K4.out.trans k5)⟩
  ·
    rcases xsh with _ | ⟨s0, sr⟩
    · have c0 : W.cell? ⟨nb, j * 9 + 3, none⟩ = some (.slice As 0 cs) := HCJ.out 3 _ rfl
      have HGG := Lib.hid (show GX W (some ⟨nb, 0, none⟩) cap nodes by
        have hns : NsY V.heap.size W (.slice (some ⟨nb, 0, none⟩) nodes.length cap) nodes := ⟨us, HOR.out, HU.out⟩
        obtain ⟨A', c', e, hgx⟩ := hns.gx
        injection e with e1 _ e3
        subst e1 e3
        exact hgx)
      have HKK := KW
      have q0 := p0
      have q1 := p1
      clear p0 p1
      go_upto_region 33 with fail
      clear c0 hrm hre
      have hn1 : (nodes).length ≤ 1000 := by rw [show (nodes).length = nodes.length by rfl]; omega
      have hCk := graphCheck (nodes) (some ⟨nb, 0, none⟩) cap (out : Int) W HGG hn1
      rw [show (nodes).length = nodes.length by rfl] at hCk
      have HCk := Lib.hid hCk
      have HR := Lib.hid (fun (w9 : World) (k9 : Ext W w9) => rcheck_any (nodes) (some ⟨nb, 0, none⟩) cap (out : Int) w9 (Lib.hid (HGG.out.ext k9)) hn1)
      rw [show (nodes).length = nodes.length by rfl] at HR
      clear hCk hn1
      go_wp2_with fail
      refine HCk.out.mono ?_
      intro e3 w3 h3
      have H3 := Lib.hid h3
      have k1 : Ext W w3 := by rcases h3 with ⟨_, _, _, _, _, _, _, _, h⟩ | ⟨_, _, _, _, h⟩ <;> exact h
      replace q0 := cell_ext k1 q0
      replace q1 := cell_ext k1 q1
      have kk := Lib.hid (HKK.out.trans k1)
      have HR3 := Lib.hid (HR.out w3 k1)
      clear h3 k1
      rcases H3.out with ⟨shs', A1, c1, h1, rfl, h2, h4, h5, _⟩ | ⟨m1, h1, h2, rfl, _⟩
      · have H1 := Lib.hid h1
        have H2 := Lib.hid h2
        have H4 := Lib.hid h4
        have H5' := Lib.hid h5
        clear h1 h2 h4 h5 H3
        go_wp2_with fail
        refine HR3.out.mono ?_
        rintro e4 w4 (⟨shs2, A2, c2, g1, rfl, g2, _, g5, k4⟩ | ⟨m2, g1, _⟩)
        · rw [H1.out] at g1
          injection g1 with g1
          subst g1
          have G2 := Lib.hid g2
          have K4 := Lib.hid k4
          clear g2 k4 g5
          go_wp2_with fail
          refine (sameShapes_any A1 A2 c1 c2 shs' w4 (Lib.hid (H2.out.ext K4.out)) G2 H4 (by have := H5'.out; omega)).mono ?_
          rintro e5 w5 ⟨rfl, k5⟩
          go_wp2
          go_ret
          exact ⟨rfl, kk.out.trans (K4.out.trans k5)⟩
        · rw [H1.out] at g1
          cases g1
      · have H1 := Lib.hid h1
        clear h1 H3
        go_wp2_with fail
        refine HR3.out.mono ?_
        rintro e4 w4 (⟨shs2, A2, c2, g1, _⟩ | ⟨m2, g1, _, rfl, k4⟩)
        · rw [H1.out] at g1
          cases g1
        · rw [H1.out] at g1
          injection g1 with g1
          subst g1
          have K4 := Lib.hid k4
          clear k4
          go_wp2_with fail
          refine (sameNone_any w4).mono ?_
          rintro e5 w5 ⟨rfl, k5⟩
          go_wp2
          go_ret
          exact ⟨rfl, kk.out.trans (K4.out.trans k5)⟩
    · have hz1 : ZX W As (sr.length + 1) cs (s0 :: sr) := HND.out.1.1.1
      obtain ⟨ad, rfl, _⟩ := hz1.cells (by omega)
      have ht1 := hz1.tail1
      have c0 : W.cell? ⟨nb, j * 9 + 3, none⟩ = some (.slice (some ad) (sr.length + 1) cs) := HCJ.out 3 _ rfl
      have hcs := hz1.room
      have hsr : sr.length + 1 ≤ 1000 := hl1
      have hg0 : (0 : Int) < (sr.length : Int) + 1 := by omega
      have hg1 : (1 : Int) ≤ (sr.length : Int) + 1 := by omega
      clear hz1
      by_cases hc1 : cs = 1
      ·
        rw [if_pos hc1] at ht1
        subst hc1
        obtain rfl : sr = [] := List.eq_nil_of_length_eq_zero (by omega)
        replace ht1 : ZX W (some ad) 0 0 [] := ht1
        replace c0 : W.cell? ⟨nb, j * 9 + 3, none⟩ = some (.slice (some ad) 1 1) := c0
        clear hg0 hg1 hcs hsr
        have HT1 := Lib.hid ht1
        clear ht1
        have c1 := cell_ext ((Ext.refl W).alloc (.cells #[.int .i64 v] 3)) c0
        go_wp2_with (at_builtin; go_loud (refine wpList_consZ rfl _ _ rfl W.heap.size rfl v (some ad) 0 0 [] rfl rfl (HT1.out) (by omega) ?_; intro A9 c9 w9 hz9 hy9 k9; have x9 := cell_ext k9 c0; have z9 : w9.frozen? ⟨nb, j * 9 + 3, none⟩ = false := frozen_of_heap ((k9.block nb (Array.getElem?_eq_some_iff.1 HNB.out).1).trans HNB.out); have h55 := heap_on ((k9.block p5 (Array.getElem?_eq_some_iff.1 H5.out).1).trans H5.out) ((On.refl nb w9).set (j * 9 + 3) (.slice A9 1 c9)) (by omega); have q0 := cell_of_heap h55 (j := 0) rfl; have q1 := cell_of_heap h55 (j := 1) rfl))
        have HNB9 := Lib.hid ((k9.block nb (Array.getElem?_eq_some_iff.1 HNB.out).1).trans HNB.out)
        have hst : On nb w9 (w9.setCell ⟨nb, j * 9 + 3, none⟩ (.slice A9 1 c9)) := (On.refl nb w9).set (j * 9 + 3) _
        have HGG := Lib.hid (show GX (w9.setCell ⟨nb, j * 9 + 3, none⟩ (.slice A9 1 c9)) (some ⟨nb, 0, none⟩) cap (nodes.set j ⟨xk, xa, xb, (v :: []), xlo, xhi, xsz, xda, xbi⟩) by
          have h4 := (HND.out.map fun _ _ _ _ h => h.ext k9).map fun _ _ _ _ h => h.onp HNB9.out (by decide) hst
          have hnew := ZY.onp (show ZY w9 A9 1 c9 (v :: []) from ⟨hz9, hy9⟩) HNB9.out (by decide) hst
          exact ns_poke (As := A9) (Ad := Ad) (Ab := Ab) (cs := c9) (cd := cd) (cb := cb) (f := 3) rfl (own_extJ HOR.out k9) (fun j x hx => by
            obtain ⟨As', Ad', Ab', cs', cd', cb', g1, g2⟩ := HU.out j x hx
            exact ⟨As', Ad', Ab', cs', cd', cb', g1.map fun _ _ _ _ h => h.ext k9, g2⟩) HXJ.out (by decide) ⟨hnew.1, h4.1.2.1.1, h4.1.2.2.1, by show (v :: []).length ≤ 100000; first | omega | (rw [List.length_cons]; omega) | simp, by show xda.length ≤ 100000; first | omega | (rw [List.length_cons]; omega) | simp, by show xbi.length ≤ 100000; first | omega | (rw [List.length_cons]; omega) | simp⟩ (poke_at HUJ.out (by decide) rfl))
        have HKK := Lib.hid (show Ext w (w9.setCell ⟨nb, j * 9 + 3, none⟩ (.slice A9 1 c9)) from (KW.out.trans k9).set (p := ⟨nb, j * 9 + 3, none⟩) hwp5 _)
        clear hst h55
        generalize w9.setCell ⟨nb, j * 9 + 3, none⟩ (.slice A9 1 c9) = WN at *
        clear hrm hre c0 c1 x9 z9 k9 hz9 hy9 p0 p1
        have hn1 : (nodes.set j ⟨xk, xa, xb, (v :: []), xlo, xhi, xsz, xda, xbi⟩).length ≤ 1000 := by rw [show (nodes.set j ⟨xk, xa, xb, (v :: []), xlo, xhi, xsz, xda, xbi⟩).length = nodes.length by rw [List.length_set]]; omega
        have hCk := graphCheck (nodes.set j ⟨xk, xa, xb, (v :: []), xlo, xhi, xsz, xda, xbi⟩) (some ⟨nb, 0, none⟩) cap (out : Int) WN HGG hn1
        rw [show (nodes.set j ⟨xk, xa, xb, (v :: []), xlo, xhi, xsz, xda, xbi⟩).length = nodes.length by rw [List.length_set]] at hCk
        have HCk := Lib.hid hCk
        have HR := Lib.hid (fun (w9 : World) (k9 : Ext WN w9) => rcheck_any (nodes.set j ⟨xk, xa, xb, (v :: []), xlo, xhi, xsz, xda, xbi⟩) (some ⟨nb, 0, none⟩) cap (out : Int) w9 (Lib.hid (HGG.out.ext k9)) hn1)
        rw [show (nodes.set j ⟨xk, xa, xb, (v :: []), xlo, xhi, xsz, xda, xbi⟩).length = nodes.length by rw [List.length_set]] at HR
        clear hCk hn1
        refine HCk.out.mono ?_
        intro e3 w3 h3
        have H3 := Lib.hid h3
        have k1 : Ext WN w3 := by rcases h3 with ⟨_, _, _, _, _, _, _, _, h⟩ | ⟨_, _, _, _, h⟩ <;> exact h
        replace q0 := cell_ext k1 q0
        replace q1 := cell_ext k1 q1
        have kk := Lib.hid (HKK.out.trans k1)
        have HR3 := Lib.hid (HR.out w3 k1)
        clear h3 k1
        rcases H3.out with ⟨shs', A1, c1, h1, rfl, h2, h4, h5, _⟩ | ⟨m1, h1, h2, rfl, _⟩
        · have H1 := Lib.hid h1
          have H2 := Lib.hid h2
          have H4 := Lib.hid h4
          have H5' := Lib.hid h5
          clear h1 h2 h4 h5 H3
          go_wp2_with fail
          refine HR3.out.mono ?_
          rintro e4 w4 (⟨shs2, A2, c2, g1, rfl, g2, _, g5, k4⟩ | ⟨m2, g1, _⟩)
          · rw [H1.out] at g1
            injection g1 with g1
            subst g1
            have G2 := Lib.hid g2
            have K4 := Lib.hid k4
            clear g2 k4 g5
            go_wp2_with fail
            refine (sameShapes_any A1 A2 c1 c2 shs' w4 (Lib.hid (H2.out.ext K4.out)) G2 H4 (by have := H5'.out; omega)).mono ?_
            rintro e5 w5 ⟨rfl, k5⟩
            go_wp2
            go_ret
            exact ⟨rfl, kk.out.trans (K4.out.trans k5)⟩
          · rw [H1.out] at g1
            cases g1
        · have H1 := Lib.hid h1
          clear h1 H3
          go_wp2_with fail
          refine HR3.out.mono ?_
          rintro e4 w4 (⟨shs2, A2, c2, g1, _⟩ | ⟨m2, g1, _, rfl, k4⟩)
          · rw [H1.out] at g1
            cases g1
          · rw [H1.out] at g1
            injection g1 with g1
            subst g1
            have K4 := Lib.hid k4
            clear k4
            go_wp2_with fail
            refine (sameNone_any w4).mono ?_
            rintro e5 w5 ⟨rfl, k5⟩
            go_wp2
            go_ret
            exact ⟨rfl, kk.out.trans (K4.out.trans k5)⟩
      ·
        rw [if_neg hc1] at ht1
        have HT1 := Lib.hid ht1
        clear ht1
        have c1 := cell_ext ((Ext.refl W).alloc (.cells #[.int .i64 v] 3)) c0
        go_wp2_with (at_builtin; go_loud (refine wpList_consZ rfl _ _ rfl W.heap.size rfl v (some (ad.add 1)) sr.length (cs - 1) sr rfl rfl (HT1.out) (by omega) ?_; intro A9 c9 w9 hz9 hy9 k9; have x9 := cell_ext k9 c0; have z9 : w9.frozen? ⟨nb, j * 9 + 3, none⟩ = false := frozen_of_heap ((k9.block nb (Array.getElem?_eq_some_iff.1 HNB.out).1).trans HNB.out); have h55 := heap_on ((k9.block p5 (Array.getElem?_eq_some_iff.1 H5.out).1).trans H5.out) ((On.refl nb w9).set (j * 9 + 3) (.slice A9 (sr.length + 1) c9)) (by omega); have q0 := cell_of_heap h55 (j := 0) rfl; have q1 := cell_of_heap h55 (j := 1) rfl))
        have HNB9 := Lib.hid ((k9.block nb (Array.getElem?_eq_some_iff.1 HNB.out).1).trans HNB.out)
        have hst : On nb w9 (w9.setCell ⟨nb, j * 9 + 3, none⟩ (.slice A9 (sr.length + 1) c9)) := (On.refl nb w9).set (j * 9 + 3) _
        have HGG := Lib.hid (show GX (w9.setCell ⟨nb, j * 9 + 3, none⟩ (.slice A9 (sr.length + 1) c9)) (some ⟨nb, 0, none⟩) cap (nodes.set j ⟨xk, xa, xb, (v :: sr), xlo, xhi, xsz, xda, xbi⟩) by
          have h4 := (HND.out.map fun _ _ _ _ h => h.ext k9).map fun _ _ _ _ h => h.onp HNB9.out (by decide) hst
          have hnew := ZY.onp (show ZY w9 A9 (sr.length + 1) c9 (v :: sr) from ⟨hz9, hy9⟩) HNB9.out (by decide) hst
          exact ns_poke (As := A9) (Ad := Ad) (Ab := Ab) (cs := c9) (cd := cd) (cb := cb) (f := 3) rfl (own_extJ HOR.out k9) (fun j x hx => by
            obtain ⟨As', Ad', Ab', cs', cd', cb', g1, g2⟩ := HU.out j x hx
            exact ⟨As', Ad', Ab', cs', cd', cb', g1.map fun _ _ _ _ h => h.ext k9, g2⟩) HXJ.out (by decide) ⟨hnew.1, h4.1.2.1.1, h4.1.2.2.1, by show (v :: sr).length ≤ 100000; first | omega | (rw [List.length_cons]; omega) | simp, by show xda.length ≤ 100000; first | omega | (rw [List.length_cons]; omega) | simp, by show xbi.length ≤ 100000; first | omega | (rw [List.length_cons]; omega) | simp⟩ (poke_at HUJ.out (by decide) rfl))
        have HKK := Lib.hid (show Ext w (w9.setCell ⟨nb, j * 9 + 3, none⟩ (.slice A9 (sr.length + 1) c9)) from (KW.out.trans k9).set (p := ⟨nb, j * 9 + 3, none⟩) hwp5 _)
        clear hst h55
        generalize w9.setCell ⟨nb, j * 9 + 3, none⟩ (.slice A9 (sr.length + 1) c9) = WN at *
        clear hrm hre c0 c1 x9 z9 k9 hz9 hy9 p0 p1
        have hn1 : (nodes.set j ⟨xk, xa, xb, (v :: sr), xlo, xhi, xsz, xda, xbi⟩).length ≤ 1000 := by rw [show (nodes.set j ⟨xk, xa, xb, (v :: sr), xlo, xhi, xsz, xda, xbi⟩).length = nodes.length by rw [List.length_set]]; omega
        have hCk := graphCheck (nodes.set j ⟨xk, xa, xb, (v :: sr), xlo, xhi, xsz, xda, xbi⟩) (some ⟨nb, 0, none⟩) cap (out : Int) WN HGG hn1
        rw [show (nodes.set j ⟨xk, xa, xb, (v :: sr), xlo, xhi, xsz, xda, xbi⟩).length = nodes.length by rw [List.length_set]] at hCk
        have HCk := Lib.hid hCk
        have HR := Lib.hid (fun (w9 : World) (k9 : Ext WN w9) => rcheck_any (nodes.set j ⟨xk, xa, xb, (v :: sr), xlo, xhi, xsz, xda, xbi⟩) (some ⟨nb, 0, none⟩) cap (out : Int) w9 (Lib.hid (HGG.out.ext k9)) hn1)
        rw [show (nodes.set j ⟨xk, xa, xb, (v :: sr), xlo, xhi, xsz, xda, xbi⟩).length = nodes.length by rw [List.length_set]] at HR
        clear hCk hn1
        refine HCk.out.mono ?_
        intro e3 w3 h3
        have H3 := Lib.hid h3
        have k1 : Ext WN w3 := by rcases h3 with ⟨_, _, _, _, _, _, _, _, h⟩ | ⟨_, _, _, _, h⟩ <;> exact h
        replace q0 := cell_ext k1 q0
        replace q1 := cell_ext k1 q1
        have kk := Lib.hid (HKK.out.trans k1)
        have HR3 := Lib.hid (HR.out w3 k1)
        clear h3 k1
        rcases H3.out with ⟨shs', A1, c1, h1, rfl, h2, h4, h5, _⟩ | ⟨m1, h1, h2, rfl, _⟩
        · have H1 := Lib.hid h1
          have H2 := Lib.hid h2
          have H4 := Lib.hid h4
          have H5' := Lib.hid h5
          clear h1 h2 h4 h5 H3
          go_wp2_with fail
          refine HR3.out.mono ?_
          rintro e4 w4 (⟨shs2, A2, c2, g1, rfl, g2, _, g5, k4⟩ | ⟨m2, g1, _⟩)
          · rw [H1.out] at g1
            injection g1 with g1
            subst g1
            have G2 := Lib.hid g2
            have K4 := Lib.hid k4
            clear g2 k4 g5
            go_wp2_with fail
            refine (sameShapes_any A1 A2 c1 c2 shs' w4 (Lib.hid (H2.out.ext K4.out)) G2 H4 (by have := H5'.out; omega)).mono ?_
            rintro e5 w5 ⟨rfl, k5⟩
            go_wp2
            go_ret
            exact ⟨rfl, kk.out.trans (K4.out.trans k5)⟩
          · rw [H1.out] at g1
            cases g1
        · have H1 := Lib.hid h1
          clear h1 H3
          go_wp2_with fail
          refine HR3.out.mono ?_
          rintro e4 w4 (⟨shs2, A2, c2, g1, _⟩ | ⟨m2, g1, _, rfl, k4⟩)
          · rw [H1.out] at g1
            cases g1
          · rw [H1.out] at g1
            injection g1 with g1
            subst g1
            have K4 := Lib.hid k4
            clear k4
            go_wp2_with fail
            refine (sameNone_any w4).mono ?_
            rintro e5 w5 ⟨rfl, k5⟩
            go_wp2
            go_ret
            exact ⟨rfl, kk.out.trans (K4.out.trans k5)⟩

  ·
    rcases xda with _ | ⟨s0, sr⟩
    · have c0 : W.cell? ⟨nb, j * 9 + 7, none⟩ = some (.slice Ad 0 cd) := HCJ.out 7 _ rfl
      have HGG := Lib.hid (show GX W (some ⟨nb, 0, none⟩) cap nodes by
        have hns : NsY V.heap.size W (.slice (some ⟨nb, 0, none⟩) nodes.length cap) nodes := ⟨us, HOR.out, HU.out⟩
        obtain ⟨A', c', e, hgx⟩ := hns.gx
        injection e with e1 _ e3
        subst e1 e3
        exact hgx)
      have HKK := KW
      have q0 := p0
      have q1 := p1
      clear p0 p1
      go_upto_region 33 with fail
      clear c0 hrm hre
      have hn1 : (nodes).length ≤ 1000 := by rw [show (nodes).length = nodes.length by rfl]; omega
      have hCk := graphCheck (nodes) (some ⟨nb, 0, none⟩) cap (out : Int) W HGG hn1
      rw [show (nodes).length = nodes.length by rfl] at hCk
      have HCk := Lib.hid hCk
      have HR := Lib.hid (fun (w9 : World) (k9 : Ext W w9) => rcheck_any (nodes) (some ⟨nb, 0, none⟩) cap (out : Int) w9 (Lib.hid (HGG.out.ext k9)) hn1)
      rw [show (nodes).length = nodes.length by rfl] at HR
      clear hCk hn1
      go_wp2_with fail
      refine HCk.out.mono ?_
      intro e3 w3 h3
      have H3 := Lib.hid h3
      have k1 : Ext W w3 := by rcases h3 with ⟨_, _, _, _, _, _, _, _, h⟩ | ⟨_, _, _, _, h⟩ <;> exact h
      replace q0 := cell_ext k1 q0
      replace q1 := cell_ext k1 q1
      have kk := Lib.hid (HKK.out.trans k1)
      have HR3 := Lib.hid (HR.out w3 k1)
      clear h3 k1
      rcases H3.out with ⟨shs', A1, c1, h1, rfl, h2, h4, h5, _⟩ | ⟨m1, h1, h2, rfl, _⟩
      · have H1 := Lib.hid h1
        have H2 := Lib.hid h2
        have H4 := Lib.hid h4
        have H5' := Lib.hid h5
        clear h1 h2 h4 h5 H3
        go_wp2_with fail
        refine HR3.out.mono ?_
        rintro e4 w4 (⟨shs2, A2, c2, g1, rfl, g2, _, g5, k4⟩ | ⟨m2, g1, _⟩)
        · rw [H1.out] at g1
          injection g1 with g1
          subst g1
          have G2 := Lib.hid g2
          have K4 := Lib.hid k4
          clear g2 k4 g5
          go_wp2_with fail
          refine (sameShapes_any A1 A2 c1 c2 shs' w4 (Lib.hid (H2.out.ext K4.out)) G2 H4 (by have := H5'.out; omega)).mono ?_
          rintro e5 w5 ⟨rfl, k5⟩
          go_wp2
          go_ret
          exact ⟨rfl, kk.out.trans (K4.out.trans k5)⟩
        · rw [H1.out] at g1
          cases g1
      · have H1 := Lib.hid h1
        clear h1 H3
        go_wp2_with fail
        refine HR3.out.mono ?_
        rintro e4 w4 (⟨shs2, A2, c2, g1, _⟩ | ⟨m2, g1, _, rfl, k4⟩)
        · rw [H1.out] at g1
          cases g1
        · rw [H1.out] at g1
          injection g1 with g1
          subst g1
          have K4 := Lib.hid k4
          clear k4
          go_wp2_with fail
          refine (sameNone_any w4).mono ?_
          rintro e5 w5 ⟨rfl, k5⟩
          go_wp2
          go_ret
          exact ⟨rfl, kk.out.trans (K4.out.trans k5)⟩
    · have hz1 : ZX W Ad (sr.length + 1) cd (s0 :: sr) := HND.out.1.2.1.1
      obtain ⟨ad, rfl, _⟩ := hz1.cells (by omega)
      have ht1 := hz1.tail1
      have c0 : W.cell? ⟨nb, j * 9 + 7, none⟩ = some (.slice (some ad) (sr.length + 1) cd) := HCJ.out 7 _ rfl
      have hcs := hz1.room
      have hsr : sr.length + 1 ≤ 1000 := hl2
      have hg0 : (0 : Int) < (sr.length : Int) + 1 := by omega
      have hg1 : (1 : Int) ≤ (sr.length : Int) + 1 := by omega
      clear hz1
      by_cases hc1 : cd = 1
      ·
        rw [if_pos hc1] at ht1
        subst hc1
        obtain rfl : sr = [] := List.eq_nil_of_length_eq_zero (by omega)
        replace ht1 : ZX W (some ad) 0 0 [] := ht1
        replace c0 : W.cell? ⟨nb, j * 9 + 7, none⟩ = some (.slice (some ad) 1 1) := c0
        clear hg0 hg1 hcs hsr
        have HT1 := Lib.hid ht1
        clear ht1
        have c1 := cell_ext ((Ext.refl W).alloc (.cells #[.int .i64 v] 3)) c0
        go_wp2_with (at_builtin; go_loud (refine wpList_consZ rfl _ _ rfl W.heap.size rfl v (some ad) 0 0 [] rfl rfl (HT1.out) (by omega) ?_; intro A9 c9 w9 hz9 hy9 k9; have x9 := cell_ext k9 c0; have z9 : w9.frozen? ⟨nb, j * 9 + 7, none⟩ = false := frozen_of_heap ((k9.block nb (Array.getElem?_eq_some_iff.1 HNB.out).1).trans HNB.out); have h55 := heap_on ((k9.block p5 (Array.getElem?_eq_some_iff.1 H5.out).1).trans H5.out) ((On.refl nb w9).set (j * 9 + 7) (.slice A9 1 c9)) (by omega); have q0 := cell_of_heap h55 (j := 0) rfl; have q1 := cell_of_heap h55 (j := 1) rfl))
        have HNB9 := Lib.hid ((k9.block nb (Array.getElem?_eq_some_iff.1 HNB.out).1).trans HNB.out)
        have hst : On nb w9 (w9.setCell ⟨nb, j * 9 + 7, none⟩ (.slice A9 1 c9)) := (On.refl nb w9).set (j * 9 + 7) _
        have HGG := Lib.hid (show GX (w9.setCell ⟨nb, j * 9 + 7, none⟩ (.slice A9 1 c9)) (some ⟨nb, 0, none⟩) cap (nodes.set j ⟨xk, xa, xb, xsh, xlo, xhi, xsz, (v :: []), xbi⟩) by
          have h4 := (HND.out.map fun _ _ _ _ h => h.ext k9).map fun _ _ _ _ h => h.onp HNB9.out (by decide) hst
          have hnew := ZY.onp (show ZY w9 A9 1 c9 (v :: []) from ⟨hz9, hy9⟩) HNB9.out (by decide) hst
          exact ns_poke (As := As) (Ad := A9) (Ab := Ab) (cs := cs) (cd := c9) (cb := cb) (f := 7) rfl (own_extJ HOR.out k9) (fun j x hx => by
            obtain ⟨As', Ad', Ab', cs', cd', cb', g1, g2⟩ := HU.out j x hx
            exact ⟨As', Ad', Ab', cs', cd', cb', g1.map fun _ _ _ _ h => h.ext k9, g2⟩) HXJ.out (by decide) ⟨h4.1.1.1, hnew.1, h4.1.2.2.1, by show xsh.length ≤ 100000; first | omega | (rw [List.length_cons]; omega) | simp, by show (v :: []).length ≤ 100000; first | omega | (rw [List.length_cons]; omega) | simp, by show xbi.length ≤ 100000; first | omega | (rw [List.length_cons]; omega) | simp⟩ (poke_at HUJ.out (by decide) rfl))
        have HKK := Lib.hid (show Ext w (w9.setCell ⟨nb, j * 9 + 7, none⟩ (.slice A9 1 c9)) from (KW.out.trans k9).set (p := ⟨nb, j * 9 + 7, none⟩) hwp5 _)
        clear hst h55
        generalize w9.setCell ⟨nb, j * 9 + 7, none⟩ (.slice A9 1 c9) = WN at *
        clear hrm hre c0 c1 x9 z9 k9 hz9 hy9 p0 p1
        have hn1 : (nodes.set j ⟨xk, xa, xb, xsh, xlo, xhi, xsz, (v :: []), xbi⟩).length ≤ 1000 := by rw [show (nodes.set j ⟨xk, xa, xb, xsh, xlo, xhi, xsz, (v :: []), xbi⟩).length = nodes.length by rw [List.length_set]]; omega
        have hCk := graphCheck (nodes.set j ⟨xk, xa, xb, xsh, xlo, xhi, xsz, (v :: []), xbi⟩) (some ⟨nb, 0, none⟩) cap (out : Int) WN HGG hn1
        rw [show (nodes.set j ⟨xk, xa, xb, xsh, xlo, xhi, xsz, (v :: []), xbi⟩).length = nodes.length by rw [List.length_set]] at hCk
        have HCk := Lib.hid hCk
        have HR := Lib.hid (fun (w9 : World) (k9 : Ext WN w9) => rcheck_any (nodes.set j ⟨xk, xa, xb, xsh, xlo, xhi, xsz, (v :: []), xbi⟩) (some ⟨nb, 0, none⟩) cap (out : Int) w9 (Lib.hid (HGG.out.ext k9)) hn1)
        rw [show (nodes.set j ⟨xk, xa, xb, xsh, xlo, xhi, xsz, (v :: []), xbi⟩).length = nodes.length by rw [List.length_set]] at HR
        clear hCk hn1
        refine HCk.out.mono ?_
        intro e3 w3 h3
        have H3 := Lib.hid h3
        have k1 : Ext WN w3 := by rcases h3 with ⟨_, _, _, _, _, _, _, _, h⟩ | ⟨_, _, _, _, h⟩ <;> exact h
        replace q0 := cell_ext k1 q0
        replace q1 := cell_ext k1 q1
        have kk := Lib.hid (HKK.out.trans k1)
        have HR3 := Lib.hid (HR.out w3 k1)
        clear h3 k1
        rcases H3.out with ⟨shs', A1, c1, h1, rfl, h2, h4, h5, _⟩ | ⟨m1, h1, h2, rfl, _⟩
        · have H1 := Lib.hid h1
          have H2 := Lib.hid h2
          have H4 := Lib.hid h4
          have H5' := Lib.hid h5
          clear h1 h2 h4 h5 H3
          go_wp2_with fail
          refine HR3.out.mono ?_
          rintro e4 w4 (⟨shs2, A2, c2, g1, rfl, g2, _, g5, k4⟩ | ⟨m2, g1, _⟩)
          · rw [H1.out] at g1
            injection g1 with g1
            subst g1
            have G2 := Lib.hid g2
            have K4 := Lib.hid k4
            clear g2 k4 g5
            go_wp2_with fail
            refine (sameShapes_any A1 A2 c1 c2 shs' w4 (Lib.hid (H2.out.ext K4.out)) G2 H4 (by have := H5'.out; omega)).mono ?_
            rintro e5 w5 ⟨rfl, k5⟩
            go_wp2
            go_ret
            exact ⟨rfl, kk.out.trans (K4.out.trans k5)⟩
          · rw [H1.out] at g1
            cases g1
        · have H1 := Lib.hid h1
          clear h1 H3
          go_wp2_with fail
          refine HR3.out.mono ?_
          rintro e4 w4 (⟨shs2, A2, c2, g1, _⟩ | ⟨m2, g1, _, rfl, k4⟩)
          · rw [H1.out] at g1
            cases g1
          · rw [H1.out] at g1
            injection g1 with g1
            subst g1
            have K4 := Lib.hid k4
            clear k4
            go_wp2_with fail
            refine (sameNone_any w4).mono ?_
            rintro e5 w5 ⟨rfl, k5⟩
            go_wp2
            go_ret
            exact ⟨rfl, kk.out.trans (K4.out.trans k5)⟩
      ·
        rw [if_neg hc1] at ht1
        have HT1 := Lib.hid ht1
        clear ht1
        have c1 := cell_ext ((Ext.refl W).alloc (.cells #[.int .i64 v] 3)) c0
        go_wp2_with (at_builtin; go_loud (refine wpList_consZ rfl _ _ rfl W.heap.size rfl v (some (ad.add 1)) sr.length (cd - 1) sr rfl rfl (HT1.out) (by omega) ?_; intro A9 c9 w9 hz9 hy9 k9; have x9 := cell_ext k9 c0; have z9 : w9.frozen? ⟨nb, j * 9 + 7, none⟩ = false := frozen_of_heap ((k9.block nb (Array.getElem?_eq_some_iff.1 HNB.out).1).trans HNB.out); have h55 := heap_on ((k9.block p5 (Array.getElem?_eq_some_iff.1 H5.out).1).trans H5.out) ((On.refl nb w9).set (j * 9 + 7) (.slice A9 (sr.length + 1) c9)) (by omega); have q0 := cell_of_heap h55 (j := 0) rfl; have q1 := cell_of_heap h55 (j := 1) rfl))
        have HNB9 := Lib.hid ((k9.block nb (Array.getElem?_eq_some_iff.1 HNB.out).1).trans HNB.out)
        have hst : On nb w9 (w9.setCell ⟨nb, j * 9 + 7, none⟩ (.slice A9 (sr.length + 1) c9)) := (On.refl nb w9).set (j * 9 + 7) _
        have HGG := Lib.hid (show GX (w9.setCell ⟨nb, j * 9 + 7, none⟩ (.slice A9 (sr.length + 1) c9)) (some ⟨nb, 0, none⟩) cap (nodes.set j ⟨xk, xa, xb, xsh, xlo, xhi, xsz, (v :: sr), xbi⟩) by
          have h4 := (HND.out.map fun _ _ _ _ h => h.ext k9).map fun _ _ _ _ h => h.onp HNB9.out (by decide) hst
          have hnew := ZY.onp (show ZY w9 A9 (sr.length + 1) c9 (v :: sr) from ⟨hz9, hy9⟩) HNB9.out (by decide) hst
          exact ns_poke (As := As) (Ad := A9) (Ab := Ab) (cs := cs) (cd := c9) (cb := cb) (f := 7) rfl (own_extJ HOR.out k9) (fun j x hx => by
            obtain ⟨As', Ad', Ab', cs', cd', cb', g1, g2⟩ := HU.out j x hx
            exact ⟨As', Ad', Ab', cs', cd', cb', g1.map fun _ _ _ _ h => h.ext k9, g2⟩) HXJ.out (by decide) ⟨h4.1.1.1, hnew.1, h4.1.2.2.1, by show xsh.length ≤ 100000; first | omega | (rw [List.length_cons]; omega) | simp, by show (v :: sr).length ≤ 100000; first | omega | (rw [List.length_cons]; omega) | simp, by show xbi.length ≤ 100000; first | omega | (rw [List.length_cons]; omega) | simp⟩ (poke_at HUJ.out (by decide) rfl))
        have HKK := Lib.hid (show Ext w (w9.setCell ⟨nb, j * 9 + 7, none⟩ (.slice A9 (sr.length + 1) c9)) from (KW.out.trans k9).set (p := ⟨nb, j * 9 + 7, none⟩) hwp5 _)
        clear hst h55
        generalize w9.setCell ⟨nb, j * 9 + 7, none⟩ (.slice A9 (sr.length + 1) c9) = WN at *
        clear hrm hre c0 c1 x9 z9 k9 hz9 hy9 p0 p1
        have hn1 : (nodes.set j ⟨xk, xa, xb, xsh, xlo, xhi, xsz, (v :: sr), xbi⟩).length ≤ 1000 := by rw [show (nodes.set j ⟨xk, xa, xb, xsh, xlo, xhi, xsz, (v :: sr), xbi⟩).length = nodes.length by rw [List.length_set]]; omega
        have hCk := graphCheck (nodes.set j ⟨xk, xa, xb, xsh, xlo, xhi, xsz, (v :: sr), xbi⟩) (some ⟨nb, 0, none⟩) cap (out : Int) WN HGG hn1
        rw [show (nodes.set j ⟨xk, xa, xb, xsh, xlo, xhi, xsz, (v :: sr), xbi⟩).length = nodes.length by rw [List.length_set]] at hCk
        have HCk := Lib.hid hCk
        have HR := Lib.hid (fun (w9 : World) (k9 : Ext WN w9) => rcheck_any (nodes.set j ⟨xk, xa, xb, xsh, xlo, xhi, xsz, (v :: sr), xbi⟩) (some ⟨nb, 0, none⟩) cap (out : Int) w9 (Lib.hid (HGG.out.ext k9)) hn1)
        rw [show (nodes.set j ⟨xk, xa, xb, xsh, xlo, xhi, xsz, (v :: sr), xbi⟩).length = nodes.length by rw [List.length_set]] at HR
        clear hCk hn1
        refine HCk.out.mono ?_
        intro e3 w3 h3
        have H3 := Lib.hid h3
        have k1 : Ext WN w3 := by rcases h3 with ⟨_, _, _, _, _, _, _, _, h⟩ | ⟨_, _, _, _, h⟩ <;> exact h
        replace q0 := cell_ext k1 q0
        replace q1 := cell_ext k1 q1
        have kk := Lib.hid (HKK.out.trans k1)
        have HR3 := Lib.hid (HR.out w3 k1)
        clear h3 k1
        rcases H3.out with ⟨shs', A1, c1, h1, rfl, h2, h4, h5, _⟩ | ⟨m1, h1, h2, rfl, _⟩
        · have H1 := Lib.hid h1
          have H2 := Lib.hid h2
          have H4 := Lib.hid h4
          have H5' := Lib.hid h5
          clear h1 h2 h4 h5 H3
          go_wp2_with fail
          refine HR3.out.mono ?_
          rintro e4 w4 (⟨shs2, A2, c2, g1, rfl, g2, _, g5, k4⟩ | ⟨m2, g1, _⟩)
          · rw [H1.out] at g1
            injection g1 with g1
            subst g1
            have G2 := Lib.hid g2
            have K4 := Lib.hid k4
            clear g2 k4 g5
            go_wp2_with fail
            refine (sameShapes_any A1 A2 c1 c2 shs' w4 (Lib.hid (H2.out.ext K4.out)) G2 H4 (by have := H5'.out; omega)).mono ?_
            rintro e5 w5 ⟨rfl, k5⟩
            go_wp2
            go_ret
            exact ⟨rfl, kk.out.trans (K4.out.trans k5)⟩
          · rw [H1.out] at g1
            cases g1
        · have H1 := Lib.hid h1
          clear h1 H3
          go_wp2_with fail
          refine HR3.out.mono ?_
          rintro e4 w4 (⟨shs2, A2, c2, g1, _⟩ | ⟨m2, g1, _, rfl, k4⟩)
          · rw [H1.out] at g1
            cases g1
          · rw [H1.out] at g1
            injection g1 with g1
            subst g1
            have K4 := Lib.hid k4
            clear k4
            go_wp2_with fail
            refine (sameNone_any w4).mono ?_
            rintro e5 w5 ⟨rfl, k5⟩
            go_wp2
            go_ret
            exact ⟨rfl, kk.out.trans (K4.out.trans k5)⟩

end Go.Proofs.Ytdnjjpkajiehgaa
