/-
  The document's Check of any graph.
-/
import Derived.Test.YtmmninjiklgebaaJRt
import Derived.Test.YtmmninjiklgebaaJTp
namespace Go.Proofs.Ytmmninjiklgebaa
open Go.RowKit
set_option linter.unusedVariables false
set_option maxRecDepth 100000

/-- What lies at A lies in a block of numbers. -/
def TyZ (w : World) (A : Option Addr) : Prop := ∀ ad, A = some ad → ∃ cur fz, w.heap[ad.block]? = some (.cells cur 3 fz)
theorem TyZ.ext {w w' : World} {A : Option Addr} (h : TyZ w A) (k : Ext w w') : TyZ w' A := fun ad e => by
  obtain ⟨cur, fz, hc⟩ := h ad e
  exact ⟨cur, fz, (k.block _ (Array.getElem?_eq_some_iff.1 hc).1).trans hc⟩
theorem zx_two (w : World) (a b : Int) : ZX (w.alloc (.cells #[.int .i64 a, .int .i64 b] 3)) (some ⟨w.heap.size, 0, none⟩) 2 2 [a, b] :=
  ⟨rfl, Nat.le_refl _, fun _ => ⟨_, rfl, fun j x hx => by
    rcases j with _ | _ | j
    · simp at hx
      subst hx
      rw [Addr.add_lit]
      simp
    · simp at hx
      subst hx
      rw [Addr.add_lit]
      simp
    · simp at hx⟩⟩
theorem rdZ_ty {w : World} {B : Nat} {v : Value} {n : Nat} {zs : List Int} (h : w.ownsRow B 3 1 v n (i64s zs)) : ∃ A c, v = .slice A n c ∧ ZX w A n c zs ∧ TyZ w A ∧ (∀ ad, A = some ad → B ≤ ad.block) := by
  have h' := h
  obtain ⟨A, c, rfl, h1, h2⟩ := rdZ_of_own h
  refine ⟨A, c, rfl, h1, fun ad e => ?_, h2⟩
  rcases h'.2 with ⟨e1, _⟩ | ⟨g, cap, cur, e1, hg, hh, _⟩
  · injection e1 with e1
    rw [e1] at e
    cases e
  · injection e1 with e1
    rw [e1] at e
    injection e with e
    subst e
    exact ⟨cur, _, hh⟩
theorem wpList_copyT {w0 : World} {ops : Array Oper} {rest : List Oper} {o : Oper} {a : Act} {Q : Exit → Act → World → Prop} (hgd : o.guard = none) (s x : Operand)
    (ho : o.op = .call { callee := .builtin .append, args := #[s, x], argTypes := #[32, 32] })
    (g : Nat) (hg : g = w0.heap.size) (ad : Addr) (n c : Nat) (xs : List Int) (hs : a.eval s = .slice (some ⟨g, 0, none⟩) 0 0) (hx : a.eval x = .slice (some ad) n c) (hX : ZX w0 (some ad) n c xs) (hn : n ≤ 100000)
    (h : ∀ A2 c2 w', ZX w' A2 n c2 xs → TyZ w' A2 → Frsh w0.heap.size A2 → Ext w0 w' → wpList Try.prog ops Q rest (a.put o.dst (.slice A2 n c2)) w') : wpList Try.prog ops Q (o :: rest) a (w0.alloc (.cells #[] 3)) := by
  obtain ⟨i0, hi, hz0, hz1, hz2⟩ := info_partsJ info_intJ
  subst hg
  have hX' : ZX (w0.alloc (.cells #[] 3)) (some ad) n c xs := hX.ext ((Ext.refl w0).alloc _)
  refine wpList_append_own _ hgd s x 32 ho w0.heap.size 3 i0 (.int .i64 0) 1 8 Try.underlying32 hi hz0 hz1 hz2 rfl (by decide) _ _ _ hs (own_emptyZ w0) ad n c (i64s xs) hx (by unfold i64s; rw [List.length_map, hX.len]; omega) (fun j u hu => ?_) (fun u hu => by obtain ⟨_, _, rfl⟩ := List.mem_map.1 hu; rfl) (by unfold maxLen; omega) (by omega) (by simp) ?_
  · unfold i64s at hu
    rw [List.getElem?_map] at hu
    obtain ⟨z, hz, rfl⟩ := Option.map_eq_some_iff.1 hu
    have hl := (List.getElem?_eq_some_iff.1 hz).1
    obtain ⟨ad', e, hc⟩ := hX'.cells (by have := hX.len; omega)
    injection e with e
    subst e
    exact hc j z hz
  · intro v2 w2 hown2 hgrow2 _
    obtain ⟨A2, c2, rfl, hr2, ht2, hf2⟩ := rdZ_ty (zs := xs) (n := n) (by simpa using hown2)
    refine h A2 c2 w2 hr2 ht2 hf2 ?_
    refine Below.grown ((Ext.refl w0).alloc _) hgrow2 (by simp) (fun k e => ?_)
    simp [Value.ownBlock] at e
    omega
theorem one_atJ {w : World} {g : Nat} {t : TypeId} {u : Value} (hg : g = w.heap.size) : ∀ (j : Nat) (x : Value), [u][j]? = some x → (w.alloc (.cells #[u] t)).cell? ((⟨g, 0, none⟩ : Addr).add j) = some x := by
  intro j x hx
  subst hg
  rcases j with _ | j
  · simp at hx; subst hx; simp [Addr.add]
  · simp at hx
theorem one_sliceJ {A : Option Addr} {n c : Nat} : ∀ u ∈ [Value.slice A n c], u.oneCell' = true := by
  intro u hu; simp at hu; subst hu; rfl
/-- Shapes in a list that is being made by appending, from block B on. -/
def GS (B : Nat) (w : World) (v : Value) (shs : List (List Int)) : Prop :=
  ∃ us, w.ownsRow B 32 1 v shs.length us ∧ ∀ (j : Nat) (s : List Int), shs[j]? = some s → ∃ A d, us[j]? = some (.slice A s.length d) ∧ ZX w A s.length d s ∧ TyZ w A
theorem GS.nil (B : Nat) (w : World) : GS B w (.slice none 0 0) [] := ⟨[], World.ownsRow_nil _ _ _ _, fun j s h => by simp at h⟩
theorem GS.sx {B : Nat} {w : World} {v : Value} {shs : List (List Int)} (h : GS B w v shs) : ∃ A c, v = .slice A shs.length c ∧ SX w A c shs := by
  obtain ⟨us, ho, hu⟩ := h
  have ho' := ho
  rcases ho.2 with ⟨rfl, e⟩ | ⟨g, cap, cur, rfl, hg, hh, hle, _⟩
  · exact ⟨none, 0, by rw [e], ⟨by omega, fun hn => by omega⟩⟩
  · refine ⟨_, cap, rfl, ⟨hle, fun hn => ⟨_, rfl, fun j s hs => ?_⟩⟩⟩
    obtain ⟨A, d, h1, h2, _⟩ := hu j s hs
    exact ⟨A, d, World.ownsRow.cells (g := g) ho' rfl j _ h1, h2⟩
/-- What stays where memory has only grown. -/
theorem GS.ext {B : Nat} {w w' : World} {v : Value} {shs : List (List Int)} (h : GS B w v shs) (k : Ext w w') : GS B w' v shs := by
  obtain ⟨us, ho, hu⟩ := h
  refine ⟨us, ⟨ho.1, ?_⟩, fun j s hs => ?_⟩
  · rcases ho.2 with h0 | ⟨g, cap, cur, e, hg, hh, h1⟩
    · exact .inl h0
    · exact .inr ⟨g, cap, cur, e, hg, (k.block g (Array.getElem?_eq_some_iff.1 hh).1).trans hh, h1⟩
  · obtain ⟨A, d, h1, h2, h3⟩ := hu j s hs
    exact ⟨A, d, h1, h2.ext k, h3.ext k⟩
/-- A list of numbers lies aside of a row of lists that grows. -/
theorem ZX.grown {B : Nat} {w w' : World} {v : Value} {n m c : Nat} {us : List Value} {A : Option Addr} {zs : List Int} (h : ZX w A n c zs) (ht : TyZ w A) (ho : w.ownsRow B 32 1 v m us) (hg : w.grownBy w' v.ownBlock) : ZX w' A n c zs ∧ TyZ w' A := by
  have hb : ∀ ad, A = some ad → w'.heap[ad.block]? = w.heap[ad.block]? := fun ad e => by
    obtain ⟨cur, fz, hc⟩ := ht ad e
    refine hg.block _ (Array.getElem?_eq_some_iff.1 hc).1 (fun e2 => ?_)
    rcases ho.2 with ⟨rfl, _⟩ | ⟨g, cap, cur2, rfl, _, hh, _⟩
    · simp [Value.ownBlock] at e2
    · simp [Value.ownBlock] at e2
      subst e2
      rw [hc] at hh
      injection hh with hh
      injection hh with _ hh _
      exact absurd hh (by decide)
  refine ⟨⟨h.len, h.room, fun hn => ?_⟩, fun ad e => ?_⟩
  · obtain ⟨ad, e, hc⟩ := h.cells hn
    refine ⟨ad, e, fun j z hz => ?_⟩
    have hbk : (ad.add j).block = ad.block := by unfold Addr.add; split <;> rfl
    rw [World.cell?_of_block (w := w) (by rw [hbk]; exact hb ad e)]
    exact hc j z hz
  · obtain ⟨cur, fz, hc⟩ := ht ad e
    exact ⟨cur, fz, (hb ad e).trans hc⟩
theorem near_no2 {x : Nd} (h : (near1 x.lo && (near1 x.hi && true)) = false) : nearOK x = false := by
  unfold nearOK
  cases h1 : near1 x.lo <;> cases h2 : near1 x.hi <;> simp_all
theorem near_yes {x : Nd} (h0 : x.lo ≤ x.hi) (h : (near1 x.lo && (near1 x.hi && true)) = true) (h3 : nearB x.da = true) (h4 : nearB x.bi = true) : nearOK x = true := by
  unfold nearOK
  simp_all
set_option maxHeartbeats 8000000 in
theorem rcheck_any (nodes : List Nd) (A : Option Addr) (c : Nat) (out : Int) (w : World) (hG : Hid (GX w A c nodes)) (hn : nodes.length ≤ 1000) :
    Calls Try.prog 12 #[.agg #[.slice A nodes.length c, .int .i64 out]] w fun e w' => ChkPost w nodes.length (checkR nodes out) e w' := by
  obtain ⟨z0, hi, hz0, hz1, hz2⟩ := info_partsJ info_shJ
  have q0 : (w.alloc (.cells #[.slice A nodes.length c, .int .i64 out] 24)).cell? ⟨w.heap.size, 0, none⟩ = some (.slice A nodes.length c) := by simp
  have q1 : (w.alloc (.cells #[.slice A nodes.length c, .int .i64 out] 24)).cell? ⟨w.heap.size, 1, none⟩ = some (.int .i64 out) := by simp
  by_cases b3 : (nodes.length : Int) < 1
  · have HR := Lib.hid (show checkR nodes out = .error 3 by unfold checkR; rw [if_pos (by omega)])
    go_enter Try.func12, Try.ntmps12
    go_wp2
    go_ret2
    exact .inr ⟨3, HR.out, by omega, rfl, (Ext.refl w).alloc _⟩
  by_cases b0 : (24 : Int) < (nodes.length : Int)
  · have HR := Lib.hid (show checkR nodes out = .error 3 by unfold checkR; rw [if_pos (by omega)])
    go_enter Try.func12, Try.ntmps12
    go_wp2
    go_ret2
    exact .inr ⟨3, HR.out, by omega, rfl, (Ext.refl w).alloc _⟩
  by_cases b1 : out < 0
  · have HR := Lib.hid (show checkR nodes out = .error 3 by unfold checkR; rw [if_pos (by omega)])
    go_enter Try.func12, Try.ntmps12
    go_wp2
    go_ret2
    exact .inr ⟨3, HR.out, by omega, rfl, (Ext.refl w).alloc _⟩
  by_cases b2 : (nodes.length : Int) ≤ out
  · have HR := Lib.hid (show checkR nodes out = .error 3 by unfold checkR; rw [if_pos (by omega)])
    go_enter Try.func12, Try.ntmps12
    go_wp2
    go_ret2
    exact .inr ⟨3, HR.out, by omega, rfl, (Ext.refl w).alloc _⟩
  have HR := Lib.hid (show checkR nodes out = chkR nodes [] by unfold checkR; rw [if_neg (by omega)])
  have HK := Lib.hid (show Ext w (w.alloc (.cells #[.slice A nodes.length c, .int .i64 out] 24)) from (Ext.refl w).alloc _)
  go_enter Try.func12, Try.ntmps12
  go_wp2_with fail
  go_loopw [4, 34] (fun v i wr => ∃ (k' : Nat) (shs : List (List Int)), k' ≤ nodes.length ∧ i = .int .i64 (k' : Int) ∧ shs.length = k' ∧ Hid (GS w.heap.size wr v shs) ∧ Hid (Rights shs) ∧ Hid (Ext w wr) ∧ Hid (chkR nodes [] = chkR (nodes.drop k') shs)) (fun _ i _ => nodes.length - (intOf i).toNat)
  case atStart =>
    exact ⟨0, [], by omega, rfl, rfl, Lib.hid (GS.nil _ _), Lib.hid (fun s h => by cases h), HK, Lib.hid rfl⟩
  case round =>
    obtain ⟨k', shs, hk, rfl, rfl, hS, hR, hE, hP⟩ := hrel
    by_cases hlt : shs.length < nodes.length
    · obtain ⟨x, hx⟩ : ∃ x, nodes[shs.length]? = some x := ⟨_, List.getElem?_eq_getElem hlt⟩
      obtain ⟨ad, rfl, hc⟩ := (hG.out.ext hE.out).cells (by omega)
      obtain ⟨As, Ad, Ab, cs, cd, cb, hnd, hcell⟩ := hc shs.length x hx
      have HND := Lib.hid hnd
      have HX := Lib.hid hx
      obtain ⟨Ah, ch, rfl, hsx⟩ := hS.out.sx
      have HSX := Lib.hid hsx
      clear hc hnd hx hsx
      have j0 : (0 : Int) ≤ (shs.length : Int) := by omega
      have j1 : (shs.length : Int) < (nodes.length : Int) := by omega
      have c0 : wr.cell? (ad.add (shs.length * 9)) = some (.int .i64 x.k) := by have := hcell 0 (.int .i64 x.k) rfl; rw [add0J] at this; exact this
      have c1 : wr.cell? ⟨(ad.add (shs.length * 9)).block, (ad.add (shs.length * 9)).off + 1, none⟩ = some (.int .i64 x.a) := hcell 1 (.int .i64 x.a) rfl
      have c2 : wr.cell? ⟨(ad.add (shs.length * 9)).block, (ad.add (shs.length * 9)).off + 2, none⟩ = some (.int .i64 x.b) := hcell 2 (.int .i64 x.b) rfl
      have c3 : wr.cell? ⟨(ad.add (shs.length * 9)).block, (ad.add (shs.length * 9)).off + 3, none⟩ = some (.slice As x.sh.length cs) := hcell 3 (.slice As x.sh.length cs) rfl
      have c4 : wr.cell? ⟨(ad.add (shs.length * 9)).block, (ad.add (shs.length * 9)).off + 4, none⟩ = some (.int .i64 x.lo) := hcell 4 (.int .i64 x.lo) rfl
      have c5 : wr.cell? ⟨(ad.add (shs.length * 9)).block, (ad.add (shs.length * 9)).off + 5, none⟩ = some (.int .i64 x.hi) := hcell 5 (.int .i64 x.hi) rfl
      have c6 : wr.cell? ⟨(ad.add (shs.length * 9)).block, (ad.add (shs.length * 9)).off + 6, none⟩ = some (.int .i64 x.sz) := hcell 6 (.int .i64 x.sz) rfl
      have c7 : wr.cell? ⟨(ad.add (shs.length * 9)).block, (ad.add (shs.length * 9)).off + 7, none⟩ = some (.slice Ad x.da.length cd) := hcell 7 (.slice Ad x.da.length cd) rfl
      have c8 : wr.cell? ⟨(ad.add (shs.length * 9)).block, (ad.add (shs.length * 9)).off + 8, none⟩ = some (.slice Ab x.bi.length cb) := hcell 8 (.slice Ab x.bi.length cb) rfl
      clear hcell
      obtain ⟨m0, m1, m2, m3, m4, m5, m6, m7, m8⟩ := nine_at wr (.int .i64 x.k) (.int .i64 x.a) (.int .i64 x.b) (.slice As x.sh.length cs) (.int .i64 x.lo) (.int .i64 x.hi) (.int .i64 x.sz) (.slice Ad x.da.length cd) (.slice Ab x.bi.length cb) 43
      have ka : Ext wr (wr.alloc (.cells #[.int .i64 x.k, .int .i64 x.a, .int .i64 x.b, .slice As x.sh.length cs, .int .i64 x.lo, .int .i64 x.hi, .int .i64 x.sz, .slice Ad x.da.length cd, .slice Ab x.bi.length cb] 43)) := (Ext.refl wr).alloc _
      go_wp2_with fail
      generalize hWW : wr.alloc (.cells #[.int .i64 x.k, .int .i64 x.a, .int .i64 x.b, .slice As x.sh.length cs, .int .i64 x.lo, .int .i64 x.hi, .int .i64 x.sz, .slice Ad x.da.length cd, .slice Ab x.bi.length cb] 43) = W at *
      clear hWW c0 c1 c2 c3 c4 c5 c6 c7 c8
      have KA := Lib.hid ka
      clear ka
      refine (rform_any x As Ad Ab cs cd cb W (Lib.hid (HND.out.ext KA.out)) shs.length (by omega)).mono ?_
      rintro e1 w1 ⟨rfl, k1⟩
      replace m0 := cell_ext k1 m0
      replace m1 := cell_ext k1 m1
      replace m2 := cell_ext k1 m2
      replace m3 := cell_ext k1 m3
      replace m4 := cell_ext k1 m4
      replace m5 := cell_ext k1 m5
      replace m6 := cell_ext k1 m6
      replace m7 := cell_ext k1 m7
      replace m8 := cell_ext k1 m8
      replace KA := Lib.hid (KA.out.trans k1)
      clear k1
      obtain ⟨b, hb⟩ : ∃ b, formB x shs.length = b := ⟨_, rfl⟩
      rw [hb]
      cases b
      · have HN := Lib.hid (node_form hb)
        clear hb
        go_wp2
        go_ret2
        exact .inr ⟨3, by rw [HR.out, hP.out]; exact chk_err HX.out HN.out, by omega, rfl, hE.out.trans KA.out⟩
      have HF := Lib.hid hb
      clear hb
      go_wp2_with fail
      refine (rshape_any x As Ad Ab cs cd cb w1 (Lib.hid (HND.out.ext KA.out)) Ah ch shs (Lib.hid (HSX.out.ext KA.out)) hR (by omega) HF).mono ?_
      rintro e2 w2 (⟨s, B, d, h1, rfl, hz, k1⟩ | ⟨h1, rfl, k1⟩)
      rotate_left
      · have HN := Lib.hid (node_none HF.out h1)
        have heq := Lib.run_eql_slice_nil (P := Try.prog) w2 32 3 none 0 0 0 0 Try.underlying32
        have K1 := Lib.hid k1
        clear h1 k1
        go_wp2
        go_ret2
        exact .inr ⟨4, by rw [HR.out, hP.out]; exact chk_err HX.out HN.out, by omega, rfl, hE.out.trans (KA.out.trans K1.out)⟩
      replace m0 := cell_ext k1 m0
      replace m1 := cell_ext k1 m1
      replace m2 := cell_ext k1 m2
      replace m3 := cell_ext k1 m3
      replace m4 := cell_ext k1 m4
      replace m5 := cell_ext k1 m5
      replace m6 := cell_ext k1 m6
      replace m7 := cell_ext k1 m7
      replace m8 := cell_ext k1 m8
      replace KA := Lib.hid (KA.out.trans k1)
      have HZ := Lib.hid hz
      have HSO := Lib.hid h1
      clear h1 hz k1
      have heq := Lib.run_eql_slice_nil (P := Try.prog) w2 32 3 (some B) s.length d 0 0 Try.underlying32
      go_wp2_with fail
      refine (near_any Ad x.da.length cd x.da w2 (Lib.hid (HND.out.da.ext KA.out)) HND.out.lda).mono ?_
      rintro e3 w3 ⟨rfl, rfl⟩
      obtain ⟨b, hb⟩ : ∃ b, nearB x.da = b := ⟨_, rfl⟩
      rw [hb]
      have B3 := Lib.hid hb
      clear hb
      cases b
      · have HN := Lib.hid (node_far HF.out HSO.out (show nearOK x = false by rw [nearOK, B3.out, Bool.false_and, Bool.and_false, Bool.and_false, Bool.and_false]))
        go_wp2
        go_ret2
        exact .inr ⟨5, by rw [HR.out, hP.out]; exact chk_err HX.out HN.out, by omega, rfl, hE.out.trans KA.out⟩
      go_wp2_with fail
      refine (near_any Ab x.bi.length cb x.bi _ (Lib.hid (HND.out.bi.ext KA.out)) HND.out.lbi).mono ?_
      rintro e3 w3 ⟨rfl, rfl⟩
      obtain ⟨b, hb⟩ : ∃ b, nearB x.bi = b := ⟨_, rfl⟩
      rw [hb]
      have B4 := Lib.hid hb
      clear hb
      cases b
      · have HN := Lib.hid (node_far HF.out HSO.out (show nearOK x = false by rw [nearOK, B4.out, Bool.and_false, Bool.and_false, Bool.and_false, Bool.and_false]))
        go_wp2
        go_ret2
        exact .inr ⟨5, by rw [HR.out, hP.out]; exact chk_err HX.out HN.out, by omega, rfl, hE.out.trans KA.out⟩
      go_wp2_with fail
      refine (near_any (some ⟨w3.heap.size, 0, none⟩) 2 2 [x.lo, x.hi] _ (Lib.hid (zx_two w3 x.lo x.hi)) (by decide)).mono ?_
      rintro e4 w4 ⟨rfl, rfl⟩
      obtain ⟨b, hb⟩ : ∃ b, nearB [x.lo, x.hi] = b := ⟨_, rfl⟩
      rw [hb]
      have B5 := Lib.hid (show (near1 x.lo && (near1 x.hi && true)) = b from hb)
      clear hb
      cases b
      · have HN := Lib.hid (node_far HF.out HSO.out (near_no2 B5.out))
        go_wp2
        go_ret2
        exact .inr ⟨5, by rw [HR.out, hP.out]; exact chk_err HX.out HN.out, by omega, rfl, hE.out.trans (KA.out.trans ((Ext.refl _).alloc _))⟩
      have k3 : Ext w3 (w3.alloc (.cells #[.int .i64 x.lo, .int .i64 x.hi] 3)) := (Ext.refl w3).alloc _
      replace m0 := cell_ext k3 m0
      replace m1 := cell_ext k3 m1
      replace m2 := cell_ext k3 m2
      replace m3 := cell_ext k3 m3
      replace m4 := cell_ext k3 m4
      replace m5 := cell_ext k3 m5
      replace m6 := cell_ext k3 m6
      replace m7 := cell_ext k3 m7
      replace m8 := cell_ext k3 m8
      by_cases hlo : x.hi < x.lo
      · have HN := Lib.hid (node_far HF.out HSO.out (show nearOK x = false by rw [nearOK, decide_eq_false (show ¬ x.lo ≤ x.hi by omega), Bool.false_and]))
        go_wp2
        go_ret2
        exact .inr ⟨5, by rw [HR.out, hP.out]; exact chk_err HX.out HN.out, by omega, rfl, hE.out.trans (KA.out.trans k3)⟩
      have HN := Lib.hid (node_ok HF.out HSO.out (near_yes (show x.lo ≤ x.hi by omega) B5.out B3.out B4.out))
      have HRT := Lib.hid (node_right hR.out HN.out)
      replace KA := Lib.hid (KA.out.trans k3)
      have HZ3 := Lib.hid (HZ.out.ext k3)
      have hs3 := (entN_len HRT.out).2
      clear k3
      generalize w3.alloc (.cells #[.int .i64 x.lo, .int .i64 x.hi] 3) = w4 at *
      have hKS : Hid (∃ us, w4.ownsRow w.heap.size 32 1 (.slice Ah shs.length ch) shs.length us ∧ ∀ (j : Nat) (s : List Int), shs[j]? = some s → ∃ A d, us[j]? = some (.slice A s.length d) ∧ ZX w4 A s.length d s ∧ TyZ w4 A) := Lib.hid (hS.out.ext KA.out)
      go_wp2_with (at_builtin; first
        | go_loud (refine wpList_copyT rfl _ _ rfl w4.heap.size rfl B s.length d s rfl rfl HZ3.out (by omega) ?_; intro A2 c2 w5 h5 t5 f5 k5; have H5 := Lib.hid (And.intro h5 t5); have K5 := Lib.hid (KA.out.trans k5); have hw5 := (hE.out.trans (KA.out.trans k5)).size; have hgs5 : GS w.heap.size w5 (.slice Ah shs.length ch) shs := GS.ext hKS.out k5; obtain ⟨us, ho, hu⟩ := hgs5; have HO := Lib.hid ho; have HU := Lib.hid hu; clear h5 t5 f5 k5 ho hu)
        | go_loud (refine wpList_append_own _ rfl _ _ 27 rfl w.heap.size 32 z0 (.slice none 0 0) 1 24 Try.underlying27 hi hz0 hz1 hz2 rfl (by decide) _ _ _ rfl (HO.out.alloc _) ⟨_, 0, none⟩ 1 1 [.slice A2 s.length c2] rfl rfl (one_atJ (by simp)) one_sliceJ (by unfold maxLen; omega) (by omega) (by simp; omega) ?_; intro v3 w6 hown3 hgrow3 _))
      refine ⟨⟨shs.length + 1, shs ++ [s], by omega, by go_num, by simp, Lib.hid ?_, Lib.hid ?_, Lib.hid ?_, Lib.hid (hP.out.trans (chk_ok HX.out HN.out))⟩, by simp [intOf]; omega⟩
      · have k6 : Ext w5 (w5.alloc (.cells #[.slice A2 s.length c2] 32)) := (Ext.refl w5).alloc _
        have ho6 := HO.out.alloc (.cells #[.slice A2 s.length c2] 32)
        have hl : us.length = shs.length := by have := HO.out.1; omega
        refine ⟨us ++ [.slice A2 s.length c2], by simpa using hown3, fun j u hj => ?_⟩
        rcases Nat.lt_or_ge j shs.length with g | g
        · rw [List.getElem?_append_left g] at hj
          obtain ⟨A9, d9, e1, e2, e3⟩ := HU.out j u hj
          obtain ⟨f1, f2⟩ := (e2.ext k6).grown (e3.ext k6) ho6 hgrow3
          exact ⟨A9, d9, by rw [List.getElem?_append_left (by omega)]; exact e1, f1, f2⟩
        · obtain rfl : j = shs.length := by
            have := (List.getElem?_eq_some_iff.1 hj).1
            simp at this
            omega
          rw [List.getElem?_append_right (Nat.le_refl _)] at hj
          simp at hj
          subst hj
          obtain ⟨f1, f2⟩ := (H5.out.1.ext k6).grown (H5.out.2.ext k6) ho6 hgrow3
          exact ⟨A2, c2, by rw [List.getElem?_append_right (by omega), hl]; simp, f1, f2⟩
      · intro u hu2
        rcases List.mem_append.1 hu2 with g | g
        · exact hR.out u g
        · simp at g
          subst g
          exact HRT.out
      · refine Below.grown ((hE.out.trans K5.out).alloc _) hgrow3 (by simp; omega) (fun k e => ?_)
        exact (HO.out.lt k e).1
    · have hkn : shs.length = nodes.length := by omega
      have hP2 := Lib.hid (show checkR nodes out = .ok shs by rw [HR.out, hP.out, List.drop_eq_nil_of_le (by omega)]; rfl)
      obtain ⟨Ah, ch, rfl, hsx⟩ := hS.out.sx
      have HSX := Lib.hid hsx
      clear hsx
      go_wp2
      go_ret2
      exact .inl ⟨shs, Ah, ch, hP2.out, rfl, HSX.out, hR.out, hkn, hE.out⟩
end Go.Proofs.Ytmmninjiklgebaa
