/-
  The places of a graph that may be.
-/
import Derived.Test.YtjeipbahddhfgaaISu
import Derived.Deep.MidRow
import Derived.Test.YtjeipbahddhfgaaJNo
namespace Go.Proofs.Ytjeipbahddhfgaa
open Go.RowKit
set_option linter.unusedVariables false
set_option maxRecDepth 100000

/-- A place: a node, its shape, and that of what it takes. -/
structure Pl where
  x : Nd
  s : List Int
  t : List Int
/-- A graph's places. -/
def placesF (nodes : List Nd) (shs : List (List Int)) : List Pl := (List.range nodes.length).map fun j => ⟨nodes.getD j ⟨0, 0, 0, [], 0, 0, 0, [], []⟩, shs.getD j [], shs.getD (nodes.getD j ⟨0, 0, 0, [], 0, 0, 0, [], []⟩).a.toNat []⟩
theorem placesF_at {nodes : List Nd} {shs : List (List Int)} {j : Nat} {x : Nd} (h : nodes[j]? = some x) : (placesF nodes shs)[j]? = some ⟨x, shs.getD j [], shs.getD x.a.toNat []⟩ := by
  have hj := (List.getElem?_eq_some_iff.1 h).1
  unfold placesF
  rw [List.getElem?_map, List.getElem?_range hj]
  simp only [Option.map_some]
  rw [List.getD_eq_getElem?_getD (l := nodes), h]
  rfl
/-- Cells of a place. -/
def PlIs (w : World) (p : Pl) (F : Nat → Value) : Prop :=
  ∃ As Ad Ab Ah At cs cd cb ch ct, PcX w p.x As Ad Ab Ah At cs cd cb ch ct p.s p.t ∧
    ∀ (f : Nat) (v : Value), [Value.int .i64 p.x.k, .int .i64 p.x.a, .int .i64 p.x.b, .slice As p.x.sh.length cs, .int .i64 p.x.lo, .int .i64 p.x.hi, .int .i64 p.x.sz, .slice Ad p.x.da.length cd, .slice Ab p.x.bi.length cb, .slice Ah p.s.length ch, .slice At p.t.length ct, srcV p.x.k (.agg #[Value.int .i64 p.x.k, .int .i64 p.x.a, .int .i64 p.x.b, .slice As p.x.sh.length cs, .int .i64 p.x.lo, .int .i64 p.x.hi, .int .i64 p.x.sz, .slice Ad p.x.da.length cd, .slice Ab p.x.bi.length cb, .slice Ah p.s.length ch, .slice At p.t.length ct, .nilFunc])][f]? = some v → F f = v
/-- Places in memory. -/
structure PsX (w : World) (A : Option Addr) (c : Nat) (ps : List Pl) : Prop where
  room : ps.length ≤ c
  cells : 0 < ps.length → ∃ ad, A = some ad ∧ ∀ (j : Nat) (p : Pl), ps[j]? = some p → ∃ As Ad Ab Ah At cs cd cb ch ct, PcX w p.x As Ad Ab Ah At cs cd cb ch ct p.s p.t ∧
    ∀ (f : Nat) (v : Value), [Value.int .i64 p.x.k, .int .i64 p.x.a, .int .i64 p.x.b, .slice As p.x.sh.length cs, .int .i64 p.x.lo, .int .i64 p.x.hi, .int .i64 p.x.sz, .slice Ad p.x.da.length cd, .slice Ab p.x.bi.length cb, .slice Ah p.s.length ch, .slice At p.t.length ct, srcV p.x.k (.agg #[Value.int .i64 p.x.k, .int .i64 p.x.a, .int .i64 p.x.b, .slice As p.x.sh.length cs, .int .i64 p.x.lo, .int .i64 p.x.hi, .int .i64 p.x.sz, .slice Ad p.x.da.length cd, .slice Ab p.x.bi.length cb, .slice Ah p.s.length ch, .slice At p.t.length ct, .nilFunc])][f]? = some v → w.cell? ((ad.add (j * 12)).add f) = some v
theorem PsX.ext {w w' : World} {A : Option Addr} {c : Nat} {ps : List Pl} (h : PsX w A c ps) (k : Ext w w') : PsX w' A c ps :=
  ⟨h.room, fun hn => by
    obtain ⟨ad, e, hc⟩ := h.cells hn
    exact ⟨ad, e, fun j p hp => by
      obtain ⟨As, Ad, Ab, Ah, At, cs, cd, cb, ch, ct, h1, h2⟩ := hc j p hp
      exact ⟨As, Ad, Ab, Ah, At, cs, cd, cb, ch, ct, h1.ext k, fun f v hv => cell_ext k (h2 f v hv)⟩⟩⟩
/-- All that Check asked of the nodes. -/
theorem chk_all : ∀ (nodes : List Nd) (pre shs : List (List Int)), chkR nodes pre = .ok shs → (∃ more, shs = pre ++ more ∧ more.length = nodes.length) ∧ ∀ (j : Nat) (x : Nd), nodes[j]? = some x → ∃ s, shs[pre.length + j]? = some s ∧ nodeR x (shs.take (pre.length + j)) = .ok s
  | [], pre, shs, h => by
    injection h with h
    subst h
    exact ⟨⟨[], by simp, rfl⟩, fun j x hx => by simp at hx⟩
  | y :: r, pre, shs, h => by
    unfold chkR at h
    cases hr : nodeR y pre with
    | error n => rw [hr] at h; cases h
    | ok s =>
      rw [hr] at h
      obtain ⟨⟨more, e, hl⟩, hall⟩ := chk_all r (pre ++ [s]) shs h
      refine ⟨⟨s :: more, by rw [e]; simp, by simp [hl]⟩, fun j x hx => ?_⟩
      rcases j with _ | j
      · simp at hx
        subst hx
        refine ⟨s, by rw [e]; simp, ?_⟩
        rw [e, Nat.add_zero, List.append_assoc, List.take_left']
        · exact hr
        · rfl
      · simp at hx
        obtain ⟨s', h1, h2⟩ := hall j x hx
        refine ⟨s', ?_, ?_⟩
        · rw [← h1]; congr 1; simp; omega
        · rw [← h2]; congr 2; simp; omega
theorem form_a {x : Nd} {n : Nat} (h : formB x n = true) : x.a = 0 ∨ (0 ≤ x.a ∧ x.a < (n : Int)) := by
  unfold formB at h
  cases hm : mayL x.k with
  | none => rw [hm] at h; cases h
  | some m =>
    rw [hm] at h
    simp only [Bool.and_eq_true] at h
    obtain ⟨h1, h2, _⟩ := h
    have hlen : m.length = 7 := by
      unfold mayL at hm
      (repeat' split at hm) <;> first | (injection hm with hm; subst hm; rfl) | cases hm
    obtain ⟨m0, mr, rfl⟩ : ∃ m0 mr, m = m0 :: mr := by
      cases m with
      | nil => simp at hlen
      | cons a b => exact ⟨a, b, rfl⟩
    by_cases ha : x.a = 0
    · exact .inl ha
    · right
      unfold hasL okL at h1
      simp only [Bool.and_eq_true, Bool.or_eq_true] at h1
      have e0 : m0 = true := by
        rcases h1.1 with g | g
        · simp [ha] at g
        · exact g
      subst e0
      unfold behB at h2
      simp only [Bool.and_eq_true] at h2
      have h3 := h2.1
      simp [ahB] at h3
      exact h3
theorem node_form_of {x : Nd} {shs : List (List Int)} {s : List Int} (h : nodeR x shs = .ok s) : formB x shs.length = true ∧ shapeO x shs = some s ∧ nearOK x = true := by
  unfold nodeR at h
  by_cases hf : formB x shs.length = true
  · rw [if_pos hf] at h
    cases hs : shapeO x shs with
    | none => rw [hs] at h; cases h
    | some u =>
      rw [hs] at h
      by_cases hn : nearOK x = true
      · simp only [hn, if_true] at h
        injection h with h
        subst h
        exact ⟨hf, rfl, hn⟩
      · simp only [hn] at h
        cases h
  · rw [if_neg hf] at h
    cases h
theorem info_plI : (Try.prog.info? 77).map (fun i => (i.zero, i.size, i.bytes)) = some (some (.agg #[.int .i64 0, .int .i64 0, .int .i64 0, .slice none 0 0, .int .i64 0, .int .i64 0, .int .i64 0, .slice none 0 0, .slice none 0 0, .slice none 0 0, .slice none 0 0, .nilFunc]), 12, 176) := by kernel_rfl
def zplF (i : Nat) : Value := (#[.int .i64 0, .int .i64 0, .int .i64 0, .slice none 0 0, .int .i64 0, .int .i64 0, .int .i64 0, .slice none 0 0, .slice none 0 0, .slice none 0 0, .slice none 0 0, .nilFunc] : Array Value).getD (i % 12) default
theorem make_plI (c : Nat) (hc : c ≤ 1000) (w : World) :
    (Instr.makeSlice 70 (.int .i64 (c : Int)) (.int .i64 (c : Int))).run Try.prog w = .ok (.slice (some ⟨w.heap.size, 0, none⟩) c c) (w.alloc (.cells ((List.range (c * 12)).map zplF).toArray 77)) := by
  obtain ⟨i0, hi, hz0, hz1, hz2⟩ := info_partsJ info_plI
  have hr := run_make (P := Try.prog) w 70 77 i0 (.agg #[.int .i64 0, .int .i64 0, .int .i64 0, .slice none 0 0, .int .i64 0, .int .i64 0, .int .i64 0, .slice none 0 0, .slice none 0 0, .slice none 0 0, .slice none 0 0, .nilFunc]) Try.underlying70 hi hz0 .i64 .i64 (c : Int) (c : Int) (by omega) (by omega) (by rw [hz2]; omega) (by omega)
  rw [hz1] at hr
  simp only [Int.toNat_natCast] at hr
  rw [hr]
  have e : madeCells (Value.agg #[.int .i64 0, .int .i64 0, .int .i64 0, .slice none 0 0, .int .i64 0, .int .i64 0, .int .i64 0, .slice none 0 0, .slice none 0 0, .slice none 0 0, .slice none 0 0, .nilFunc]).cells (c * 12) = ((List.range (c * 12)).map zplF).toArray := by
    unfold madeCells
    apply Array.toList_inj.1
    apply List.ext_getElem?
    intro j
    by_cases hj : j < c * 12
    · simp [hj, Value.cells, zplF]
    · simp [hj]
  rw [e]
theorem RJ.congr {w : World} {g n : Nat} {t : TypeId} {F G : Nat → Value} (h : RJ w g t n F) (e : ∀ i, i < n → F i = G i) : RJ w g t n G := by
  unfold RJ at *
  rw [h]
  congr 3
  exact List.map_congr_left fun i hi => e i (List.mem_range.1 hi)
theorem RJ.setAll {g m : Nat} {t : TypeId} : ∀ (l : List Value) (w : World) (i : Nat) (F : Nat → Value), RJ w g t m F → i + l.length ≤ m → RJ (w.setCells g i l) g t m (fun j => if i ≤ j ∧ j < i + l.length then l.getD (j - i) (.bool false) else F j)
  | [], w, i, F, h, _ => RJ.congr h fun j _ => by rw [if_neg (by simp <;> omega)]
  | v :: l, w, i, F, h, hl => by
    have hl' : i + 1 + l.length ≤ m := by simp at hl; omega
    have ih := RJ.setAll l (w.setCell ⟨g, i, none⟩ v) (i + 1) _ (h.set (show i < m by simp at hl; omega) v) hl'
    refine RJ.congr ih fun j hj => ?_
    by_cases e : j = i
    · subst e
      rw [if_neg (by omega), if_pos rfl, if_pos (by simp), Nat.sub_self]
      rfl
    · by_cases e2 : i + 1 ≤ j ∧ j < i + 1 + l.length
      · rw [if_pos e2, if_pos (by simp; omega), show j - i = (j - (i + 1)) + 1 by omega]
        rfl
      · rw [if_neg e2, if_neg e, if_neg (by simp; omega)]
theorem Ext.cellsJ {a : World} {g : Nat} (hg : a.heap.size ≤ g) : ∀ (l : List Value) (w : World) (i : Nat), Ext a w → Ext a (w.setCells g i l)
  | [], w, i, h => h
  | v :: l, w, i, h => Ext.cellsJ hg l _ (i + 1) (h.set (p := ⟨g, i, none⟩) hg v)
theorem place_range (w : World) (g : Nat) (a0 a1 a2 a3 a4 a5 a6 a7 a8 a9 a10 a11 SV : Value) (y0 : w.cell? ⟨g, 0, none⟩ = some a0) (y1 : w.cell? ⟨g, 1, none⟩ = some a1) (y2 : w.cell? ⟨g, 2, none⟩ = some a2) (y3 : w.cell? ⟨g, 3, none⟩ = some a3) (y4 : w.cell? ⟨g, 4, none⟩ = some a4) (y5 : w.cell? ⟨g, 5, none⟩ = some a5) (y6 : w.cell? ⟨g, 6, none⟩ = some a6) (y7 : w.cell? ⟨g, 7, none⟩ = some a7) (y8 : w.cell? ⟨g, 8, none⟩ = some a8) (y9 : w.cell? ⟨g, 9, none⟩ = some a9) (y10 : w.cell? ⟨g, 10, none⟩ = some a10) (y11 : w.cell? ⟨g, 11, none⟩ = some a11) :
    (w.setCell ⟨g, 11, none⟩ SV).rangeAt g 0 [a0, a1, a2, a3, a4, a5, a6, a7, a8, a9, a10, SV] := by
  intro j v hj
  rw [Nat.zero_add]
  have hj2 : j < 12 := by have := (List.getElem?_eq_some_iff.1 hj).1; simpa using this
  rcases (show j = 0 ∨ j = 1 ∨ j = 2 ∨ j = 3 ∨ j = 4 ∨ j = 5 ∨ j = 6 ∨ j = 7 ∨ j = 8 ∨ j = 9 ∨ j = 10 ∨ j = 11 by omega) with rfl | rfl | rfl | rfl | rfl | rfl | rfl | rfl | rfl | rfl | rfl | rfl
  · injection hj with hj
    subst hj
    exact (World.cell?_setCell_other _ _ _ _ (by simp)).trans y0
  · injection hj with hj
    subst hj
    exact (World.cell?_setCell_other _ _ _ _ (by simp)).trans y1
  · injection hj with hj
    subst hj
    exact (World.cell?_setCell_other _ _ _ _ (by simp)).trans y2
  · injection hj with hj
    subst hj
    exact (World.cell?_setCell_other _ _ _ _ (by simp)).trans y3
  · injection hj with hj
    subst hj
    exact (World.cell?_setCell_other _ _ _ _ (by simp)).trans y4
  · injection hj with hj
    subst hj
    exact (World.cell?_setCell_other _ _ _ _ (by simp)).trans y5
  · injection hj with hj
    subst hj
    exact (World.cell?_setCell_other _ _ _ _ (by simp)).trans y6
  · injection hj with hj
    subst hj
    exact (World.cell?_setCell_other _ _ _ _ (by simp)).trans y7
  · injection hj with hj
    subst hj
    exact (World.cell?_setCell_other _ _ _ _ (by simp)).trans y8
  · injection hj with hj
    subst hj
    exact (World.cell?_setCell_other _ _ _ _ (by simp)).trans y9
  · injection hj with hj
    subst hj
    exact (World.cell?_setCell_other _ _ _ _ (by simp)).trans y10
  · injection hj with hj
    subst hj
    exact World.cell?_setCell_same _ _ _ y11
theorem pl_store {ops : Array Oper} {rest : List Oper} {o : Oper} {a : Act} {w : World} {Q : Exit → Act → World → Prop} (hgd : o.guard = none) (x y : Operand) (ho : o.op = .store 77 x y)
    (b f : Nat) (cells : Array Value) (hx : a.eval x = .pointer (some ⟨b, f, none⟩)) (hy : a.eval y = .agg cells)
    (ht : w.there b f cells.size) (h1 : cells.all (·.oneCell') = true)
    (hs : cells.size = 12) (h : wpList Try.prog ops Q rest (a.put o.dst undef) (w.setCells b f cells.toList)) : wpList Try.prog ops Q (o :: rest) a w := by
  have hi : (Try.prog.info? 77).map (·.size) = some cells.size := by rw [hs]; kernel_rfl
  exact wpList_store_mid hgd _ x y ho b f cells hx hy ht hi h1 h
theorem pl_load {ops : Array Oper} {rest : List Oper} {o : Oper} {a : Act} {w : World} {Q : Exit → Act → World → Prop} (hgd : o.guard = none) (x : Operand) (ho : o.op = .load 77 x)
    (b f : Nat) (hx : a.eval x = .pointer (some ⟨b, f, none⟩)) (cs : List Value) (hc : w.rangeAt b f cs) (hs : cs.length = 12)
    (h : wpList Try.prog ops Q rest (a.put o.dst (.agg cs.toArray)) w) : wpList Try.prog ops Q (o :: rest) a w := by
  have hi : (Try.prog.info? 77).map (·.size) = some cs.length := by rw [hs]; kernel_rfl
  exact wpList_load_mid hgd _ x ho b f hx cs _ hc Try.underlying77 rfl hi h
theorem src_form (k : Int) (P : Value) : srcV k P = .nilFunc ∨ ∃ fn fi ca, srcV k P = .func fn fi ca := by
  unfold srcV
  (repeat' split) <;> first | exact .inl rfl | exact .inr ⟨_, _, _, rfl⟩
/-- What placesOf answers. -/
def PlPost (w : World) (nodes : List Nd) (out : Int) (e : Ending) (w' : World) : Prop :=
  (∃ shs A c, checkR nodes out = .ok shs ∧ e = .returned (.tuple #[.slice A nodes.length c, .int .i64 0]) ∧ PsX w' A c (placesF nodes shs) ∧ Ext w w') ∨ (∃ k : Nat, checkR nodes out = .error k ∧ (k = 3 ∨ k = 4 ∨ k = 5) ∧ e = .returned (.tuple #[.slice none 0 0, .int .i64 (k : Int)]) ∧ Ext w w')
set_option maxHeartbeats 400000 in
theorem placesOf_any (nodes : List Nd) (A : Option Addr) (c : Nat) (out : Int) (w : World) (hG : Hid (GX w A c nodes)) (hn : nodes.length ≤ 1000) :
    Calls Try.prog 34 #[.agg #[.slice A nodes.length c, .int .i64 out]] w fun e w' => PlPost w nodes out e w' := by
  have q0 : (w.alloc (.cells #[.slice A nodes.length c, .int .i64 out] 26)).cell? ⟨w.heap.size, 0, none⟩ = some (.slice A nodes.length c) := by simp
  have q1 : (w.alloc (.cells #[.slice A nodes.length c, .int .i64 out] 26)).cell? ⟨w.heap.size, 1, none⟩ = some (.int .i64 out) := by simp
  have k0 : Ext w (w.alloc (.cells #[.slice A nodes.length c, .int .i64 out] 26)) := (Ext.refl w).alloc _
  go_enter Try.func34, Try.ntmps34
  go_wp2_with fail
  refine (graphCheck nodes A c out _ (Lib.hid (hG.out.ext k0)) hn).mono ?_
  intro e1 w1 hq
  rcases hq with ⟨shs, A1, c1, hr, rfl, hsx, hrt, hsl, k1⟩ | ⟨er, hr, her, rfl, k1⟩
  · have HR := Lib.hid hr
    have HSX := Lib.hid hsx
    have HRT := Lib.hid hrt
    have HSL := Lib.hid hsl
    have KK := Lib.hid (k0.trans k1)
    have q0 := cell_ext k1 q0
    have hnl : nodes.length = shs.length := hsl.symm
    have hl9 : shs.length ≤ 1000 := by omega
    have hl0 : 0 < shs.length := by
      rcases Nat.eq_zero_or_pos shs.length with h | h
      · exfalso
        unfold checkR at hr
        rw [if_pos (by omega)] at hr
        cases hr
      · exact h
    have HALL := Lib.hid (show ∀ (j : Nat) (x : Nd), nodes[j]? = some x → ∃ s, shs[j]? = some s ∧ nodeR x (shs.take j) = .ok s from by
      have hr2 := hr
      unfold checkR at hr2
      split at hr2
      · cases hr2
      · intro j x hx
        have := (chk_all nodes [] shs hr2).2 j x hx
        simpa using this)
    have hm := make_plI shs.length hl9 w1
    have HROW := Lib.hid (RJ.new w1 77 (shs.length * 12) zplF)
    have HK1 := Lib.hid ((Ext.refl w1).alloc (.cells ((List.range (shs.length * 12)).map zplF).toArray 77))
    replace q0 := cell_ext HK1.out q0
    rw [hnl] at q0
    clear hr hsx hrt k0 k1 q1 hsl
    rw [hnl]
    go_wp2_with fail
    go_loopw [24] (fun i wr => ∃ (k : Nat) (F : Nat → Value), k ≤ shs.length ∧ i = .int .i64 (k : Int) ∧ Hid (RJ wr w1.heap.size 77 (shs.length * 12) F) ∧ Hid (∀ (j : Nat) (p : Pl), j < k → (placesF nodes shs)[j]? = some p → PlIs w1 p (fun f => F (j * 12 + f))) ∧ Hid (Ext w1 wr)) (fun i _ => shs.length - (intOf i).toNat)
    case atStart => exact ⟨0, _, by omega, rfl, HROW, Lib.hid (fun j p h => absurd h (by omega)), HK1⟩
    case round =>
      obtain ⟨k, F, hk, rfl, hF, hP, hE⟩ := hrel
      by_cases hlt : k < shs.length
      · obtain ⟨x, hx⟩ : ∃ x, nodes[k]? = some x := ⟨_, List.getElem?_eq_getElem (by omega)⟩
        obtain ⟨s, hs, hno⟩ := HALL.out k x hx
        have hfm := (node_form_of hno).1
        have hfa := form_a hfm
        have htl : (shs.take k).length = k := by rw [List.length_take]; omega
        rw [htl] at hfa
        obtain ⟨ia, hia⟩ : ∃ ia : Nat, x.a = (ia : Int) := ⟨x.a.toNat, by omega⟩
        have hial : ia < shs.length := by omega
        obtain ⟨t, ht⟩ : ∃ t, shs[ia]? = some t := ⟨_, List.getElem?_eq_getElem hial⟩
        obtain ⟨ad, rfl, hc⟩ := (hG.out.ext KK.out).cells (by omega)
        obtain ⟨As, Ad, Ab, cs, cd, cb, hnd, hcell'⟩ := hc k x hx
        have hcell := fun f v hv => cell_ext hE.out (hcell' f v hv)
        obtain ⟨a1, rfl, hsc⟩ := HSX.out.cells hl0
        obtain ⟨B, d, d1, hz1⟩ := hsc k s hs
        obtain ⟨B2, d2, d2', hz2⟩ := hsc ia t ht
        have HX := Lib.hid hx
        have HS := Lib.hid hs
        have HT := Lib.hid ht
        have HZ1 := Lib.hid hz1
        have HZ2 := Lib.hid hz2
        have lS := (entN_len (HRT.out s (List.mem_of_getElem? hs))).2
        have lT := (entN_len (HRT.out t (List.mem_of_getElem? ht))).2
        have d1 := cell_ext hE.out d1
        have d2' := cell_ext hE.out d2'
        obtain ⟨k_, a, b, sh, lo, hv, sz, da, bi⟩ := x
        dsimp only at *
        subst hia
        have HNO := Lib.hid hno
        have HND := Lib.hid hnd
        have j0 : (0 : Int) ≤ (k : Int) := by omega
        have j1 : (k : Int) < (shs.length : Int) := by omega
        have i0 : (0 : Int) ≤ (ia : Int) := by omega
        have i1 : (ia : Int) < (shs.length : Int) := by omega
        have c0 : wr.cell? (ad.add (k * 9)) = some (.int .i64 k_) := by have := hcell 0 (.int .i64 k_) rfl; rw [add0J] at this; exact this
        have c1 : wr.cell? ⟨(ad.add (k * 9)).block, (ad.add (k * 9)).off + 1, none⟩ = some (.int .i64 (ia : Int)) := hcell 1 (.int .i64 (ia : Int)) rfl
        have c2 : wr.cell? ⟨(ad.add (k * 9)).block, (ad.add (k * 9)).off + 2, none⟩ = some (.int .i64 b) := hcell 2 (.int .i64 b) rfl
        have c3 : wr.cell? ⟨(ad.add (k * 9)).block, (ad.add (k * 9)).off + 3, none⟩ = some (.slice As sh.length cs) := hcell 3 (.slice As sh.length cs) rfl
        have c4 : wr.cell? ⟨(ad.add (k * 9)).block, (ad.add (k * 9)).off + 4, none⟩ = some (.int .i64 lo) := hcell 4 (.int .i64 lo) rfl
        have c5 : wr.cell? ⟨(ad.add (k * 9)).block, (ad.add (k * 9)).off + 5, none⟩ = some (.int .i64 hv) := hcell 5 (.int .i64 hv) rfl
        have c6 : wr.cell? ⟨(ad.add (k * 9)).block, (ad.add (k * 9)).off + 6, none⟩ = some (.int .i64 sz) := hcell 6 (.int .i64 sz) rfl
        have c7 : wr.cell? ⟨(ad.add (k * 9)).block, (ad.add (k * 9)).off + 7, none⟩ = some (.slice Ad da.length cd) := hcell 7 (.slice Ad da.length cd) rfl
        have c8 : wr.cell? ⟨(ad.add (k * 9)).block, (ad.add (k * 9)).off + 8, none⟩ = some (.slice Ab bi.length cb) := hcell 8 (.slice Ab bi.length cb) rfl
        clear hcell hcell' hc hsc hx hs ht hz1 hz2 hfm hfa htl hno hnd
        obtain ⟨m0, m1, m2, m3, m4, m5, m6, m7, m8⟩ := nine_at wr (.int .i64 k_) (.int .i64 (ia : Int)) (.int .i64 b) (.slice As sh.length cs) (.int .i64 lo) (.int .i64 hv) (.int .i64 sz) (.slice Ad da.length cd) (.slice Ab bi.length cb) 40
        have ka : Ext wr (wr.alloc (.cells #[.int .i64 k_, .int .i64 (ia : Int), .int .i64 b, .slice As sh.length cs, .int .i64 lo, .int .i64 hv, .int .i64 sz, .slice Ad da.length cd, .slice Ab bi.length cb] 40)) := (Ext.refl wr).alloc _
        have e1 := cell_ext ka d1
        have e2 := cell_ext ka d2'
        have hgs : w1.heap.size < wr.heap.size := hF.out.lt
        go_wp2_with fail
        generalize hWW : wr.alloc (.cells #[.int .i64 k_, .int .i64 (ia : Int), .int .i64 b, .slice As sh.length cs, .int .i64 lo, .int .i64 hv, .int .i64 sz, .slice Ad da.length cd, .slice Ab bi.length cb] 40) = W at *
        have hW1 : wr.heap.size ≤ W.heap.size := ka.size
        clear hWW c0 c1 c2 c3 c4 c5 c6 c7 c8 d1 d2'
        refine wp_region_held_drew (S := (fun w' => Ext W w')) (by kernel_rfl) ?_ (fun hHeld => ?_)
        · (try dsimp only); repeat (first | exact Ext.refl _ | assumption | refine Ext.drew ?_ | refine Ext.drewN ?_ _ | refine Ext.alloc ?_ _)
        refine wpAnyH_take (i := 0) (oi := _) (v := ?_) rfl (by kernel_rfl) (by kernel_rfl) (by kernel_rfl) (fun _ _ _ h => h) (Or.inl ⟨by first | kernel_rfl | rfl, ?_⟩) (by assumption) ?_
        rotate_left
        · (intro wS hSw; (try dsimp only at hSw); have z0 := cell_ext hSw m0; have z1 := cell_ext hSw m1; have z2 := cell_ext hSw m2; have z3 := cell_ext hSw m3; have z4 := cell_ext hSw m4; have z5 := cell_ext hSw m5; have z6 := cell_ext hSw m6; have z7 := cell_ext hSw m7; have z8 := cell_ext hSw m8; have z9 := cell_ext hSw e1; have z10 := cell_ext hSw e2; (try go_simp); (try with_reducible rfl))
        try simp only [Act.put, s1, s2, s3]
        refine wpAnyH_take (i := 1) (oi := _) (v := ?_) rfl (by kernel_rfl) (by kernel_rfl) (by kernel_rfl) (fun _ _ _ h => h) (Or.inl ⟨by first | kernel_rfl | rfl, ?_⟩) (by assumption) ?_
        rotate_left
        · (intro wS hSw; (try dsimp only at hSw); have z0 := cell_ext hSw m0; have z1 := cell_ext hSw m1; have z2 := cell_ext hSw m2; have z3 := cell_ext hSw m3; have z4 := cell_ext hSw m4; have z5 := cell_ext hSw m5; have z6 := cell_ext hSw m6; have z7 := cell_ext hSw m7; have z8 := cell_ext hSw m8; have z9 := cell_ext hSw e1; have z10 := cell_ext hSw e2; (try go_simp); (try with_reducible rfl))
        try simp only [Act.put, s1, s2, s3]
        refine wpAnyH_take (i := 2) (oi := _) (v := ?_) rfl (by kernel_rfl) (by kernel_rfl) (by kernel_rfl) (fun _ _ _ h => h) (Or.inl ⟨by first | kernel_rfl | rfl, ?_⟩) (by assumption) ?_
        rotate_left
        · (intro wS hSw; (try dsimp only at hSw); have z0 := cell_ext hSw m0; have z1 := cell_ext hSw m1; have z2 := cell_ext hSw m2; have z3 := cell_ext hSw m3; have z4 := cell_ext hSw m4; have z5 := cell_ext hSw m5; have z6 := cell_ext hSw m6; have z7 := cell_ext hSw m7; have z8 := cell_ext hSw m8; have z9 := cell_ext hSw e1; have z10 := cell_ext hSw e2; (try go_simp); (try with_reducible rfl))
        try simp only [Act.put, s1, s2, s3]
        refine wpAnyH_take (i := 3) (oi := _) (v := ?_) rfl (by kernel_rfl) (by kernel_rfl) (by kernel_rfl) (fun _ _ _ h => h) (Or.inl ⟨by first | kernel_rfl | rfl, ?_⟩) (by assumption) ?_
        rotate_left
        · (intro wS hSw; (try dsimp only at hSw); have z0 := cell_ext hSw m0; have z1 := cell_ext hSw m1; have z2 := cell_ext hSw m2; have z3 := cell_ext hSw m3; have z4 := cell_ext hSw m4; have z5 := cell_ext hSw m5; have z6 := cell_ext hSw m6; have z7 := cell_ext hSw m7; have z8 := cell_ext hSw m8; have z9 := cell_ext hSw e1; have z10 := cell_ext hSw e2; (try go_simp); (try with_reducible rfl))
        try simp only [Act.put, s1, s2, s3]
        refine wpAnyH_take (i := 4) (oi := _) (v := ?_) rfl (by kernel_rfl) (by kernel_rfl) (by kernel_rfl) (fun _ _ _ h => h) (Or.inl ⟨by first | kernel_rfl | rfl, ?_⟩) (by assumption) ?_
        rotate_left
        · (intro wS hSw; (try dsimp only at hSw); have z0 := cell_ext hSw m0; have z1 := cell_ext hSw m1; have z2 := cell_ext hSw m2; have z3 := cell_ext hSw m3; have z4 := cell_ext hSw m4; have z5 := cell_ext hSw m5; have z6 := cell_ext hSw m6; have z7 := cell_ext hSw m7; have z8 := cell_ext hSw m8; have z9 := cell_ext hSw e1; have z10 := cell_ext hSw e2; (try go_simp); (try with_reducible rfl))
        try simp only [Act.put, s1, s2, s3]
        refine wpAnyH_take (i := 5) (oi := _) (v := ?_) rfl (by kernel_rfl) (by kernel_rfl) (by kernel_rfl) (fun _ _ _ h => h) (Or.inl ⟨by first | kernel_rfl | rfl, ?_⟩) (by assumption) ?_
        rotate_left
        · (intro wS hSw; (try dsimp only at hSw); have z0 := cell_ext hSw m0; have z1 := cell_ext hSw m1; have z2 := cell_ext hSw m2; have z3 := cell_ext hSw m3; have z4 := cell_ext hSw m4; have z5 := cell_ext hSw m5; have z6 := cell_ext hSw m6; have z7 := cell_ext hSw m7; have z8 := cell_ext hSw m8; have z9 := cell_ext hSw e1; have z10 := cell_ext hSw e2; (try go_simp); (try with_reducible rfl))
        try simp only [Act.put, s1, s2, s3]
        refine wpAnyH_take (i := 6) (oi := _) (v := ?_) rfl (by kernel_rfl) (by kernel_rfl) (by kernel_rfl) (fun _ _ _ h => h) (Or.inl ⟨by first | kernel_rfl | rfl, ?_⟩) (by assumption) ?_
        rotate_left
        · (intro wS hSw; (try dsimp only at hSw); have z0 := cell_ext hSw m0; have z1 := cell_ext hSw m1; have z2 := cell_ext hSw m2; have z3 := cell_ext hSw m3; have z4 := cell_ext hSw m4; have z5 := cell_ext hSw m5; have z6 := cell_ext hSw m6; have z7 := cell_ext hSw m7; have z8 := cell_ext hSw m8; have z9 := cell_ext hSw e1; have z10 := cell_ext hSw e2; (try go_simp); (try with_reducible rfl))
        try simp only [Act.put, s1, s2, s3]
        refine wpAnyH_take (i := 7) (oi := _) (v := ?_) rfl (by kernel_rfl) (by kernel_rfl) (by kernel_rfl) (fun _ _ _ h => h) (Or.inl ⟨by first | kernel_rfl | rfl, ?_⟩) (by assumption) ?_
        rotate_left
        · (intro wS hSw; (try dsimp only at hSw); have z0 := cell_ext hSw m0; have z1 := cell_ext hSw m1; have z2 := cell_ext hSw m2; have z3 := cell_ext hSw m3; have z4 := cell_ext hSw m4; have z5 := cell_ext hSw m5; have z6 := cell_ext hSw m6; have z7 := cell_ext hSw m7; have z8 := cell_ext hSw m8; have z9 := cell_ext hSw e1; have z10 := cell_ext hSw e2; (try go_simp); (try with_reducible rfl))
        try simp only [Act.put, s1, s2, s3]
        refine wpAnyH_take (i := 8) (oi := _) (v := ?_) rfl (by kernel_rfl) (by kernel_rfl) (by kernel_rfl) (fun _ _ _ h => h) (Or.inl ⟨by first | kernel_rfl | rfl, ?_⟩) (by assumption) ?_
        rotate_left
        · (intro wS hSw; (try dsimp only at hSw); have z0 := cell_ext hSw m0; have z1 := cell_ext hSw m1; have z2 := cell_ext hSw m2; have z3 := cell_ext hSw m3; have z4 := cell_ext hSw m4; have z5 := cell_ext hSw m5; have z6 := cell_ext hSw m6; have z7 := cell_ext hSw m7; have z8 := cell_ext hSw m8; have z9 := cell_ext hSw e1; have z10 := cell_ext hSw e2; (try go_simp); (try with_reducible rfl))
        try simp only [Act.put, s1, s2, s3]
        refine wpAnyH_take (i := 9) (oi := _) (v := ?_) rfl (by kernel_rfl) (by kernel_rfl) (by kernel_rfl) (fun _ _ _ h => h) (Or.inl ⟨by first | kernel_rfl | rfl, ?_⟩) (by assumption) ?_
        rotate_left
        · (intro wS hSw; (try dsimp only at hSw); have z0 := cell_ext hSw m0; have z1 := cell_ext hSw m1; have z2 := cell_ext hSw m2; have z3 := cell_ext hSw m3; have z4 := cell_ext hSw m4; have z5 := cell_ext hSw m5; have z6 := cell_ext hSw m6; have z7 := cell_ext hSw m7; have z8 := cell_ext hSw m8; have z9 := cell_ext hSw e1; have z10 := cell_ext hSw e2; (try go_simp); (try with_reducible rfl))
        try simp only [Act.put, s1, s2, s3]
        refine wpAnyH_take (i := 10) (oi := _) (v := ?_) rfl (by kernel_rfl) (by kernel_rfl) (by kernel_rfl) (fun _ _ _ h => h) (Or.inl ⟨by first | kernel_rfl | rfl, ?_⟩) (by assumption) ?_
        rotate_left
        · (intro wS hSw; (try dsimp only at hSw); have z0 := cell_ext hSw m0; have z1 := cell_ext hSw m1; have z2 := cell_ext hSw m2; have z3 := cell_ext hSw m3; have z4 := cell_ext hSw m4; have z5 := cell_ext hSw m5; have z6 := cell_ext hSw m6; have z7 := cell_ext hSw m7; have z8 := cell_ext hSw m8; have z9 := cell_ext hSw e1; have z10 := cell_ext hSw e2; (try go_simp); (try with_reducible rfl))
        try simp only [Act.put, s1, s2, s3]
        refine wpAnyH_ready (rs := [11]) (by kernel_rfl) (by simp) ?_
        refine AllReadyH.cons rfl (fun KQ hKQ => ?_) AllReadyH.nil
        go_simp
        refine hKQ.out _ _ ?_ (fun hHeld => ?_)
        · (try dsimp only); repeat (first | exact Ext.refl _ | assumption | refine Ext.drew ?_ | refine Ext.drewN ?_ _ | refine Ext.alloc ?_ _)
        clear hKQ KQ
        try simp only [Act.put, s1, s2, s3]
        refine wpAnyH_ready (rs := [12]) (by kernel_rfl) (by simp) ?_
        refine AllReadyH.cons rfl (fun KQ hKQ => ?_) AllReadyH.nil
        go_simp
        refine hKQ.out _ _ ?_ (fun hHeld => ?_)
        · (try dsimp only); repeat (first | exact Ext.refl _ | assumption | refine Ext.drew ?_ | refine Ext.drewN ?_ _ | refine Ext.alloc ?_ _)
        clear hKQ KQ
        try simp only [Act.put, s1, s2, s3]
        refine wpAnyH_done (by kernel_rfl) ?_ _
        have hb12 := twelve_at W (.int .i64 k_) (.int .i64 (ia : Int)) (.int .i64 b) (.slice As sh.length cs) (.int .i64 lo) (.int .i64 hv) (.int .i64 sz) (.slice Ad da.length cd) (.slice Ab bi.length cb) (.slice B s.length d) (.slice B2 t.length d2) .nilFunc 77
        obtain ⟨y0, y1, y2, y3, y4, y5, y6, y7, y8, y9, y10, y11⟩ := hb12
        have kb : Ext W (W.alloc (.cells #[.int .i64 k_, .int .i64 (ia : Int), .int .i64 b, .slice As sh.length cs, .int .i64 lo, .int .i64 hv, .int .i64 sz, .slice Ad da.length cd, .slice Ab bi.length cb, .slice B s.length d, .slice B2 t.length d2, .nilFunc] 77)).drew := ((Ext.refl W).alloc _).drew
        have hfz : (W.alloc (.cells #[.int .i64 k_, .int .i64 (ia : Int), .int .i64 b, .slice As sh.length cs, .int .i64 lo, .int .i64 hv, .int .i64 sz, .slice Ad da.length cd, .slice Ab bi.length cb, .slice B s.length d, .slice B2 t.length d2, .nilFunc] 77)).drew.frozen? ⟨W.heap.size, 11, none⟩ = false := by simp
        have hbl : W.heap.size < (W.alloc (.cells #[.int .i64 k_, .int .i64 (ia : Int), .int .i64 b, .slice As sh.length cs, .int .i64 lo, .int .i64 hv, .int .i64 sz, .slice Ad da.length cd, .slice Ab bi.length cb, .slice B s.length d, .slice B2 t.length d2, .nilFunc] 77)).drew.heap.size := by simp
        go_wp2_with fail
        refine (sums_any ⟨k_, (ia : Int), b, sh, lo, hv, sz, da, bi⟩ As Ad Ab B B2 cs cd cb d d2 s t .nilFunc _).mono ?_
        rintro e2 w2 ⟨he2, k2⟩
        dsimp only at k2 he2
        obtain ⟨SV, hSV⟩ : ∃ SV, SV = srcV k_ (.agg #[.int .i64 k_, .int .i64 (ia : Int), .int .i64 b, .slice As sh.length cs, .int .i64 lo, .int .i64 hv, .int .i64 sz, .slice Ad da.length cd, .slice Ab bi.length cb, .slice B s.length d, .slice B2 t.length d2, .nilFunc]) := ⟨_, rfl⟩
        rw [← hSV] at he2
        subst he2
        have HSV := Lib.hid hSV
        clear hSV
        have k3 := Ext.trans ((Ext.refl _).drew) k2
        replace y0 := cell_ext k3 y0
        replace y1 := cell_ext k3 y1
        replace y2 := cell_ext k3 y2
        replace y3 := cell_ext k3 y3
        replace y4 := cell_ext k3 y4
        replace y5 := cell_ext k3 y5
        replace y6 := cell_ext k3 y6
        replace y7 := cell_ext k3 y7
        replace y8 := cell_ext k3 y8
        replace y9 := cell_ext k3 y9
        replace y10 := cell_ext k3 y10
        replace y11 := cell_ext k3 y11
        replace hfz : w2.frozen? ⟨W.heap.size, 11, none⟩ = false := (World.frozen?_of_block (k2.block _ hbl)).trans hfz
        have kw : Ext w1 w2 := hE.out.trans (ka.trans (kb.trans k2))
        have hF2 := Lib.hid (hF.out.ext (ka.trans (kb.trans k2)))
        
        have ne1 : (w1.heap.size = W.heap.size) = False := by simp; omega
        have ne2 : (W.heap.size = w1.heap.size) = False := by simp; omega
        have KW := Lib.hid kw
        have k9 := Lib.hid (Ext.cellsJ (Nat.le_refl w1.heap.size) [.int .i64 k_, .int .i64 (ia : Int), .int .i64 b, .slice As sh.length cs, .int .i64 lo, .int .i64 hv, .int .i64 sz, .slice Ad da.length cd, .slice Ab bi.length cb, .slice B s.length d, .slice B2 t.length d2, SV] (w2.setCell ⟨W.heap.size, 11, none⟩ (SV)) (k * 12) (kw.set (p := ⟨W.heap.size, 11, none⟩) (by show w1.heap.size ≤ W.heap.size; omega) (SV)))
        have r9 := Lib.hid (RJ.setAll [.int .i64 k_, .int .i64 (ia : Int), .int .i64 b, .slice As sh.length cs, .int .i64 lo, .int .i64 hv, .int .i64 sz, .slice Ad da.length cd, .slice Ab bi.length cb, .slice B s.length d, .slice B2 t.length d2, SV] (w2.setCell ⟨W.heap.size, 11, none⟩ (SV)) (k * 12) F (hF2.out.keep (Below.heap_setCell _ _ _ _ (by show w1.heap.size ≠ W.heap.size; omega))) (by simp; omega))
        have hP9 : Hid (∀ (j : Nat) (p : Pl), j < k + 1 → (placesF nodes shs)[j]? = some p → PlIs w1 p (fun f => if k * 12 ≤ j * 12 + f ∧ j * 12 + f < k * 12 + ([.int .i64 k_, .int .i64 (ia : Int), .int .i64 b, .slice As sh.length cs, .int .i64 lo, .int .i64 hv, .int .i64 sz, .slice Ad da.length cd, .slice Ab bi.length cb, .slice B s.length d, .slice B2 t.length d2, SV] : List Value).length then ([.int .i64 k_, .int .i64 (ia : Int), .int .i64 b, .slice As sh.length cs, .int .i64 lo, .int .i64 hv, .int .i64 sz, .slice Ad da.length cd, .slice Ab bi.length cb, .slice B s.length d, .slice B2 t.length d2, SV] : List Value).getD (j * 12 + f - k * 12) (.bool false) else F (j * 12 + f))) := Lib.hid (by
          intro j p hj hp
          rcases Nat.lt_or_ge j k with g | g
          · obtain ⟨As', Ad', Ab', Ah', At', cs', cd', cb', ch', ct', h1, h2⟩ := hP.out j p g hp
            refine ⟨As', Ad', Ab', Ah', At', cs', cd', cb', ch', ct', h1, fun f vv hvv => ?_⟩
            have hf : f < 12 := by have := (List.getElem?_eq_some_iff.1 hvv).1; simpa using this
            dsimp only
            rw [if_neg (by omega)]
            exact h2 f vv hvv
          · obtain rfl : j = k := by omega
            have es : shs.getD j [] = s := by rw [List.getD_eq_getElem?_getD, HS.out]; rfl
            have et : shs.getD (ia : Int).toNat [] = t := by rw [Int.toNat_natCast, List.getD_eq_getElem?_getD, HT.out]; rfl
            rw [placesF_at HX.out, es, et] at hp
            injection hp with hp
            subst hp
            refine ⟨As, Ad, Ab, B, B2, cs, cd, cb, d, d2, ⟨HND.out, HZ1.out, HZ2.out, lS, lT⟩, fun f vv hvv => ?_⟩
            have hf : f < 12 := by have := (List.getElem?_eq_some_iff.1 hvv).1; simpa using this
            have hvv' : ([.int .i64 k_, .int .i64 (ia : Int), .int .i64 b, .slice As sh.length cs, .int .i64 lo, .int .i64 hv, .int .i64 sz, .slice Ad da.length cd, .slice Ab bi.length cb, .slice B s.length d, .slice B2 t.length d2, SV] : List Value)[f]? = some vv := by rw [HSV.out]; exact hvv
            dsimp only
            rw [if_pos (by simp; omega), Nat.add_sub_cancel_left, List.getD_eq_getElem?_getD, hvv']
            rfl)
        have hone : SV.oneCell' = true := by rw [HSV.out]; unfold srcV; (repeat' split) <;> rfl
        have p0 : w2.cell? ⟨w1.heap.size, k * 12, none⟩ = some (F (k * 12)) := hF2.out.cell (by omega)
        have f0 : w2.frozen? ⟨w1.heap.size, k * 12, none⟩ = false := hF2.out.frozen _
        have p1 : w2.cell? ⟨w1.heap.size, k * 12 + 1, none⟩ = some (F (k * 12 + 1)) := hF2.out.cell (by omega)
        have f1 : w2.frozen? ⟨w1.heap.size, k * 12 + 1, none⟩ = false := hF2.out.frozen _
        have p2 : w2.cell? ⟨w1.heap.size, k * 12 + 2, none⟩ = some (F (k * 12 + 2)) := hF2.out.cell (by omega)
        have f2 : w2.frozen? ⟨w1.heap.size, k * 12 + 2, none⟩ = false := hF2.out.frozen _
        have p3 : w2.cell? ⟨w1.heap.size, k * 12 + 3, none⟩ = some (F (k * 12 + 3)) := hF2.out.cell (by omega)
        have f3 : w2.frozen? ⟨w1.heap.size, k * 12 + 3, none⟩ = false := hF2.out.frozen _
        have p4 : w2.cell? ⟨w1.heap.size, k * 12 + 4, none⟩ = some (F (k * 12 + 4)) := hF2.out.cell (by omega)
        have f4 : w2.frozen? ⟨w1.heap.size, k * 12 + 4, none⟩ = false := hF2.out.frozen _
        have p5 : w2.cell? ⟨w1.heap.size, k * 12 + 5, none⟩ = some (F (k * 12 + 5)) := hF2.out.cell (by omega)
        have f5 : w2.frozen? ⟨w1.heap.size, k * 12 + 5, none⟩ = false := hF2.out.frozen _
        have p6 : w2.cell? ⟨w1.heap.size, k * 12 + 6, none⟩ = some (F (k * 12 + 6)) := hF2.out.cell (by omega)
        have f6 : w2.frozen? ⟨w1.heap.size, k * 12 + 6, none⟩ = false := hF2.out.frozen _
        have p7 : w2.cell? ⟨w1.heap.size, k * 12 + 7, none⟩ = some (F (k * 12 + 7)) := hF2.out.cell (by omega)
        have f7 : w2.frozen? ⟨w1.heap.size, k * 12 + 7, none⟩ = false := hF2.out.frozen _
        have p8 : w2.cell? ⟨w1.heap.size, k * 12 + 8, none⟩ = some (F (k * 12 + 8)) := hF2.out.cell (by omega)
        have f8 : w2.frozen? ⟨w1.heap.size, k * 12 + 8, none⟩ = false := hF2.out.frozen _
        have p9 : w2.cell? ⟨w1.heap.size, k * 12 + 9, none⟩ = some (F (k * 12 + 9)) := hF2.out.cell (by omega)
        have f9 : w2.frozen? ⟨w1.heap.size, k * 12 + 9, none⟩ = false := hF2.out.frozen _
        have p10 : w2.cell? ⟨w1.heap.size, k * 12 + 10, none⟩ = some (F (k * 12 + 10)) := hF2.out.cell (by omega)
        have f10 : w2.frozen? ⟨w1.heap.size, k * 12 + 10, none⟩ = false := hF2.out.frozen _
        have p11 : w2.cell? ⟨w1.heap.size, k * 12 + 11, none⟩ = some (F (k * 12 + 11)) := hF2.out.cell (by omega)
        have f11 : w2.frozen? ⟨w1.heap.size, k * 12 + 11, none⟩ = false := hF2.out.frozen _
        have hform : SV = .nilFunc ∨ ∃ fn fi ca, SV = .func fn fi ca := by rw [HSV.out]; exact src_form _ _
        have hrg := place_range w2 W.heap.size (.int .i64 k_) (.int .i64 (ia : Int)) (.int .i64 b) (.slice As sh.length cs) (.int .i64 lo) (.int .i64 hv) (.int .i64 sz) (.slice Ad da.length cd) (.slice Ab bi.length cb) (.slice B s.length d) (.slice B2 t.length d2) .nilFunc SV y0 y1 y2 y3 y4 y5 y6 y7 y8 y9 y10 y11
        have hthr : (w2.setCell ⟨W.heap.size, 11, none⟩ SV).there w1.heap.size (k * 12) 12 := fun j hj => by
          have hF3 := hF2.out.keep (w' := w2.setCell ⟨W.heap.size, 11, none⟩ SV) (Below.heap_setCell _ _ _ _ (by show w1.heap.size ≠ W.heap.size; omega))
          exact ⟨by rw [hF3.cell (by omega)]; rfl, hF3.frozen _⟩
        have hinf : (Try.prog.info? 77).map (·.size) = some 12 := by kernel_rfl
        clear k2 k3 kw kb hrg hinf hthr
        rcases hform with rfl | ⟨fn, fi, ca, rfl⟩
        all_goals
          go_wp2_with fail
          exact ⟨⟨k + 1, _, by omega, by go_num, r9, hP9, k9⟩, by simp [intOf]; omega⟩
      · have hkn : k = shs.length := by omega
        have HPL := Lib.hid (show (placesF nodes shs).length = shs.length by unfold placesF; rw [List.length_map, List.length_range]; omega)
        go_wp2
        go_ret2
        refine .inl ⟨shs, some ⟨w1.heap.size, 0, none⟩, shs.length, HR.out, by rw [hnl]; rfl, ⟨by rw [HPL.out]; omega, fun h0 => ⟨_, rfl, fun j p hp => ?_⟩⟩, KK.out.trans hE.out⟩
        have hj := (List.getElem?_eq_some_iff.1 hp).1
        rw [HPL.out] at hj
        obtain ⟨As, Ad, Ab, Ah, At, cs, cd, cb, ch, ct, h1, h2⟩ := hP.out j p (by omega) hp
        refine ⟨As, Ad, Ab, Ah, At, cs, cd, cb, ch, ct, h1.ext hE.out, fun f vv hvv => ?_⟩
        have hf : f < 12 := by have := (List.getElem?_eq_some_iff.1 hvv).1; simpa using this
        have e := h2 f vv hvv
        rw [Addr.add_lit, Addr.add_lit, Nat.zero_add, hF.out.cell (by omega)]
        exact congrArg some e
  · have he : ¬ (er : Int) = 0 := by omega
    have HR := Lib.hid hr
    clear hr
    go_wp2
    go_ret2
    exact .inr ⟨er, HR.out, her, rfl, k0.trans k1⟩
end Go.Proofs.Ytjeipbahddhfgaa
