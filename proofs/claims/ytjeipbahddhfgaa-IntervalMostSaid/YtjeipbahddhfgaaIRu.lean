/-
  Run of graphs of inputs and powers.
-/
import Derived.Test.YtjeipbahddhfgaaIMa
namespace Go.Proofs.Ytjeipbahddhfgaa
open Go.RowKit
set_option linter.unusedVariables false
set_option maxRecDepth 100000

theorem one_atI {w : World} {g : Nat} {t : TypeId} {u : Value} (hg : g = w.heap.size) : ∀ (j : Nat) (x : Value), [u][j]? = some x → (w.alloc (.cells #[u] t)).cell? ((⟨g, 0, none⟩ : Addr).add j) = some x := by
  intro j x hx
  subst hg
  rcases j with _ | j
  · simp at hx; subst hx; simp [Addr.add]
  · simp at hx
theorem one_sliceI {A : Option Addr} {n c : Nat} : ∀ u ∈ [Value.slice A n c], u.oneCell' = true := by
  intro u hu; simp at hu; subst hu; rfl
/-- Shapes in a list that is being made by appending, from block B on. -/
def GI (B : Nat) (w : World) (v : Value) (shs : List (List Int)) : Prop :=
  ∃ us, w.ownsRow B 38 1 v shs.length us ∧ ∀ (j : Nat) (s : List Int), shs[j]? = some s → ∃ A d, us[j]? = some (.slice A s.length d) ∧ ZX w A s.length d s ∧ TyI w A
theorem GI.nil (B : Nat) (w : World) : GI B w (.slice none 0 0) [] := ⟨[], World.ownsRow_nil _ _ _ _, fun j s h => by simp at h⟩
theorem GI.sx {B : Nat} {w : World} {v : Value} {shs : List (List Int)} (h : GI B w v shs) : ∃ A c, v = .slice A shs.length c ∧ SX w A c shs := by
  obtain ⟨us, ho, hu⟩ := h
  have ho' := ho
  rcases ho.2 with ⟨rfl, e⟩ | ⟨g, cap, cur, rfl, hg, hh, hle, _⟩
  · exact ⟨none, 0, by rw [e], ⟨by omega, fun hn => by omega⟩⟩
  · refine ⟨_, cap, rfl, ⟨hle, fun hn => ⟨_, rfl, fun j s hs => ?_⟩⟩⟩
    obtain ⟨A, d, h1, h2, _⟩ := hu j s hs
    exact ⟨A, d, World.ownsRow.cells (g := g) ho' rfl j _ h1, h2⟩
/-- What stays where memory has only grown. -/
theorem GI.ext {B : Nat} {w w' : World} {v : Value} {shs : List (List Int)} (h : GI B w v shs) (k : Ext w w') : GI B w' v shs := by
  obtain ⟨us, ho, hu⟩ := h
  refine ⟨us, ⟨ho.1, ?_⟩, fun j s hs => ?_⟩
  · rcases ho.2 with h0 | ⟨g, cap, cur, e, hg, hh, h1⟩
    · exact .inl h0
    · exact .inr ⟨g, cap, cur, e, hg, (k.block g (Array.getElem?_eq_some_iff.1 hh).1).trans hh, h1⟩
  · obtain ⟨A, d, h1, h2, h3⟩ := hu j s hs
    exact ⟨A, d, h1, h2.ext k, h3.ext k⟩
/-- A list of numbers lies aside of a row of lists that grows. -/
theorem ZX.grownI {B : Nat} {w w' : World} {v : Value} {n m c : Nat} {us : List Value} {A : Option Addr} {zs : List Int} (h : ZX w A n c zs) (ht : TyI w A) (ho : w.ownsRow B 38 1 v m us) (hg : w.grownBy w' v.ownBlock) : ZX w' A n c zs ∧ TyI w' A := by
  have hb : ∀ ad, A = some ad → w'.heap[ad.block]? = w.heap[ad.block]? := fun ad e => by
    obtain ⟨cur, fz, hc⟩ := ht ad e
    refine hg.block _ (Array.getElem?_eq_some_iff.1 hc).1 (fun e2 => ?_)
    rcases ho.2 with ⟨rfl, _⟩ | ⟨g, cap, cur2, rfl, _, hh, _⟩
    · simp [Value.ownBlock] at e2
    · simp [Value.ownBlock] at e2
      subst e2
      rw [hc] at hh
      injection hh with hh
      injection hh with _ hh _
      exact absurd hh (by decide)
  refine ⟨⟨h.len, h.room, fun hn => ?_⟩, fun ad e => ?_⟩
  · obtain ⟨ad, e, hc⟩ := h.cells hn
    refine ⟨ad, e, fun j z hz => ?_⟩
    have hbk : (ad.add j).block = ad.block := by unfold Addr.add; split <;> rfl
    rw [World.cell?_of_block (w := w) (by rw [hbk]; exact hb ad e)]
    exact hc j z hz
  · obtain ⟨cur, fz, hc⟩ := ht ad e
    exact ⟨cur, fz, (hb ad e).trans hc⟩
theorem GI.push {B : Nat} {w w' : World} {v v' : Value} {vs : List (List Int)} {us : List Value} {A : Option Addr} {c : Nat} {s : List Int} (h1 : w.ownsRow B 38 1 v vs.length us) (h2 : ∀ (j : Nat) (s : List Int), vs[j]? = some s → ∃ A d, us[j]? = some (.slice A s.length d) ∧ ZX w A s.length d s ∧ TyI w A) (hz : ZX w A s.length c s) (ht : TyI w A)
    (ho : w'.ownsRow B 38 1 v' (vs.length + 1) (us ++ [.slice A s.length c])) (hg : w.grownBy w' v.ownBlock) : GI B w' v' (vs ++ [s]) := by
  refine ⟨us ++ [.slice A s.length c], by rw [List.length_append]; exact ho, fun j u hj => ?_⟩
  have hul : us.length = vs.length := by have := h1.1; omega
  rcases Nat.lt_or_ge j vs.length with g | g
  · rw [List.getElem?_append_left g] at hj
    obtain ⟨A', d, e1, e2, e3⟩ := h2 j u hj
    obtain ⟨e4, e5⟩ := e2.grownI e3 h1 hg
    exact ⟨A', d, by rw [List.getElem?_append_left (by omega)]; exact e1, e4, e5⟩
  · obtain rfl : j = vs.length := by
      have := (List.getElem?_eq_some_iff.1 hj).1
      simp at this
      omega
    rw [List.getElem?_append_right g] at hj
    simp at hj
    subst hj
    obtain ⟨e4, e5⟩ := hz.grownI ht h1 hg
    exact ⟨A, c, by rw [List.getElem?_append_right (by omega), hul]; simp, e4, e5⟩
theorem snoc_at {α : Type} {l : List α} {a u : α} {j : Nat} (h : (l ++ [a])[j]? = some u) : (j < l.length ∧ l[j]? = some u) ∨ (j = l.length ∧ u = a) := by
  rcases Nat.lt_or_ge j l.length with g | g
  · rw [List.getElem?_append_left g] at h
    exact .inl ⟨g, h⟩
  · right
    have hj : j = l.length := by
      have := (List.getElem?_eq_some_iff.1 h).1
      simp at this
      omega
    subst hj
    rw [List.getElem?_append_right (Nat.le_refl _)] at h
    simp at h
    exact ⟨rfl, h.symm⟩
/-- Rows of numbers that are handed in. -/
structure InX (w : World) (A : Option Addr) (c : Nat) (ins : List (List Int)) : Prop where
  room : ins.length ≤ c
  cells : 0 < ins.length → ∃ ad, A = some ad ∧ ∀ (j : Nat) (s : List Int), ins[j]? = some s → ∃ B d, w.cell? (ad.add j) = some (.slice B s.length d) ∧ ZX w B s.length d s ∧ TyI w B
theorem InX.tail {w : World} {ad : Addr} {c : Nat} {i : List Int} {ins : List (List Int)} (h : InX w (some ad) c (i :: ins)) : InX w (some (ad.add 1)) (c - 1) ins := by
  refine ⟨by have := h.room; simp at this; omega, fun hn => ⟨_, rfl, fun j s hs => ?_⟩⟩
  obtain ⟨ad', e, hc⟩ := h.cells (by simp)
  injection e with e
  subst e
  obtain ⟨B, d, h1, h2⟩ := hc (j + 1) s (by simpa using hs)
  exact ⟨B, d, by rw [Addr.add_add, Nat.add_comm 1 j]; exact h1, h2⟩
theorem InX.tail2 {w : World} {ad : Addr} {c : Nat} {i : List Int} {ins : List (List Int)} (h : InX w (some ad) c (i :: ins)) : InX w (if c = 1 then some ad else some ⟨ad.block, ad.off + 1, none⟩) (c - 1) ins := by
  have hr := h.room
  simp at hr
  by_cases hc : c = 1
  · rw [if_pos hc]
    exact ⟨by omega, fun hn => by omega⟩
  · rw [if_neg hc]
    exact h.tail
/-- What comes of places, of those that are known and of rows that are handed in. -/
def runL : List Pl → List (List Int) → List (List Int) → Except Nat (List (List Int))
  | [], vs, ins => if ins = [] then .ok vs else .error 12
  | p :: r, vs, ins => if p.x.k = 1 then (match ins with | [] => .error 12 | i :: is => if (decide ((i.length : Int) = entN p.s) && inB p.x.lo p.x.hi i) then runL r (vs ++ [i]) is else .error 12)
    else runL r (vs ++ [(vs.getD p.x.a.toNat []).map (pwF p.x.da)]) ins
def Vals (vs : List (List Int)) (ks : List (Int × Int)) : Prop := ∀ (j : Nat) (vals : List Int) (q : Int × Int), vs[j]? = some vals → ks[j]? = some q → ∀ z ∈ vals, q.1 ≤ z ∧ z ≤ q.2
theorem spans_all (G : Pl → List (Int × Int) → Int × Int) : ∀ (ps : List Pl) (pre ks : List (Int × Int)), spansR G ps pre = .ok ks → (∃ more, ks = pre ++ more ∧ more.length = ps.length) ∧ ∀ (j : Nat) (p : Pl), ps[j]? = some p → ks[pre.length + j]? = some (spG G p (ks.take (pre.length + j)))
  | [], pre, ks, h => by
    injection h with h
    subst h
    exact ⟨⟨[], by simp, rfl⟩, fun j p hp => by simp at hp⟩
  | y :: r, pre, ks, h => by
    unfold spansR at h
    split at h
    · obtain ⟨⟨more, e, hl⟩, hall⟩ := spans_all G r _ ks h
      refine ⟨⟨spG G y pre :: more, by rw [e]; simp, by simp [hl]⟩, fun j p hp => ?_⟩
      rcases j with _ | j
      · simp at hp
        subst hp
        have e2 : ks.take (pre.length + 0) = pre := by rw [e, Nat.add_zero, List.append_assoc, List.take_left' rfl]
        rw [e2, e]
        simp
      · simp at hp
        have := hall j p hp
        rw [List.length_append, List.length_singleton] at this
        rw [show pre.length + (j + 1) = pre.length + 1 + j by omega]
        exact this
    · cases h
theorem inB_all {lo hi : Int} {l : List Int} (h : inB lo hi l = true) : ∀ z ∈ l, lo ≤ z ∧ z ≤ hi := fun z hz => by
  unfold inB at h
  rw [List.all_eq_true] at h
  have := h z hz
  simp only [Bool.and_eq_true, decide_eq_true_eq] at this
  exact this
/-- A power's shape is that of what it takes. -/
theorem plshape_of {nodes : List Nd} {out : Int} {shs : List (List Int)} (h : checkR nodes out = .ok shs) {j : Nat} {p : Pl} (hp : (placesF nodes shs)[j]? = some p) (h8 : p.x.k = 8) : ∃ (ia : Nat) (pa : Pl), p.x.a = (ia : Int) ∧ ia < j ∧ (placesF nodes shs)[ia]? = some pa ∧ pa.s = p.s := by
  obtain ⟨_, ia, hia, hlt⟩ := (plok_of h hp).2 h8
  obtain ⟨x, hx, rfl⟩ := placesF_inv hp
  obtain ⟨s, hs, hno⟩ := (checkR_all h).2 j x hx
  obtain ⟨_, hsh, _⟩ := node_form_of hno
  have hjl := (List.getElem?_eq_some_iff.1 hx).1
  dsimp only at h8 hia ⊢
  obtain ⟨xa, hxa⟩ : ∃ xa, nodes[ia]? = some xa := ⟨_, List.getElem?_eq_getElem (by omega)⟩
  refine ⟨ia, _, hia, hlt, placesF_at hxa, ?_⟩
  dsimp only
  unfold shapeO at hsh
  rw [h8, hia, Int.toNat_natCast] at hsh
  simp at hsh
  rw [List.getD_eq_getElem?_getD (l := shs) (i := j), hs, List.getD_eq_getElem?_getD]
  rw [List.getElem?_take_of_lt hlt] at hsh
  exact hsh
/-- What Run answers. -/
def RunPost (w : World) (r : Except Nat (List (List Int))) (o : Nat) (e : Ending) (w' : World) : Prop :=
  (∃ vs A n c, r = .ok vs ∧ e = .returned (.tuple #[.slice A n c, .int .i64 0]) ∧ ZX w' A n c (vs.getD o []) ∧ Ext w w') ∨ (∃ k : Nat, r = .error k ∧ k ≠ 0 ∧ e = .returned (.tuple #[.slice none 0 0, .int .i64 (k : Int)]) ∧ Ext w w')
/-- What Run tells of a graph of inputs and powers. -/
def graphRun (G : Pl → List (Int × Int) → Int × Int) (nodes : List Nd) (out : Int) (ins : List (List Int)) : Except Nat (List (List Int)) :=
  match checkR nodes out with | .error k => .error k | .ok shs => (match spansR G (placesF nodes shs) [] with | .error k => .error k | .ok _ => runL (placesF nodes shs) [] ins)
theorem make_ssI (c : Nat) (hc : c ≤ 1000) (w : World) : ∃ cur : Array Value, cur.size = c * 1 ∧
    (Instr.makeSlice 31 (.int .i64 0) (.int .i64 (c : Int))).run Try.prog w = .ok (.slice (some ⟨w.heap.size, 0, none⟩) 0 c) (w.alloc (.cells cur 38)) := by
  obtain ⟨i0, hi, hz0, hz1, hz2⟩ := info_partsJ info_shJ
  have hr := run_make (P := Try.prog) w 31 38 i0 (.slice none 0 0) Try.underlying31 hi hz0 .i64 .i64 0 (c : Int) (by omega) (by omega) (by rw [hz2]; omega) (by omega)
  rw [hz1] at hr
  simp only [Int.toNat_natCast] at hr
  exact ⟨_, by simp [size_madeCells], hr⟩
set_option maxHeartbeats 2000000 in
theorem Run_any (G : Pl → List (Int × Int) → Int × Int) (nodes : List Nd) (A : Option Addr) (c : Nat) (out : Int) (ins : List (List Int)) (Ai : Option Addr) (ci : Nat) (w : World) (hG : Hid (GX w A c nodes)) (hn : nodes.length ≤ 1000) (hI : Hid (InX w Ai ci ins)) (hil : Hid (∀ i ∈ ins, i.length ≤ 100000)) (hil2 : ins.length ≤ 1000) (h18 : Hid (∀ x ∈ nodes, x.k = 1 ∨ x.k = 8)) :
    Calls Try.prog 21 #[.agg #[.slice A nodes.length c, .int .i64 out], .slice Ai ins.length ci] w fun e w' => RunPost w (graphRun G nodes out ins) out.toNat e w' := by
  have q0 : (w.alloc (.cells #[.slice A nodes.length c, .int .i64 out] 26)).cell? ⟨w.heap.size, 0, none⟩ = some (.slice A nodes.length c) := by simp
  have q1 : (w.alloc (.cells #[.slice A nodes.length c, .int .i64 out] 26)).cell? ⟨w.heap.size, 1, none⟩ = some (.int .i64 out) := by simp
  have k0 : Ext w (w.alloc (.cells #[.slice A nodes.length c, .int .i64 out] 26)) := (Ext.refl w).alloc _
  obtain ⟨i0', hii, hz0, hz1, hz2⟩ := info_partsJ info_shJ
  go_enter Try.func21, Try.ntmps21
  go_wp2_with fail
  refine (placesOf_any nodes A c out _ (Lib.hid (hG.out.ext k0)) hn).mono ?_
  intro e1 w1 hq
  rcases hq with ⟨shs, A1, c1, hr, rfl, hps, k1⟩ | ⟨er, hr, her, rfl, k1⟩
  · have hpl : (placesF nodes shs).length = nodes.length := by unfold placesF; rw [List.length_map, List.length_range]
    have HC18 := Lib.hid (show ∀ (j : Nat) (p : Pl), (placesF nodes shs)[j]? = some p → p.x.k = 1 ∨ p.x.k = 8 from fun j p hp => by
      obtain ⟨x, hx, rfl⟩ := placesF_inv hp
      exact h18.out x (List.mem_of_getElem? hx))
    have HCALL := Lib.hid (spansOf_any G (placesF nodes shs) A1 c1 w1 (Lib.hid hps) (by omega) (Lib.hid fun j p hp => plok_of hr hp) (Lib.hid fun j p hp h1 h8 => by rcases HC18.out j p hp with g | g; exact absurd g h1; exact absurd g h8))
    rw [hpl] at HCALL
    have HR := Lib.hid hr
    have HPS := Lib.hid hps
    have HPL := Lib.hid hpl
    have HK := Lib.hid (k0.trans k1)
    replace q1 := cell_ext k1 q1
    clear hr hps hpl k0 k1 q0
    go_wp2_with fail
    refine HCALL.out.mono ?_
    intro e2 w2 hq2
    rcases hq2 with ⟨ks, A2, c2, hks, rfl, hsx, hne, k2⟩ | ⟨hks, rfl, k2⟩
    · have HGR := Lib.hid (show graphRun G nodes out ins = runL (placesF nodes shs) [] ins by unfold graphRun; rw [HR.out]; dsimp only; rw [hks])
      have HKS := Lib.hid hks
      have HN := Lib.hid hne
      obtain ⟨cur, hcs, hm⟩ := make_ssI nodes.length hn w2
      have HO := Lib.hid (World.ownsRow_made (base := w2.heap.size) (e := 38) (size := 1) w2 cur nodes.length (Nat.le_refl _) (by unfold maxLen; omega) hcs)
      have HE := Lib.hid ((Ext.refl w2).alloc (.cells cur 38))
      replace q1 := cell_ext k2 q1
      have hnz : 0 < nodes.length := (checkR_all HR.out).1.1
      have hout := (checkR_all HR.out).1
      have ho1 : 0 ≤ out := hout.2.2.1
      have ho2 : out < (nodes.length : Int) := hout.2.2.2.1
      obtain ⟨io, rfl⟩ : ∃ io : Nat, out = (io : Int) := ⟨out.toNat, by omega⟩
      clear hks hsx hne hcs hout
      go_wp2_with fail
      go_loopw [1, 10, 34] (fun iv kv i wr => ∃ (k : Nat) (vs is : List (List Int)) (Aj : Option Addr) (cj : Nat), vs.length = k ∧ k ≤ nodes.length ∧ i = .int .i64 (k : Int) ∧ iv = .slice Aj is.length cj ∧ Hid (InX w Aj cj is) ∧ Hid (GI w2.heap.size wr kv vs) ∧ Hid (Ext w2 wr) ∧ Hid (Vals vs ks) ∧ Hid ((∀ (j : Nat) (vals : List Int) (p : Pl), vs[j]? = some vals → (placesF nodes shs)[j]? = some p → entN p.s = (vals.length : Int)) ∧ (∀ i ∈ is, i.length ≤ 100000) ∧ is.length ≤ 1000) ∧ Hid (runL (placesF nodes shs) [] ins = runL ((placesF nodes shs).drop k) vs is)) (fun _ _ i _ => nodes.length - (intOf i).toNat)
      case atStart => exact ⟨0, [], ins, Ai, ci, rfl, by omega, rfl, rfl, hI, Lib.hid ⟨[], HO.out, fun j s h => by simp at h⟩, HE, Lib.hid (fun j v q h => by simp at h), Lib.hid ⟨fun j v p h => by simp at h, hil.out, hil2⟩, Lib.hid rfl⟩
      case round =>
        obtain ⟨k, vs, is, Aj, cj, hvk, hk, rfl, rfl, hIX, hV, hE, hW, hL, hP⟩ := hrel
        subst hvk
        by_cases hlt : vs.length < nodes.length
        · obtain ⟨⟨x, s, t⟩, hp⟩ : ∃ p, (placesF nodes shs)[vs.length]? = some p := ⟨_, List.getElem?_eq_getElem (by rw [HPL.out]; omega)⟩
          obtain ⟨ad, rfl, hc⟩ := (HPS.out.ext (k2.trans hE.out)).cells (by rw [HPL.out]; omega)
          obtain ⟨As, Ad, Ab, Ah, At, cs, cd, cb, ch, ct, hpc, hcell⟩ := hc vs.length _ hp
          have HP := Lib.hid hp
          have HPC := Lib.hid hpc
          have h1or8 := HC18.out vs.length _ hp
          dsimp only at hcell HPC h1or8
          have j0 : (0 : Int) ≤ (vs.length : Int) := by omega
          have j1 : (vs.length : Int) < (nodes.length : Int) := by omega
          have hsv : srcV x.k (.agg #[.int .i64 x.k, .int .i64 x.a, .int .i64 x.b, .slice As x.sh.length cs, .int .i64 x.lo, .int .i64 x.hi, .int .i64 x.sz, .slice Ad x.da.length cd, .slice Ab x.bi.length cb, .slice Ah s.length ch, .slice At t.length ct, .nilFunc]) = .nilFunc := by unfold srcV; rcases h1or8 with g | g <;> simp [g]
          rw [hsv] at hcell
          have c0 : wr.cell? (ad.add (vs.length * 12)) = some (.int .i64 x.k) := by have := hcell 0 (.int .i64 x.k) rfl; rw [add0J] at this; exact this
          have c1 : wr.cell? ⟨(ad.add (vs.length * 12)).block, (ad.add (vs.length * 12)).off + 1, none⟩ = some (.int .i64 x.a) := hcell 1 (.int .i64 x.a) rfl
          have c2 : wr.cell? ⟨(ad.add (vs.length * 12)).block, (ad.add (vs.length * 12)).off + 2, none⟩ = some (.int .i64 x.b) := hcell 2 (.int .i64 x.b) rfl
          have c3 : wr.cell? ⟨(ad.add (vs.length * 12)).block, (ad.add (vs.length * 12)).off + 3, none⟩ = some (.slice As x.sh.length cs) := hcell 3 (.slice As x.sh.length cs) rfl
          have c4 : wr.cell? ⟨(ad.add (vs.length * 12)).block, (ad.add (vs.length * 12)).off + 4, none⟩ = some (.int .i64 x.lo) := hcell 4 (.int .i64 x.lo) rfl
          have c5 : wr.cell? ⟨(ad.add (vs.length * 12)).block, (ad.add (vs.length * 12)).off + 5, none⟩ = some (.int .i64 x.hi) := hcell 5 (.int .i64 x.hi) rfl
          have c6 : wr.cell? ⟨(ad.add (vs.length * 12)).block, (ad.add (vs.length * 12)).off + 6, none⟩ = some (.int .i64 x.sz) := hcell 6 (.int .i64 x.sz) rfl
          have c7 : wr.cell? ⟨(ad.add (vs.length * 12)).block, (ad.add (vs.length * 12)).off + 7, none⟩ = some (.slice Ad x.da.length cd) := hcell 7 (.slice Ad x.da.length cd) rfl
          have c8 : wr.cell? ⟨(ad.add (vs.length * 12)).block, (ad.add (vs.length * 12)).off + 8, none⟩ = some (.slice Ab x.bi.length cb) := hcell 8 (.slice Ab x.bi.length cb) rfl
          have c9 : wr.cell? ⟨(ad.add (vs.length * 12)).block, (ad.add (vs.length * 12)).off + 9, none⟩ = some (.slice Ah s.length ch) := hcell 9 (.slice Ah s.length ch) rfl
          have c10 : wr.cell? ⟨(ad.add (vs.length * 12)).block, (ad.add (vs.length * 12)).off + 10, none⟩ = some (.slice At t.length ct) := hcell 10 (.slice At t.length ct) rfl
          have c11 : wr.cell? ⟨(ad.add (vs.length * 12)).block, (ad.add (vs.length * 12)).off + 11, none⟩ = some (.nilFunc) := hcell 11 (.nilFunc) rfl
          clear hcell hc hp hpc hsv
          obtain ⟨y0, y1, y2, y3, y4, y5, y6, y7, y8, y9, y10, y11⟩ := twelve_at wr (.int .i64 x.k) (.int .i64 x.a) (.int .i64 x.b) (.slice As x.sh.length cs) (.int .i64 x.lo) (.int .i64 x.hi) (.int .i64 x.sz) (.slice Ad x.da.length cd) (.slice Ab x.bi.length cb) (.slice Ah s.length ch) (.slice At t.length ct) .nilFunc 77
          have kv : Ext wr (wr.alloc (.cells #[.int .i64 x.k, .int .i64 x.a, .int .i64 x.b, .slice As x.sh.length cs, .int .i64 x.lo, .int .i64 x.hi, .int .i64 x.sz, .slice Ad x.da.length cd, .slice Ab x.bi.length cb, .slice Ah s.length ch, .slice At t.length ct, .nilFunc] 77)) := (Ext.refl wr).alloc _
          by_cases h1 : x.k = 1
          · have hkd : (x.k != 1) = false := by simp [h1]
            have HH1 := Lib.hid h1
            clear h1 h1or8
            go_wp2_with fail
            generalize wr.alloc (.cells #[.int .i64 x.k, .int .i64 x.a, .int .i64 x.b, .slice As x.sh.length cs, .int .i64 x.lo, .int .i64 x.hi, .int .i64 x.sz, .slice Ad x.da.length cd, .slice Ab x.bi.length cb, .slice Ah s.length ch, .slice At t.length ct, .nilFunc] 77) = V at *
            cases is with
            | nil =>
              refine wp_region_held_drew (S := (fun w' => Ext V w')) (by kernel_rfl) ?_ (fun hHeld => ?_)
              · (try dsimp only); repeat (first | exact Ext.refl _ | with_reducible assumption | refine Ext.drew ?_ | refine Ext.drewN ?_ _ | refine Ext.alloc ?_ _)
              refine wpAnyH_take (i := 0) (oi := _) (v := ?_) rfl (by kernel_rfl) (by kernel_rfl) (by kernel_rfl) (fun _ _ _ h => h) (Or.inl ⟨by first | kernel_rfl | rfl, ?_⟩) (by assumption) ?_
              rotate_left
              · (intro wS hSw; (try dsimp only at hSw); have z0 := cell_ext hSw y0; have z1 := cell_ext hSw y1; have z2 := cell_ext hSw y2; have z3 := cell_ext hSw y3; have z4 := cell_ext hSw y4; have z5 := cell_ext hSw y5; have z6 := cell_ext hSw y6; have z7 := cell_ext hSw y7; have z8 := cell_ext hSw y8; have z9 := cell_ext hSw y9; have z10 := cell_ext hSw y10; have z11 := cell_ext hSw y11; (try go_simp); (try with_reducible rfl))
              try simp only [Act.put, s1, s2, s3]
              refine wpAnyH_take (i := 1) (oi := _) (v := ?_) rfl (by kernel_rfl) (by kernel_rfl) (by kernel_rfl) (fun _ _ _ h => h) (Or.inl ⟨by first | kernel_rfl | rfl, ?_⟩) (by assumption) ?_
              rotate_left
              · (intro wS hSw; (try dsimp only at hSw); have z0 := cell_ext hSw y0; have z1 := cell_ext hSw y1; have z2 := cell_ext hSw y2; have z3 := cell_ext hSw y3; have z4 := cell_ext hSw y4; have z5 := cell_ext hSw y5; have z6 := cell_ext hSw y6; have z7 := cell_ext hSw y7; have z8 := cell_ext hSw y8; have z9 := cell_ext hSw y9; have z10 := cell_ext hSw y10; have z11 := cell_ext hSw y11; (try go_simp); (try with_reducible rfl))
              try simp only [Act.put, s1, s2, s3]
              refine wpAnyH_take (i := 2) (oi := _) (v := ?_) rfl (by kernel_rfl) (by kernel_rfl) (by kernel_rfl) (fun _ _ _ h => h) (Or.inl ⟨by first | kernel_rfl | rfl, ?_⟩) (by assumption) ?_
              rotate_left
              · (intro wS hSw; (try dsimp only at hSw); have z0 := cell_ext hSw y0; have z1 := cell_ext hSw y1; have z2 := cell_ext hSw y2; have z3 := cell_ext hSw y3; have z4 := cell_ext hSw y4; have z5 := cell_ext hSw y5; have z6 := cell_ext hSw y6; have z7 := cell_ext hSw y7; have z8 := cell_ext hSw y8; have z9 := cell_ext hSw y9; have z10 := cell_ext hSw y10; have z11 := cell_ext hSw y11; (try go_simp); (try with_reducible rfl))
              try simp only [Act.put, s1, s2, s3]
              refine wpAnyH_take (i := 3) (oi := _) (v := ?_) rfl (by kernel_rfl) (by kernel_rfl) (by kernel_rfl) (fun _ _ _ h => h) (Or.inl ⟨by first | kernel_rfl | rfl, ?_⟩) (by assumption) ?_
              rotate_left
              · (intro wS hSw; (try dsimp only at hSw); have z0 := cell_ext hSw y0; have z1 := cell_ext hSw y1; have z2 := cell_ext hSw y2; have z3 := cell_ext hSw y3; have z4 := cell_ext hSw y4; have z5 := cell_ext hSw y5; have z6 := cell_ext hSw y6; have z7 := cell_ext hSw y7; have z8 := cell_ext hSw y8; have z9 := cell_ext hSw y9; have z10 := cell_ext hSw y10; have z11 := cell_ext hSw y11; (try go_simp); (try with_reducible rfl))
              try simp only [Act.put, s1, s2, s3]
              refine wpAnyH_take (i := 4) (oi := _) (v := undef) rfl (by kernel_rfl) (by kernel_rfl) (by kernel_rfl) (fun _ _ _ h => h) (Or.inr ⟨by kernel_rfl, rfl⟩) (by assumption) ?_
              try simp only [Act.put, s1, s2, s3]
              refine wpAnyH_take (i := 5) (oi := _) (v := undef) rfl (by kernel_rfl) (by kernel_rfl) (by kernel_rfl) (fun _ _ _ h => h) (Or.inr ⟨by kernel_rfl, rfl⟩) (by assumption) ?_
              try simp only [Act.put, s1, s2, s3]
              refine wpAnyH_take (i := 6) (oi := _) (v := undef) rfl (by kernel_rfl) (by kernel_rfl) (by kernel_rfl) (fun _ _ _ h => h) (Or.inr ⟨by kernel_rfl, rfl⟩) (by assumption) ?_
              try simp only [Act.put, s1, s2, s3]
              refine wpAnyH_take (i := 7) (oi := _) (v := undef) rfl (by kernel_rfl) (by kernel_rfl) (by kernel_rfl) (fun _ _ _ h => h) (Or.inr ⟨by kernel_rfl, rfl⟩) (by assumption) ?_
              try simp only [Act.put, s1, s2, s3]
              refine wpAnyH_take (i := 8) (oi := _) (v := undef) rfl (by kernel_rfl) (by kernel_rfl) (by kernel_rfl) (fun _ _ _ h => h) (Or.inr ⟨by kernel_rfl, rfl⟩) (by assumption) ?_
              try simp only [Act.put, s1, s2, s3]
              refine wpAnyH_take (i := 9) (oi := _) (v := undef) rfl (by kernel_rfl) (by kernel_rfl) (by kernel_rfl) (fun _ _ _ h => h) (Or.inr ⟨by kernel_rfl, rfl⟩) (by assumption) ?_
              try simp only [Act.put, s1, s2, s3]
              refine wpAnyH_ready (rs := [10]) (by kernel_rfl) (by simp) ?_
              refine AllReadyH.cons rfl (fun KQ hKQ => ?_) AllReadyH.nil
              go_simp
              refine hKQ.out _ _ ?_ (fun hHeld => ?_)
              · (try dsimp only); repeat (first | exact Ext.refl _ | with_reducible assumption | refine Ext.drew ?_ | refine Ext.drewN ?_ _ | refine Ext.alloc ?_ _)
              clear hKQ KQ
              try simp only [Act.put, s1, s2, s3]
              refine wpAnyH_done (by kernel_rfl) ?_ _
              go_wp2
              go_ret2
              exact .inr ⟨12, by rw [HGR.out, hP.out, drop_at2 HP.out, runL, if_pos HH1.out], by omega, rfl, (HK.out.trans (k2.trans hE.out)).trans (by first | exact kv | exact Ext.drew kv)⟩
            | cons i is =>
              obtain ⟨ai, rfl, hic⟩ := hIX.out.cells (by simp)
              obtain ⟨B, d, dz, hzi, hti⟩ := hic 0 i rfl
              have kw : Ext w V := HK.out.trans (k2.trans (hE.out.trans kv))
              have dz := cell_ext kw dz
              rw [add0J] at dz
              have HZI := Lib.hid (hzi.ext (HK.out.trans (k2.trans hE.out)))
              have HTI := Lib.hid (hti.ext (HK.out.trans (k2.trans hE.out)))
              have hli : i.length ≤ 100000 := hL.out.2.1 i (by simp)
              obtain ⟨b, hb⟩ : ∃ b, (decide ((i.length : Int) = entN s) && inB x.lo x.hi i) = b := ⟨_, rfl⟩
              have HB := Lib.hid hb
              have l0 : (0 : Int) < ((i :: is).length : Int) := by simp
              have hne0 : ((is.length : Int) + 1 == 0) = false := by simp; omega
              clear hb hic hzi hti kw
              refine wp_region_held_drew (S := (fun w' => Ext V w')) (by kernel_rfl) ?_ (fun hHeld => ?_)
              · (try dsimp only); repeat (first | exact Ext.refl _ | with_reducible assumption | refine Ext.drew ?_ | refine Ext.drewN ?_ _ | refine Ext.alloc ?_ _)
              refine wpAnyH_take (i := 0) (oi := _) (v := ?_) rfl (by kernel_rfl) (by kernel_rfl) (by kernel_rfl) (fun _ _ _ h => h) (Or.inl ⟨by first | kernel_rfl | rfl, ?_⟩) (by assumption) ?_
              rotate_left
              · (intro wS hSw; (try dsimp only at hSw); have z0 := cell_ext hSw y0; have z1 := cell_ext hSw y1; have z2 := cell_ext hSw y2; have z3 := cell_ext hSw y3; have z4 := cell_ext hSw y4; have z5 := cell_ext hSw y5; have z6 := cell_ext hSw y6; have z7 := cell_ext hSw y7; have z8 := cell_ext hSw y8; have z9 := cell_ext hSw y9; have z10 := cell_ext hSw y10; have z11 := cell_ext hSw y11; have z12 := cell_ext hSw dz; (try go_simp); (try with_reducible rfl))
              try simp only [Act.put, s1, s2, s3]
              refine wpAnyH_take (i := 1) (oi := _) (v := ?_) rfl (by kernel_rfl) (by kernel_rfl) (by kernel_rfl) (fun _ _ _ h => h) (Or.inl ⟨by first | kernel_rfl | rfl, ?_⟩) (by assumption) ?_
              rotate_left
              · (intro wS hSw; (try dsimp only at hSw); have z0 := cell_ext hSw y0; have z1 := cell_ext hSw y1; have z2 := cell_ext hSw y2; have z3 := cell_ext hSw y3; have z4 := cell_ext hSw y4; have z5 := cell_ext hSw y5; have z6 := cell_ext hSw y6; have z7 := cell_ext hSw y7; have z8 := cell_ext hSw y8; have z9 := cell_ext hSw y9; have z10 := cell_ext hSw y10; have z11 := cell_ext hSw y11; have z12 := cell_ext hSw dz; (try go_simp); (try with_reducible rfl))
              try simp only [Act.put, s1, s2, s3]
              refine wpAnyH_take (i := 2) (oi := _) (v := ?_) rfl (by kernel_rfl) (by kernel_rfl) (by kernel_rfl) (fun _ _ _ h => h) (Or.inl ⟨by first | kernel_rfl | rfl, ?_⟩) (by assumption) ?_
              rotate_left
              · (intro wS hSw; (try dsimp only at hSw); have z0 := cell_ext hSw y0; have z1 := cell_ext hSw y1; have z2 := cell_ext hSw y2; have z3 := cell_ext hSw y3; have z4 := cell_ext hSw y4; have z5 := cell_ext hSw y5; have z6 := cell_ext hSw y6; have z7 := cell_ext hSw y7; have z8 := cell_ext hSw y8; have z9 := cell_ext hSw y9; have z10 := cell_ext hSw y10; have z11 := cell_ext hSw y11; have z12 := cell_ext hSw dz; (try go_simp); (try with_reducible rfl))
              try simp only [Act.put, s1, s2, s3]
              refine wpAnyH_take (i := 3) (oi := _) (v := ?_) rfl (by kernel_rfl) (by kernel_rfl) (by kernel_rfl) (fun _ _ _ h => h) (Or.inl ⟨by first | kernel_rfl | rfl, ?_⟩) (by assumption) ?_
              rotate_left
              · (intro wS hSw; (try dsimp only at hSw); have z0 := cell_ext hSw y0; have z1 := cell_ext hSw y1; have z2 := cell_ext hSw y2; have z3 := cell_ext hSw y3; have z4 := cell_ext hSw y4; have z5 := cell_ext hSw y5; have z6 := cell_ext hSw y6; have z7 := cell_ext hSw y7; have z8 := cell_ext hSw y8; have z9 := cell_ext hSw y9; have z10 := cell_ext hSw y10; have z11 := cell_ext hSw y11; have z12 := cell_ext hSw dz; (try go_simp); (try with_reducible rfl))
              try simp only [Act.put, s1, s2, s3]
              refine wpAnyH_take (i := 4) (oi := _) (v := ?_) rfl (by kernel_rfl) (by kernel_rfl) (by kernel_rfl) (fun _ _ _ h => h) (Or.inl ⟨by first | kernel_rfl | rfl, ?_⟩) (by assumption) ?_
              rotate_left
              · (intro wS hSw; (try dsimp only at hSw); have z0 := cell_ext hSw y0; have z1 := cell_ext hSw y1; have z2 := cell_ext hSw y2; have z3 := cell_ext hSw y3; have z4 := cell_ext hSw y4; have z5 := cell_ext hSw y5; have z6 := cell_ext hSw y6; have z7 := cell_ext hSw y7; have z8 := cell_ext hSw y8; have z9 := cell_ext hSw y9; have z10 := cell_ext hSw y10; have z11 := cell_ext hSw y11; have z12 := cell_ext hSw dz; (try go_simp); (try with_reducible rfl))
              try simp only [Act.put, s1, s2, s3]
              refine wpAnyH_take (i := 5) (oi := _) (v := ?_) rfl (by kernel_rfl) (by kernel_rfl) (by kernel_rfl) (fun _ _ _ h => h) (Or.inl ⟨by first | kernel_rfl | rfl, ?_⟩) (by assumption) ?_
              rotate_left
              · (intro wS hSw; (try dsimp only at hSw); have z0 := cell_ext hSw y0; have z1 := cell_ext hSw y1; have z2 := cell_ext hSw y2; have z3 := cell_ext hSw y3; have z4 := cell_ext hSw y4; have z5 := cell_ext hSw y5; have z6 := cell_ext hSw y6; have z7 := cell_ext hSw y7; have z8 := cell_ext hSw y8; have z9 := cell_ext hSw y9; have z10 := cell_ext hSw y10; have z11 := cell_ext hSw y11; have z12 := cell_ext hSw dz; (try go_simp); (try with_reducible rfl))
              try simp only [Act.put, s1, s2, s3]
              refine wpAnyH_take (i := 6) (oi := _) (v := ?_) rfl (by kernel_rfl) (by kernel_rfl) (by kernel_rfl) (fun _ _ _ h => h) (Or.inl ⟨by first | kernel_rfl | rfl, ?_⟩) (by assumption) ?_
              rotate_left
              · (intro wS hSw; (try dsimp only at hSw); have z0 := cell_ext hSw y0; have z1 := cell_ext hSw y1; have z2 := cell_ext hSw y2; have z3 := cell_ext hSw y3; have z4 := cell_ext hSw y4; have z5 := cell_ext hSw y5; have z6 := cell_ext hSw y6; have z7 := cell_ext hSw y7; have z8 := cell_ext hSw y8; have z9 := cell_ext hSw y9; have z10 := cell_ext hSw y10; have z11 := cell_ext hSw y11; have z12 := cell_ext hSw dz; (try go_simp); (try with_reducible rfl))
              try simp only [Act.put, s1, s2, s3]
              refine wpAnyH_take (i := 7) (oi := _) (v := ?_) rfl (by kernel_rfl) (by kernel_rfl) (by kernel_rfl) (fun _ _ _ h => h) (Or.inl ⟨by first | kernel_rfl | rfl, ?_⟩) (by assumption) ?_
              rotate_left
              · (intro wS hSw; (try dsimp only at hSw); have z0 := cell_ext hSw y0; have z1 := cell_ext hSw y1; have z2 := cell_ext hSw y2; have z3 := cell_ext hSw y3; have z4 := cell_ext hSw y4; have z5 := cell_ext hSw y5; have z6 := cell_ext hSw y6; have z7 := cell_ext hSw y7; have z8 := cell_ext hSw y8; have z9 := cell_ext hSw y9; have z10 := cell_ext hSw y10; have z11 := cell_ext hSw y11; have z12 := cell_ext hSw dz; (try go_simp); (try with_reducible rfl))
              try simp only [Act.put, s1, s2, s3]
              refine wpAnyH_ready (rs := [8]) (by kernel_rfl) (by simp) ?_
              refine AllReadyH.cons rfl (fun KQ hKQ => ?_) AllReadyH.nil
              go_simp
              (refine (takes_any x As Ad Ab Ah At cs cd cb ch ct s t .nilFunc B i.length d i _ (Lib.hid (HPC.out.ext (kv.trans (by repeat (first | exact Ext.refl _ | with_reducible assumption | refine Ext.drew ?_ | refine Ext.drewN ?_ _ | refine Ext.alloc ?_ _))))) (Lib.hid (HZI.out.ext (kv.trans (by repeat (first | exact Ext.refl _ | with_reducible assumption | refine Ext.drew ?_ | refine Ext.drewN ?_ _ | refine Ext.alloc ?_ _))))) hli).mono ?_; rw [HB.out]; rintro e5 w5 ⟨rfl, kc⟩; replace kc : Ext V w5 := Ext.trans (by repeat (first | exact Ext.refl _ | with_reducible assumption | refine Ext.drew ?_ | refine Ext.drewN ?_ _ | refine Ext.alloc ?_ _)) kc)
              refine hKQ.out _ _ ?_ (fun hHeld => ?_)
              · (try dsimp only); repeat (first | exact Ext.refl _ | with_reducible assumption | refine Ext.drew ?_ | refine Ext.drewN ?_ _ | refine Ext.alloc ?_ _)
              clear hKQ KQ
              try simp only [Act.put, s1, s2, s3]
              refine wpAnyH_take (i := 9) (oi := _) (v := ?_) rfl (by kernel_rfl) (by kernel_rfl) (by kernel_rfl) (fun _ _ _ h => h) (Or.inl ⟨by first | kernel_rfl | rfl, ?_⟩) (by assumption) ?_
              rotate_left
              · (intro wS hSw; (try dsimp only at hSw); have z0 := cell_ext hSw y0; have z1 := cell_ext hSw y1; have z2 := cell_ext hSw y2; have z3 := cell_ext hSw y3; have z4 := cell_ext hSw y4; have z5 := cell_ext hSw y5; have z6 := cell_ext hSw y6; have z7 := cell_ext hSw y7; have z8 := cell_ext hSw y8; have z9 := cell_ext hSw y9; have z10 := cell_ext hSw y10; have z11 := cell_ext hSw y11; have z12 := cell_ext hSw dz; (try go_simp); (try with_reducible rfl))
              try simp only [Act.put, s1, s2, s3]
              refine wpAnyH_ready (rs := [10]) (by kernel_rfl) (by simp) ?_
              refine AllReadyH.cons rfl (fun KQ hKQ => ?_) AllReadyH.nil
              go_simp
              refine hKQ.out _ _ ?_ (fun hHeld => ?_)
              · (try dsimp only); repeat (first | exact Ext.refl _ | with_reducible assumption | refine Ext.drew ?_ | refine Ext.drewN ?_ _ | refine Ext.alloc ?_ _)
              clear hKQ KQ
              try simp only [Act.put, s1, s2, s3]
              refine wpAnyH_done (by kernel_rfl) ?_ _
              cases b with
              | true =>
                have hW5 := kc.size
                obtain ⟨us, ho9, hu9⟩ := (hV.out.ext (kv.trans kc))
                have HO9 := Lib.hid ho9
                have hsz9 := (hE.out.trans (kv.trans kc)).size
                have kc9 := kv.trans kc
                have dz5 := cell_ext kc dz
                go_wp2_with (at_builtin; go_loud (refine wpList_append_own _ rfl _ _ 31 rfl w2.heap.size 38 i0' (.slice none 0 0) 1 24 Try.underlying31 hii hz0 hz1 hz2 rfl (by decide) _ _ _ rfl (HO9.out.alloc _) ⟨_, 0, none⟩ 1 1 [.slice B i.length d] rfl rfl (one_atI rfl) one_sliceI (by unfold maxLen; omega) (by omega) (by simp; omega) ?_; intro v3 w4 hown3 hgrow3 _))
                refine ⟨⟨vs.length + 1, vs ++ [i], is, _, _, by simp, by omega, by go_num, rfl, Lib.hid (InX.tail2 (hIX.out)), Lib.hid ?_, Lib.hid (ext_grown ((hE.out.trans kc9).alloc _) (ho9.alloc _) (Nat.le_refl _) hgrow3), Lib.hid ?_, Lib.hid ?_, Lib.hid ?_⟩, by simp [intOf]; omega⟩
                · exact GI.push (ho9.alloc _) (fun j u hj => by obtain ⟨A', d', e1, e2, e3⟩ := hu9 j u hj; exact ⟨A', d', e1, e2.ext ((Ext.refl _).alloc _), e3.ext ((Ext.refl _).alloc _)⟩) ((HZI.out.ext kc9).ext ((Ext.refl _).alloc _)) ((HTI.out.ext kc9).ext ((Ext.refl _).alloc _)) hown3 hgrow3
                · intro j vals q hj hq z hz
                  rcases snoc_at hj with ⟨g, hj'⟩ | ⟨rfl, rfl⟩
                  · exact hW.out j vals q hj' hq z hz
                  · have hks := (spans_all G (placesF nodes shs) [] ks HKS.out).2 vs.length _ HP.out
                    rw [List.length_nil, Nat.zero_add] at hks
                    rw [hks] at hq
                    injection hq with hq
                    subst hq
                    unfold spG
                    rw [if_pos HH1.out]
                    have hb := HB.out
                    rw [Bool.and_eq_true] at hb
                    exact inB_all hb.2 z hz
                · refine ⟨fun j vals p hj hp => ?_, fun i' hi' => hL.out.2.1 i' (List.mem_cons_of_mem _ hi'), by have := hL.out.2.2; simp at this; omega⟩
                  rcases snoc_at hj with ⟨g, hj'⟩ | ⟨rfl, rfl⟩
                  · exact hL.out.1 j vals p hj' hp
                  · rw [HP.out] at hp
                    injection hp with hp
                    subst hp
                    have hb := HB.out
                    rw [Bool.and_eq_true, decide_eq_true_eq] at hb
                    exact hb.1.symm
                · rw [hP.out, drop_at2 HP.out, runL, if_pos HH1.out]
                  simp only [HB.out, if_true]
              | false =>
                go_wp2
                go_ret2
                exact .inr ⟨12, by rw [HGR.out, hP.out, drop_at2 HP.out, runL, if_pos HH1.out]; simp only [HB.out]; rfl, by omega, rfl, (HK.out.trans (k2.trans hE.out)).trans (kv.trans kc)⟩
          ·
            obtain ⟨Ak, ck, rfl, hsx⟩ := GI.sx hV.out
            have HSX := Lib.hid (hsx.ext kv)
            have h8 : x.k = 8 := by rcases h1or8 with g | g; exact absurd g h1; exact g
            have HH1 := Lib.hid (And.intro h1 h8)
            obtain ⟨ia, pa, hia, hial, hpa, hps⟩ := plshape_of HR.out HP.out h8
            obtain ⟨⟨c0', c1', c2', hda', e0', e1', e2'⟩, _⟩ := (plok_of HR.out HP.out).2 h8
            dsimp only at hia hps hda'
            obtain ⟨vals, hvals⟩ : ∃ vals, vs[ia]? = some vals := ⟨_, List.getElem?_eq_getElem hial⟩
            have hva := Lib.hid hvals
            have hda := Lib.hid hda'
            have HIA := Lib.hid hia
            have hlv := hL.out.1 ia vals pa hvals hpa
            rw [hps] at hlv
            have HLV := Lib.hid hlv
            have hkl : ks.length = nodes.length := by
              obtain ⟨more, e, hl⟩ := (spans_all G (placesF nodes shs) [] ks HKS.out).1
              rw [e, List.nil_append, hl, HPL.out]
            obtain ⟨kq, hkq⟩ : ∃ q, ks[ia]? = some q := ⟨_, List.getElem?_eq_getElem (by omega)⟩
            have HKQ := Lib.hid hkq
            have hnq := HN.out kq (List.mem_of_getElem? hkq)
            have HWI := Lib.hid (show ∀ y ∈ vals, kq.1 ≤ y ∧ y ≤ kq.2 from hW.out ia vals kq hvals hkq)
            have hkd : (x.k != 1) = true := by simp [h1]
            have HNU := Lib.hid (numbers8_any x As Ad Ab Ah At cs cd cb ch ct s t .nilFunc Ak ck vs vals _ (Lib.hid (HPC.out.ext kv)) HSX (Lib.hid h8) ia hia hva HLV (by omega) c0' c1' c2' hda ⟨e0', e1', e2'⟩ (Lib.hid fun z hz => by
              obtain ⟨a1, a2⟩ := hnq
              obtain ⟨b1, b2⟩ := HWI.out z hz
              obtain ⟨d1, d2⟩ := a1
              obtain ⟨f1, f2⟩ := a2
              exact ⟨by omega, by omega⟩))
            clear hsx h1 h8 h1or8 hia hpa hps hda' e0' e1' e2' hvals hlv hkl hkq hnq
            go_wp2_with fail
            refine HNU.out.mono ?_
            rintro e5 w5 ⟨A5, n5, c5, rfl, h5z, h5t, h5f, k5⟩
            obtain ⟨nv, hnv⟩ : ∃ nv, nv = vals.map (pwF x.da) := ⟨_, rfl⟩
            rw [← hnv] at h5z
            have HNV := Lib.hid hnv
            clear hnv
            have hn5 := h5z.len
            subst hn5
            have kc9 := kv.trans k5
            obtain ⟨us, ho9, hu9⟩ := (hV.out.ext kc9)
            have HO9 := Lib.hid ho9
            have hsz9 := (hE.out.trans kc9).size
            clear HNU
            go_wp2_with (at_builtin; go_loud (refine wpList_append_own _ rfl _ _ 31 rfl w2.heap.size 38 i0' (.slice none 0 0) 1 24 Try.underlying31 hii hz0 hz1 hz2 rfl (by decide) _ _ _ rfl (HO9.out.alloc _) ⟨_, 0, none⟩ 1 1 [.slice A5 nv.length c5] rfl rfl (one_atI rfl) one_sliceI (by unfold maxLen; omega) (by omega) (by simp; omega) ?_; intro v3 w4 hown3 hgrow3 _))
            refine ⟨⟨vs.length + 1, vs ++ [nv], is, Aj, cj, by simp, by omega, by go_num, rfl, hIX, Lib.hid ?_, Lib.hid (ext_grown ((hE.out.trans kc9).alloc _) (ho9.alloc _) (Nat.le_refl _) hgrow3), Lib.hid ?_, Lib.hid ?_, Lib.hid ?_⟩, by simp [intOf]; omega⟩
            · exact GI.push (ho9.alloc _) (fun j u hj => by obtain ⟨A', d', e1, e2, e3⟩ := hu9 j u hj; exact ⟨A', d', e1, e2.ext ((Ext.refl _).alloc _), e3.ext ((Ext.refl _).alloc _)⟩) (h5z.ext ((Ext.refl _).alloc _)) (h5t.ext ((Ext.refl _).alloc _)) hown3 hgrow3
            · intro j vals q hj hq z hz
              rcases snoc_at hj with ⟨g, hj'⟩ | ⟨rfl, rfl⟩
              · exact hW.out j vals q hj' hq z hz
              · have hks := (spans_all G (placesF nodes shs) [] ks HKS.out).2 vs.length _ HP.out
                rw [List.length_nil, Nat.zero_add] at hks
                rw [hks] at hq
                injection hq with hq
                subst hq
                unfold spG
                rw [if_neg HH1.out.1, if_pos HH1.out.2, HIA.out, Int.toNat_natCast, List.getD_eq_getElem?_getD, List.getElem?_take_of_lt hial, HKQ.out]
                dsimp only [Option.getD_some]
                rw [HNV.out] at hz
                obtain ⟨y, hy, rfl⟩ := List.mem_map.1 hz
                obtain ⟨hy1, hy2⟩ := HWI.out y hy
                exact bend_within hda.out hy1 hy2
            · refine ⟨fun j vals p hj hp => ?_, hL.out.2.1, hL.out.2.2⟩
              rcases snoc_at hj with ⟨g, hj'⟩ | ⟨rfl, rfl⟩
              · exact hL.out.1 j vals p hj' hp
              · rw [HP.out] at hp
                injection hp with hp
                subst hp
                rw [HNV.out, List.length_map]
                exact HLV.out
            · rw [hP.out, drop_at2 HP.out, runL.eq_def]
              dsimp only
              rw [if_neg HH1.out.1, HIA.out, Int.toNat_natCast, List.getD_eq_getElem?_getD, hva.out, HNV.out]
              rfl
        · have hkn : vs.length = nodes.length := by omega
          cases is with
          | cons i is =>
            have l0 : (0 : Int) < ((i :: is).length : Int) := by simp
            have l1 : (0 : Int) < (is.length : Int) + 1 := by omega
            go_wp2
            go_ret2
            exact .inr ⟨12, by rw [HGR.out, hP.out, List.drop_eq_nil_of_le (by rw [HPL.out]; omega)]; rfl, by omega, rfl, HK.out.trans (k2.trans hE.out)⟩
          | nil =>
            obtain ⟨Ak, ck, rfl, hsx⟩ := GI.sx hV.out
            obtain ⟨adk, rfl, hkc⟩ := hsx.cells (by omega)
            obtain ⟨sv, hsv⟩ : ∃ sv, vs[io]? = some sv := ⟨_, List.getElem?_eq_getElem (by omega)⟩
            obtain ⟨B, d, dk, hzk⟩ := hkc io sv hsv
            have HZK := Lib.hid hzk
            have HSV := Lib.hid hsv
            have hsl : sv.length ≤ 100000 := by
              obtain ⟨p, hp⟩ : ∃ p, (placesF nodes shs)[io]? = some p := ⟨_, List.getElem?_eq_getElem (by rw [HPL.out]; omega)⟩
              have := hL.out.1 io sv p hsv hp
              have := entN_le p.s
              omega
            have q1 := cell_ext hE.out q1
            have i0 : (0 : Int) ≤ (io : Int) := by omega
            have i1 : (io : Int) < (vs.length : Int) := by omega
            have HRR := Lib.hid (show graphRun G nodes (io : Int) ins = .ok vs by rw [HGR.out, hP.out, List.drop_eq_nil_of_le (by rw [HPL.out]; omega)]; rfl)
            clear hkc hzk hsv hsx
            go_wp2_with fail
            refine (clone_any B sv.length d sv _ HZK hsl).mono ?_
            rintro e5 w5 ⟨A5, c5, rfl, h51, h52, h53⟩
            have H51 := Lib.hid h51
            clear h51 h52
            go_wp2
            go_ret2
            exact .inl ⟨vs, A5, _, c5, HRR.out, rfl, by rw [Int.toNat_natCast, List.getD_eq_getElem?_getD, HSV.out]; exact H51.out, (HK.out.trans (k2.trans hE.out)).trans h53⟩
    · have HKS := Lib.hid (show graphRun G nodes out ins = .error 5 by unfold graphRun; rw [HR.out]; dsimp only; rw [hks])
      clear hks
      go_wp2
      go_ret2
      exact .inr ⟨5, HKS.out, by omega, rfl, HK.out.trans k2⟩
  · have he : ¬ (er : Int) = 0 := by omega
    have HR := Lib.hid (show graphRun G nodes out ins = .error er by unfold graphRun; rw [hr])
    clear hr
    go_wp2
    go_ret2
    exact .inr ⟨er, HR.out, by omega, rfl, k0.trans k1⟩
end Go.Proofs.Ytjeipbahddhfgaa
