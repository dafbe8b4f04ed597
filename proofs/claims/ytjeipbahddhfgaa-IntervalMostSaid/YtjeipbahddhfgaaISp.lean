/-
  The spans of a graph's places.
-/
import Derived.Test.YtjeipbahddhfgaaIPo
namespace Go.Proofs.Ytjeipbahddhfgaa
open Go.RowKit
set_option linter.unusedVariables false
set_option maxRecDepth 100000

/-- A place's span, of those ahead; G tells those of sums. -/
def spG (G : Pl → List (Int × Int) → Int × Int) (p : Pl) (ks : List (Int × Int)) : Int × Int :=
  if p.x.k = 1 then (p.x.lo, p.x.hi) else
  if p.x.k = 8 then aroundF (bendsF p.x.da (ks.getD p.x.a.toNat (0, 0)).1 (ks.getD p.x.a.toNat (0, 0)).2) else G p ks
/-- Both ends within MaxValue. -/
def nearS (q : Int × Int) : Bool := (decide (-1048576 ≤ q.1) && decide (q.1 ≤ 1048576)) && (decide (-1048576 ≤ q.2) && decide (q.2 ≤ 1048576))
/-- All spans, or ErrRange. -/
def spansR (G : Pl → List (Int × Int) → Int × Int) : List Pl → List (Int × Int) → Except Nat (List (Int × Int))
  | [], ks => .ok ks
  | p :: r, ks => if nearS (spG G p ks) then spansR G r (ks ++ [spG G p ks]) else .error 5
/-- What is known of the place that stands behind j others. -/
def PlOk (p : Pl) (j : Nat) : Prop :=
  (p.x.k = 1 → In20 p.x.lo ∧ In20 p.x.hi) ∧ (p.x.k = 8 → (∃ c0 c1 c2, p.x.da = [c0, c1, c2] ∧ In20 c0 ∧ In20 c1 ∧ In20 c2) ∧ ∃ i : Nat, p.x.a = (i : Int) ∧ i < j)
def Near (ks : List (Int × Int)) : Prop := ∀ q ∈ ks, In20 q.1 ∧ In20 q.2
/-- A sum's span is as G tells. -/
def SumOk (G : Pl → List (Int × Int) → Int × Int) (p : Pl) (j : Nat) : Prop :=
  ∀ (As Ad Ab Ah At : Option Addr) (cs cd cb ch ct : Nat) (Ak : Option Addr) (ck : Nat) (ks : List (Int × Int)) (w : World), Hid (PcX w p.x As Ad Ab Ah At cs cd cb ch ct p.s p.t) → Hid (SpX w Ak ck ks) → ks.length = j → Hid (Near ks) →
    (EndOk (G p ks).1 ∧ EndOk (G p ks).2) ∧ Calls Try.prog 90 #[.agg #[.int .i64 p.x.k, .int .i64 p.x.a, .int .i64 p.x.b, .slice As p.x.sh.length cs, .int .i64 p.x.lo, .int .i64 p.x.hi, .int .i64 p.x.sz, .slice Ad p.x.da.length cd, .slice Ab p.x.bi.length cb, .slice Ah p.s.length ch, .slice At p.t.length ct, srcV p.x.k (.agg #[.int .i64 p.x.k, .int .i64 p.x.a, .int .i64 p.x.b, .slice As p.x.sh.length cs, .int .i64 p.x.lo, .int .i64 p.x.hi, .int .i64 p.x.sz, .slice Ad p.x.da.length cd, .slice Ab p.x.bi.length cb, .slice Ah p.s.length ch, .slice At p.t.length ct, .nilFunc])], .slice Ak ks.length ck] w fun e w' => e = .returned (.agg #[.int .i64 (G p ks).1, .int .i64 (G p ks).2]) ∧ Ext w w'
theorem near_spG {q : Int × Int} (h : nearS q = true) : In20 q.1 ∧ In20 q.2 := by
  simp [nearS] at h
  exact ⟨h.1, h.2⟩
/-- Spans as cells. -/
def spv (ks : List (Int × Int)) : List Value := ks.flatMap fun q => [.int .i64 q.1, .int .i64 q.2]
theorem spv_snoc (ks : List (Int × Int)) (q : Int × Int) : spv (ks ++ [q]) = spv ks ++ [.int .i64 q.1, .int .i64 q.2] := by simp [spv]
theorem spv_at : ∀ (ks : List (Int × Int)) (j : Nat) (q : Int × Int), ks[j]? = some q → (spv ks)[j * 2]? = some (.int .i64 q.1) ∧ (spv ks)[j * 2 + 1]? = some (.int .i64 q.2)
  | [], j, q, h => by simp at h
  | p :: r, 0, q, h => by simp at h; subst h; exact ⟨rfl, rfl⟩
  | p :: r, j + 1, q, h => by
    simp at h
    obtain ⟨h1, h2⟩ := spv_at r j q h
    have e : spv (p :: r) = .int .i64 p.1 :: .int .i64 p.2 :: spv r := rfl
    rw [e, show (j + 1) * 2 = j * 2 + 1 + 1 by omega, show j * 2 + 1 + 1 + 1 = (j * 2 + 1) + 1 + 1 by omega]
    exact ⟨by simpa using h1, by simpa using h2⟩
theorem sp_of_own {w : World} {B : Nat} {v : Value} {ks : List (Int × Int)} (h : w.ownsRow B 53 2 v ks.length (spv ks)) : ∃ A c, v = .slice A ks.length c ∧ SpX w A c ks := by
  have h' := h
  rcases h.2 with ⟨rfl, e⟩ | ⟨g, cap, cur, rfl, hg, hh, hle, _⟩
  · exact ⟨none, 0, by rw [e], ⟨by omega, fun hn => by omega⟩⟩
  · refine ⟨_, cap, rfl, ⟨hle, fun hn => ⟨_, rfl, fun j q hq => ?_⟩⟩⟩
    obtain ⟨h1, h2⟩ := spv_at ks j q hq
    have g1 := World.ownsRow.cells (g := g) h' rfl _ _ h1
    have g2 := World.ownsRow.cells (g := g) h' rfl _ _ h2
    rw [Addr.add_lit] at g1 g2
    rw [Addr.add_lit]
    exact ⟨g1, by rw [← g2]; congr 2⟩
theorem sp_one (w : World) (a b : Int) : SpX (w.alloc (.cells #[.int .i64 a, .int .i64 b] 53)) (some ⟨w.heap.size, 0, none⟩) 1 [(a, b)] :=
  ⟨Nat.le_refl _, fun _ => ⟨_, rfl, fun j q hq => by
    rcases j with _ | j
    · simp at hq
      subst hq
      rw [Nat.zero_mul, Addr.add_lit]
      exact ⟨two_atJ0 _ _ _ _, two_atJ1 _ _ _ _⟩
    · simp at hq⟩⟩
theorem two_cellJ {w : World} {u v : Value} {t : TypeId} : ∀ (j : Nat) (x : Value), [u, v][j]? = some x → (w.alloc (.cells #[u, v] t)).cell? ((⟨w.heap.size, 0, none⟩ : Addr).add j) = some x := by
  intro j x hx
  rcases j with _ | _ | j
  · simp at hx; subst hx; simp [Addr.add]
  · simp at hx; subst hx; simp [Addr.add]
  · simp at hx
theorem two_intZ {a b : Int} : ∀ u ∈ [Value.int .i64 a, Value.int .i64 b], u.oneCell' = true := by
  intro u hu; simp at hu; rcases hu with rfl | rfl <;> rfl
theorem info_spI : (Try.prog.info? 53).map (fun i => (i.zero, i.size, i.bytes)) = some (some (.agg #[.int .i64 0, .int .i64 0]), 2, 16) := by kernel_rfl
theorem make_spI (c : Nat) (hc : c ≤ 1000) (w : World) : ∃ cur : Array Value, cur.size = c * 2 ∧
    (Instr.makeSlice 43 (.int .i64 0) (.int .i64 (c : Int))).run Try.prog w = .ok (.slice (some ⟨w.heap.size, 0, none⟩) 0 c) (w.alloc (.cells cur 53)) := by
  obtain ⟨i0, hi, hz0, hz1, hz2⟩ := info_partsJ info_spI
  have hr := run_make (P := Try.prog) w 43 53 i0 (.agg #[.int .i64 0, .int .i64 0]) Try.underlying43 hi hz0 .i64 .i64 0 (c : Int) (by omega) (by omega) (by rw [hz2]; omega) (by omega)
  rw [hz1] at hr
  simp only [Int.toNat_natCast] at hr
  exact ⟨_, by simp [size_madeCells], hr⟩
theorem most_one (q : Int × Int) : (1048576 < mostF [q] 0) ↔ nearS q = false := by
  show 1048576 < max (max 0 (max q.1 (-q.1))) (max q.2 (-q.2)) ↔ _
  simp only [nearS]
  constructor
  · intro h
    simp only [Bool.and_eq_false_iff, decide_eq_false_iff_not]
    omega
  · intro h
    simp only [Bool.and_eq_false_iff, decide_eq_false_iff_not] at h
    omega
/-- What spansOf answers. -/
def SpPost (w : World) (r : Except Nat (List (Int × Int))) (e : Ending) (w' : World) : Prop :=
  (∃ ks A c, r = .ok ks ∧ e = .returned (.tuple #[.slice A ks.length c, .int .i64 0]) ∧ SpX w' A c ks ∧ Near ks ∧ Ext w w') ∨ (r = .error 5 ∧ e = .returned (.tuple #[.slice none 0 0, .int .i64 5]) ∧ Ext w w')
theorem in20_end {v : Int} (h : In20 v) : EndOk v := by obtain ⟨a, b⟩ := h; exact ⟨by omega, by omega⟩
theorem minR_mem : ∀ (l : List Int) (m : Int), minR l m = m ∨ minR l m ∈ l
  | [], m => .inl rfl
  | z :: r, m => by
    show minR r (min m z) = m ∨ minR r (min m z) ∈ z :: r
    rcases minR_mem r (min m z) with h | h
    · rw [h]
      rcases Int.le_total m z with g | g
      · left; omega
      · right; rw [show min m z = z by omega]; exact List.mem_cons_self
    · exact .inr (List.mem_cons_of_mem _ h)
theorem maxR_mem : ∀ (l : List Int) (m : Int), maxR l m = m ∨ maxR l m ∈ l
  | [], m => .inl rfl
  | z :: r, m => by
    show maxR r (max m z) = m ∨ maxR r (max m z) ∈ z :: r
    rcases maxR_mem r (max m z) with h | h
    · rw [h]
      rcases Int.le_total m z with g | g
      · right; rw [show max m z = z by omega]; exact List.mem_cons_self
      · left; omega
    · exact .inr (List.mem_cons_of_mem _ h)
theorem around_all {P : Int → Prop} {l : List Int} (hl : l ≠ []) (h : ∀ z ∈ l, P z) : P (aroundF l).1 ∧ P (aroundF l).2 := by
  have h0 : P (l.getD 0 0) := by
    cases l with
    | nil => exact absurd rfl hl
    | cons z r => exact h z List.mem_cons_self
  constructor
  · show P (minR l (l.getD 0 0))
    rcases minR_mem l (l.getD 0 0) with g | g
    · rw [g]; exact h0
    · exact h _ g
  · show P (maxR l (l.getD 0 0))
    rcases maxR_mem l (l.getD 0 0) with g | g
    · rw [g]; exact h0
    · exact h _ g
theorem pw_end {da : List Int} {c0 c1 c2 v : Int} (hd : da = [c0, c1, c2]) (h0 : In20 c0) (h1 : In20 c1) (h2 : In20 c2) (hv : In20 v) : EndOk (pwF da v) := by
  have h := (pw_in h0 h1 h2 hv).2
  have e : pwF da v = (c2 * v + c1) * v + c0 := by rw [hd]; rfl
  rw [e]
  obtain ⟨a, b⟩ := h0
  exact ⟨by omega, by omega⟩
theorem bends_end {da : List Int} {c0 c1 c2 lo hi : Int} (hd : da = [c0, c1, c2]) (h0 : In20 c0) (h1 : In20 c1) (h2 : In20 c2) (hl : In20 lo) (hh : In20 hi) : EndOk (aroundF (bendsF da lo hi)).1 ∧ EndOk (aroundF (bendsF da lo hi)).2 := by
  refine around_all (P := EndOk) (by unfold bendsF; simp) (fun z hz => ?_)
  unfold bendsF at hz
  rcases List.mem_append.1 hz with g | g
  · simp at g
    rcases g with rfl | rfl
    · exact pw_end hd h0 h1 h2 hl
    · exact pw_end hd h0 h1 h2 hh
  · split at g
    · cases g
    · unfold pwsF at g
      obtain ⟨j, hj, rfl⟩ := List.mem_map.1 g
      have hj2 := List.mem_range.1 hj
      refine pw_end hd h0 h1 h2 ?_
      obtain ⟨a, b⟩ := hl
      obtain ⟨c, d⟩ := hh
      exact ⟨by omega, by omega⟩
theorem drop_at2 {l : List Pl} {k : Nat} {d : Pl} (h : l[k]? = some d) : l.drop k = d :: l.drop (k + 1) := by
  obtain ⟨hl, e⟩ := List.getElem?_eq_some_iff.1 h
  rw [List.drop_eq_getElem_cons hl, e]
set_option maxHeartbeats 2000000 in
theorem spansOf_any (G : Pl → List (Int × Int) → Int × Int) (ps : List Pl) (A : Option Addr) (c : Nat) (w : World) (hX : Hid (PsX w A c ps)) (hn : ps.length ≤ 1000) (hK : Hid (∀ (j : Nat) (p : Pl), ps[j]? = some p → PlOk p j)) (hG : Hid (∀ (j : Nat) (p : Pl), ps[j]? = some p → p.x.k ≠ 1 → p.x.k ≠ 8 → SumOk G p j)) :
    Calls Try.prog 35 #[.slice A ps.length c] w fun e w' => SpPost w (spansR G ps []) e w' := by
  obtain ⟨cur, hcs, hm⟩ := make_spI ps.length hn w
  have HO := Lib.hid (World.ownsRow_made (base := w.heap.size) (e := 53) (size := 2) w cur ps.length (Nat.le_refl _) (by unfold maxLen; omega) hcs)
  obtain ⟨i0', hii, hz0, hz1, hz2⟩ := info_partsJ info_spI
  have HE := Lib.hid ((Ext.refl w).alloc (.cells cur 53))
  go_enter Try.func35, Try.ntmps35
  go_wp2_with fail
  go_loopw [4, 14] (fun kv i wr => ∃ (k : Nat) (ks : List (Int × Int)), k ≤ ps.length ∧ i = .int .i64 (k : Int) ∧ ks.length = k ∧ Hid (wr.ownsRow w.heap.size 53 2 kv k (spv ks)) ∧ Hid (Near ks) ∧ Hid (Ext w wr) ∧ Hid (spansR G ps [] = spansR G (ps.drop k) ks)) (fun _ i _ => ps.length - (intOf i).toNat)
  case atStart => exact ⟨0, [], by omega, rfl, rfl, HO, Lib.hid (fun q h => by cases h), HE, Lib.hid rfl⟩
  case round =>
    obtain ⟨k, ks, hk, rfl, hkl, hO, hN, hE, hP⟩ := hrel
    subst hkl
    by_cases hlt : ks.length < ps.length
    · obtain ⟨⟨x, s, t⟩, hp⟩ : ∃ p, ps[ks.length]? = some p := ⟨_, List.getElem?_eq_getElem hlt⟩
      have hok := Lib.hid (hK.out ks.length _ hp)
      have hgg := Lib.hid (hG.out ks.length _ hp)
      obtain ⟨ad, rfl, hc⟩ := (hX.out.ext hE.out).cells (by omega)
      obtain ⟨As, Ad, Ab, Ah, At, cs, cd, cb, ch, ct, hpc, hcell⟩ := hc ks.length _ hp
      have HP := Lib.hid hp
      have HPC := Lib.hid hpc
      dsimp only at hok hgg hcell HPC
      have j0 : (0 : Int) ≤ (ks.length : Int) := by omega
      have j1 : (ks.length : Int) < (ps.length : Int) := by omega
      obtain ⟨SV, hSV⟩ : ∃ SV, SV = srcV x.k (.agg #[.int .i64 x.k, .int .i64 x.a, .int .i64 x.b, .slice As x.sh.length cs, .int .i64 x.lo, .int .i64 x.hi, .int .i64 x.sz, .slice Ad x.da.length cd, .slice Ab x.bi.length cb, .slice Ah s.length ch, .slice At t.length ct, .nilFunc]) := ⟨_, rfl⟩
      rw [← hSV] at hcell
      have c0 : wr.cell? (ad.add (ks.length * 12)) = some (.int .i64 x.k) := by have := hcell 0 (.int .i64 x.k) rfl; rw [add0J] at this; exact this
      have c1 : wr.cell? ⟨(ad.add (ks.length * 12)).block, (ad.add (ks.length * 12)).off + 1, none⟩ = some (.int .i64 x.a) := hcell 1 (.int .i64 x.a) rfl
      have c2 : wr.cell? ⟨(ad.add (ks.length * 12)).block, (ad.add (ks.length * 12)).off + 2, none⟩ = some (.int .i64 x.b) := hcell 2 (.int .i64 x.b) rfl
      have c3 : wr.cell? ⟨(ad.add (ks.length * 12)).block, (ad.add (ks.length * 12)).off + 3, none⟩ = some (.slice As x.sh.length cs) := hcell 3 (.slice As x.sh.length cs) rfl
      have c4 : wr.cell? ⟨(ad.add (ks.length * 12)).block, (ad.add (ks.length * 12)).off + 4, none⟩ = some (.int .i64 x.lo) := hcell 4 (.int .i64 x.lo) rfl
      have c5 : wr.cell? ⟨(ad.add (ks.length * 12)).block, (ad.add (ks.length * 12)).off + 5, none⟩ = some (.int .i64 x.hi) := hcell 5 (.int .i64 x.hi) rfl
      have c6 : wr.cell? ⟨(ad.add (ks.length * 12)).block, (ad.add (ks.length * 12)).off + 6, none⟩ = some (.int .i64 x.sz) := hcell 6 (.int .i64 x.sz) rfl
      have c7 : wr.cell? ⟨(ad.add (ks.length * 12)).block, (ad.add (ks.length * 12)).off + 7, none⟩ = some (.slice Ad x.da.length cd) := hcell 7 (.slice Ad x.da.length cd) rfl
      have c8 : wr.cell? ⟨(ad.add (ks.length * 12)).block, (ad.add (ks.length * 12)).off + 8, none⟩ = some (.slice Ab x.bi.length cb) := hcell 8 (.slice Ab x.bi.length cb) rfl
      have c9 : wr.cell? ⟨(ad.add (ks.length * 12)).block, (ad.add (ks.length * 12)).off + 9, none⟩ = some (.slice Ah s.length ch) := hcell 9 (.slice Ah s.length ch) rfl
      have c10 : wr.cell? ⟨(ad.add (ks.length * 12)).block, (ad.add (ks.length * 12)).off + 10, none⟩ = some (.slice At t.length ct) := hcell 10 (.slice At t.length ct) rfl
      have c11 : wr.cell? ⟨(ad.add (ks.length * 12)).block, (ad.add (ks.length * 12)).off + 11, none⟩ = some (SV) := hcell 11 (SV) rfl
      clear hcell hc hp hpc
      obtain ⟨Ak, ck, rfl, hks⟩ := sp_of_own (ks := ks) hO.out
      have HKS := Lib.hid hks
      clear hks
      by_cases h1 : x.k = 1
      ·
        have HSP := Lib.hid (show spG G ⟨x, s, t⟩ ks = (x.lo, x.hi) by unfold spG; rw [if_pos h1])
        have hsv : SV = .nilFunc := by rw [hSV]; unfold srcV; simp [h1]
        have hEO : EndOk (x.lo, x.hi).1 ∧ EndOk (x.lo, x.hi).2 := ⟨in20_end (hok.out.1 h1).1, in20_end (hok.out.1 h1).2⟩
        clear hSV
        subst hsv
        have HH1 := Lib.hid h1
        clear h1
        obtain ⟨y0, y1, y2, y3, y4, y5, y6, y7, y8, y9, y10, y11⟩ := twelve_at wr (.int .i64 x.k) (.int .i64 x.a) (.int .i64 x.b) (.slice As x.sh.length cs) (.int .i64 x.lo) (.int .i64 x.hi) (.int .i64 x.sz) (.slice Ad x.da.length cd) (.slice Ab x.bi.length cb) (.slice Ah s.length ch) (.slice At t.length ct) .nilFunc 77
        have kv : Ext wr (wr.alloc (.cells #[.int .i64 x.k, .int .i64 x.a, .int .i64 x.b, .slice As x.sh.length cs, .int .i64 x.lo, .int .i64 x.hi, .int .i64 x.sz, .slice Ad x.da.length cd, .slice Ab x.bi.length cb, .slice Ah s.length ch, .slice At t.length ct, .nilFunc] 77)) := (Ext.refl wr).alloc _
        go_wp2_with fail
        refine (way1_any x As Ad Ab Ah At cs cd cb ch ct s t (.nilFunc) _ HH1).mono ?_
        rintro e1 w1 ⟨rfl, k1⟩
        replace k1 : Ext (wr.alloc (.cells #[.int .i64 x.k, .int .i64 x.a, .int .i64 x.b, .slice As x.sh.length cs, .int .i64 x.lo, .int .i64 x.hi, .int .i64 x.sz, .slice Ad x.da.length cd, .slice Ab x.bi.length cb, .slice Ah s.length ch, .slice At t.length ct, .nilFunc] 77)) w1 := k1
        go_wp2_with fail
        refine (told_any x As Ad Ab Ah At cs cd cb ch ct s t .nilFunc _ _).mono ?_
        rintro e2 w2 ⟨rfl, k2⟩
        go_wp2_with fail
        refine (most_any (some ⟨w2.heap.size + 1, 0, none⟩) 1 [(x.lo, x.hi)] _ (Lib.hid (by have := sp_one (w2.alloc (.cells #[.int .i64 ((x.lo, x.hi)).1, .int .i64 ((x.lo, x.hi)).2] 53)) ((x.lo, x.hi)).1 ((x.lo, x.hi)).2; rw [show (w2.alloc (.cells #[.int .i64 ((x.lo, x.hi)).1, .int .i64 ((x.lo, x.hi)).2] 53)).heap.size = w2.heap.size + 1 by simp] at this; exact this)) (by simp) (Lib.hid (fun q hq => by simp at hq; subst hq; exact hEO))).mono ?_
        rintro e3 w3 ⟨rfl, k3⟩
        have n0 := cell_ext ((Ext.refl _).alloc (.cells #[.int .i64 ((x.lo, x.hi)).1, .int .i64 ((x.lo, x.hi)).2] 53)) (two_atJ0 w2 (.int .i64 ((x.lo, x.hi)).1) (.int .i64 ((x.lo, x.hi)).2) 53)
        have n1 := cell_ext ((Ext.refl _).alloc (.cells #[.int .i64 ((x.lo, x.hi)).1, .int .i64 ((x.lo, x.hi)).2] 53)) (two_atJ1 w2 (.int .i64 ((x.lo, x.hi)).1) (.int .i64 ((x.lo, x.hi)).2) 53)
        replace n0 := cell_ext k3 n0
        replace n1 := cell_ext k3 n1
        have k9 : Ext w w3 := hE.out.trans (kv.trans (k1.trans (k2.trans ((((Ext.refl w2).alloc _).alloc _).trans k3))))
        have k8 : Ext wr w3 := kv.trans (k1.trans (k2.trans ((((Ext.refl w2).alloc _).alloc _).trans k3)))
        have hs9 := k9.size
        have HM := most_one ((x.lo, x.hi))
        cases hq : nearS ((x.lo, x.hi)) with
        | true =>
          have hle : ¬ (1048576 < mostF [(x.lo, x.hi)] 0) := fun h => by rw [HM.1 h] at hq; cases hq
          have HQ := Lib.hid hq
          have hO9 := own_extJ hO.out k8
          clear HM hq k1 k2 k3 kv
          go_wp2_with (at_builtin; go_loud (refine wpList_append_own _ rfl _ _ 43 rfl w.heap.size 53 i0' (.agg #[.int .i64 0, .int .i64 0]) 2 16 Try.underlying43 hii hz0 hz1 hz2 rfl (by decide) _ _ _ rfl (hO9.alloc _) ⟨_, 0, none⟩ 1 1 [.int .i64 ((x.lo, x.hi)).1, .int .i64 ((x.lo, x.hi)).2] rfl rfl two_cellJ two_intZ (by unfold maxLen; omega) (by omega) (by simp; omega) ?_; intro v3 w4 hown3 hgrow3 _))
          refine ⟨⟨ks.length + 1, ks ++ [(x.lo, x.hi)], by omega, by go_num, by simp, Lib.hid ?_, Lib.hid ?_, Lib.hid (ext_grown (k9.alloc _) (hO9.alloc _) (Nat.le_refl _) hgrow3), Lib.hid ?_⟩, by simp [intOf]; omega⟩
          · rw [spv_snoc]
            exact hown3
          · intro q hq
            rcases List.mem_append.1 hq with g | g
            · exact hN.out q g
            · simp at g
              subst g
              exact near_spG HQ.out
          · rw [hP.out, drop_at2 HP.out, spansR, HSP.out, if_pos HQ.out]
        | false =>
          have hle : 1048576 < mostF [(x.lo, x.hi)] 0 := HM.2 hq
          have HQ := Lib.hid hq
          clear HM hq k1 k2 k3 kv
          go_wp2
          go_ret2
          exact .inr ⟨by rw [hP.out, drop_at2 HP.out, spansR, HSP.out, if_neg (by rw [HQ.out]; simp)], rfl, k9⟩
      · by_cases h8 : x.k = 8
        ·
          obtain ⟨⟨c0', c1', c2', hd, e0', e1', e2'⟩, ia, hia, hil⟩ := hok.out.2 h8
          obtain ⟨⟨klo, khi⟩, hkq⟩ : ∃ q, ks[ia]? = some q := ⟨_, List.getElem?_eq_getElem (by omega)⟩
          have hkin := hN.out _ (List.mem_of_getElem? hkq)
          obtain ⟨Q, hQ⟩ : ∃ Q, Q = aroundF (bendsF x.da klo khi) := ⟨_, rfl⟩
          have HSP := Lib.hid (show spG G ⟨x, s, t⟩ ks = Q by unfold spG; rw [if_neg h1, if_pos h8, hQ]; dsimp only; rw [hia, Int.toNat_natCast, List.getD_eq_getElem?_getD, hkq]; rfl)
          have hsv : SV = .nilFunc := by rw [hSV]; unfold srcV; simp [h8]
          have hEO : EndOk Q.1 ∧ EndOk Q.2 := by rw [hQ]; exact bends_end hd e0' e1' e2' hkin.1 hkin.2
          have HB := Lib.hid (fun (w' : World) (kq : Ext wr w') => show Calls Try.prog 89 #[.agg #[.int .i64 x.k, .int .i64 x.a, .int .i64 x.b, .slice As x.sh.length cs, .int .i64 x.lo, .int .i64 x.hi, .int .i64 x.sz, .slice Ad x.da.length cd, .slice Ab x.bi.length cb, .slice Ah s.length ch, .slice At t.length ct, .nilFunc], .slice Ak ks.length ck] w' (fun e w2 => e = .returned (.agg #[.int .i64 Q.1, .int .i64 Q.2]) ∧ Ext w' w2) by rw [hQ]; exact ibent_any x As Ad Ab Ah At cs cd cb ch ct s t .nilFunc Ak ck ks w' (Lib.hid (HPC.out.ext kq)) (Lib.hid (HKS.out.ext kq)) (by omega) ia hia klo khi (Lib.hid hkq) c0' c1' c2' (Lib.hid hd) ⟨e0', e1', e2'⟩ hkin.1 hkin.2)
          clear hSV
          subst hsv
          have HH8 := Lib.hid h8
          clear h8 h1 hd e0' e1' e2' hia hil hkq hkin hQ
          obtain ⟨y0, y1, y2, y3, y4, y5, y6, y7, y8, y9, y10, y11⟩ := twelve_at wr (.int .i64 x.k) (.int .i64 x.a) (.int .i64 x.b) (.slice As x.sh.length cs) (.int .i64 x.lo) (.int .i64 x.hi) (.int .i64 x.sz) (.slice Ad x.da.length cd) (.slice Ab x.bi.length cb) (.slice Ah s.length ch) (.slice At t.length ct) .nilFunc 77
          have kv : Ext wr (wr.alloc (.cells #[.int .i64 x.k, .int .i64 x.a, .int .i64 x.b, .slice As x.sh.length cs, .int .i64 x.lo, .int .i64 x.hi, .int .i64 x.sz, .slice Ad x.da.length cd, .slice Ab x.bi.length cb, .slice Ah s.length ch, .slice At t.length ct, .nilFunc] 77)) := (Ext.refl wr).alloc _
          go_wp2_with fail
          refine (way8_any x As Ad Ab Ah At cs cd cb ch ct s t (.nilFunc) _ HH8).mono ?_
          rintro e1 w1 ⟨rfl, k1⟩
          replace k1 : Ext (wr.alloc (.cells #[.int .i64 x.k, .int .i64 x.a, .int .i64 x.b, .slice As x.sh.length cs, .int .i64 x.lo, .int .i64 x.hi, .int .i64 x.sz, .slice Ad x.da.length cd, .slice Ab x.bi.length cb, .slice Ah s.length ch, .slice At t.length ct, .nilFunc] 77)) w1 := k1
          go_wp2_with fail
          refine (HB.out w1 (kv.trans k1)).mono ?_
          rintro e2 w2 ⟨rfl, k2⟩
          go_wp2_with fail
          refine (most_any (some ⟨w2.heap.size + 1, 0, none⟩) 1 [Q] _ (Lib.hid (by have := sp_one (w2.alloc (.cells #[.int .i64 (Q).1, .int .i64 (Q).2] 53)) (Q).1 (Q).2; rw [show (w2.alloc (.cells #[.int .i64 (Q).1, .int .i64 (Q).2] 53)).heap.size = w2.heap.size + 1 by simp] at this; exact this)) (by simp) (Lib.hid (fun q hq => by simp at hq; subst hq; exact hEO))).mono ?_
          rintro e3 w3 ⟨rfl, k3⟩
          have n0 := cell_ext ((Ext.refl _).alloc (.cells #[.int .i64 (Q).1, .int .i64 (Q).2] 53)) (two_atJ0 w2 (.int .i64 (Q).1) (.int .i64 (Q).2) 53)
          have n1 := cell_ext ((Ext.refl _).alloc (.cells #[.int .i64 (Q).1, .int .i64 (Q).2] 53)) (two_atJ1 w2 (.int .i64 (Q).1) (.int .i64 (Q).2) 53)
          replace n0 := cell_ext k3 n0
          replace n1 := cell_ext k3 n1
          have k9 : Ext w w3 := hE.out.trans (kv.trans (k1.trans (k2.trans ((((Ext.refl w2).alloc _).alloc _).trans k3))))
          have k8 : Ext wr w3 := kv.trans (k1.trans (k2.trans ((((Ext.refl w2).alloc _).alloc _).trans k3)))
          have hs9 := k9.size
          have HM := most_one (Q)
          cases hq : nearS (Q) with
          | true =>
            have hle : ¬ (1048576 < mostF [Q] 0) := fun h => by rw [HM.1 h] at hq; cases hq
            have HQ := Lib.hid hq
            have hO9 := own_extJ hO.out k8
            clear HM hq k1 k2 k3 kv
            go_wp2_with (at_builtin; go_loud (refine wpList_append_own _ rfl _ _ 43 rfl w.heap.size 53 i0' (.agg #[.int .i64 0, .int .i64 0]) 2 16 Try.underlying43 hii hz0 hz1 hz2 rfl (by decide) _ _ _ rfl (hO9.alloc _) ⟨_, 0, none⟩ 1 1 [.int .i64 (Q).1, .int .i64 (Q).2] rfl rfl two_cellJ two_intZ (by unfold maxLen; omega) (by omega) (by simp; omega) ?_; intro v3 w4 hown3 hgrow3 _))
            refine ⟨⟨ks.length + 1, ks ++ [Q], by omega, by go_num, by simp, Lib.hid ?_, Lib.hid ?_, Lib.hid (ext_grown (k9.alloc _) (hO9.alloc _) (Nat.le_refl _) hgrow3), Lib.hid ?_⟩, by simp [intOf]; omega⟩
            · rw [spv_snoc]
              exact hown3
            · intro q hq
              rcases List.mem_append.1 hq with g | g
              · exact hN.out q g
              · simp at g
                subst g
                exact near_spG HQ.out
            · rw [hP.out, drop_at2 HP.out, spansR, HSP.out, if_pos HQ.out]
          | false =>
            have hle : 1048576 < mostF [Q] 0 := HM.2 hq
            have HQ := Lib.hid hq
            clear HM hq k1 k2 k3 kv
            go_wp2
            go_ret2
            exact .inr ⟨by rw [hP.out, drop_at2 HP.out, spansR, HSP.out, if_neg (by rw [HQ.out]; simp)], rfl, k9⟩
        · have hform : SV = .nilFunc ∨ ∃ fn fi ca, SV = .func fn fi ca := by rw [hSV]; exact src_form _ _
          rcases hform with rfl | ⟨fn, fi, ca, rfl⟩
          ·
            have HH0 := Lib.hid (And.intro h1 h8)
            obtain ⟨Q, hQ⟩ : ∃ Q, Q = G ⟨x, s, t⟩ ks := ⟨_, rfl⟩
            have HSP := Lib.hid (show spG G ⟨x, s, t⟩ ks = Q by unfold spG; rw [if_neg h1, if_neg h8, hQ])
            have hEO : EndOk Q.1 ∧ EndOk Q.2 := by rw [hQ]; exact (hgg.out h1 h8 As Ad Ab Ah At cs cd cb ch ct Ak ck ks wr HPC HKS rfl hN).1
            have HB := Lib.hid (fun (w' : World) (kq : Ext wr w') => show Calls Try.prog 90 #[.agg #[.int .i64 x.k, .int .i64 x.a, .int .i64 x.b, .slice As x.sh.length cs, .int .i64 x.lo, .int .i64 x.hi, .int .i64 x.sz, .slice Ad x.da.length cd, .slice Ab x.bi.length cb, .slice Ah s.length ch, .slice At t.length ct, .nilFunc], .slice Ak ks.length ck] w' (fun e w2 => e = .returned (.agg #[.int .i64 Q.1, .int .i64 Q.2]) ∧ Ext w' w2) by rw [hQ, hSV]; exact (hgg.out h1 h8 As Ad Ab Ah At cs cd cb ch ct Ak ck ks w' (Lib.hid (HPC.out.ext kq)) (Lib.hid (HKS.out.ext kq)) rfl hN).2)
            clear hSV h8 h1 hQ
            obtain ⟨y0, y1, y2, y3, y4, y5, y6, y7, y8, y9, y10, y11⟩ := twelve_at wr (.int .i64 x.k) (.int .i64 x.a) (.int .i64 x.b) (.slice As x.sh.length cs) (.int .i64 x.lo) (.int .i64 x.hi) (.int .i64 x.sz) (.slice Ad x.da.length cd) (.slice Ab x.bi.length cb) (.slice Ah s.length ch) (.slice At t.length ct) .nilFunc 77
            have kv : Ext wr (wr.alloc (.cells #[.int .i64 x.k, .int .i64 x.a, .int .i64 x.b, .slice As x.sh.length cs, .int .i64 x.lo, .int .i64 x.hi, .int .i64 x.sz, .slice Ad x.da.length cd, .slice Ab x.bi.length cb, .slice Ah s.length ch, .slice At t.length ct, .nilFunc] 77)) := (Ext.refl wr).alloc _
            go_wp2_with fail
            refine (way0_any x As Ad Ab Ah At cs cd cb ch ct s t (.nilFunc) _ HH0).mono ?_
            rintro e1 w1 ⟨rfl, k1⟩
            replace k1 : Ext (wr.alloc (.cells #[.int .i64 x.k, .int .i64 x.a, .int .i64 x.b, .slice As x.sh.length cs, .int .i64 x.lo, .int .i64 x.hi, .int .i64 x.sz, .slice Ad x.da.length cd, .slice Ab x.bi.length cb, .slice Ah s.length ch, .slice At t.length ct, .nilFunc] 77)) w1 := k1
            go_wp2_with fail
            refine (HB.out w1 (kv.trans k1)).mono ?_
            rintro e2 w2 ⟨rfl, k2⟩
            go_wp2_with fail
            refine (most_any (some ⟨w2.heap.size + 1, 0, none⟩) 1 [Q] _ (Lib.hid (by have := sp_one (w2.alloc (.cells #[.int .i64 (Q).1, .int .i64 (Q).2] 53)) (Q).1 (Q).2; rw [show (w2.alloc (.cells #[.int .i64 (Q).1, .int .i64 (Q).2] 53)).heap.size = w2.heap.size + 1 by simp] at this; exact this)) (by simp) (Lib.hid (fun q hq => by simp at hq; subst hq; exact hEO))).mono ?_
            rintro e3 w3 ⟨rfl, k3⟩
            have n0 := cell_ext ((Ext.refl _).alloc (.cells #[.int .i64 (Q).1, .int .i64 (Q).2] 53)) (two_atJ0 w2 (.int .i64 (Q).1) (.int .i64 (Q).2) 53)
            have n1 := cell_ext ((Ext.refl _).alloc (.cells #[.int .i64 (Q).1, .int .i64 (Q).2] 53)) (two_atJ1 w2 (.int .i64 (Q).1) (.int .i64 (Q).2) 53)
            replace n0 := cell_ext k3 n0
            replace n1 := cell_ext k3 n1
            have k9 : Ext w w3 := hE.out.trans (kv.trans (k1.trans (k2.trans ((((Ext.refl w2).alloc _).alloc _).trans k3))))
            have k8 : Ext wr w3 := kv.trans (k1.trans (k2.trans ((((Ext.refl w2).alloc _).alloc _).trans k3)))
            have hs9 := k9.size
            have HM := most_one (Q)
            cases hq : nearS (Q) with
            | true =>
              have hle : ¬ (1048576 < mostF [Q] 0) := fun h => by rw [HM.1 h] at hq; cases hq
              have HQ := Lib.hid hq
              have hO9 := own_extJ hO.out k8
              clear HM hq k1 k2 k3 kv
              go_wp2_with (at_builtin; go_loud (refine wpList_append_own _ rfl _ _ 43 rfl w.heap.size 53 i0' (.agg #[.int .i64 0, .int .i64 0]) 2 16 Try.underlying43 hii hz0 hz1 hz2 rfl (by decide) _ _ _ rfl (hO9.alloc _) ⟨_, 0, none⟩ 1 1 [.int .i64 (Q).1, .int .i64 (Q).2] rfl rfl two_cellJ two_intZ (by unfold maxLen; omega) (by omega) (by simp; omega) ?_; intro v3 w4 hown3 hgrow3 _))
              refine ⟨⟨ks.length + 1, ks ++ [Q], by omega, by go_num, by simp, Lib.hid ?_, Lib.hid ?_, Lib.hid (ext_grown (k9.alloc _) (hO9.alloc _) (Nat.le_refl _) hgrow3), Lib.hid ?_⟩, by simp [intOf]; omega⟩
              · rw [spv_snoc]
                exact hown3
              · intro q hq
                rcases List.mem_append.1 hq with g | g
                · exact hN.out q g
                · simp at g
                  subst g
                  exact near_spG HQ.out
              · rw [hP.out, drop_at2 HP.out, spansR, HSP.out, if_pos HQ.out]
            | false =>
              have hle : 1048576 < mostF [Q] 0 := HM.2 hq
              have HQ := Lib.hid hq
              clear HM hq k1 k2 k3 kv
              go_wp2
              go_ret2
              exact .inr ⟨by rw [hP.out, drop_at2 HP.out, spansR, HSP.out, if_neg (by rw [HQ.out]; simp)], rfl, k9⟩
          ·
            have HH0 := Lib.hid (And.intro h1 h8)
            obtain ⟨Q, hQ⟩ : ∃ Q, Q = G ⟨x, s, t⟩ ks := ⟨_, rfl⟩
            have HSP := Lib.hid (show spG G ⟨x, s, t⟩ ks = Q by unfold spG; rw [if_neg h1, if_neg h8, hQ])
            have hEO : EndOk Q.1 ∧ EndOk Q.2 := by rw [hQ]; exact (hgg.out h1 h8 As Ad Ab Ah At cs cd cb ch ct Ak ck ks wr HPC HKS rfl hN).1
            have HB := Lib.hid (fun (w' : World) (kq : Ext wr w') => show Calls Try.prog 90 #[.agg #[.int .i64 x.k, .int .i64 x.a, .int .i64 x.b, .slice As x.sh.length cs, .int .i64 x.lo, .int .i64 x.hi, .int .i64 x.sz, .slice Ad x.da.length cd, .slice Ab x.bi.length cb, .slice Ah s.length ch, .slice At t.length ct, (.func fn fi ca)], .slice Ak ks.length ck] w' (fun e w2 => e = .returned (.agg #[.int .i64 Q.1, .int .i64 Q.2]) ∧ Ext w' w2) by rw [hQ, hSV]; exact (hgg.out h1 h8 As Ad Ab Ah At cs cd cb ch ct Ak ck ks w' (Lib.hid (HPC.out.ext kq)) (Lib.hid (HKS.out.ext kq)) rfl hN).2)
            clear hSV h8 h1 hQ
            obtain ⟨y0, y1, y2, y3, y4, y5, y6, y7, y8, y9, y10, y11⟩ := twelve_at wr (.int .i64 x.k) (.int .i64 x.a) (.int .i64 x.b) (.slice As x.sh.length cs) (.int .i64 x.lo) (.int .i64 x.hi) (.int .i64 x.sz) (.slice Ad x.da.length cd) (.slice Ab x.bi.length cb) (.slice Ah s.length ch) (.slice At t.length ct) (.func fn fi ca) 77
            have kv : Ext wr (wr.alloc (.cells #[.int .i64 x.k, .int .i64 x.a, .int .i64 x.b, .slice As x.sh.length cs, .int .i64 x.lo, .int .i64 x.hi, .int .i64 x.sz, .slice Ad x.da.length cd, .slice Ab x.bi.length cb, .slice Ah s.length ch, .slice At t.length ct, (.func fn fi ca)] 77)) := (Ext.refl wr).alloc _
            go_wp2_with fail
            refine (way0_any x As Ad Ab Ah At cs cd cb ch ct s t ((.func fn fi ca)) _ HH0).mono ?_
            rintro e1 w1 ⟨rfl, k1⟩
            replace k1 : Ext (wr.alloc (.cells #[.int .i64 x.k, .int .i64 x.a, .int .i64 x.b, .slice As x.sh.length cs, .int .i64 x.lo, .int .i64 x.hi, .int .i64 x.sz, .slice Ad x.da.length cd, .slice Ab x.bi.length cb, .slice Ah s.length ch, .slice At t.length ct, (.func fn fi ca)] 77)) w1 := k1
            go_wp2_with fail
            refine (HB.out w1 (kv.trans k1)).mono ?_
            rintro e2 w2 ⟨rfl, k2⟩
            go_wp2_with fail
            refine (most_any (some ⟨w2.heap.size + 1, 0, none⟩) 1 [Q] _ (Lib.hid (by have := sp_one (w2.alloc (.cells #[.int .i64 (Q).1, .int .i64 (Q).2] 53)) (Q).1 (Q).2; rw [show (w2.alloc (.cells #[.int .i64 (Q).1, .int .i64 (Q).2] 53)).heap.size = w2.heap.size + 1 by simp] at this; exact this)) (by simp) (Lib.hid (fun q hq => by simp at hq; subst hq; exact hEO))).mono ?_
            rintro e3 w3 ⟨rfl, k3⟩
            have n0 := cell_ext ((Ext.refl _).alloc (.cells #[.int .i64 (Q).1, .int .i64 (Q).2] 53)) (two_atJ0 w2 (.int .i64 (Q).1) (.int .i64 (Q).2) 53)
            have n1 := cell_ext ((Ext.refl _).alloc (.cells #[.int .i64 (Q).1, .int .i64 (Q).2] 53)) (two_atJ1 w2 (.int .i64 (Q).1) (.int .i64 (Q).2) 53)
            replace n0 := cell_ext k3 n0
            replace n1 := cell_ext k3 n1
            have k9 : Ext w w3 := hE.out.trans (kv.trans (k1.trans (k2.trans ((((Ext.refl w2).alloc _).alloc _).trans k3))))
            have k8 : Ext wr w3 := kv.trans (k1.trans (k2.trans ((((Ext.refl w2).alloc _).alloc _).trans k3)))
            have hs9 := k9.size
            have HM := most_one (Q)
            cases hq : nearS (Q) with
            | true =>
              have hle : ¬ (1048576 < mostF [Q] 0) := fun h => by rw [HM.1 h] at hq; cases hq
              have HQ := Lib.hid hq
              have hO9 := own_extJ hO.out k8
              clear HM hq k1 k2 k3 kv
              go_wp2_with (at_builtin; go_loud (refine wpList_append_own _ rfl _ _ 43 rfl w.heap.size 53 i0' (.agg #[.int .i64 0, .int .i64 0]) 2 16 Try.underlying43 hii hz0 hz1 hz2 rfl (by decide) _ _ _ rfl (hO9.alloc _) ⟨_, 0, none⟩ 1 1 [.int .i64 (Q).1, .int .i64 (Q).2] rfl rfl two_cellJ two_intZ (by unfold maxLen; omega) (by omega) (by simp; omega) ?_; intro v3 w4 hown3 hgrow3 _))
              refine ⟨⟨ks.length + 1, ks ++ [Q], by omega, by go_num, by simp, Lib.hid ?_, Lib.hid ?_, Lib.hid (ext_grown (k9.alloc _) (hO9.alloc _) (Nat.le_refl _) hgrow3), Lib.hid ?_⟩, by simp [intOf]; omega⟩
              · rw [spv_snoc]
                exact hown3
              · intro q hq
                rcases List.mem_append.1 hq with g | g
                · exact hN.out q g
                · simp at g
                  subst g
                  exact near_spG HQ.out
              · rw [hP.out, drop_at2 HP.out, spansR, HSP.out, if_pos HQ.out]
            | false =>
              have hle : 1048576 < mostF [Q] 0 := HM.2 hq
              have HQ := Lib.hid hq
              clear HM hq k1 k2 k3 kv
              go_wp2
              go_ret2
              exact .inr ⟨by rw [hP.out, drop_at2 HP.out, spansR, HSP.out, if_neg (by rw [HQ.out]; simp)], rfl, k9⟩
    · have hkn : ks.length = ps.length := by omega
      obtain ⟨A9, c9, rfl, h9⟩ := sp_of_own (ks := ks) hO.out
      have H9 := Lib.hid h9
      have HR := Lib.hid (show spansR G ps [] = .ok ks by rw [hP.out, List.drop_eq_nil_of_le (by omega)]; rfl)
      clear h9
      go_wp2
      go_ret2
      exact .inl ⟨ks, A9, c9, HR.out, rfl, H9.out, hN.out, hE.out⟩
end Go.Proofs.Ytjeipbahddhfgaa
