/-
  Diagonals in memory, some of them made; what holds when some entries are laid.
-/
import Derived.Test.YtdnjjpkajiehgaaLChk
namespace Go.Proofs.Ytdnjjpkajiehgaa
open Go.RowKit
set_option linter.unusedVariables false
set_option maxRecDepth 100000

def dgV (N : Nat) : Option Nat → Value
  | none => .slice none 0 0
  | some g => .slice (some ⟨g, 0, none⟩) N N
/-- The block of all diagonals, and those that are made. -/
structure DGm (w : World) (gd N : Nat) (mk : Nat → Option Nat) (F : Nat → Nat → Int) : Prop where
  out : RL w gd 38 N (fun d => dgV N (mk d))
  inn : ∀ d g, d < N → mk d = some g → gd < g ∧ IL w g N (F d)
  inj : ∀ d d' g, d < N → d' < N → mk d = some g → mk d' = some g → d = d'
theorem DGm.ext {w w' : World} {gd N : Nat} {mk : Nat → Option Nat} {F : Nat → Nat → Int} (h : DGm w gd N mk F) (k : Ext w w') : DGm w' gd N mk F :=
  ⟨h.out.ext k, fun d g hd hm => ⟨(h.inn d g hd hm).1, RL.ext (h.inn d g hd hm).2 k⟩, h.inj⟩
/-- What holds when the entries ahead of o, i are laid. -/
structure DgInv (D : Dg) (o i : Nat) (mk : Nat → Option Nat) (F : Nat → Nat → Int) : Prop where
  val : ∀ d s, d < D.n → s < D.n → F d s = D.allS d s o + D.rowS d s o i
  no : ∀ d, d < D.n → mk d = none → ∀ s, s < D.n → F d s = 0
  yes : ∀ d, d < D.n → mk d ≠ none → ∃ s, s < D.n ∧ F d s ≠ 0
theorem DgInv.start (D : Dg) : DgInv D 0 0 (fun _ => none) (fun _ _ => 0) := ⟨fun _ _ _ _ => rfl, fun _ _ _ _ _ => rfl, fun _ _ h => absurd rfl h⟩
theorem DgInv.skip {D : Dg} {o i : Nat} {mk : Nat → Option Nat} {F : Nat → Nat → Int} (h : DgInv D o i mk F) (hz : D.wt o i = 0) : DgInv D o (i + 1) mk F :=
  ⟨fun d s hd hs => by rw [h.val d s hd hs, Dg.rowS, hz]; split <;> omega, h.no, h.yes⟩
theorem DgInv.row {D : Dg} {o : Nat} {mk : Nat → Option Nat} {F : Nat → Nat → Int} (h : DgInv D o D.fr.length mk F) : DgInv D (o + 1) 0 mk F :=
  ⟨fun d s hd hs => by rw [h.val d s hd hs, Dg.allS, Dg.rowS]; omega, h.no, h.yes⟩
theorem DgInv.lay {D : Dg} (ok : D.Ok) {o i d0 s0 : Nat} {mk mk' : Nat → Option Nat} {F : Nat → Nat → Int} (h : DgInv D o i mk F) (hd0 : d0 < D.n) (hs0 : s0 < D.n) (hh : D.hit d0 s0 o i) (hz : D.wt o i ≠ 0) (hm : ∀ d, d ≠ d0 → mk' d = mk d) (hm0 : mk' d0 ≠ none) :
    DgInv D o (i + 1) mk' (fun d s => if d = d0 ∧ s = s0 then D.wt o i else F d s) := by
  have hun : ∀ d s, d < D.n → s < D.n → D.hit d s o i → d = d0 ∧ s = s0 := fun d s hd hs hx => by
    obtain ⟨t0, t1⟩ := ok.tt.1 o _ hh.1
    obtain ⟨f0, f1⟩ := ok.fr.1 i _ hh.2
    have a := (hit_iff ok.pos hd0 hs0 hh.1 hh.2 t0 t1 f0 f1).1 hh
    have b := (hit_iff ok.pos hd hs hh.1 hh.2 t0 t1 f0 f1).1 hx
    omega
  refine ⟨fun d s hd hs => ?_, fun d hd hn s hs => ?_, fun d hd hn => ?_⟩
  · by_cases e : d = d0 ∧ s = s0
    · skip
      rw [if_pos e]
      obtain ⟨rfl, rfl⟩ := e
      exact (next_at ok hh).symm
    · skip
      rw [if_neg e, h.val d s hd hs, next_off (fun hx => e (hun d s hd hs hx))]
  · have hd2 : d ≠ d0 := fun e => hm0 (e ▸ hn)
    rw [if_neg (fun e => hd2 e.1)]
    exact h.no d hd (by rw [← hm d hd2]; exact hn) s hs
  · by_cases e : d = d0
    · subst e
      exact ⟨s0, hs0, by rw [if_pos ⟨rfl, rfl⟩]; exact hz⟩
    · obtain ⟨s, hs, hne⟩ := h.yes d hd (by rw [← hm d e]; exact hn)
      exact ⟨s, hs, by rw [if_neg (fun x => e x.1)]; exact hne⟩
theorem set_keep {w : World} {g i g' n : Nat} {t : TypeId} {F : Nat → Value} (h : RL w g' t n F) (hne : g' ≠ g) (v : Value) : RL (w.setCell ⟨g, i, none⟩ v) g' t n F :=
  h.on ((On.refl g w).set i v) hne
theorem DGm.store {w : World} {gd N d0 s0 g : Nat} {mk : Nat → Option Nat} {F : Nat → Nat → Int} (h : DGm w gd N mk F) (hd0 : d0 < N) (hs0 : s0 < N) (hm : mk d0 = some g) (z : Int) :
    DGm (w.setCell ⟨g, s0, none⟩ (.int .i64 z)) gd N mk (fun d s => if d = d0 ∧ s = s0 then z else F d s) := by
  obtain ⟨hg, hI⟩ := h.inn d0 g hd0 hm
  refine ⟨set_keep h.out (by omega) _, fun d g' hd hm' => ?_, h.inj⟩
  obtain ⟨hg', hI'⟩ := h.inn d g' hd hm'
  by_cases e : d = d0
  · subst e
    rw [hm] at hm'
    injection hm' with hm'
    subst hm'
    exact ⟨hg, (IL.set hI hs0 z).congr fun j _ => by by_cases ej : j = s0 <;> simp [ej]⟩
  · have hne : g' ≠ g := fun e2 => e (h.inj d d0 g' hd hd0 hm' (e2 ▸ hm))
    exact ⟨hg', IL.congr (set_keep hI' hne _) fun j _ => by rw [if_neg (fun x => e x.1)]⟩
theorem DGm.make {w : World} {gd N d0 : Nat} {mk : Nat → Option Nat} {F : Nat → Nat → Int} (h : DGm w gd N mk F) (hd0 : d0 < N) (hm : mk d0 = none) (hF : ∀ s, s < N → F d0 s = 0) :
    DGm ((w.alloc (.cells ((List.range N).map fun _ => Value.int .i64 0).toArray 3)).setCell ⟨gd, d0, none⟩ (.slice (some ⟨w.heap.size, 0, none⟩) N N)) gd N (fun d => if d = d0 then some w.heap.size else mk d) F := by
  have k : Ext w (w.alloc (.cells ((List.range N).map fun _ => Value.int .i64 0).toArray 3)) := (Ext.refl w).alloc _
  have hgl := h.out.lt
  have hnew : IL (w.alloc (.cells ((List.range N).map fun _ => Value.int .i64 0).toArray 3)) w.heap.size N (fun _ => 0) := RL.new w 3 N _
  have hlt : ∀ d g, d < N → mk d = some g → g < w.heap.size := fun d g hd e => RL.lt (h.inn d g hd e).2
  refine ⟨(RL.set (h.out.ext k) hd0 _).congr fun d hd => by by_cases e : d = d0 <;> simp [e, dgV], fun d g hd hmk => ?_, fun d d' g hd hd' h1 h2 => ?_⟩
  · skip
    by_cases e : d = d0
    · rw [if_pos e] at hmk
      injection hmk with hmk
      subst hmk e
      exact ⟨hgl, IL.congr (set_keep hnew (by omega) _) fun j hj => (hF j hj).symm⟩
    · rw [if_neg e] at hmk
      obtain ⟨a, b⟩ := h.inn d g hd hmk
      exact ⟨a, set_keep (RL.ext b k) (by omega) _⟩
  · skip
    by_cases e : d = d0 <;> by_cases e' : d' = d0
    · rw [e, e']
    · rw [if_pos e] at h1; rw [if_neg e'] at h2
      injection h1 with h1
      have := hlt d' g hd' h2
      omega
    · rw [if_neg e] at h1; rw [if_pos e'] at h2
      injection h2 with h2
      have := hlt d g hd h1
      omega
    · rw [if_neg e] at h1; rw [if_neg e'] at h2
      exact h.inj d d' g hd hd' h1 h2
/-- All entries laid: the diagonals, as lists. -/
theorem DGm.sx {w : World} {gd : Nat} {D : Dg} {mk : Nat → Option Nat} {F : Nat → Nat → Int} (h : DGm w gd D.n mk F) (hI : DgInv D D.tt.length 0 mk F) : SX w (some ⟨gd, 0, none⟩) D.n D.diags := by
  have hl : D.diags.length = D.n := by unfold Dg.diags; simp
  refine ⟨by omega, fun _ => ⟨_, rfl, fun j s hs => ?_⟩⟩
  have hj : j < D.n := by have := (List.getElem?_eq_some_iff.1 hs).1; omega
  unfold Dg.diags at hs
  rw [List.getElem?_map, List.getElem?_range hj] at hs
  injection hs with hs
  have hc := h.out.cell hj
  rw [add_own]
  have hv : ∀ s, s < D.n → F j s = D.val j s := fun s hs => by rw [hI.val j s hj hs, Dg.val, Dg.rowS]; omega
  cases hm : mk j with
  | none =>
    rw [diag_of (mk := false) hv (fun h => by cases h) (fun _ => hI.no j hj hm)] at hs
    simp at hs
    subst hs
    rw [hm] at hc
    exact ⟨none, 0, hc, ZX.none_ _ _ _⟩
  | some g =>
    rw [diag_of (mk := true) hv (fun _ => hI.yes j hj (by rw [hm]; simp)) (fun h => by cases h)] at hs
    simp at hs
    subst hs
    rw [hm] at hc
    rw [List.length_map, List.length_range]
    exact ⟨some ⟨g, 0, none⟩, D.n, hc, (h.inn j g hj hm).2.zx⟩
theorem wt_at {D : Dg} {o i : Nat} {r : List Int} {z : Int} (h1 : D.rows[o]? = some r) (h2 : r[i]? = some z) : D.wt o i = z := by
  unfold Dg.wt
  simp [List.getD, h1, h2]
theorem dgB_ok {rows : List (List Int)} {fr tt : List Int} {N : Nat} (h : dgB rows fr tt (N : Int) = true) : (Dg.mk N rows fr tt).Ok := by
  unfold dgB at h
  simp only [Bool.and_eq_true, decide_eq_true_eq, Int.toNat_natCast] at h
  obtain ⟨⟨⟨⟨⟨h1, h2⟩, h3⟩, h4⟩, h5⟩, h6⟩ := h
  refine ⟨by show 0 < N; omega, (placesB_iff fr).1 h4, (placesB_iff tt).1 h5, h3, fun r hr => ?_⟩
  unfold longB at h6
  rw [List.all_eq_true] at h6
  exact of_decide_eq_true (h6 r hr)
end Go.Proofs.Ytdnjjpkajiehgaa
