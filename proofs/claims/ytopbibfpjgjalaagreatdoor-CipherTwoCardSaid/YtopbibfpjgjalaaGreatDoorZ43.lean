import Derived.Test.YtopbibfpjgjalaaGreatDoorZ36
import Derived.Test.YtopbibfpjgjalaaGreatDoorZ37
import Derived.Laws.CopyOwn
import Derived.Test.YtopbibfpjgjalaaGreatDoorZ42
import Derived.Test.YtopbibfpjgjalaaGreatDoorZ41
import Derived.Test.YtopbibfpjgjalaaGreatDoorZ26
import Derived.Deep.RegionHeld3
import Derived.Deep.DeepCutAuto
import Derived.Test.YtopbibfpjgjalaaGreatDoorZ38
namespace Go.Proofs.YtopbibfpjgjalaaGreatDoor
open Go.RowKit
set_option linter.unusedVariables false
set_option maxRecDepth 100000
theorem zq0 (c : Nat) (hc : c ≤ 1000000) (w : World) :
    (Instr.makeSlice 40 (.int .i64 (c : Int)) (.int .i64 (c : Int))).run Tryz.prog w = .ok (.slice (some ⟨w.heap.size, 0, none⟩) c c) (w.alloc (.cells (newS c) 56)) := by
 obtain ⟨i0, hi, hz0, hz1, hz2⟩ := info_parts zpy
 have hr := run_make (P := Tryz.prog) w 40 56 i0 (.agg #[.slice none 0 0]) Tryz.underlying40 hi hz0 .i64 .i64 (c : Int) (c : Int) (by omega) (by omega) (by rw [hz2]; omega) (by omega)
 rw [hz1] at hr
 simp only [Int.toNat_natCast] at hr
 rw [hr]
 have e : madeCells (Value.agg #[.slice none 0 0]).cells (c * 1) = newS c := by
  apply Array.toList_inj.1
  unfold newS madeCells
  apply List.ext_getElem?
  intro j
  by_cases hj : j < c
  ·simp [hj, Value.cells, Nat.mod_one]
  ·simp [hj]
 rw [e]
theorem zab (w : World) (v : Value) : RW (w.alloc (.cells #[v] 56)) w.heap.size 56 1 (fun _ => v) := heap_alloc_new w _
def LocY (V wx : World) (b C n : Nat) (R : (Nat → Nat → Nat) → Prop) : Prop :=
 ∃ (G : Nat) (Bs : Nat → Option Addr) (cs : Nat → Nat) (F : Nat → Nat → Nat), RW wx b 56 1 (fun _ => .slice (some ⟨G, 0, none⟩) C C) ∧ PM wx G C n Bs cs F ∧ Hid (R F) ∧ V.heap.size ≤ b ∧ Ext V wx
theorem zah {V w : World} {G C n : Nat} {Bs : Nat → Option Addr} {cs : Nat → Nat} {F : Nat → Nat → Nat} {R : (Nat → Nat → Nat) → Prop} (k : Ext V w) (h : PM w G C n Bs cs F) (hR : R F) : LocY V (w.alloc (.cells #[.slice (some ⟨G, 0, none⟩) C C] 56)) w.heap.size C n R :=
 ⟨G, Bs, cs, F, zab _ _, h.ext ((Ext.refl w).alloc _), Lib.hid hR, k.size, k.alloc _⟩
theorem zag {V w : World} {b G C n : Nat} {Bs : Nat → Option Addr} {cs : Nat → Nat} {F : Nat → Nat → Nat} {B : Option Addr} {m c : Nat} {R : (Nat → Nat → Nat) → Prop} (k : Ext V w) (hr : RW w b 56 1 (fun _ => .slice B m c)) (hb : V.heap.size ≤ b) (h : PM w G C n Bs cs F) (hR : R F) : LocY V (w.setCell ⟨b, 0, none⟩ (.slice (some ⟨G, 0, none⟩) C C)) b C n R :=
 ⟨G, Bs, cs, F, (hr.set (show 0 < 1 by omega) _).congr fun i hi => by rw [if_pos (by omega)], h.aside hr rfl _, Lib.hid hR, hb, k.set (p := ⟨b, 0, none⟩) hb _⟩
theorem PM.away {w : World} {G L n x i m : Nat} {t : TypeId} {As : Nat → Option Addr} {cs : Nat → Nat} {F : Nat → Nat → Nat} {F' : Nat → Value} {B : Option Addr} {k k' : Nat} (h : PM w G L n As cs F) (h' : RW w x t m F') (ht : 22 ≠ t) (hi : i < m) (hF : F' i = .slice B k k') (v : Value) : PM (w.setCell ⟨x, i, none⟩ v) G L n As cs F :=
 ⟨RW.aside h.row h' ht _ _, fun j hj => (h.lists j hj).aside ((h'.cell hi).trans (by rw [hF])) v⟩
theorem Tp.away {w : World} {p x i m : Nat} {t : TypeId} {l : List Nat} {F' : Nat → Value} {B : Option Addr} {k k' : Nat} (h : Tp w p l) (h' : RW w x t m F') (hne : p ≠ x) (hi : i < m) (hF : F' i = .slice B k k') (v : Value) : Tp (w.setCell ⟨x, i, none⟩ v) p l := by
 obtain ⟨A, c, h1, h2⟩ := h
 have kS : On x w (w.setCell ⟨x, i, none⟩ v) := (On.refl x w).set i v
 exact ⟨A, c, (kS.block p h1.lt (fun e => hne (by injection e))).trans h1, NX.aside h2 ((h'.cell hi).trans (by rw [hF])) v⟩
theorem zhx {w V : World} {g p : Nat} {t : TypeId} {r : List Nat} {B0 : Option Addr} {m0 k0 : Nat} (hr : RW V g t 2 (fun _ => .slice B0 m0 k0)) (ht : 22 ≠ t) (hk : On p w V) (hg : w.heap.size ≤ g) (hT : Tp V p r) (hp : p < w.heap.size) (b c : Value) (hb : ∃ B m k, b = .slice B m k) :
    ∃ W, (V.setCell ⟨g, 0, none⟩ b).setCell ⟨g, 1, none⟩ c = W ∧ W.cell? ⟨g, 0, none⟩ = some b ∧ W.cell? ⟨g, 1, none⟩ = some c ∧ On p w W ∧ Tp W p r ∧ (∀ {G L n As cs F}, PM V G L n As cs F → PM W G L n As cs F) := by
 have h1 := hr.set (show 0 < 2 by omega) b
 have h2 := h1.set (show 1 < 2 by omega) c
 refine ⟨_, rfl, ?_, ?_, (hk.store hg 0 b).store hg 1 c, ?_, fun h => ?_⟩
 ·have := h2.cell (i := 0) (by omega)
  simpa using this
 ·have := h2.cell (i := 1) (by omega)
  simpa using this
 ·exact (hT.away hr (by omega) (show 0 < 2 by omega) rfl b).away h1 (by omega) (show 1 < 2 by omega) (show _ = Value.slice B0 m0 k0 from if_neg (by omega)) c
 ·exact (h.away hr ht (show 0 < 2 by omega) rfl b).away h1 ht (show 1 < 2 by omega) (show _ = Value.slice B0 m0 k0 from if_neg (by omega)) c
def accF (acc : List (List Nat)) (j i : Nat) : Nat := (acc.getD j []).getD i 0
def zxb (n L : Nat) (q : Nat → Nat) (S : Nat → Nat → Nat) (Hf : Nat → Nat → Nat) (acc : List (List Nat)) (es : List Int) (FB : Nat → Nat → Nat) : Prop :=
 (∀ j, j < L → ∀ i, i < n → accF acc j i < q j) ∧ (∀ j, j < L → ∀ i, i < n → FB j i < q j ∧ M (q j : Int) (FB j i : Int) ((Hf j i : Int) - (nega n (fun t => (accF acc j t : Int)) (fun t => (S j t : Int)) i + es.getD i 0)))
def HidIs (w' : World) (p n L wd : Nat) (q : Nat → Nat) (l : List Nat) (S Hf : Nat → Nat → Nat) (x : Int) (BB AA : Option Addr) (m : Nat) : Prop :=
 (x = 0 ∧ m = L ∧ ∃ (acc : List (List Nat)) (r1 : List Nat) (es : List Int) (r2 : List Nat) (GB GA : Nat) (Bs As : Nat → Option Addr) (cb ca : Nat → Nat) (FB : Nat → Nat → Nat), unifS n q l L = some (acc, r1) ∧ errsS wd r1 n = some (es, r2) ∧ BB = some ⟨GB, 0, none⟩ ∧ AA = some ⟨GA, 0, none⟩ ∧ PM w' GB L n Bs cb FB ∧ PM w' GA L n As ca (accF acc) ∧ Hid (zxb n L q S Hf acc es FB) ∧ Tp w' p r2) ∨
 (x = 11 ∧ m = 0 ∧ BB = none ∧ AA = none ∧ (unifS n q l L = none ∨ ∃ acc r1, unifS n q l L = some (acc, r1) ∧ errsS wd r1 n = none) ∧ Tp w' p [])
theorem HidIs.keep {w w' : World} {p n L wd : Nat} {q : Nat → Nat} {l : List Nat} {S Hf : Nat → Nat → Nat} {x : Int} {BB AA : Option Addr} {m : Nat} (h : HidIs w p n L wd q l S Hf x BB AA m) (f : ∀ {G L n As cs F}, PM w G L n As cs F → PM w' G L n As cs F) (g : ∀ r, Tp w p r → Tp w' p r) : HidIs w' p n L wd q l S Hf x BB AA m := by
 rcases h with ⟨h1, h2, acc, r1, es, r2, GB, GA, Bs, As, cb, ca, FB, h3, h4, h5, h6, h7, h8, h9, h10⟩ | ⟨h1, h2, h3, h4, h5, h6⟩
 ·exact .inl ⟨h1, h2, acc, r1, es, r2, GB, GA, Bs, As, cb, ca, FB, h3, h4, h5, h6, f h7, f h8, h9, g _ h10⟩
 ·exact .inr ⟨h1, h2, h3, h4, h5, g _ h6⟩
def zzt (w : World) (p n L wd : Nat) (q : Nat → Nat) (l : List Nat) (S Hf : Nat → Nat → Nat) (e : Ending) (w' : World) : Prop :=
 ∃ (x : Int) (BB AA : Option Addr) (m : Nat), e = .returned (.tuple #[.agg #[.slice BB m m, .slice AA m m], .int .i64 x]) ∧ HidIs w' p n L wd q l S Hf x BB AA m ∧ On p w w'
theorem zyj {n L : Nat} {q : Nat → Nat} {l : List Nat} {acc : List (List Nat)} {r : List Nat} (hq : ∀ j, j < L → 0 < q j) (h : unifS n q l L = some (acc, r)) {j i : Nat} (hj : j < L) (hi : i < n) : accF acc j i < q j := by
 obtain ⟨_, h2, h3⟩ := zb9 hq h
 unfold accF
 have h4 : acc[j]? = some acc[j] := List.getElem?_eq_getElem (by omega)
 obtain ⟨h5, h6⟩ := h3 j _ h4
 have e1 : acc.getD j [] = acc[j] := by rw [List.getD_eq_getElem?_getD, h4, Option.getD_some]
 rw [e1, List.getD_eq_getElem?_getD, List.getElem?_eq_getElem (by omega), Option.getD_some]
 exact h6 _ (List.getElem_mem _)
theorem LX.vxT {w : World} {A : Option Addr} {n c : Nat} {zs : List Int} (h : LX w A n c zs) : VX w A n c (fun i => zs.getD i 0) :=
 ⟨h.room, fun h0 => by
  obtain ⟨ad, e, hc⟩ := h.cells h0
  exact ⟨ad, e, fun j hj => hc j _ (by
   have hl := h.len
   rw [List.getD_eq_getElem?_getD, List.getElem?_eq_getElem (by omega), Option.getD_some])⟩⟩
theorem zkx {w : Nat} (hw : w ≤ 16) {l : List Nat} {k : Nat} {acc : List Int} {r : List Nat} (h : errsS w l k = some (acc, r)) (i : Nat) : (acc.getD i 0).natAbs ≤ w := by
 rw [List.getD_eq_getElem?_getD]
 cases hc : acc[i]? with
 | none => simp
 | some z => exact znc hw h z (List.mem_of_getElem? hc)
theorem zyk {n L : Nat} {q : Nat → Nat} {A S Hf Fm Fn Fs Fb : Nat → Nat → Nat} {es : Nat → Int} (hq : ∀ j, j < L → 2 ≤ q j) (hm : ∀ j, j < L → ∀ i, i < n → Fm j i < q j ∧ M (q j : Int) (Fm j i : Int) (nega n (fun t => (A j t : Int)) (fun t => (S j t : Int)) i)) (hn : ∀ j, j < L → Fn j = fun i => lif (es i) (q j)) (hs : ∀ j, j < L → Fs j = fun i => (Fm j i + Fn j i) % q j) (hb : ∀ j, j < L → Fb j = fun i => dif (Hf j i) (Fs j i) (q j)) (hh : ∀ j, j < L → ∀ i, i < n → Hf j i < q j) :
    ∀ j, j < L → ∀ i, i < n → Fb j i < q j ∧ M (q j : Int) (Fb j i : Int) ((Hf j i : Int) - (nega n (fun t => (A j t : Int)) (fun t => (S j t : Int)) i + es i)) := fun j hj i hi => by
 have h2 := hq j hj
 have h3 := hh j hj i hi
 have hsl : Fs j i < q j := by rw [hs j hj]; exact Nat.mod_lt _ (by omega)
 have hse : M (q j : Int) (Fs j i : Int) (nega n (fun t => (A j t : Int)) (fun t => (S j t : Int)) i + es i) := by
  rw [hs j hj]
  have h4 : M (q j : Int) (((Fm j i + Fn j i) % q j : Nat) : Int) ((Fm j i : Int) + (Fn j i : Int)) := by
   unfold M
   rw [Int.natCast_emod, Int.natCast_add, Int.emod_emod]
  refine h4.trans ((hm j hj i hi).2.add ?_)
  rw [hn j hj]
  unfold M lif
  rw [Int.toNat_of_nonneg (Int.emod_nonneg _ (by omega)), Int.emod_emod]
 rw [hb j hj]
 refine ⟨Nat.mod_lt _ (by omega), ?_⟩
 have h5 : M (q j : Int) ((dif (Hf j i) (Fs j i) (q j) : Nat) : Int) ((Hf j i : Int) - (Fs j i : Int)) := by
  unfold M dif
  rw [Int.natCast_emod, Int.natCast_sub (by omega), Int.natCast_add, Int.emod_emod, show (Hf j i : Int) + (q j : Int) - (Fs j i : Int) = ((Hf j i : Int) - (Fs j i : Int)) + (q j : Int) by omega, Int.add_emod_right]
 refine h5.trans ?_
 rw [Int.sub_eq_add_neg, Int.sub_eq_add_neg]
 refine (M.rfl).add ?_
 have := (M.rfl (q := (q j : Int)) (a := -1)).mul hse
 rwa [Int.neg_one_mul, Int.neg_one_mul] at this
def JoinR (L : Nat) (R : Nat → (Nat → Nat) → (Nat → Nat) → (Nat → Nat) → Prop) (F0 : Nat → Nat → Nat) (Fe : Nat → Nat → Nat → Nat) : Nat → (Nat → Nat → Nat) → Prop
 | 0, F => F = F0
 | k + 1, F => ∃ F', JoinR L R F0 Fe k F' ∧ ∀ j, j < L → R j (F' j) (Fe k j) (F j)
theorem JoinR.lt {n L : Nat} {q : Nat → Nat} {R : Nat → (Nat → Nat) → (Nat → Nat) → (Nat → Nat) → Prop} {F0 : Nat → Nat → Nat} {Fe : Nat → Nat → Nat → Nat} (hR : ∀ j f f' F, j < L → R j f f' F → ∀ i, i < n → F i < q j) (h0 : ∀ j, j < L → ∀ i, i < n → F0 j i < q j) : ∀ {k : Nat} {F : Nat → Nat → Nat}, JoinR L R F0 Fe k F → ∀ j, j < L → ∀ i, i < n → F j i < q j
 | 0, F, h, j, hj, i, hi => by
  have h2 : F = F0 := h
  rw [h2]; exact h0 j hj i hi
 | k + 1, F, h, j, hj, i, hi => by
  obtain ⟨F', _, h2⟩ := h
  exact hR j _ _ _ hj (h2 j hj) i hi
def ElsAt (w : World) (x m L n : Nat) (Gs : Nat → Nat) (Bs : Nat → Nat → Option Addr) (cs : Nat → Nat → Nat) (Fe : Nat → Nat → Nat → Nat) : Prop :=
 RW w x 56 m (fun k => .slice (some ⟨Gs k, 0, none⟩) L L) ∧ ∀ k, k < m → PM w (Gs k) L n (Bs k) (cs k) (Fe k)
theorem ElsAt.ext {w w' : World} {x m L n : Nat} {Gs : Nat → Nat} {Bs : Nat → Nat → Option Addr} {cs : Nat → Nat → Nat} {Fe : Nat → Nat → Nat → Nat} (h : ElsAt w x m L n Gs Bs cs Fe) (k : Ext w w') : ElsAt w' x m L n Gs Bs cs Fe := ⟨RW.ext h.1 k, fun j hj => (h.2 j hj).ext k⟩
def RMul (n : Nat) (q : Nat → Nat) (j : Nat) (f f' F : Nat → Nat) : Prop := ∀ i, i < n → F i < q j ∧ Go.Proofs.YtopbibfpjgjalaaGreatDoor.M (q j : Int) (F i : Int) (nega n (fun k => (f k : Int)) (fun k => (f' k : Int)) i)
def RAdd (n : Nat) (q : Nat → Nat) (j : Nat) (f f' F : Nat → Nat) : Prop := (∀ i, i < n → F i < q j ∧ Go.Proofs.YtopbibfpjgjalaaGreatDoor.M (q j : Int) (F i : Int) ((f i : Int) + (f' i : Int)))
set_option maxHeartbeats 4000000 in
theorem zbm (n MM L r x m G : Nat) (q pp : Nat → Nat) (a e : Nat → Nat → Nat) (As : Nat → Option Addr) (cs0 : Nat → Nat) (F0 : Nat → Nat → Nat) (Gs : Nat → Nat) (Bs : Nat → Nat → Option Addr) (cs : Nat → Nat → Nat) (Fe : Nat → Nat → Nat → Nat) (w : World) (hn0 : 2 ≤ n) (hn : n ≤ 32) (hL0 : 1 ≤ L) (hL : L ≤ 24) (hLM : L ≤ MM) (hm : m ≤ 100) (hR : Rg w r n MM q pp a e) (hG : PM w G L n As cs0 F0) (h0 : Hid (∀ j, j < L → ∀ i, i < n → F0 j i < q j)) (hE : ElsAt w x m L n Gs Bs cs Fe) (hEq : Hid (∀ k, k < m → ∀ j, j < L → ∀ i, i < n → Fe k j i < q j)) (hsq : Hid (∀ j, j < L → ∃ x, x < q j ∧ noSq (q j) x = true)) :
    Calls Tryz.prog 58 #[.func (.func 80) #[.pointer (some ⟨r, 0, none⟩)] #[], .agg #[.slice (some ⟨G, 0, none⟩) L L], .slice (some ⟨x, 0, none⟩) m m] w fun ee w' => ∃ (G' : Nat) (As' : Nat → Option Addr) (cs' : Nat → Nat) (F : Nat → Nat → Nat), ee = .returned (.agg #[.slice (some ⟨G', 0, none⟩) L L]) ∧ PM w' G' L n As' cs' F ∧ Hid (JoinR L (RMul n q) F0 Fe m F) ∧ Ext w w' := by
 have HR := Lib.hid hR
 have HE := Lib.hid hE
 have HG := Lib.hid hG
 have HLT := Lib.hid (fun k F (h : JoinR L (RMul n q) F0 Fe k F) => h.lt (n := n) (q := q) (fun j f f' F hj h i hi => (h i hi).1) h0.out)
 have k0 : Ext w ((w.alloc (.cells #[.slice (some ⟨G, 0, none⟩) L L] 56)).alloc (.cells #[.slice none 0 0] 56)) := ((Ext.refl w).alloc _).alloc _
 have hb4 := RW.ext (zab w (.slice (some ⟨G, 0, none⟩) L L)) ((Ext.refl _).alloc (.cells #[.slice none 0 0] 56))
 have hb6 : RW ((w.alloc (.cells #[.slice (some ⟨G, 0, none⟩) L L] 56)).alloc (.cells #[.slice none 0 0] 56)) (w.heap.size + 1) 56 1 (fun _ => .slice none 0 0) := by
  have := zab (w.alloc (.cells #[.slice (some ⟨G, 0, none⟩) L L] 56)) (.slice none 0 0)
  rwa [show (w.alloc (.cells #[.slice (some ⟨G, 0, none⟩) L L] 56)).heap.size = w.heap.size + 1 by simp] at this
 clear hE hG
 go_enter Tryz.func58, Tryz.ntmps58
 go_wp2
 generalize (w.alloc (.cells #[.slice (some ⟨G, 0, none⟩) L L] 56)).alloc (.cells #[.slice none 0 0] 56) = V at *
 obtain ⟨b4, hb4e⟩ : ∃ b4, b4 = w.heap.size := ⟨_, rfl⟩
 obtain ⟨b6, hb6e⟩ : ∃ b6, b6 = w.heap.size + 1 := ⟨_, rfl⟩
 rw [← hb4e] at hb4
 rw [← hb6e] at hb6
 simp only [← hb6e]
 simp only [← hb4e]
 have g4 : w.heap.size ≤ b4 := by omega
 have g6 : w.heap.size ≤ b6 := by omega
 have g46 : b4 ≠ b6 := by omega
 have hHG := Lib.hid (HG.out.ext k0)
 clear hb4e hb6e
 go_loopw [11] (fun i wr => ∃ (k : Nat) (G' : Nat) (As' : Nat → Option Addr) (cs' : Nat → Nat) (F : Nat → Nat → Nat), k ≤ m ∧ i = .int .i64 (k : Int) ∧ RW wr b4 56 1 (fun _ => .slice (some ⟨G', 0, none⟩) L L) ∧ PM wr G' L n As' cs' F ∧ Hid (JoinR L (RMul n q) F0 Fe k F) ∧ RW wr b6 56 1 (fun _ => .slice none 0 0) ∧ Ext w wr) (fun i _ => m - (intOf i).toNat)
 case atStart => exact ⟨0, G, As, cs0, F0, by omega, rfl, hb4, hHG.out, Lib.hid rfl, hb6, k0⟩
 case round =>
  obtain ⟨k, G', As', cs', F, hk, rfl, hr4, hpm, hJ, hr6, kr⟩ := hrel
  clear hb4 hb6 hHG
  by_cases hlt : k < m
  ·have hEl := HE.out.ext kr
   have cx := hEl.1.cell hlt
   have i0 : (0 : Int) ≤ (k : Int) := by omega
   have i1 : (k : Int) < (m : Int) := by omega
   have c4 := hr4.cell (i := 0) (by omega)
   have ka : Ext wr (wr.alloc (.cells #[.slice (some ⟨Gs k, 0, none⟩) L L] 56)) := (Ext.refl wr).alloc _
   have ca : (wr.alloc (.cells #[.slice (some ⟨Gs k, 0, none⟩) L L] 56)).cell? ⟨wr.heap.size, 0, none⟩ = some (.slice (some ⟨Gs k, 0, none⟩) L L) := zam _ _ _
   replace c4 := cE ka c4
   have HRr := Lib.hid ((HR.out.ext kr).ext ka)
   have HPM := Lib.hid (hpm.ext ka)
   have HEK := Lib.hid ((hEl.2 k hlt).ext ka)
   have HR4 := Lib.hid (hr4.ext ka)
   have HR6 := Lib.hid (hr6.ext ka)
   have KR := Lib.hid (kr.trans ka)
   have HFL := Lib.hid (HLT.out k F hJ.out)
   clear hEl hpm hr4 hr6 kr ka
   go_wp2_with fail
   generalize wr.alloc (.cells #[.slice (some ⟨Gs k, 0, none⟩) L L] 56) = V1 at *
   refine (zmw r n MM q pp a e _ _ L L L _ _ (fun _ => n) _ (fun _ => n) _ F (Fe k) V1 HRr.out (Lib.hid ⟨HPM.out.px, by omega, fun _ _ => (show n ≤ 1000000000000000 by omega)⟩) (Lib.hid ⟨HEK.out.px, by omega, fun _ _ => (show n ≤ 1000000000000000 by omega)⟩) ⟨⟨by omega, hLM, fun j hj => ⟨rfl, HFL.out j hj⟩⟩, ⟨by omega, hLM, fun j hj => ⟨rfl, hEq.out k hlt j hj⟩⟩⟩ hsq.out).mono ?_
   rintro ee V2 ⟨G2, Bs2, cs2, F2, rfl, hpm2, hF2, k2⟩
   have h4 := HR4.out.ext k2
   have c4' := h4.cell (i := 0) (by omega)
   have z4 := h4.frozen 0
   have s4 := h4.lt
   have HS4 := Lib.hid ((h4.set (show 0 < 1 by omega) (.slice (some ⟨G2, 0, none⟩) L L)).congr (G := fun _ => .slice (some ⟨G2, 0, none⟩) L L) fun i hi => by rw [if_pos (by omega)])
   have HP2 := Lib.hid (hpm2.aside h4 rfl (.slice (some ⟨G2, 0, none⟩) L L))
   have HS6 := Lib.hid (RW.onN (HR6.out.ext k2) ((On.refl b4 V2).set 0 (.slice (some ⟨G2, 0, none⟩) L L)) (fun h => g46 h.symm))
   have HK2 := Lib.hid ((KR.out.trans k2).set (p := ⟨b4, 0, none⟩) g4 (.slice (some ⟨G2, 0, none⟩) L L))
   have HJ2 := Lib.hid (show JoinR L (RMul n q) F0 Fe (k + 1) F2 from ⟨F, hJ.out, (show ∀ j, j < L → RMul n q j (F j) (Fe k j) (F2 j) from fun j hj => hF2.out j hj)⟩)
   clear h4 hpm2 k2 c4
   go_wp2
   exact ⟨⟨k + 1, G2, Bs2, cs2, F2, by omega, by go_num, HS4.out, HP2.out, HJ2, HS6.out, HK2.out⟩, by simp [intOf]; omega⟩
  ·obtain rfl : k = m := by omega
   have c4 := hr4.cell (i := 0) (by omega)
   have c6 := hr6.cell (i := 0) (by omega)
   have z6 := hr6.frozen 0
   have s6 := hr6.lt
   have HR6 := Lib.hid hr6
   have HP := Lib.hid (hpm.aside hr6 rfl (.slice (some ⟨G', 0, none⟩) L L))
   have HK := Lib.hid (kr.set (p := ⟨b6, 0, none⟩) g6 (.slice (some ⟨G', 0, none⟩) L L))
   clear hr4 hr6 hpm kr
   go_wp2_with fail
   have d0 := zas HR6.out (.slice (some ⟨G', 0, none⟩) L L)
   have h1 := HP.out
   have h2 := HK.out
   generalize wr.setCell ⟨b6, 0, none⟩ (.slice (some ⟨G', 0, none⟩) L L) = w9 at *
   exact bodyPost_ret (v := .agg #[.slice (some ⟨G', 0, none⟩) L L]) (by simp [results, Tryz.results58, go_sem, d0]) rfl ⟨G', As', cs', F, rfl, h1, hJ, h2⟩
set_option maxHeartbeats 4000000 in
theorem zcn (n MM L r x m G : Nat) (q pp : Nat → Nat) (a e : Nat → Nat → Nat) (As : Nat → Option Addr) (cs0 : Nat → Nat) (F0 : Nat → Nat → Nat) (Gs : Nat → Nat) (Bs : Nat → Nat → Option Addr) (cs : Nat → Nat → Nat) (Fe : Nat → Nat → Nat → Nat) (w : World) (hn0 : 2 ≤ n) (hn : n ≤ 32) (hL0 : 1 ≤ L) (hL : L ≤ 24) (hLM : L ≤ MM) (hm : m ≤ 100) (hR : Rg w r n MM q pp a e) (hG : PM w G L n As cs0 F0) (h0 : Hid (∀ j, j < L → ∀ i, i < n → F0 j i < q j)) (hE : ElsAt w x m L n Gs Bs cs Fe) (hEq : Hid (∀ k, k < m → ∀ j, j < L → ∀ i, i < n → Fe k j i < q j)) :
    Calls Tryz.prog 58 #[.func (.func 100) #[.pointer (some ⟨r, 0, none⟩)] #[], .agg #[.slice (some ⟨G, 0, none⟩) L L], .slice (some ⟨x, 0, none⟩) m m] w fun ee w' => ∃ (G' : Nat) (As' : Nat → Option Addr) (cs' : Nat → Nat) (F : Nat → Nat → Nat), ee = .returned (.agg #[.slice (some ⟨G', 0, none⟩) L L]) ∧ PM w' G' L n As' cs' F ∧ Hid (JoinR L (RAdd n q) F0 Fe m F) ∧ Ext w w' := by
 have HR := Lib.hid hR
 have HE := Lib.hid hE
 have HG := Lib.hid hG
 have HLT := Lib.hid (fun k F (h : JoinR L (RAdd n q) F0 Fe k F) => h.lt (n := n) (q := q) (fun j f f' F hj h i hi => (h i hi).1) h0.out)
 have k0 : Ext w ((w.alloc (.cells #[.slice (some ⟨G, 0, none⟩) L L] 56)).alloc (.cells #[.slice none 0 0] 56)) := ((Ext.refl w).alloc _).alloc _
 have hb4 := RW.ext (zab w (.slice (some ⟨G, 0, none⟩) L L)) ((Ext.refl _).alloc (.cells #[.slice none 0 0] 56))
 have hb6 : RW ((w.alloc (.cells #[.slice (some ⟨G, 0, none⟩) L L] 56)).alloc (.cells #[.slice none 0 0] 56)) (w.heap.size + 1) 56 1 (fun _ => .slice none 0 0) := by
  have := zab (w.alloc (.cells #[.slice (some ⟨G, 0, none⟩) L L] 56)) (.slice none 0 0)
  rwa [show (w.alloc (.cells #[.slice (some ⟨G, 0, none⟩) L L] 56)).heap.size = w.heap.size + 1 by simp] at this
 clear hE hG
 go_enter Tryz.func58, Tryz.ntmps58
 go_wp2
 generalize (w.alloc (.cells #[.slice (some ⟨G, 0, none⟩) L L] 56)).alloc (.cells #[.slice none 0 0] 56) = V at *
 obtain ⟨b4, hb4e⟩ : ∃ b4, b4 = w.heap.size := ⟨_, rfl⟩
 obtain ⟨b6, hb6e⟩ : ∃ b6, b6 = w.heap.size + 1 := ⟨_, rfl⟩
 rw [← hb4e] at hb4
 rw [← hb6e] at hb6
 simp only [← hb6e]
 simp only [← hb4e]
 have g4 : w.heap.size ≤ b4 := by omega
 have g6 : w.heap.size ≤ b6 := by omega
 have g46 : b4 ≠ b6 := by omega
 have hHG := Lib.hid (HG.out.ext k0)
 clear hb4e hb6e
 go_loopw [11] (fun i wr => ∃ (k : Nat) (G' : Nat) (As' : Nat → Option Addr) (cs' : Nat → Nat) (F : Nat → Nat → Nat), k ≤ m ∧ i = .int .i64 (k : Int) ∧ RW wr b4 56 1 (fun _ => .slice (some ⟨G', 0, none⟩) L L) ∧ PM wr G' L n As' cs' F ∧ Hid (JoinR L (RAdd n q) F0 Fe k F) ∧ RW wr b6 56 1 (fun _ => .slice none 0 0) ∧ Ext w wr) (fun i _ => m - (intOf i).toNat)
 case atStart => exact ⟨0, G, As, cs0, F0, by omega, rfl, hb4, hHG.out, Lib.hid rfl, hb6, k0⟩
 case round =>
  obtain ⟨k, G', As', cs', F, hk, rfl, hr4, hpm, hJ, hr6, kr⟩ := hrel
  clear hb4 hb6 hHG
  by_cases hlt : k < m
  ·have hEl := HE.out.ext kr
   have cx := hEl.1.cell hlt
   have i0 : (0 : Int) ≤ (k : Int) := by omega
   have i1 : (k : Int) < (m : Int) := by omega
   have c4 := hr4.cell (i := 0) (by omega)
   have ka : Ext wr (wr.alloc (.cells #[.slice (some ⟨Gs k, 0, none⟩) L L] 56)) := (Ext.refl wr).alloc _
   have ca : (wr.alloc (.cells #[.slice (some ⟨Gs k, 0, none⟩) L L] 56)).cell? ⟨wr.heap.size, 0, none⟩ = some (.slice (some ⟨Gs k, 0, none⟩) L L) := zam _ _ _
   replace c4 := cE ka c4
   have HRr := Lib.hid ((HR.out.ext kr).ext ka)
   have HPM := Lib.hid (hpm.ext ka)
   have HEK := Lib.hid ((hEl.2 k hlt).ext ka)
   have HR4 := Lib.hid (hr4.ext ka)
   have HR6 := Lib.hid (hr6.ext ka)
   have KR := Lib.hid (kr.trans ka)
   have HFL := Lib.hid (HLT.out k F hJ.out)
   clear hEl hpm hr4 hr6 kr ka
   go_wp2_with fail
   generalize wr.alloc (.cells #[.slice (some ⟨Gs k, 0, none⟩) L L] 56) = V1 at *
   refine (zly r n MM q pp a e _ _ L L L _ _ (fun _ => n) _ (fun _ => n) _ F (Fe k) V1 HRr.out (Lib.hid ⟨HPM.out.px, by omega, fun _ _ => (show n ≤ 1000000000000000 by omega)⟩) (Lib.hid ⟨HEK.out.px, by omega, fun _ _ => (show n ≤ 1000000000000000 by omega)⟩) ⟨⟨by omega, hLM, fun j hj => ⟨rfl, HFL.out j hj⟩⟩, ⟨by omega, hLM, fun j hj => ⟨rfl, hEq.out k hlt j hj⟩⟩⟩).mono ?_
   rintro ee V2 ⟨G2, Bs2, cs2, F2, rfl, hpm2, hF2, k2⟩
   have h4 := HR4.out.ext k2
   have c4' := h4.cell (i := 0) (by omega)
   have z4 := h4.frozen 0
   have s4 := h4.lt
   have HS4 := Lib.hid ((h4.set (show 0 < 1 by omega) (.slice (some ⟨G2, 0, none⟩) L L)).congr (G := fun _ => .slice (some ⟨G2, 0, none⟩) L L) fun i hi => by rw [if_pos (by omega)])
   have HP2 := Lib.hid (hpm2.aside h4 rfl (.slice (some ⟨G2, 0, none⟩) L L))
   have HS6 := Lib.hid (RW.onN (HR6.out.ext k2) ((On.refl b4 V2).set 0 (.slice (some ⟨G2, 0, none⟩) L L)) (fun h => g46 h.symm))
   have HK2 := Lib.hid ((KR.out.trans k2).set (p := ⟨b4, 0, none⟩) g4 (.slice (some ⟨G2, 0, none⟩) L L))
   have HJ2 := Lib.hid (show JoinR L (RAdd n q) F0 Fe (k + 1) F2 from ⟨F, hJ.out, (show ∀ j, j < L → RAdd n q j (F j) (Fe k j) (F2 j) from fun j hj i hi => by
       have h2 := (HR.out.ql j (by omega)).1
       rw [hF2.out j hj]
       refine ⟨Nat.mod_lt _ (by omega), ?_⟩
       unfold M
       rw [Int.natCast_emod, Int.natCast_add, Int.emod_emod])⟩)
   clear h4 hpm2 k2 c4
   go_wp2
   exact ⟨⟨k + 1, G2, Bs2, cs2, F2, by omega, by go_num, HS4.out, HP2.out, HJ2, HS6.out, HK2.out⟩, by simp [intOf]; omega⟩
  ·obtain rfl : k = m := by omega
   have c4 := hr4.cell (i := 0) (by omega)
   have c6 := hr6.cell (i := 0) (by omega)
   have z6 := hr6.frozen 0
   have s6 := hr6.lt
   have HR6 := Lib.hid hr6
   have HP := Lib.hid (hpm.aside hr6 rfl (.slice (some ⟨G', 0, none⟩) L L))
   have HK := Lib.hid (kr.set (p := ⟨b6, 0, none⟩) g6 (.slice (some ⟨G', 0, none⟩) L L))
   clear hr4 hr6 hpm kr
   go_wp2_with fail
   have d0 := zas HR6.out (.slice (some ⟨G', 0, none⟩) L L)
   have h1 := HP.out
   have h2 := HK.out
   generalize wr.setCell ⟨b6, 0, none⟩ (.slice (some ⟨G', 0, none⟩) L L) = w9 at *
   exact bodyPost_ret (v := .agg #[.slice (some ⟨G', 0, none⟩) L L]) (by simp [results, Tryz.results58, go_sem, d0]) rfl ⟨G', As', cs', F, rfl, h1, hJ, h2⟩
theorem zie (w : World) (a0 a1 a2 : Value) (t : TypeId) : (w.alloc (.cells #[a0, a1, a2] t)).cell? ⟨w.heap.size, 0, none⟩ = some a0 ∧ (w.alloc (.cells #[a0, a1, a2] t)).cell? ⟨w.heap.size, 1, none⟩ = some a1 ∧ (w.alloc (.cells #[a0, a1, a2] t)).cell? ⟨w.heap.size, 2, none⟩ = some a2 := ⟨by simp, by simp, by simp⟩
def drawV (wd n : Nat) (r : List Nat) (k : Nat) : Option (List Int × List Nat) := if k = 0 then ternS r n else errsS wd r n
def veilS (wd n : Nat) (l : List Nat) : Nat → Option (List (List Int) × List Nat)
 | 0 => some ([], l)
 | k + 1 => match veilS wd n l k with
  | none => none
  | some (acc, r) => match drawV wd n r k with
   | none => none
   | some (e, r') => some (acc ++ [e], r')
theorem zcb {wd n k : Nat} {l : List Nat} {acc : List (List Int)} {r r' : List Nat} {e : List Int} (h : veilS wd n l k = some (acc, r)) (hd : drawV wd n r k = some (e, r')) : veilS wd n l (k + 1) = some (acc ++ [e], r') := by simp [veilS, h, hd]
theorem zi1 {wd n k : Nat} {l : List Nat} {acc : List (List Int)} {r : List Nat} (h : veilS wd n l k = some (acc, r)) (hd : drawV wd n r k = none) : veilS wd n l (k + 1) = none := by simp [veilS, h, hd]
theorem zif {wd n k : Nat} {l : List Nat} (h : veilS wd n l k = none) : ∀ m, veilS wd n l (k + m) = none
 | 0 => h
 | m + 1 => by rw [← Nat.add_assoc, veilS, zif h m]
theorem zn9 {wd n k : Nat} {r : List Nat} {e : List Int} {r' : List Nat} (h : drawV wd n r k = some (e, r')) : r'.length ≤ r.length := by
 unfold drawV at h
 by_cases h0 : k = 0
 ·rw [if_pos h0] at h
  have := (zdb h).1
  omega
 ·rw [if_neg h0] at h
  have := (zc6 h).1
  omega
theorem zdq {wd n k : Nat} (hw : wd ≤ 16) {r : List Nat} {e : List Int} {r' : List Nat} (h : drawV wd n r k = some (e, r')) (i : Nat) : (e.getD i 0).natAbs ≤ (if k = 0 then 1 else wd) := by
 unfold drawV at h
 by_cases h0 : k = 0
 ·rw [if_pos h0] at h ⊢
  rw [List.getD_eq_getElem?_getD]
  cases hc : e[i]? with
  | none => simp
  | some z =>
   have := zek h z (List.mem_of_getElem? hc)
   simp
   omega
 ·rw [if_neg h0] at h ⊢
  exact zkx hw h i
theorem zbn {acc : List (List Int)} {y : List Int} {i : Nat} : (acc ++ [y]).getD i [] = if i = acc.length then y else acc.getD i [] := by
 by_cases h : i = acc.length
 ·subst h
  rw [if_pos rfl, List.getD_eq_getElem?_getD, List.getElem?_append_right (Nat.le_refl _), Nat.sub_self]
  rfl
 ·rw [if_neg h, List.getD_eq_getElem?_getD, List.getD_eq_getElem?_getD]
  by_cases g : i < acc.length
  ·rw [List.getElem?_append_left g]
  ·rw [List.getElem?_eq_none (by simp; omega), List.getElem?_eq_none (by omega)]
theorem zep {wd n : Nat} (hw : wd ≤ 16) {l : List Nat} : ∀ {k : Nat} {acc : List (List Int)} {r : List Nat}, veilS wd n l k = some (acc, r) → r.length ≤ l.length ∧ acc.length = k ∧ ∀ i, i < k → ∀ t, ((acc.getD i []).getD t 0).natAbs ≤ (if i = 0 then 1 else wd)
 | 0, acc, r, h => by
  simp [veilS] at h
  obtain ⟨rfl, rfl⟩ := h
  exact ⟨Nat.le_refl _, rfl, fun i hi => absurd hi (by omega)⟩
 | k + 1, acc, r, h => by
  rw [veilS] at h
  cases e : veilS wd n l k with
  | none => rw [e] at h; cases h
  | some x =>
   obtain ⟨acc1, r1⟩ := x
   rw [e] at h
   dsimp only at h
   cases e2 : drawV wd n r1 k with
   | none => rw [e2] at h; cases h
   | some y =>
    obtain ⟨es, r2⟩ := y
    rw [e2] at h
    dsimp only at h
    injection h with h
    injection h with h1 h2
    subst h1
    subst h2
    obtain ⟨a1, a2, a3⟩ := zep hw e
    refine ⟨by have := zn9 e2; omega, by simp [a2], fun i hi t => ?_⟩
    by_cases g : i < k
    ·rw [zbn, if_neg (by omega)]
     exact a3 i g t
    ·obtain rfl : i = k := by omega
     rw [zbn, if_pos a2.symm]
     exact zdq hw e2 t
theorem zou (p wd n B3 D : Nat) (l : List Nat) (w : World) (h3 : w.cell? ⟨B3, 0, none⟩ = some (.pointer (some ⟨p, 0, none⟩))) (h2 : w.cell? ⟨D, 3, none⟩ = some (.int .i64 (wd : Int))) (hT : Hid (Tp w p l)) (hl : l.length ≤ 100000) (h0 : 1 ≤ n) (hn : n ≤ 4096) (w0 : 1 ≤ wd) (w16 : wd ≤ 16) :
    Calls Tryz.prog 103 #[.int .i64 (n : Int), .pointer (some ⟨B3, 0, none⟩), .pointer (some ⟨D, 0, none⟩)] w (ztf w p wd n l) := by
 go_enter Tryz.func103, Tryz.ntmps103
 go_wp2_with fail
 refine (zhb p wd n l w hT hl h0 hn w0 w16).mono ?_
 rintro ee w2 (⟨acc, r, A, h1, rfl, h3, h4, h5⟩ | ⟨h1, rfl, h4, h5⟩)
 ·have H1 := Lib.hid h1
  have H3 := Lib.hid h3
  have H4 := Lib.hid h4
  have H5 := Lib.hid h5
  clear h1 h3 h4 h5
  go_wp2
  go_ret2
  exact .inl ⟨acc, r, A, H1.out, rfl, H3.out, H4.out, H5.out⟩
 ·have H1 := Lib.hid h1
  have H4 := Lib.hid h4
  have H5 := Lib.hid h5
  clear h1 h4 h5
  go_wp2
  go_ret2
  exact .inr ⟨H1.out, rfl, H4.out, H5.out⟩
structure VMem (w : World) (D B3 R H p n T L cq wd r : Nat) (Aq : Option Addr) : Prop where
 five : w.cell? ⟨D, 0, none⟩ = some (.int .i64 (n : Int)) ∧ w.cell? ⟨D, 1, none⟩ = some (.int .u64 (T : Int)) ∧ w.cell? ⟨D, 2, none⟩ = some (.slice Aq L cq) ∧ w.cell? ⟨D, 3, none⟩ = some (.int .i64 (wd : Int)) ∧ w.cell? ⟨D, 4, none⟩ = some (.pointer (some ⟨r, 0, none⟩))
 tape : w.cell? ⟨B3, 0, none⟩ = some (.pointer (some ⟨p, 0, none⟩))
 f0 : w.cell? ⟨H, 0, none⟩ = some (.func (.func 47) #[.pointer (some ⟨p, 0, none⟩)] #[])
 f1 : ∀ k, 1 ≤ k → k < 3 → w.cell? ⟨H, k, none⟩ = some (.func (.func 103) #[] #[.pointer (some ⟨B3, 0, none⟩), .pointer (some ⟨D, 0, none⟩)])
 res : RW w R 121 3 (fun _ => .slice none 0 0)
theorem VMem.on {w w' : World} {D B3 R H p n T L cq wd r g : Nat} {Aq : Option Addr} (h : VMem w D B3 R H p n T L cq wd r Aq) (k : On g w w') (hD : D ≠ g) (hB : B3 ≠ g) (hR : R ≠ g) (hH : H ≠ g) : VMem w' D B3 R H p n T L cq wd r Aq := by
 obtain ⟨⟨x0, x1, x2, x3, x4⟩, h2, h3, h4, h5⟩ := h
 exact ⟨⟨zac k x0 hD, zac k x1 hD, zac k x2 hD, zac k x3 hD, zac k x4 hD⟩, zac k h2 hB, zac k h3 hH, fun i h0 hi => zac k (h4 i h0 hi) hH, h5.onN k hR⟩
theorem VMem.ext {w w' : World} {D B3 R H p n T L cq wd r : Nat} {Aq : Option Addr} (h : VMem w D B3 R H p n T L cq wd r Aq) (k : Ext w w') : VMem w' D B3 R H p n T L cq wd r Aq := by
 obtain ⟨⟨x0, x1, x2, x3, x4⟩, h2, h3, h4, h5⟩ := h
 exact ⟨⟨cE k x0, cE k x1, cE k x2, cE k x3, cE k x4⟩, cE k h2, cE k h3, fun i h0 hi => cE k (h4 i h0 hi), h5.ext k⟩
theorem zhy {w V : World} {g p : Nat} {r : List Nat} (hr : RW V g 121 3 (fun _ => .slice none 0 0)) (hk : On p w V) (hg : w.heap.size ≤ g) (hT : Tp V p r) (hp : p < w.heap.size) (A0 A1 A2 : Option Addr) (m : Nat) :
    ∃ W, ((V.setCell ⟨g, 0, none⟩ (.slice A0 m m)).setCell ⟨g, 1, none⟩ (.slice A1 m m)).setCell ⟨g, 2, none⟩ (.slice A2 m m) = W ∧ W.cell? ⟨g, 0, none⟩ = some (.slice A0 m m) ∧ W.cell? ⟨g, 1, none⟩ = some (.slice A1 m m) ∧ W.cell? ⟨g, 2, none⟩ = some (.slice A2 m m) ∧ On p w W ∧ Tp W p r ∧ (∀ {G L n As cs F}, PM V G L n As cs F → PM W G L n As cs F) := by
 have h1 := hr.set (show 0 < 3 by omega) (.slice A0 m m)
 have h2 := h1.set (show 1 < 3 by omega) (.slice A1 m m)
 have h3 := h2.set (show 2 < 3 by omega) (.slice A2 m m)
 refine ⟨_, rfl, ?_, ?_, ?_, ((hk.store hg 0 _).store hg 1 _).store hg 2 _, ?_, fun h => ?_⟩
 ·have := h3.cell (i := 0) (by omega)
  simpa using this
 ·have := h3.cell (i := 1) (by omega)
  simpa using this
 ·have := h3.cell (i := 2) (by omega)
  simpa using this
 ·exact ((hT.away hr (by omega) (show 0 < 3 by omega) rfl _).away h1 (by omega) (show 1 < 3 by omega) (show _ = Value.slice none 0 0 from if_neg (by omega)) _).away h2 (by omega) (show 2 < 3 by omega) (show _ = Value.slice none 0 0 from by simp) _
 ·exact ((h.away hr (by decide) (show 0 < 3 by omega) rfl _).away h1 (by decide) (show 1 < 3 by omega) (show _ = Value.slice none 0 0 from if_neg (by omega)) _).away h2 (by decide) (show 2 < 3 by omega) (show _ = Value.slice none 0 0 from by simp) _
def zuj (w : World) (p n L wd : Nat) (q : Nat → Nat) (l : List Nat) (ee : Ending) (w' : World) : Prop :=
 (∃ (acc : List (List Int)) (rr : List Nat) (Gs : Nat → Nat) (As : Nat → Nat → Option Addr) (cs : Nat → Nat → Nat) (Fs : Nat → Nat → Nat → Nat), veilS wd n l 3 = some (acc, rr) ∧ ee = .returned (.tuple #[.agg #[.slice (some ⟨Gs 0, 0, none⟩) L L, .slice (some ⟨Gs 1, 0, none⟩) L L, .slice (some ⟨Gs 2, 0, none⟩) L L], .int .i64 0]) ∧ (∀ i, i < 3 → PM w' (Gs i) L n (As i) (cs i) (Fs i) ∧ ∀ j, j < L → Fs i j = fun t => lif ((acc.getD i []).getD t 0) (q j)) ∧ Tp w' p rr ∧ On p w w') ∨
 (veilS wd n l 3 = none ∧ ee = .returned (.tuple #[.agg #[.slice none 0 0, .slice none 0 0, .slice none 0 0], .int .i64 11]) ∧ Tp w' p [] ∧ On p w w')
def zb1 (L : Nat) (Gs : Nat → Nat) (k i : Nat) : Value := if i < k then .slice (some ⟨Gs i, 0, none⟩) L L else .slice none 0 0
theorem ze0 (L : Nat) (Gs : Nat → Nat) (k i : Nat) : ∃ B m, zb1 L Gs k i = .slice B m m := by
 unfold zb1
 split <;> exact ⟨_, _, rfl⟩
set_option maxHeartbeats 8000000 in
theorem zv6 (r p n L cq wd T : Nat) (Aq : Option Addr) (q pp : Nat → Nat) (a e : Nat → Nat → Nat) (l : List Nat) (w : World) (hn0 : 2 ≤ n) (hn : n ≤ 32) (hL0 : 1 ≤ L) (hL : L ≤ 24) (hw0 : 1 ≤ wd) (hw : wd ≤ 16) (hTl : T < 18446744073709551616) (hl : l.length ≤ 100000) (hT : Hid (Tp w p l)) (hR : Rg w r n L q pp a e) :
    Calls Tryz.prog 54 #[.agg #[.int .i64 (n : Int), .int .u64 (T : Int), .slice Aq L cq, .int .i64 (wd : Int), .pointer (some ⟨r, 0, none⟩)], .pointer (some ⟨p, 0, none⟩)] w (zuj w p n L wd q l) := by
 have HR := Lib.hid hR
 have hp := hT.out.lt
 clear hR
 have k0 : Ext w (((((w.alloc (.cells #[.int .i64 (n : Int), .int .u64 (T : Int), .slice Aq L cq, .int .i64 (wd : Int), .pointer (some ⟨r, 0, none⟩)] 114)).alloc (.cells #[.pointer (some ⟨p, 0, none⟩)] 38)).alloc (.cells #[.slice none 0 0, .slice none 0 0, .slice none 0 0] 121)).alloc (.cells #[.slice none 0 0, .slice none 0 0, .slice none 0 0] 179)).alloc (.cells #[.func (.func 47) #[.pointer (some ⟨p, 0, none⟩)] #[], .func (.func 103) #[] #[.pointer (some ⟨w.heap.size + 1, 0, none⟩), .pointer (some ⟨w.heap.size, 0, none⟩)], .func (.func 103) #[] #[.pointer (some ⟨w.heap.size + 1, 0, none⟩), .pointer (some ⟨w.heap.size, 0, none⟩)]] 37)) := (((((Ext.refl w).alloc _).alloc _).alloc _).alloc _).alloc _
 have kA : Ext (w.alloc (.cells #[.int .i64 (n : Int), .int .u64 (T : Int), .slice Aq L cq, .int .i64 (wd : Int), .pointer (some ⟨r, 0, none⟩)] 114)) (((((w.alloc (.cells #[.int .i64 (n : Int), .int .u64 (T : Int), .slice Aq L cq, .int .i64 (wd : Int), .pointer (some ⟨r, 0, none⟩)] 114)).alloc (.cells #[.pointer (some ⟨p, 0, none⟩)] 38)).alloc (.cells #[.slice none 0 0, .slice none 0 0, .slice none 0 0] 121)).alloc (.cells #[.slice none 0 0, .slice none 0 0, .slice none 0 0] 179)).alloc (.cells #[.func (.func 47) #[.pointer (some ⟨p, 0, none⟩)] #[], .func (.func 103) #[] #[.pointer (some ⟨w.heap.size + 1, 0, none⟩), .pointer (some ⟨w.heap.size, 0, none⟩)], .func (.func 103) #[] #[.pointer (some ⟨w.heap.size + 1, 0, none⟩), .pointer (some ⟨w.heap.size, 0, none⟩)]] 37)) := ((((Ext.refl _).alloc _).alloc _).alloc _).alloc _
 have kB : Ext ((w.alloc (.cells #[.int .i64 (n : Int), .int .u64 (T : Int), .slice Aq L cq, .int .i64 (wd : Int), .pointer (some ⟨r, 0, none⟩)] 114)).alloc (.cells #[.pointer (some ⟨p, 0, none⟩)] 38)) (((((w.alloc (.cells #[.int .i64 (n : Int), .int .u64 (T : Int), .slice Aq L cq, .int .i64 (wd : Int), .pointer (some ⟨r, 0, none⟩)] 114)).alloc (.cells #[.pointer (some ⟨p, 0, none⟩)] 38)).alloc (.cells #[.slice none 0 0, .slice none 0 0, .slice none 0 0] 121)).alloc (.cells #[.slice none 0 0, .slice none 0 0, .slice none 0 0] 179)).alloc (.cells #[.func (.func 47) #[.pointer (some ⟨p, 0, none⟩)] #[], .func (.func 103) #[] #[.pointer (some ⟨w.heap.size + 1, 0, none⟩), .pointer (some ⟨w.heap.size, 0, none⟩)], .func (.func 103) #[] #[.pointer (some ⟨w.heap.size + 1, 0, none⟩), .pointer (some ⟨w.heap.size, 0, none⟩)]] 37)) := (((Ext.refl _).alloc _).alloc _).alloc _
 have hM : VMem (((((w.alloc (.cells #[.int .i64 (n : Int), .int .u64 (T : Int), .slice Aq L cq, .int .i64 (wd : Int), .pointer (some ⟨r, 0, none⟩)] 114)).alloc (.cells #[.pointer (some ⟨p, 0, none⟩)] 38)).alloc (.cells #[.slice none 0 0, .slice none 0 0, .slice none 0 0] 121)).alloc (.cells #[.slice none 0 0, .slice none 0 0, .slice none 0 0] 179)).alloc (.cells #[.func (.func 47) #[.pointer (some ⟨p, 0, none⟩)] #[], .func (.func 103) #[] #[.pointer (some ⟨w.heap.size + 1, 0, none⟩), .pointer (some ⟨w.heap.size, 0, none⟩)], .func (.func 103) #[] #[.pointer (some ⟨w.heap.size + 1, 0, none⟩), .pointer (some ⟨w.heap.size, 0, none⟩)]] 37)) w.heap.size (w.heap.size + 1) (w.heap.size + 2) (w.heap.size + 4) p n T L cq wd r Aq := by
  obtain ⟨x0, x1, x2, x3, x4⟩ := zbt w (.int .i64 (n : Int)) (.int .u64 (T : Int)) (.slice Aq L cq) (.int .i64 (wd : Int)) (.pointer (some ⟨r, 0, none⟩)) 114
  have xb := zam (w.alloc (.cells #[.int .i64 (n : Int), .int .u64 (T : Int), .slice Aq L cq, .int .i64 (wd : Int), .pointer (some ⟨r, 0, none⟩)] 114)) (.pointer (some ⟨p, 0, none⟩)) 38
  rw [show (w.alloc (.cells #[.int .i64 (n : Int), .int .u64 (T : Int), .slice Aq L cq, .int .i64 (wd : Int), .pointer (some ⟨r, 0, none⟩)] 114)).heap.size = w.heap.size + 1 by simp] at xb
  have xf : ∀ v0 v1 v2 : Value, (((((w.alloc (.cells #[.int .i64 (n : Int), .int .u64 (T : Int), .slice Aq L cq, .int .i64 (wd : Int), .pointer (some ⟨r, 0, none⟩)] 114)).alloc (.cells #[.pointer (some ⟨p, 0, none⟩)] 38)).alloc (.cells #[.slice none 0 0, .slice none 0 0, .slice none 0 0] 121)).alloc (.cells #[.slice none 0 0, .slice none 0 0, .slice none 0 0] 179)).alloc (.cells #[v0, v1, v2] 37)).cell? ⟨((((w.alloc (.cells #[.int .i64 (n : Int), .int .u64 (T : Int), .slice Aq L cq, .int .i64 (wd : Int), .pointer (some ⟨r, 0, none⟩)] 114)).alloc (.cells #[.pointer (some ⟨p, 0, none⟩)] 38)).alloc (.cells #[.slice none 0 0, .slice none 0 0, .slice none 0 0] 121)).alloc (.cells #[.slice none 0 0, .slice none 0 0, .slice none 0 0] 179)).heap.size, 0, none⟩ = some v0 ∧ (((((w.alloc (.cells #[.int .i64 (n : Int), .int .u64 (T : Int), .slice Aq L cq, .int .i64 (wd : Int), .pointer (some ⟨r, 0, none⟩)] 114)).alloc (.cells #[.pointer (some ⟨p, 0, none⟩)] 38)).alloc (.cells #[.slice none 0 0, .slice none 0 0, .slice none 0 0] 121)).alloc (.cells #[.slice none 0 0, .slice none 0 0, .slice none 0 0] 179)).alloc (.cells #[v0, v1, v2] 37)).cell? ⟨((((w.alloc (.cells #[.int .i64 (n : Int), .int .u64 (T : Int), .slice Aq L cq, .int .i64 (wd : Int), .pointer (some ⟨r, 0, none⟩)] 114)).alloc (.cells #[.pointer (some ⟨p, 0, none⟩)] 38)).alloc (.cells #[.slice none 0 0, .slice none 0 0, .slice none 0 0] 121)).alloc (.cells #[.slice none 0 0, .slice none 0 0, .slice none 0 0] 179)).heap.size, 1, none⟩ = some v1 ∧ (((((w.alloc (.cells #[.int .i64 (n : Int), .int .u64 (T : Int), .slice Aq L cq, .int .i64 (wd : Int), .pointer (some ⟨r, 0, none⟩)] 114)).alloc (.cells #[.pointer (some ⟨p, 0, none⟩)] 38)).alloc (.cells #[.slice none 0 0, .slice none 0 0, .slice none 0 0] 121)).alloc (.cells #[.slice none 0 0, .slice none 0 0, .slice none 0 0] 179)).alloc (.cells #[v0, v1, v2] 37)).cell? ⟨((((w.alloc (.cells #[.int .i64 (n : Int), .int .u64 (T : Int), .slice Aq L cq, .int .i64 (wd : Int), .pointer (some ⟨r, 0, none⟩)] 114)).alloc (.cells #[.pointer (some ⟨p, 0, none⟩)] 38)).alloc (.cells #[.slice none 0 0, .slice none 0 0, .slice none 0 0] 121)).alloc (.cells #[.slice none 0 0, .slice none 0 0, .slice none 0 0] 179)).heap.size, 2, none⟩ = some v2 := fun v0 v1 v2 => zie _ v0 v1 v2 _
  rw [show ((((w.alloc (.cells #[.int .i64 (n : Int), .int .u64 (T : Int), .slice Aq L cq, .int .i64 (wd : Int), .pointer (some ⟨r, 0, none⟩)] 114)).alloc (.cells #[.pointer (some ⟨p, 0, none⟩)] 38)).alloc (.cells #[.slice none 0 0, .slice none 0 0, .slice none 0 0] 121)).alloc (.cells #[.slice none 0 0, .slice none 0 0, .slice none 0 0] 179)).heap.size = w.heap.size + 4 by simp] at xf
  refine ⟨⟨cE kA x0, cE kA x1, cE kA x2, cE kA x3, cE kA x4⟩, cE kB xb, (xf _ _ _).1, fun k h0 hk => ?_, ?_⟩
  ·rcases (show k = 1 ∨ k = 2 by omega) with rfl | rfl
   ·exact (xf _ _ _).2.1
   ·exact (xf _ _ _).2.2
  ·have h1 : RW (((w.alloc (.cells #[.int .i64 (n : Int), .int .u64 (T : Int), .slice Aq L cq, .int .i64 (wd : Int), .pointer (some ⟨r, 0, none⟩)] 114)).alloc (.cells #[.pointer (some ⟨p, 0, none⟩)] 38)).alloc (.cells #[.slice none 0 0, .slice none 0 0, .slice none 0 0] 121)) ((w.alloc (.cells #[.int .i64 (n : Int), .int .u64 (T : Int), .slice Aq L cq, .int .i64 (wd : Int), .pointer (some ⟨r, 0, none⟩)] 114)).alloc (.cells #[.pointer (some ⟨p, 0, none⟩)] 38)).heap.size 121 3 (fun _ => .slice none 0 0) := heap_alloc_new _ _
   rw [show ((w.alloc (.cells #[.int .i64 (n : Int), .int .u64 (T : Int), .slice Aq L cq, .int .i64 (wd : Int), .pointer (some ⟨r, 0, none⟩)] 114)).alloc (.cells #[.pointer (some ⟨p, 0, none⟩)] 38)).heap.size = w.heap.size + 2 by simp] at h1
   exact h1.ext (((Ext.refl _).alloc _).alloc _)
 have hG : RW (((((w.alloc (.cells #[.int .i64 (n : Int), .int .u64 (T : Int), .slice Aq L cq, .int .i64 (wd : Int), .pointer (some ⟨r, 0, none⟩)] 114)).alloc (.cells #[.pointer (some ⟨p, 0, none⟩)] 38)).alloc (.cells #[.slice none 0 0, .slice none 0 0, .slice none 0 0] 121)).alloc (.cells #[.slice none 0 0, .slice none 0 0, .slice none 0 0] 179)).alloc (.cells #[.func (.func 47) #[.pointer (some ⟨p, 0, none⟩)] #[], .func (.func 103) #[] #[.pointer (some ⟨w.heap.size + 1, 0, none⟩), .pointer (some ⟨w.heap.size, 0, none⟩)], .func (.func 103) #[] #[.pointer (some ⟨w.heap.size + 1, 0, none⟩), .pointer (some ⟨w.heap.size, 0, none⟩)]] 37)) (w.heap.size + 3) 179 3 (zb1 L (fun _ => 0) 0) := by
  have h1 : RW ((((w.alloc (.cells #[.int .i64 (n : Int), .int .u64 (T : Int), .slice Aq L cq, .int .i64 (wd : Int), .pointer (some ⟨r, 0, none⟩)] 114)).alloc (.cells #[.pointer (some ⟨p, 0, none⟩)] 38)).alloc (.cells #[.slice none 0 0, .slice none 0 0, .slice none 0 0] 121)).alloc (.cells #[.slice none 0 0, .slice none 0 0, .slice none 0 0] 179)) (((w.alloc (.cells #[.int .i64 (n : Int), .int .u64 (T : Int), .slice Aq L cq, .int .i64 (wd : Int), .pointer (some ⟨r, 0, none⟩)] 114)).alloc (.cells #[.pointer (some ⟨p, 0, none⟩)] 38)).alloc (.cells #[.slice none 0 0, .slice none 0 0, .slice none 0 0] 121)).heap.size 179 3 (fun _ => .slice none 0 0) := heap_alloc_new _ _
  rw [show (((w.alloc (.cells #[.int .i64 (n : Int), .int .u64 (T : Int), .slice Aq L cq, .int .i64 (wd : Int), .pointer (some ⟨r, 0, none⟩)] 114)).alloc (.cells #[.pointer (some ⟨p, 0, none⟩)] 38)).alloc (.cells #[.slice none 0 0, .slice none 0 0, .slice none 0 0] 121)).heap.size = w.heap.size + 3 by simp] at h1
  exact (h1.ext ((Ext.refl _).alloc _)).congr fun i _ => by unfold zb1; rw [if_neg (by omega)]
 have HM0 := Lib.hid hM
 have HG0 := Lib.hid hG
 clear hM hG kA kB
 go_enter Tryz.func54, Tryz.ntmps54
 go_wp2_with fail
 generalize (((((w.alloc (.cells #[.int .i64 (n : Int), .int .u64 (T : Int), .slice Aq L cq, .int .i64 (wd : Int), .pointer (some ⟨r, 0, none⟩)] 114)).alloc (.cells #[.pointer (some ⟨p, 0, none⟩)] 38)).alloc (.cells #[.slice none 0 0, .slice none 0 0, .slice none 0 0] 121)).alloc (.cells #[.slice none 0 0, .slice none 0 0, .slice none 0 0] 179)).alloc (.cells #[.func (.func 47) #[.pointer (some ⟨p, 0, none⟩)] #[], .func (.func 103) #[] #[.pointer (some ⟨w.heap.size + 1, 0, none⟩), .pointer (some ⟨w.heap.size, 0, none⟩)], .func (.func 103) #[] #[.pointer (some ⟨w.heap.size + 1, 0, none⟩), .pointer (some ⟨w.heap.size, 0, none⟩)]] 37)) = V at *
 obtain ⟨D, hD⟩ : ∃ D, D = w.heap.size := ⟨_, rfl⟩
 obtain ⟨B3, hB3⟩ : ∃ D, D = w.heap.size + 1 := ⟨_, rfl⟩
 obtain ⟨R, hRR⟩ : ∃ D, D = w.heap.size + 2 := ⟨_, rfl⟩
 obtain ⟨g, hg⟩ : ∃ D, D = w.heap.size + 3 := ⟨_, rfl⟩
 obtain ⟨H, hH⟩ : ∃ D, D = w.heap.size + 4 := ⟨_, rfl⟩
 rw [← hH, ← hRR, ← hB3, ← hD] at HM0
 rw [← hg] at HG0
 simp only [← hH]
 simp only [← hg]
 simp only [← hRR]
 simp only [← hB3]
 simp only [← hD]
 have hDp : D ≠ p := by omega
 have hBp : B3 ≠ p := by omega
 have hRp : R ≠ p := by omega
 have hgp : g ≠ p := by omega
 have hHp : H ≠ p := by omega
 have hDg : D ≠ g := by omega
 have hgD : g ≠ D := by omega
 have hBg : B3 ≠ g := by omega
 have hRg : R ≠ g := by omega
 have hHg : H ≠ g := by omega
 have hRw : w.heap.size ≤ R := by omega
 have hgw : w.heap.size ≤ g := by omega
 have HT := Lib.hid (hT.out.ext k0)
 have HO := Lib.hid (On.of (p := p) k0)
 clear hD hB3 hRR hg hH k0
 go_loopw [19] (fun iv wr => ∃ (k : Nat) (acc : List (List Int)) (rr : List Nat) (Gs : Nat → Nat) (As : Nat → Nat → Option Addr) (cs : Nat → Nat → Nat) (Fs : Nat → Nat → Nat → Nat), k ≤ 3 ∧ iv = .int .i64 (k : Int) ∧ Hid (veilS wd n l k = some (acc, rr)) ∧ Hid (VMem wr D B3 R H p n T L cq wd r Aq) ∧ Hid (RW wr g 179 3 (zb1 L Gs k)) ∧ Hid (∀ i, i < k → PM wr (Gs i) L n (As i) (cs i) (Fs i) ∧ ∀ j, j < L → Fs i j = fun t => lif ((acc.getD i []).getD t 0) (q j)) ∧ Hid (Tp wr p rr) ∧ Hid (On p w wr)) (fun iv _ => 3 - (intOf iv).toNat)
 case atStart => exact ⟨0, [], l, fun _ => 0, fun _ _ => none, fun _ _ => 0, fun _ _ _ => 0, by omega, rfl, Lib.hid rfl, HM0, HG0, Lib.hid fun i hi => absurd hi (by omega), HT, HO⟩
 case round =>
  obtain ⟨k, acc, rr, Gs, As, cs, Fs, hk, rfl, hS, hM, hG, hP, hTr, hO⟩ := hrel
  obtain ⟨hrl, hal, _⟩ := zep hw hS.out
  have HAL := Lib.hid hal
  clear hal
  by_cases hlt : k < 3
  ·have i0 : (0 : Int) ≤ (k : Int) := by omega
   have i1 : (k : Int) < 3 := by omega
   obtain ⟨⟨y0, y1, y2, y3, y4⟩, yb, yf0, yf1, _⟩ := hM.out
   by_cases hk0 : k = 0
   ·subst hk0
    clear yf1
    go_wp2_with fail
    refine (zee p n rr wr hTr (by omega) (by omega) (by omega)).mono ?_
    rintro ee w2 (⟨es, r2, A2, h1, rfl, h3, h4, h5⟩ | ⟨h1, rfl, h4, h5⟩)
    case inr =>
     have HNO := Lib.hid (show veilS wd n l 3 = none by
      have h2 := zif (zi1 hS.out (show drawV wd n rr 0 = none from ((rfl : drawV wd n rr 0 = ternS rr n)).trans h1)) (3 - (0 + 1))
      rwa [show 0 + 1 + (3 - (0 + 1)) = 3 by omega] at h2)
     have hRES := hM.out.res.onN h5 hRp
     have HRES := Lib.hid hRES
     have HO2 := Lib.hid (hO.out.trans h5)
     have HT2 := Lib.hid h4
     have c0 := hRES.cell (i := 0) (by omega)
     have c1 := hRES.cell (i := 1) (by omega)
     have c2 := hRES.cell (i := 2) (by omega)
     have z0 := hRES.frozen 0
     have z1 := hRES.frozen 1
     have z2 := hRES.frozen 2
     have hsz := hRES.lt
     clear hRES h1 h4 h5 y0 y1 y2 y3 y4 yb
     go_wp2_with fail
     obtain ⟨W, hW, u0, u1, u2, hk2, ht2, _⟩ := zhy HRES.out HO2.out hRw HT2.out hp none none none 0
     rw [hW]
     clear hW c0 c1 c2 z0 z1 z2
     exact bodyPost_ret (v := .tuple #[.agg #[.slice none 0 0, .slice none 0 0, .slice none 0 0], .int .i64 11]) (by simp [results, Tryz.results54, go_sem, u0, u1, u2]) rfl (.inr ⟨HNO.out, rfl, ht2, hk2⟩)
    have HS2 := Lib.hid (zcb hS.out (show drawV wd n rr 0 = some (es, r2) from ((rfl : drawV wd n rr 0 = ternS rr n)).trans h1))
    have HB := Lib.hid (fun i => zdq hw (show drawV wd n rr 0 = some (es, r2) from ((rfl : drawV wd n rr 0 = ternS rr n)).trans h1) i)
    have HM2 := Lib.hid (hM.out.on h5 hDp hBp hRp hHp)
    have HG2 := Lib.hid (hG.out.onN h5 hgp)
    have HP2 := Lib.hid (show ∀ i, i < 0 → PM w2 (Gs i) L n (As i) (cs i) (Fs i) ∧ ∀ j, j < L → Fs i j = fun t => lif ((acc.getD i []).getD t 0) (q j) from fun i hi => ⟨(hP.out i hi).1.onT hTr.out h5, (hP.out i hi).2⟩)
    have HR2 := Lib.hid (HR.out.onT hT.out (hO.out.trans h5))
    have HO2 := Lib.hid (hO.out.trans h5)
    have HT2 := Lib.hid h4
    have HV2 := Lib.hid h3.vxT
    clear h1 h3 h4 h5 y0 y1 y2 y3 y4 yb
    obtain ⟨⟨y0, y1, y2, y3, y4⟩, _, _, _, _⟩ := HM2.out
    go_upto_region 9 with fail
    have kk : Ext w2 w2 := Ext.refl w2
    have e1 : ((L : Int) - 1) = ((L - 1 : Nat) : Int) := by omega
    have HTOP := Lib.hid (fun w' => zet (n : Int) (T : Int) (wd : Int) Aq L cq w' (by omega))
    have HLI := Lib.hid (fun w' (h : Ext w2 w') => zdx r n L (L - 1) n (n : Int) (wd : Int) T L cq Aq A2 q pp a e (fun i => es.getD i 0) w' (HR2.out.ext h) (by omega) (HV2.out.ext h) (Lib.hid fun i hi => by have h1 := HB.out i; have h2 : (es.getD i 0).natAbs ≤ 16 := Nat.le_trans h1 (by split <;> omega); omega))
    go_region_held3 (fun w' => w'.cell? ⟨D, 0, none⟩ = some (.int .i64 (n : Int)) ∧ w'.cell? ⟨D, 1, none⟩ = some (.int .u64 (T : Int)) ∧ w'.cell? ⟨D, 2, none⟩ = some (.slice Aq L cq) ∧ w'.cell? ⟨D, 3, none⟩ = some (.int .i64 (wd : Int)) ∧ w'.cell? ⟨D, 4, none⟩ = some (.pointer (some ⟨r, 0, none⟩))) (go_keep)
     (first
      | (go_at_call 53; refine (HTOP.out _).mono ?_; rintro e5 w5 ⟨h5, k5⟩; rw [e1] at h5; subst h5; have hold := kk.size; replace kk : Ext w2 w5 := (by first | with_reducible exact Ext.trans kk k5 | with_reducible exact Ext.trans (Ext.drew kk) k5 | with_reducible exact Ext.trans (Ext.alloc kk _) k5 | with_reducible exact Ext.trans (Ext.drew (Ext.alloc kk _)) k5 | with_reducible exact Ext.trans (Ext.alloc (Ext.drew kk) _) k5); have d0 := cE kk y0; have d1 := cE kk y1; have d2 := cE kk y2; have d3 := cE kk y3; have d4 := cE kk y4)
      | (go_at_call 104; refine (HLI.out _ (by with_reducible repeat first | exact kk | apply Ext.alloc | apply Ext.drew)).mono ?_; rintro e6 w6 ⟨Gn, An, cn, Fn, rfl, hpn, hFn, k6⟩; have hold := kk.size; replace kk : Ext w2 w6 := (by first | with_reducible exact Ext.trans kk k6 | with_reducible exact Ext.trans (Ext.drew kk) k6 | with_reducible exact Ext.trans (Ext.alloc kk _) k6 | with_reducible exact Ext.trans (Ext.drew (Ext.alloc kk _)) k6 | with_reducible exact Ext.trans (Ext.alloc (Ext.drew kk) _) k6); have d0 := cE kk y0; have d1 := cE kk y1; have d2 := cE kk y2; have d3 := cE kk y3; have d4 := cE kk y4; have hg7 := RW.ext HG2.out kk; obtain ⟨bb, mm, hbb⟩ := ze0 L Gs 0 0; have g7 := hg7.cell (i := 0) (by omega); have gz := hg7.frozen 0; have gl := hg7.lt)
      | fail)
    all_goals
     rw [show L - 1 + 1 = L by omega] at *
     have HGN := Lib.hid ((hg7.set (show 0 < 3 by omega) (.slice (some ⟨Gn, 0, none⟩) L L)).congr (G := zb1 L (fun i => if i = 0 then Gn else Gs i) (0 + 1)) fun i hi => by
      by_cases c1 : i = 0
      ·rw [if_pos c1]
       unfold zb1
       rw [if_pos (by omega)]
       simp only [if_pos c1]
      ·rw [if_neg c1]
       unfold zb1
       simp only [if_neg c1]
       by_cases c2 : i < 0
       ·rw [if_pos c2, if_pos (by omega)]
       ·rw [if_neg c2, if_neg (by omega)])
     have HMN := Lib.hid ((HM2.out.ext kk).on ((OnB.refl g _).set 0 (.slice (some ⟨Gn, 0, none⟩) L L)) hDg hBg hRg hHg)
     have HPN := Lib.hid (show ∀ i, i < 0 + 1 → PM _ ((fun i => if i = 0 then Gn else Gs i) i) L n ((fun i => if i = 0 then An else As i) i) ((fun i => if i = 0 then cn else cs i) i) ((fun i => if i = 0 then Fn else Fs i) i) ∧ ∀ j, j < L → (fun i => if i = 0 then Fn else Fs i) i j = fun t => lif (((acc ++ [es]).getD i []).getD t 0) (q j) from fun i hi => by
      by_cases c1 : i = 0
      ·simp only [if_pos c1]
       refine ⟨hpn.away hg7 (by decide) (show 0 < 3 by omega) hbb (.slice (some ⟨Gn, 0, none⟩) L L), fun j hj => ?_⟩
       rw [hFn.out j hj, zbn, if_pos (by rw [HAL.out]; exact c1)]
      ·simp only [if_neg c1]
       refine ⟨((HP2.out i (by omega)).1.ext kk).away hg7 (by decide) (show 0 < 3 by omega) hbb (.slice (some ⟨Gn, 0, none⟩) L L), fun j hj => ?_⟩
       rw [(HP2.out i (by omega)).2 j hj, zbn, if_neg (by rw [HAL.out]; exact c1)])
     have HTN := Lib.hid ((HT2.out.ext kk).away hg7 (fun e => hgp e.symm) (show 0 < 3 by omega) hbb (.slice (some ⟨Gn, 0, none⟩) L L))
     have HON := Lib.hid ((HO2.out.trans (On.of kk)).store hgw 0 (.slice (some ⟨Gn, 0, none⟩) L L))
     rw [hbb] at g7
     clear hg7 hpn hbb
     (go_wp2; exact ⟨⟨0 + 1, _, _, _, _, _, _, by omega, by go_num, HS2, HMN, HGN, HPN, HTN, HON⟩, by first | (simp [intOf]; done) | (simp [intOf]; omega)⟩)
   ·have hk1 : 1 ≤ k := by omega
    have yfk := yf1 k hk1 hlt
    clear yf1 yf0
    go_wp2_with fail
    refine (zou p wd n B3 D rr wr yb y3 hTr (by omega) (by omega) (by omega) hw0 hw).mono ?_
    rintro ee w2 (⟨es, r2, A2, h1, rfl, h3, h4, h5⟩ | ⟨h1, rfl, h4, h5⟩)
    case inr =>
     have HNO := Lib.hid (show veilS wd n l 3 = none by
      have h2 := zif (zi1 hS.out (show drawV wd n rr k = none from ((if_neg (by omega) : drawV wd n rr k = errsS wd rr n)).trans h1)) (3 - (k + 1))
      rwa [show k + 1 + (3 - (k + 1)) = 3 by omega] at h2)
     have hRES := hM.out.res.onN h5 hRp
     have HRES := Lib.hid hRES
     have HO2 := Lib.hid (hO.out.trans h5)
     have HT2 := Lib.hid h4
     have c0 := hRES.cell (i := 0) (by omega)
     have c1 := hRES.cell (i := 1) (by omega)
     have c2 := hRES.cell (i := 2) (by omega)
     have z0 := hRES.frozen 0
     have z1 := hRES.frozen 1
     have z2 := hRES.frozen 2
     have hsz := hRES.lt
     clear hRES h1 h4 h5 y0 y1 y2 y3 y4 yb
     go_wp2_with fail
     obtain ⟨W, hW, u0, u1, u2, hk2, ht2, _⟩ := zhy HRES.out HO2.out hRw HT2.out hp none none none 0
     rw [hW]
     clear hW c0 c1 c2 z0 z1 z2
     exact bodyPost_ret (v := .tuple #[.agg #[.slice none 0 0, .slice none 0 0, .slice none 0 0], .int .i64 11]) (by simp [results, Tryz.results54, go_sem, u0, u1, u2]) rfl (.inr ⟨HNO.out, rfl, ht2, hk2⟩)
    have HS2 := Lib.hid (zcb hS.out (show drawV wd n rr k = some (es, r2) from ((if_neg (by omega) : drawV wd n rr k = errsS wd rr n)).trans h1))
    have HB := Lib.hid (fun i => zdq hw (show drawV wd n rr k = some (es, r2) from ((if_neg (by omega) : drawV wd n rr k = errsS wd rr n)).trans h1) i)
    have HM2 := Lib.hid (hM.out.on h5 hDp hBp hRp hHp)
    have HG2 := Lib.hid (hG.out.onN h5 hgp)
    have HP2 := Lib.hid (show ∀ i, i < k → PM w2 (Gs i) L n (As i) (cs i) (Fs i) ∧ ∀ j, j < L → Fs i j = fun t => lif ((acc.getD i []).getD t 0) (q j) from fun i hi => ⟨(hP.out i hi).1.onT hTr.out h5, (hP.out i hi).2⟩)
    have HR2 := Lib.hid (HR.out.onT hT.out (hO.out.trans h5))
    have HO2 := Lib.hid (hO.out.trans h5)
    have HT2 := Lib.hid h4
    have HV2 := Lib.hid h3.vxT
    clear h1 h3 h4 h5 y0 y1 y2 y3 y4 yb
    obtain ⟨⟨y0, y1, y2, y3, y4⟩, _, _, _, _⟩ := HM2.out
    go_upto_region 9 with fail
    have kk : Ext w2 w2 := Ext.refl w2
    have e1 : ((L : Int) - 1) = ((L - 1 : Nat) : Int) := by omega
    have HTOP := Lib.hid (fun w' => zet (n : Int) (T : Int) (wd : Int) Aq L cq w' (by omega))
    have HLI := Lib.hid (fun w' (h : Ext w2 w') => zdx r n L (L - 1) n (n : Int) (wd : Int) T L cq Aq A2 q pp a e (fun i => es.getD i 0) w' (HR2.out.ext h) (by omega) (HV2.out.ext h) (Lib.hid fun i hi => by have h1 := HB.out i; have h2 : (es.getD i 0).natAbs ≤ 16 := Nat.le_trans h1 (by split <;> omega); omega))
    go_region_held3 (fun w' => w'.cell? ⟨D, 0, none⟩ = some (.int .i64 (n : Int)) ∧ w'.cell? ⟨D, 1, none⟩ = some (.int .u64 (T : Int)) ∧ w'.cell? ⟨D, 2, none⟩ = some (.slice Aq L cq) ∧ w'.cell? ⟨D, 3, none⟩ = some (.int .i64 (wd : Int)) ∧ w'.cell? ⟨D, 4, none⟩ = some (.pointer (some ⟨r, 0, none⟩))) (go_keep)
     (first
      | (go_at_call 53; refine (HTOP.out _).mono ?_; rintro e5 w5 ⟨h5, k5⟩; rw [e1] at h5; subst h5; have hold := kk.size; replace kk : Ext w2 w5 := (by first | with_reducible exact Ext.trans kk k5 | with_reducible exact Ext.trans (Ext.drew kk) k5 | with_reducible exact Ext.trans (Ext.alloc kk _) k5 | with_reducible exact Ext.trans (Ext.drew (Ext.alloc kk _)) k5 | with_reducible exact Ext.trans (Ext.alloc (Ext.drew kk) _) k5); have d0 := cE kk y0; have d1 := cE kk y1; have d2 := cE kk y2; have d3 := cE kk y3; have d4 := cE kk y4)
      | (go_at_call 104; refine (HLI.out _ (by with_reducible repeat first | exact kk | apply Ext.alloc | apply Ext.drew)).mono ?_; rintro e6 w6 ⟨Gn, An, cn, Fn, rfl, hpn, hFn, k6⟩; have hold := kk.size; replace kk : Ext w2 w6 := (by first | with_reducible exact Ext.trans kk k6 | with_reducible exact Ext.trans (Ext.drew kk) k6 | with_reducible exact Ext.trans (Ext.alloc kk _) k6 | with_reducible exact Ext.trans (Ext.drew (Ext.alloc kk _)) k6 | with_reducible exact Ext.trans (Ext.alloc (Ext.drew kk) _) k6); have d0 := cE kk y0; have d1 := cE kk y1; have d2 := cE kk y2; have d3 := cE kk y3; have d4 := cE kk y4; have hg7 := RW.ext HG2.out kk; obtain ⟨bb, mm, hbb⟩ := ze0 L Gs k k; have g7 := hg7.cell (i := k) (by omega); have gz := hg7.frozen k; have gl := hg7.lt)
      | fail)
    all_goals
     rw [show L - 1 + 1 = L by omega] at *
     have HGN := Lib.hid ((hg7.set (show k < 3 by omega) (.slice (some ⟨Gn, 0, none⟩) L L)).congr (G := zb1 L (fun i => if i = k then Gn else Gs i) (k + 1)) fun i hi => by
      by_cases c1 : i = k
      ·rw [if_pos c1]
       unfold zb1
       rw [if_pos (by omega)]
       simp only [if_pos c1]
      ·rw [if_neg c1]
       unfold zb1
       simp only [if_neg c1]
       by_cases c2 : i < k
       ·rw [if_pos c2, if_pos (by omega)]
       ·rw [if_neg c2, if_neg (by omega)])
     have HMN := Lib.hid ((HM2.out.ext kk).on ((OnB.refl g _).set k (.slice (some ⟨Gn, 0, none⟩) L L)) hDg hBg hRg hHg)
     have HPN := Lib.hid (show ∀ i, i < k + 1 → PM _ ((fun i => if i = k then Gn else Gs i) i) L n ((fun i => if i = k then An else As i) i) ((fun i => if i = k then cn else cs i) i) ((fun i => if i = k then Fn else Fs i) i) ∧ ∀ j, j < L → (fun i => if i = k then Fn else Fs i) i j = fun t => lif (((acc ++ [es]).getD i []).getD t 0) (q j) from fun i hi => by
      by_cases c1 : i = k
      ·simp only [if_pos c1]
       refine ⟨hpn.away hg7 (by decide) (show k < 3 by omega) hbb (.slice (some ⟨Gn, 0, none⟩) L L), fun j hj => ?_⟩
       rw [hFn.out j hj, zbn, if_pos (by rw [HAL.out]; exact c1)]
      ·simp only [if_neg c1]
       refine ⟨((HP2.out i (by omega)).1.ext kk).away hg7 (by decide) (show k < 3 by omega) hbb (.slice (some ⟨Gn, 0, none⟩) L L), fun j hj => ?_⟩
       rw [(HP2.out i (by omega)).2 j hj, zbn, if_neg (by rw [HAL.out]; exact c1)])
     have HTN := Lib.hid ((HT2.out.ext kk).away hg7 (fun e => hgp e.symm) (show k < 3 by omega) hbb (.slice (some ⟨Gn, 0, none⟩) L L))
     have HON := Lib.hid ((HO2.out.trans (On.of kk)).store hgw k (.slice (some ⟨Gn, 0, none⟩) L L))
     rw [hbb] at g7
     clear hg7 hpn hbb
     (go_wp2; exact ⟨⟨k + 1, _, _, _, _, _, _, by omega, by go_num, HS2, HMN, HGN, HPN, HTN, HON⟩, by first | (simp [intOf]; done) | (simp [intOf]; omega)⟩)
  ·obtain rfl : k = 3 := by omega
   have hRES := hM.out.res
   have HRES := Lib.hid hRES
   have g0 := hG.out.cell (i := 0) (by omega)
   have g1 := hG.out.cell (i := 1) (by omega)
   have g2 := hG.out.cell (i := 2) (by omega)
   have e0 : zb1 L Gs 3 0 = .slice (some ⟨Gs 0, 0, none⟩) L L := rfl
   have e1 : zb1 L Gs 3 1 = .slice (some ⟨Gs 1, 0, none⟩) L L := rfl
   have e2 : zb1 L Gs 3 2 = .slice (some ⟨Gs 2, 0, none⟩) L L := rfl
   rw [e0] at g0
   rw [e1] at g1
   rw [e2] at g2
   have c0 := hRES.cell (i := 0) (by omega)
   have c1 := hRES.cell (i := 1) (by omega)
   have c2 := hRES.cell (i := 2) (by omega)
   have z0 := hRES.frozen 0
   have z1 := hRES.frozen 1
   have z2 := hRES.frozen 2
   have hsz := hRES.lt
   clear hRES e0 e1 e2
   go_wp2_with fail
   obtain ⟨W, hW, u0, u1, u2, hk2, ht2, hpm2⟩ := zhy HRES.out hO.out hRw hTr.out hp (some ⟨Gs 0, 0, none⟩) (some ⟨Gs 1, 0, none⟩) (some ⟨Gs 2, 0, none⟩) L
   rw [hW]
   clear hW c0 c1 c2 z0 z1 z2
   exact bodyPost_ret (v := .tuple #[.agg #[.slice (some ⟨Gs 0, 0, none⟩) L L, .slice (some ⟨Gs 1, 0, none⟩) L L, .slice (some ⟨Gs 2, 0, none⟩) L L], .int .i64 0]) (by simp [results, Tryz.results54, go_sem, u0, u1, u2]) rfl (.inl ⟨acc, rr, Gs, As, cs, Fs, hS.out, rfl, fun i hi => ⟨hpm2 (hP.out i hi).1, (hP.out i hi).2⟩, ht2, hk2⟩)
end Go.Proofs.YtopbibfpjgjalaaGreatDoor
