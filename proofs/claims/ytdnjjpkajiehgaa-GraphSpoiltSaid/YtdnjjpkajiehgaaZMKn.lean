/-
  A node that arrasmake makes behind others.
-/
import Derived.Test.YtdnjjpkajiehgaaZ16
namespace Go.Proofs.Ytdnjjpkajiehgaa
open Go.RowKit
set_option linter.unusedVariables false
set_option maxRecDepth 100000

/-- Shapes that lie aside of block g. -/
structure SG (g : Nat) (w : World) (A : Option Addr) (c : Nat) (shs : List (List Int)) : Prop where
  room : shs.length ≤ c
  cells : 0 < shs.length → ∃ ad, A = some ad ∧ ad.block ≠ g ∧ ∀ (j : Nat) (s : List Int), shs[j]? = some s → ∃ B d, w.cell? (ad.add j) = some (.slice B s.length d) ∧ ZG g w B s.length d s
theorem SG.on {g : Nat} {w w' : World} {A : Option Addr} {c : Nat} {shs : List (List Int)} (h : SG g w A c shs) (k : On g w w') : SG g w' A c shs :=
  ⟨h.room, fun hn => by
    obtain ⟨ad, e, hb, hc⟩ := h.cells hn
    exact ⟨ad, e, hb, fun j s hs => by
      obtain ⟨B, d, h1, h2⟩ := hc j s hs
      exact ⟨B, d, cellOn k (by rw [add_blockJ]; exact hb) h1, h2.on k⟩⟩⟩
theorem ZG.none_ (g : Nat) (w : World) : ZG g w none 0 0 [] := ⟨ZX.none_ _ _ _, fun ad e => by cases e⟩
theorem ZG.ext {g : Nat} {w w' : World} {A : Option Addr} {n c : Nat} {l : List Int} (h : ZG g w A n c l) (k : Ext w w') : ZG g w' A n c l := ⟨h.zx.ext k, h.off⟩
/-- A node in its lists, aside of block g. -/
def NdG (g : Nat) (w : World) (x : Nd) (As Ad Ab : Option Addr) (cs cd cb : Nat) : Prop :=
  (ZG g w As x.sh.length cs x.sh ∧ ZG g w Ad x.da.length cd x.da ∧ ZG g w Ab x.bi.length cb x.bi) ∧ x.sh.length ≤ 1000 ∧ x.da.length ≤ 1000 ∧ x.bi.length ≤ 1000
/-- Where a list lies that a node takes: in a block of numbers, or it is a shape. -/
def LocA (w w' : World) (Ah : Option Addr) (shs : List (List Int)) (A : Option Addr) : Prop := TyM w' A ∨ ∃ ah j s d, Ah = some ah ∧ shs[j]? = some s ∧ w.cell? (ah.add j) = some (.slice A s.length d)
/-- What node answers. -/
def MnPost (w : World) (g : Nat) (Ah : Option Addr) (shs : List (List Int)) (e : Ending) (w' : World) : Prop :=
  ∃ (x : Nd) (As Ad Ab : Option Addr) (cs cd cb : Nat) (s : List Int), e = .returned (.agg #[.int .i64 x.k, .int .i64 x.a, .int .i64 x.b, .slice As x.sh.length cs, .int .i64 x.lo, .int .i64 x.hi, .int .i64 x.sz, .slice Ad x.da.length cd, .slice Ab x.bi.length cb]) ∧ NdG g w' x As Ad Ab cs cd cb ∧ nodeR x shs = .ok s ∧ GoodS s ∧ TM w' g ∧ On g w w' ∧ LocA w w' Ah shs As ∧ TyM w' Ad ∧ TyM w' Ab
theorem heap_on {g p : Nat} {V W : World} {o : Obj} (h : V.heap[p]? = some o) (k : On g V W) (hne : p ≠ g) : W.heap[p]? = some o :=
  (k.block p (Array.getElem?_eq_some_iff.1 h).1 (fun e => by injection e with e; exact hne e)).trans h
theorem cell_of_heap {W : World} {p j : Nat} {cs : Array Value} {t : TypeId} {fz : Nat × Nat} {v : Value} (h : W.heap[p]? = some (.cells cs t fz)) (hj : cs[j]? = some v) : W.cell? ⟨p, j, none⟩ = some v := by simp [World.cell?, h, hj]
theorem frozen_of_heap {W : World} {p j : Nat} {cs : Array Value} {t : TypeId} (h : W.heap[p]? = some (.cells cs t (0, 0))) : W.frozen? ⟨p, j, none⟩ = false := by simp [World.frozen?, h]
/-- Only blocks g and p have changed. -/
def OnGP (g p : Nat) (a b : World) : Prop := ∀ k, k < a.heap.size → k ≠ g → k ≠ p → b.heap[k]? = a.heap[k]?
theorem OnGP.of {g p : Nat} {a b : World} (h : On g a b) : OnGP g p a b := fun k hk h1 _ => h.block k hk (fun e => by injection e with e; exact h1 e)
theorem OnGP.of2 {g p : Nat} {a b c : World} (h : On g a b) (k : On p b c) : OnGP g p a c := fun i hi h1 h2 => (k.block i (Nat.lt_of_lt_of_le hi h.size) (fun e => by injection e with e; exact h2 e)).trans (h.block i hi (fun e => by injection e with e; exact h1 e))
theorem OnGP.cell {g p : Nat} {a b : World} (h : OnGP g p a b) {ad : Addr} {v : Value} (h1 : ad.block ≠ g) (h2 : ad.block ≠ p) (hc : a.cell? ad = some v) : b.cell? ad = some v := by
  rw [World.cell?_of_block (w := a) (h _ (World.block_lt_of_cell? a _ hc) h1 h2)]
  exact hc
set_option maxHeartbeats 8000000 in
theorem mkNode_any (g : Nat) (Ah : Option Addr) (ch : Nat) (shs : List (List Int)) (w : World) (hT : Hid (TM w g)) (hS : Hid (SG g w Ah ch shs)) (h0 : 0 < shs.length) (hn : shs.length ≤ 100) (hG : Hid (∀ s ∈ shs, GoodS s)) :
    Calls Try.prog 44 #[.pointer (some ⟨g, 0, none⟩), .slice Ah shs.length ch] w fun e w' => MnPost w g Ah shs e w' := by
  have hgl := hT.out.lt
  have kV : Ext w (w.alloc (.cells #[.int .i64 0, .int .i64 0, .int .i64 0, .slice none 0 0, .int .i64 0, .int .i64 0, .int .i64 0, .slice none 0 0, .slice none 0 0] 40)) := (Ext.refl w).alloc _
  have HH := Lib.hid (show (w.alloc (.cells #[.int .i64 0, .int .i64 0, .int .i64 0, .slice none 0 0, .int .i64 0, .int .i64 0, .int .i64 0, .slice none 0 0, .slice none 0 0] 40)).heap[w.heap.size]? = some (.cells #[.int .i64 0, .int .i64 0, .int .i64 0, .slice none 0 0, .int .i64 0, .int .i64 0, .int .i64 0, .slice none 0 0, .slice none 0 0] 40 (0, 0)) from heap_alloc_new w _)
  have hsV : (w.alloc (.cells #[.int .i64 0, .int .i64 0, .int .i64 0, .slice none 0 0, .int .i64 0, .int .i64 0, .int .i64 0, .slice none 0 0, .slice none 0 0] 40)).heap.size = w.heap.size + 1 := by simp
  go_enter Try.func44, Try.ntmps44
  go_wp2_with fail
  generalize w.alloc (.cells #[.int .i64 0, .int .i64 0, .int .i64 0, .slice none 0 0, .int .i64 0, .int .i64 0, .int .i64 0, .slice none 0 0, .slice none 0 0] 40) = V at *
  have HTV := Lib.hid (hT.out.keep kV)
  obtain ⟨ah, rfl, hab, hac⟩ := hS.out.cells h0
  have HAC := Lib.hid hac
  clear hac
  have KV := Lib.hid kV
  have HSZ := Lib.hid hsV
  clear kV hsV
  refine (mkNext_any g _ V HTV (by omega) (by omega)).mono ?_
  rintro e1 w1 ⟨v, rfl, v0, v1, h2, h3⟩
  have hvl : v ≤ (shs.length : Int) - 1 := by omega
  obtain ⟨ia, hia⟩ : ∃ ia : Nat, (shs.length : Int) - 1 - v = (ia : Int) := ⟨((shs.length : Int) - 1 - v).toNat, by omega⟩
  have hil : ia < shs.length := by omega
  obtain ⟨s, hs⟩ : ∃ s, shs[ia]? = some s := ⟨_, List.getElem?_eq_getElem hil⟩
  obtain ⟨B, d, cw, hzw⟩ := HAC.out ia s hs
  have hgood := hG.out s (List.mem_of_getElem? hs)
  have HBP := Lib.hid (show ∀ ad, B = some ad → ad.block ≠ w.heap.size from fun ad e => by
    have hsl : 0 < s.length := by
      have h1 := (good_ent hgood).1
      cases s with
      | nil => exact absurd h1 (by decide)
      | cons a r => simp
    obtain ⟨ad', e', hc⟩ := hzw.zx.cells hsl
    rw [e] at e'
    injection e' with e'
    subst e'
    have := World.block_lt_of_cell? w _ (hc 0 _ (List.getElem?_eq_getElem hsl))
    rw [add_blockJ] at this
    omega)
  have c1 := cellOn h3 (by rw [add_blockJ]; exact hab) (cell_ext KV.out cw)
  have HZ1 := Lib.hid (ZG.on (hzw.ext KV.out) h3)
  obtain ⟨m, hm⟩ : ∃ m : Nat, entN s = (m : Int) := ⟨(entN s).toNat, by have := good_ent hgood; omega⟩
  have hm64 : m ≤ 64 := by have := (good_ent hgood).2; omega
  have HM := Lib.hid hm
  have hsl3 : s.length ≤ 3 := (entN_len (by have := (good_ent hgood).1; omega)).2
  have HS := Lib.hid hs
  have HT1 := Lib.hid h2
  have HO1 := Lib.hid h3
  have hgs := Lib.hid hgood
  have i0 : (0 : Int) ≤ (ia : Int) := by omega
  have i1 : (ia : Int) < (shs.length : Int) := by omega
  have HCW := Lib.hid cw
  clear h2 h3 hs v1 cw hzw hgood hm
  go_wp2_with fail
  refine (rent_any B s.length d s _ (Lib.hid HZ1.out.zx)).mono ?_
  rintro e2 w2 ⟨rfl, hw2⟩
  obtain rfl := hw2.symm
  rw [HM.out]
  go_wp2_with fail
  refine (mkNext_any g 9 w1 HT1 (by omega) (by omega)).mono ?_
  rintro e5 w5 ⟨d9, rfl, d90, d91, h2, h3⟩
  have d98 : d9 ≤ 8 := by omega
  have HT5 := Lib.hid h2
  have HO5 := Lib.hid (HO1.out.trans h3)
  have HZ5 := Lib.hid (HZ1.out.on h3)
  have c5 := cellOn h3 (by rw [add_blockJ]; exact hab) c1
  clear h2 h3 d91 c1
  rcases (show d9 = 0 ∨ d9 = 1 ∨ d9 = 2 ∨ d9 = 3 ∨ d9 = 4 ∨ d9 = 5 ∨ d9 = 6 ∨ d9 = 7 ∨ d9 = 8 by omega) with rfl | rfl | rfl | rfl | rfl | rfl | rfl | rfl | rfl
  ·
    go_wp2_with fail
    refine (mkRow_any g m w5 HT5 (by omega)).mono ?_
    rintro e6 w6 ⟨A6, c6, l6, rfl, hl6, h64, hz6, hf6, h62, h63, ty6⟩
    have HT := Lib.hid h62
    have HOV := Lib.hid (HO5.out.trans h63)
    have hs5 := HO5.out.size
    rw [HSZ.out] at hs5
    have HZ6 := Lib.hid (HZ5.out.on h63)
    have HD6 := Lib.hid (show ZG g w6 A6 l6.length c6 l6 from ⟨by rw [hl6]; exact hz6, fun ad e => by have := hf6 ad e; omega⟩)
    have HDP := Lib.hid (show ZG w.heap.size w6 A6 l6.length c6 l6 from ⟨by rw [hl6]; exact hz6, fun ad e => by have := hf6 ad e; omega⟩)
    have HF6 := Lib.hid ty6
    have H46 := Lib.hid h64
    subst hl6
    clear h62 h63 hz6 hf6 h64 ty6
    have hh9 := heap_on HH.out HOV.out (by omega)
    have da : w6.cell? ⟨w.heap.size, 0, none⟩ = some (.int .i64 0) := cell_of_heap hh9 rfl
    have fa : w6.frozen? ⟨w.heap.size, 0, none⟩ = false := frozen_of_heap hh9
    have db : w6.cell? ⟨w.heap.size, 1, none⟩ = some (.int .i64 0) := cell_of_heap hh9 rfl
    have fb : w6.frozen? ⟨w.heap.size, 1, none⟩ = false := frozen_of_heap hh9
    have dc : w6.cell? ⟨w.heap.size, 2, none⟩ = some (.int .i64 0) := cell_of_heap hh9 rfl
    have fc : w6.frozen? ⟨w.heap.size, 2, none⟩ = false := frozen_of_heap hh9
    have dd : w6.cell? ⟨w.heap.size, 3, none⟩ = some (.slice none 0 0) := cell_of_heap hh9 rfl
    have fd : w6.frozen? ⟨w.heap.size, 3, none⟩ = false := frozen_of_heap hh9
    have de : w6.cell? ⟨w.heap.size, 4, none⟩ = some (.int .i64 0) := cell_of_heap hh9 rfl
    have fe : w6.frozen? ⟨w.heap.size, 4, none⟩ = false := frozen_of_heap hh9
    have df : w6.cell? ⟨w.heap.size, 5, none⟩ = some (.int .i64 0) := cell_of_heap hh9 rfl
    have ff : w6.frozen? ⟨w.heap.size, 5, none⟩ = false := frozen_of_heap hh9
    have dg : w6.cell? ⟨w.heap.size, 6, none⟩ = some (.int .i64 0) := cell_of_heap hh9 rfl
    have fg : w6.frozen? ⟨w.heap.size, 6, none⟩ = false := frozen_of_heap hh9
    have dh : w6.cell? ⟨w.heap.size, 7, none⟩ = some (.slice none 0 0) := cell_of_heap hh9 rfl
    have fh : w6.frozen? ⟨w.heap.size, 7, none⟩ = false := frozen_of_heap hh9
    have di : w6.cell? ⟨w.heap.size, 8, none⟩ = some (.slice none 0 0) := cell_of_heap hh9 rfl
    have fi : w6.frozen? ⟨w.heap.size, 8, none⟩ = false := frozen_of_heap hh9
    have HH9 := Lib.hid hh9
    clear hh9
    have hyy : ∀ A, TyM w6 A → TyM (World.setCells w6 w.heap.size 0 [.int .i64 2, .int .i64 0, .int .i64 0, .slice B s.length d, .int .i64 0, .int .i64 0, .int .i64 0, .slice A6 l6.length c6, .slice none 0 0]) A := fun A h => h.onp HH9.out (by decide) (onp_cells [.int .i64 2, .int .i64 0, .int .i64 0, .slice B s.length d, .int .i64 0, .int .i64 0, .int .i64 0, .slice A6 l6.length c6, .slice none 0 0] w6 0)
    go_wp2
    refine bodyPost_ret (v := .agg #[.int .i64 2, .int .i64 0, .int .i64 0, .slice B s.length d, .int .i64 0, .int .i64 0, .int .i64 0, .slice A6 l6.length c6, .slice none 0 0]) (by simp [results, Try.results44, go_sem, da, db, dc, dd, de, df, dg, dh, di]) rfl ⟨⟨2, 0, 0, s, 0, 0, 0, l6, []⟩, _, _, _, _, _, _, _, rfl, ⟨⟨?_, ?_, ?_⟩, ?_, ?_, ?_⟩, mk_const hgs.out HM.out.symm H46.out, hgs.out, tm_cells [.int .i64 2, .int .i64 0, .int .i64 0, .slice B s.length d, .int .i64 0, .int .i64 0, .int .i64 0, .slice A6 l6.length c6, .slice none 0 0] w6 0 HT.out hgl, on_cells ((On.of KV.out).trans HOV.out) (Nat.le_refl _) [.int .i64 2, .int .i64 0, .int .i64 0, .slice B s.length d, .int .i64 0, .int .i64 0, .int .i64 0, .slice A6 l6.length c6, .slice none 0 0] 0, (.inr ⟨ah, ia, s, d, rfl, HS.out, HCW.out⟩), (hyy _ HF6.out), (hyy _ (TyM.none_ _))⟩
    · exact ⟨(ZG.on (g := w.heap.size) (⟨HZ6.out.zx, HBP.out⟩) (onp_cells [.int .i64 2, .int .i64 0, .int .i64 0, .slice B s.length d, .int .i64 0, .int .i64 0, .int .i64 0, .slice A6 l6.length c6, .slice none 0 0] w6 0)).zx, HZ6.out.off⟩
    · exact ⟨(ZG.on (g := w.heap.size) HDP.out (onp_cells [.int .i64 2, .int .i64 0, .int .i64 0, .slice B s.length d, .int .i64 0, .int .i64 0, .int .i64 0, .slice A6 l6.length c6, .slice none 0 0] w6 0)).zx, HD6.out.off⟩
    · exact ⟨(ZG.on (g := w.heap.size) (ZG.none_ _ _) (onp_cells [.int .i64 2, .int .i64 0, .int .i64 0, .slice B s.length d, .int .i64 0, .int .i64 0, .int .i64 0, .slice A6 l6.length c6, .slice none 0 0] w6 0)).zx, (fun ad e => by cases e)⟩
    all_goals (first | (simp; done) | (dsimp only; omega) | (simp; omega))
  ·
    go_wp2_with fail
    refine (mkNext_any g 4 w5 HT5 (by omega) (by omega)).mono ?_
    rintro e6 w6 ⟨v6, rfl, v60, v61, h62, h63⟩
    obtain ⟨o, ho⟩ : ∃ o : Nat, 1 + v6 = (o : Int) := ⟨(1 + v6).toNat, by omega⟩
    have ho1 : 1 ≤ o := by omega
    have ho2 : o ≤ 4 := by omega
    have HT6 := Lib.hid h62
    have HO6 := Lib.hid (HO5.out.trans h63)
    have hmul : o * m ≤ 256 := by have := Nat.mul_le_mul ho2 hm64; omega
    have HR := Lib.hid (mkRow_any g (o * m) w6 HT6 (by omega))
    rw [show ((o * m : Nat) : Int) = (o : Int) * (m : Int) from Int.natCast_mul o m] at HR
    have hmi : (o : Int) * (m : Int) ≤ 256 := by rw [← Int.natCast_mul]; omega
    have hmi0 : 0 ≤ (o : Int) * (m : Int) := by rw [← Int.natCast_mul]; omega
    clear h62 h63 v61
    go_wp2_with fail
    refine HR.out.mono ?_
    rintro e7 w7 ⟨A7, c7, l7, rfl, hl7, h74, hz7, hf7, h72, h73, ty7⟩
    have HT7 := Lib.hid h72
    have HO7 := Lib.hid (HO6.out.trans h73)
    have hs6 := HO6.out.size
    rw [HSZ.out] at hs6
    have HG7 := Lib.hid (show ZG g w7 A7 (o * m) c7 l7 from ⟨hz7, fun ad e => by have := hf7 ad e; omega⟩)
    have HP7 := Lib.hid (show ∀ ad, A7 = some ad → ad.block ≠ w.heap.size from fun ad e => by have := hf7 ad e; omega)
    have HF7a := Lib.hid ty7
    have H47 := Lib.hid h74
    have HL7 := Lib.hid hl7
    clear h72 h73 hz7 hf7 h74 hl7 HR ty7
    go_wp2_with fail
    refine (mkRow_any g o w7 HT7 (by omega)).mono ?_
    rintro e8 w8 ⟨A8, c8, l8, rfl, hl8, h84, hz8, hf8, h82, h83, ty8⟩
    have HT := Lib.hid h82
    have HOV := Lib.hid (HO7.out.trans h83)
    have hs7 := HO7.out.size
    rw [HSZ.out] at hs7
    have HD7 := Lib.hid (show ZG g w8 A7 l7.length c7 l7 from by rw [HL7.out]; exact HG7.out.on h83)
    have HD8 := Lib.hid (show ZG g w8 A8 l8.length c8 l8 from ⟨by rw [hl8]; exact hz8, fun ad e => by have := hf8 ad e; omega⟩)
    have HP8 := Lib.hid (show ∀ ad, A8 = some ad → ad.block ≠ w.heap.size from fun ad e => by have := hf8 ad e; omega)
    have HF8 := Lib.hid ty8
    have HF7 := Lib.hid (HF7a.out.onT HT7.out h83)
    have H48 := Lib.hid h84
    have HLI := Lib.hid (show (l7.length : Int) = (o : Int) * entN s by rw [HL7.out, HM.out, Int.natCast_mul])
    have HL8 := Lib.hid hl8
    have HLR := Lib.hid (HL7.out)
    clear h82 h83 hz8 hf8 h84 hl8 ty8
    have hlen7 : l7.length = o * m := HL7.out
    have hlen8 : l8.length = o := HL8.out
    have hh9 := heap_on HH.out HOV.out (by omega)
    have da : w8.cell? ⟨w.heap.size, 0, none⟩ = some (.int .i64 0) := cell_of_heap hh9 rfl
    have fa : w8.frozen? ⟨w.heap.size, 0, none⟩ = false := frozen_of_heap hh9
    have db : w8.cell? ⟨w.heap.size, 1, none⟩ = some (.int .i64 0) := cell_of_heap hh9 rfl
    have fb : w8.frozen? ⟨w.heap.size, 1, none⟩ = false := frozen_of_heap hh9
    have dc : w8.cell? ⟨w.heap.size, 2, none⟩ = some (.int .i64 0) := cell_of_heap hh9 rfl
    have fc : w8.frozen? ⟨w.heap.size, 2, none⟩ = false := frozen_of_heap hh9
    have dd : w8.cell? ⟨w.heap.size, 3, none⟩ = some (.slice none 0 0) := cell_of_heap hh9 rfl
    have fd : w8.frozen? ⟨w.heap.size, 3, none⟩ = false := frozen_of_heap hh9
    have de : w8.cell? ⟨w.heap.size, 4, none⟩ = some (.int .i64 0) := cell_of_heap hh9 rfl
    have fe : w8.frozen? ⟨w.heap.size, 4, none⟩ = false := frozen_of_heap hh9
    have df : w8.cell? ⟨w.heap.size, 5, none⟩ = some (.int .i64 0) := cell_of_heap hh9 rfl
    have ff : w8.frozen? ⟨w.heap.size, 5, none⟩ = false := frozen_of_heap hh9
    have dg : w8.cell? ⟨w.heap.size, 6, none⟩ = some (.int .i64 0) := cell_of_heap hh9 rfl
    have fg : w8.frozen? ⟨w.heap.size, 6, none⟩ = false := frozen_of_heap hh9
    have dh : w8.cell? ⟨w.heap.size, 7, none⟩ = some (.slice none 0 0) := cell_of_heap hh9 rfl
    have fh : w8.frozen? ⟨w.heap.size, 7, none⟩ = false := frozen_of_heap hh9
    have di : w8.cell? ⟨w.heap.size, 8, none⟩ = some (.slice none 0 0) := cell_of_heap hh9 rfl
    have fi : w8.frozen? ⟨w.heap.size, 8, none⟩ = false := frozen_of_heap hh9
    have HH9 := Lib.hid hh9
    clear hh9 hlen7 hlen8
    have hyy : ∀ A, TyM w8 A → TyM (World.setCells w8 w.heap.size 0 [.int .i64 3, .int .i64 (ia : Int), .int .i64 0, .slice none 0 0, .int .i64 0, .int .i64 0, .int .i64 0, .slice A7 (o * m) c7, .slice A8 o c8]) A := fun A h => h.onp HH9.out (by decide) (onp_cells [.int .i64 3, .int .i64 (ia : Int), .int .i64 0, .slice none 0 0, .int .i64 0, .int .i64 0, .int .i64 0, .slice A7 (o * m) c7, .slice A8 o c8] w8 0)
    go_wp2
    refine bodyPost_ret (v := .agg #[.int .i64 3, .int .i64 (ia : Int), .int .i64 0, .slice none 0 0, .int .i64 0, .int .i64 0, .int .i64 0, .slice A7 (o * m) c7, .slice A8 o c8]) (by simp [results, Try.results44, go_sem, da, db, dc, dd, de, df, dg, dh, di]) rfl ⟨⟨3, (ia : Int), 0, [], 0, 0, 0, l7, l8⟩, none, A7, A8, 0, c7, c8, _, by rw [← HL7.out, ← HL8.out]; rfl, ⟨⟨?_, ?_, ?_⟩, ?_, ?_, ?_⟩, mk_dense HS.out ho1 ho2 HLI.out HL8.out H47.out H48.out, .inr (.inr ⟨_, rfl, by omega, by omega⟩), tm_cells [.int .i64 3, .int .i64 (ia : Int), .int .i64 0, .slice none 0 0, .int .i64 0, .int .i64 0, .int .i64 0, .slice A7 (o * m) c7, .slice A8 o c8] w8 0 HT.out hgl, on_cells ((On.of KV.out).trans HOV.out) (Nat.le_refl _) [.int .i64 3, .int .i64 (ia : Int), .int .i64 0, .slice none 0 0, .int .i64 0, .int .i64 0, .int .i64 0, .slice A7 (o * m) c7, .slice A8 o c8] 0, .inl (hyy _ (TyM.none_ _)), (hyy _ HF7.out), (hyy _ HF8.out)⟩
    · exact ⟨(ZG.on (g := w.heap.size) (ZG.none_ _ _) (onp_cells [.int .i64 3, .int .i64 (ia : Int), .int .i64 0, .slice none 0 0, .int .i64 0, .int .i64 0, .int .i64 0, .slice A7 (o * m) c7, .slice A8 o c8] w8 0)).zx, (fun ad e => by cases e)⟩
    · exact ⟨(ZG.on (g := w.heap.size) (⟨HD7.out.zx, HP7.out⟩) (onp_cells [.int .i64 3, .int .i64 (ia : Int), .int .i64 0, .slice none 0 0, .int .i64 0, .int .i64 0, .int .i64 0, .slice A7 (o * m) c7, .slice A8 o c8] w8 0)).zx, HD7.out.off⟩
    · exact ⟨(ZG.on (g := w.heap.size) (⟨HD8.out.zx, HP8.out⟩) (onp_cells [.int .i64 3, .int .i64 (ia : Int), .int .i64 0, .slice none 0 0, .int .i64 0, .int .i64 0, .int .i64 0, .slice A7 (o * m) c7, .slice A8 o c8] w8 0)).zx, HD8.out.off⟩
    all_goals (have hlen7 := HL7.out; have hlen8 := HL8.out; first | (simp; done) | (dsimp only; omega) | (simp; omega))
  ·
    go_wp2_with fail
    refine (mkNext_any g 4 w5 HT5 (by omega) (by omega)).mono ?_
    rintro e6 w6 ⟨v6, rfl, v60, v61, h62, h63⟩
    obtain ⟨o, ho⟩ : ∃ o : Nat, 1 + v6 = (o : Int) := ⟨(1 + v6).toNat, by omega⟩
    have ho1 : 1 ≤ o := by omega
    have ho2 : o ≤ 4 := by omega
    have HT6 := Lib.hid h62
    have HO6 := Lib.hid (HO5.out.trans h63)
    have hmul : o * m ≤ 256 := by have := Nat.mul_le_mul ho2 hm64; omega
    have HR := Lib.hid (mkRow_any g (o * m) w6 HT6 (by omega))
    rw [show ((o * m : Nat) : Int) = (o : Int) * (m : Int) from Int.natCast_mul o m] at HR
    have hmi : (o : Int) * (m : Int) ≤ 256 := by rw [← Int.natCast_mul]; omega
    have hmi0 : 0 ≤ (o : Int) * (m : Int) := by rw [← Int.natCast_mul]; omega
    clear h62 h63 v61
    go_wp2_with fail
    refine HR.out.mono ?_
    rintro e7 w7 ⟨A7, c7, l7, rfl, hl7, h74, hz7, hf7, h72, h73, ty7⟩
    have HT7 := Lib.hid h72
    have HO7 := Lib.hid (HO6.out.trans h73)
    have hs6 := HO6.out.size
    rw [HSZ.out] at hs6
    have HG7 := Lib.hid (show ZG g w7 A7 (o * m) c7 l7 from ⟨hz7, fun ad e => by have := hf7 ad e; omega⟩)
    have HP7 := Lib.hid (show ∀ ad, A7 = some ad → ad.block ≠ w.heap.size from fun ad e => by have := hf7 ad e; omega)
    have HF7a := Lib.hid ty7
    have H47 := Lib.hid h74
    have HL7 := Lib.hid hl7
    clear h72 h73 hz7 hf7 h74 hl7 HR ty7
    go_wp2_with fail
    refine (mkRow_any g o w7 HT7 (by omega)).mono ?_
    rintro e8 w8 ⟨A8, c8, l8, rfl, hl8, h84, hz8, hf8, h82, h83, ty8⟩
    have HT := Lib.hid h82
    have HOV := Lib.hid (HO7.out.trans h83)
    have hs7 := HO7.out.size
    rw [HSZ.out] at hs7
    have HD7 := Lib.hid (show ZG g w8 A7 l7.length c7 l7 from by rw [HL7.out]; exact HG7.out.on h83)
    have HD8 := Lib.hid (show ZG g w8 A8 l8.length c8 l8 from ⟨by rw [hl8]; exact hz8, fun ad e => by have := hf8 ad e; omega⟩)
    have HP8 := Lib.hid (show ∀ ad, A8 = some ad → ad.block ≠ w.heap.size from fun ad e => by have := hf8 ad e; omega)
    have HF8 := Lib.hid ty8
    have HF7 := Lib.hid (HF7a.out.onT HT7.out h83)
    have H48 := Lib.hid h84
    have HLI := Lib.hid (show (l7.length : Int) = (o : Int) * entN s by rw [HL7.out, HM.out, Int.natCast_mul])
    have HL8 := Lib.hid hl8
    have HLR := Lib.hid (HL7.out)
    clear h82 h83 hz8 hf8 h84 hl8 ty8
    have hlen7 : l7.length = o * m := HL7.out
    have hlen8 : l8.length = o := HL8.out
    have hh9 := heap_on HH.out HOV.out (by omega)
    have da : w8.cell? ⟨w.heap.size, 0, none⟩ = some (.int .i64 0) := cell_of_heap hh9 rfl
    have fa : w8.frozen? ⟨w.heap.size, 0, none⟩ = false := frozen_of_heap hh9
    have db : w8.cell? ⟨w.heap.size, 1, none⟩ = some (.int .i64 0) := cell_of_heap hh9 rfl
    have fb : w8.frozen? ⟨w.heap.size, 1, none⟩ = false := frozen_of_heap hh9
    have dc : w8.cell? ⟨w.heap.size, 2, none⟩ = some (.int .i64 0) := cell_of_heap hh9 rfl
    have fc : w8.frozen? ⟨w.heap.size, 2, none⟩ = false := frozen_of_heap hh9
    have dd : w8.cell? ⟨w.heap.size, 3, none⟩ = some (.slice none 0 0) := cell_of_heap hh9 rfl
    have fd : w8.frozen? ⟨w.heap.size, 3, none⟩ = false := frozen_of_heap hh9
    have de : w8.cell? ⟨w.heap.size, 4, none⟩ = some (.int .i64 0) := cell_of_heap hh9 rfl
    have fe : w8.frozen? ⟨w.heap.size, 4, none⟩ = false := frozen_of_heap hh9
    have df : w8.cell? ⟨w.heap.size, 5, none⟩ = some (.int .i64 0) := cell_of_heap hh9 rfl
    have ff : w8.frozen? ⟨w.heap.size, 5, none⟩ = false := frozen_of_heap hh9
    have dg : w8.cell? ⟨w.heap.size, 6, none⟩ = some (.int .i64 0) := cell_of_heap hh9 rfl
    have fg : w8.frozen? ⟨w.heap.size, 6, none⟩ = false := frozen_of_heap hh9
    have dh : w8.cell? ⟨w.heap.size, 7, none⟩ = some (.slice none 0 0) := cell_of_heap hh9 rfl
    have fh : w8.frozen? ⟨w.heap.size, 7, none⟩ = false := frozen_of_heap hh9
    have di : w8.cell? ⟨w.heap.size, 8, none⟩ = some (.slice none 0 0) := cell_of_heap hh9 rfl
    have fi : w8.frozen? ⟨w.heap.size, 8, none⟩ = false := frozen_of_heap hh9
    have HH9 := Lib.hid hh9
    clear hh9 hlen7 hlen8
    have hyy : ∀ A, TyM w8 A → TyM (World.setCells w8 w.heap.size 0 [.int .i64 3, .int .i64 (ia : Int), .int .i64 0, .slice none 0 0, .int .i64 0, .int .i64 0, .int .i64 0, .slice A7 (o * m) c7, .slice A8 o c8]) A := fun A h => h.onp HH9.out (by decide) (onp_cells [.int .i64 3, .int .i64 (ia : Int), .int .i64 0, .slice none 0 0, .int .i64 0, .int .i64 0, .int .i64 0, .slice A7 (o * m) c7, .slice A8 o c8] w8 0)
    go_wp2
    refine bodyPost_ret (v := .agg #[.int .i64 3, .int .i64 (ia : Int), .int .i64 0, .slice none 0 0, .int .i64 0, .int .i64 0, .int .i64 0, .slice A7 (o * m) c7, .slice A8 o c8]) (by simp [results, Try.results44, go_sem, da, db, dc, dd, de, df, dg, dh, di]) rfl ⟨⟨3, (ia : Int), 0, [], 0, 0, 0, l7, l8⟩, none, A7, A8, 0, c7, c8, _, by rw [← HL7.out, ← HL8.out]; rfl, ⟨⟨?_, ?_, ?_⟩, ?_, ?_, ?_⟩, mk_dense HS.out ho1 ho2 HLI.out HL8.out H47.out H48.out, .inr (.inr ⟨_, rfl, by omega, by omega⟩), tm_cells [.int .i64 3, .int .i64 (ia : Int), .int .i64 0, .slice none 0 0, .int .i64 0, .int .i64 0, .int .i64 0, .slice A7 (o * m) c7, .slice A8 o c8] w8 0 HT.out hgl, on_cells ((On.of KV.out).trans HOV.out) (Nat.le_refl _) [.int .i64 3, .int .i64 (ia : Int), .int .i64 0, .slice none 0 0, .int .i64 0, .int .i64 0, .int .i64 0, .slice A7 (o * m) c7, .slice A8 o c8] 0, .inl (hyy _ (TyM.none_ _)), (hyy _ HF7.out), (hyy _ HF8.out)⟩
    · exact ⟨(ZG.on (g := w.heap.size) (ZG.none_ _ _) (onp_cells [.int .i64 3, .int .i64 (ia : Int), .int .i64 0, .slice none 0 0, .int .i64 0, .int .i64 0, .int .i64 0, .slice A7 (o * m) c7, .slice A8 o c8] w8 0)).zx, (fun ad e => by cases e)⟩
    · exact ⟨(ZG.on (g := w.heap.size) (⟨HD7.out.zx, HP7.out⟩) (onp_cells [.int .i64 3, .int .i64 (ia : Int), .int .i64 0, .slice none 0 0, .int .i64 0, .int .i64 0, .int .i64 0, .slice A7 (o * m) c7, .slice A8 o c8] w8 0)).zx, HD7.out.off⟩
    · exact ⟨(ZG.on (g := w.heap.size) (⟨HD8.out.zx, HP8.out⟩) (onp_cells [.int .i64 3, .int .i64 (ia : Int), .int .i64 0, .slice none 0 0, .int .i64 0, .int .i64 0, .int .i64 0, .slice A7 (o * m) c7, .slice A8 o c8] w8 0)).zx, HD8.out.off⟩
    all_goals (have hlen7 := HL7.out; have hlen8 := HL8.out; first | (simp; done) | (dsimp only; omega) | (simp; omega))
  ·
    by_cases h3 : s.length = 3
    ·
      obtain ⟨a0, a1, a2, hs3⟩ := three_list h3
      have hg3 : s ∈ good3 := by
        rcases hgs.out with h | h | ⟨q, h, _⟩
        · exact h
        · rw [h] at h3; cases h3
        · rw [h] at h3; cases h3
      obtain ⟨adb, rfl, hbc⟩ := HZ5.out.zx.cells (by omega)
      have b0 := hbc 0 a0 (by rw [hs3]; rfl)
      have b1 : w5.cell? ⟨adb.block, adb.off + 1, none⟩ = some (.int .i64 a1) := hbc 1 a1 (by rw [hs3]; rfl)
      have b2 : w5.cell? ⟨adb.block, adb.off + 2, none⟩ = some (.int .i64 a2) := hbc 2 a2 (by rw [hs3]; rfl)
      rw [add0J] at b0
      have dims := entN_dims (by have := (good_ent hgs.out).1; omega : 0 < entN s)
      have q0 := dims a0 (by rw [hs3]; simp)
      have q1 := dims a1 (by rw [hs3]; simp)
      have q2 := dims a2 (by rw [hs3]; simp)
      obtain ⟨q00, q01⟩ := q0
      obtain ⟨q10, q11⟩ := q1
      obtain ⟨q20, q21⟩ := q2
      have hl3 : ((s.length : Int) == 3) = true := by rw [h3]; rfl
      have hlt2 : (2 : Int) < (s.length : Int) := by omega
      have hlt1 : (1 : Int) < (s.length : Int) := by omega
      have hlt0 : (0 : Int) < (s.length : Int) := by omega
      have hltN : 0 < s.length := by omega
      have HS3 := Lib.hid hs3
      have HG3 := Lib.hid hg3
      clear h3 hs3 hg3 hbc dims
      
      obtain ⟨m0, rfl⟩ : ∃ m0 : Nat, a0 = (m0 : Int) := ⟨a0.toNat, by omega⟩
      have hbg : adb.block ≠ g := HZ5.out.off adb rfl
      go_wp2_with fail
      refine wp_region_held_drew (S := (fun w' => On g w5 w')) (by kernel_rfl) ?_ (fun hHeld => ?_)
      · (try dsimp only); first | exact On.refl _ _ | with_reducible assumption | exact On.of ((Ext.refl _).drew) | exact On.trans (by assumption) (On.of ((Ext.refl _).alloc _))
      refine wpAnyH_take (i := 0) (oi := _) (v := ?_) rfl (by kernel_rfl) (by kernel_rfl) (by kernel_rfl) (fun _ _ _ h => h) (Or.inl ⟨by first | kernel_rfl | rfl, ?_⟩) (by assumption) ?_
      rotate_left
      · (intro wS hSw; (try dsimp only at hSw); have z0 := cellOn hSw (by exact hbg) b0; have z1 := cellOn hSw (by exact hbg) b1; have z2 := cellOn hSw (by exact hbg) b2; (try go_simp); (try with_reducible rfl))
      try simp only [Act.put, s1, s2, s3]
      refine wpAnyH_take (i := 3) (oi := _) (v := ?_) rfl (by kernel_rfl) (by kernel_rfl) (by kernel_rfl) (fun _ _ _ h => h) (Or.inl ⟨by first | kernel_rfl | rfl, ?_⟩) (by assumption) ?_
      rotate_left
      · (intro wS hSw; (try dsimp only at hSw); have z0 := cellOn hSw (by exact hbg) b0; have z1 := cellOn hSw (by exact hbg) b1; have z2 := cellOn hSw (by exact hbg) b2; (try go_simp); (try with_reducible rfl))
      try simp only [Act.put, s1, s2, s3]
      refine wpAnyH_take (i := 4) (oi := _) (v := ?_) rfl (by kernel_rfl) (by kernel_rfl) (by kernel_rfl) (fun _ _ _ h => h) (Or.inl ⟨by first | kernel_rfl | rfl, ?_⟩) (by assumption) ?_
      rotate_left
      · (intro wS hSw; (try dsimp only at hSw); have z0 := cellOn hSw (by exact hbg) b0; have z1 := cellOn hSw (by exact hbg) b1; have z2 := cellOn hSw (by exact hbg) b2; (try go_simp); (try with_reducible rfl))
      try simp only [Act.put, s1, s2, s3]
      refine wpAnyH_take (i := 5) (oi := _) (v := ?_) rfl (by kernel_rfl) (by kernel_rfl) (by kernel_rfl) (fun _ _ _ h => h) (Or.inl ⟨by first | kernel_rfl | rfl, ?_⟩) (by assumption) ?_
      rotate_left
      · (intro wS hSw; (try dsimp only at hSw); have z0 := cellOn hSw (by exact hbg) b0; have z1 := cellOn hSw (by exact hbg) b1; have z2 := cellOn hSw (by exact hbg) b2; (try go_simp); (try with_reducible rfl))
      try simp only [Act.put, s1, s2, s3]
      refine wpAnyH_take (i := 6) (oi := _) (v := ?_) rfl (by kernel_rfl) (by kernel_rfl) (by kernel_rfl) (fun _ _ _ h => h) (Or.inl ⟨by first | kernel_rfl | rfl, ?_⟩) (by assumption) ?_
      rotate_left
      · (intro wS hSw; (try dsimp only at hSw); have z0 := cellOn hSw (by exact hbg) b0; have z1 := cellOn hSw (by exact hbg) b1; have z2 := cellOn hSw (by exact hbg) b2; (try go_simp); (try with_reducible rfl))
      try simp only [Act.put, s1, s2, s3]
      refine wpAnyH_take (i := 7) (oi := _) (v := ?_) rfl (by kernel_rfl) (by kernel_rfl) (by kernel_rfl) (fun _ _ _ h => h) (Or.inl ⟨by first | kernel_rfl | rfl, ?_⟩) (by assumption) ?_
      rotate_left
      · (intro wS hSw; (try dsimp only at hSw); have z0 := cellOn hSw (by exact hbg) b0; have z1 := cellOn hSw (by exact hbg) b1; have z2 := cellOn hSw (by exact hbg) b2; (try go_simp); (try with_reducible rfl))
      try simp only [Act.put, s1, s2, s3]
      refine wpAnyH_take (i := 8) (oi := _) (v := ?_) rfl (by kernel_rfl) (by kernel_rfl) (by kernel_rfl) (fun _ _ _ h => h) (Or.inl ⟨by first | kernel_rfl | rfl, ?_⟩) (by assumption) ?_
      rotate_left
      · (intro wS hSw; (try dsimp only at hSw); have z0 := cellOn hSw (by exact hbg) b0; have z1 := cellOn hSw (by exact hbg) b1; have z2 := cellOn hSw (by exact hbg) b2; (try go_simp); (try with_reducible rfl))
      try simp only [Act.put, s1, s2, s3]
      refine wpAnyH_take (i := 9) (oi := _) (v := ?_) rfl (by kernel_rfl) (by kernel_rfl) (by kernel_rfl) (fun _ _ _ h => h) (Or.inl ⟨by first | kernel_rfl | rfl, ?_⟩) (by assumption) ?_
      rotate_left
      · (intro wS hSw; (try dsimp only at hSw); have z0 := cellOn hSw (by exact hbg) b0; have z1 := cellOn hSw (by exact hbg) b1; have z2 := cellOn hSw (by exact hbg) b2; (try go_simp); (try with_reducible rfl))
      try simp only [Act.put, s1, s2, s3]
      refine wpAnyH_take (i := 10) (oi := _) (v := ?_) rfl (by kernel_rfl) (by kernel_rfl) (by kernel_rfl) (fun _ _ _ h => h) (Or.inl ⟨by first | kernel_rfl | rfl, ?_⟩) (by assumption) ?_
      rotate_left
      · (intro wS hSw; (try dsimp only at hSw); have z0 := cellOn hSw (by exact hbg) b0; have z1 := cellOn hSw (by exact hbg) b1; have z2 := cellOn hSw (by exact hbg) b2; (try go_simp); (try with_reducible rfl))
      try simp only [Act.put, s1, s2, s3]
      refine wpAnyH_take (i := 13) (oi := _) (v := ?_) rfl (by kernel_rfl) (by kernel_rfl) (by kernel_rfl) (fun _ _ _ h => h) (Or.inl ⟨by first | kernel_rfl | rfl, ?_⟩) (by assumption) ?_
      rotate_left
      · (intro wS hSw; (try dsimp only at hSw); have z0 := cellOn hSw (by exact hbg) b0; have z1 := cellOn hSw (by exact hbg) b1; have z2 := cellOn hSw (by exact hbg) b2; (try go_simp); (try with_reducible rfl))
      try simp only [Act.put, s1, s2, s3]
      refine wpAnyH_take (i := 14) (oi := _) (v := ?_) rfl (by kernel_rfl) (by kernel_rfl) (by kernel_rfl) (fun _ _ _ h => h) (Or.inl ⟨by first | kernel_rfl | rfl, ?_⟩) (by assumption) ?_
      rotate_left
      · (intro wS hSw; (try dsimp only at hSw); have z0 := cellOn hSw (by exact hbg) b0; have z1 := cellOn hSw (by exact hbg) b1; have z2 := cellOn hSw (by exact hbg) b2; (try go_simp); (try with_reducible rfl))
      try simp only [Act.put, s1, s2, s3]
      refine wpAnyH_take (i := 15) (oi := _) (v := ?_) rfl (by kernel_rfl) (by kernel_rfl) (by kernel_rfl) (fun _ _ _ h => h) (Or.inl ⟨by first | kernel_rfl | rfl, ?_⟩) (by assumption) ?_
      rotate_left
      · (intro wS hSw; (try dsimp only at hSw); have z0 := cellOn hSw (by exact hbg) b0; have z1 := cellOn hSw (by exact hbg) b1; have z2 := cellOn hSw (by exact hbg) b2; (try go_simp); (try with_reducible rfl))
      try simp only [Act.put, s1, s2, s3]
      refine wpAnyH_take (i := 16) (oi := _) (v := ?_) rfl (by kernel_rfl) (by kernel_rfl) (by kernel_rfl) (fun _ _ _ h => h) (Or.inl ⟨by first | kernel_rfl | rfl, ?_⟩) (by assumption) ?_
      rotate_left
      · (intro wS hSw; (try dsimp only at hSw); have z0 := cellOn hSw (by exact hbg) b0; have z1 := cellOn hSw (by exact hbg) b1; have z2 := cellOn hSw (by exact hbg) b2; (try go_simp); (try with_reducible rfl))
      try simp only [Act.put, s1, s2, s3]
      refine wpAnyH_take (i := 17) (oi := _) (v := ?_) rfl (by kernel_rfl) (by kernel_rfl) (by kernel_rfl) (fun _ _ _ h => h) (Or.inl ⟨by first | kernel_rfl | rfl, ?_⟩) (by assumption) ?_
      rotate_left
      · (intro wS hSw; (try dsimp only at hSw); have z0 := cellOn hSw (by exact hbg) b0; have z1 := cellOn hSw (by exact hbg) b1; have z2 := cellOn hSw (by exact hbg) b2; (try go_simp); (try with_reducible rfl))
      try simp only [Act.put, s1, s2, s3]
      refine wpAnyH_ready (rs := [1]) (by kernel_rfl) (by simp) ?_
      refine AllReadyH.cons rfl (fun KQ hKQ => ?_) AllReadyH.nil
      go_simp
      (refine (mkNext_any g 2 _ (Lib.hid (HT5.out.keep ((Ext.refl _).drew))) (by omega) (by omega)).mono ?_; rintro e6 w6 ⟨v6, rfl, v60, v61, h62, h63⟩; have w9_6 : v6 ≤ 1 := (by omega); have wr_6 : IntKind.i64.wrap (1 + v6) = 1 + v6 := (by rw [IntKind.wrap_i64]; omega); have HT6 := Lib.hid h62; replace h63 : On g w5 w6 := On.trans (by first | exact On.refl _ _ | with_reducible assumption | exact On.of ((Ext.refl _).drew) | exact On.trans (by assumption) (On.of ((Ext.refl _).alloc _))) h63)
      refine hKQ.out _ _ ?_ (fun hHeld => ?_)
      · (try dsimp only); first | exact On.refl _ _ | with_reducible assumption | exact On.of ((Ext.refl _).drew) | exact On.trans (by assumption) (On.of ((Ext.refl _).alloc _))
      clear hKQ KQ
      try simp only [Act.put, s1, s2, s3]
      refine wpAnyH_take (i := 2) (oi := _) (v := ?_) rfl (by kernel_rfl) (by kernel_rfl) (by kernel_rfl) (fun _ _ _ h => h) (Or.inl ⟨by first | kernel_rfl | rfl, ?_⟩) (by assumption) ?_
      rotate_left
      · (intro wS hSw; (try dsimp only at hSw); have z0 := cellOn hSw (by exact hbg) b0; have z1 := cellOn hSw (by exact hbg) b1; have z2 := cellOn hSw (by exact hbg) b2; (try go_simp); (try with_reducible rfl))
      try simp only [Act.put, s1, s2, s3]
      refine wpAnyH_ready (rs := [11]) (by kernel_rfl) (by simp) ?_
      refine AllReadyH.cons rfl (fun KQ hKQ => ?_) AllReadyH.nil
      go_simp
      (refine (mkNext_any g _ _ (Lib.hid (HT6.out)) (by omega) (by omega)).mono ?_; rintro e7 w7 ⟨v7, rfl, v70, v71, h72, h73⟩; have w9_7 : v7 ≤ 1 := (by omega); have wr_7 : IntKind.i64.wrap (1 + v7) = 1 + v7 := (by rw [IntKind.wrap_i64]; omega); have HT7 := Lib.hid h72; replace h73 : On g w5 w7 := On.trans (by first | exact On.refl _ _ | with_reducible assumption | exact On.of ((Ext.refl _).drew) | exact On.trans (by assumption) (On.of ((Ext.refl _).alloc _))) h73)
      refine hKQ.out _ _ ?_ (fun hHeld => ?_)
      · (try dsimp only); first | exact On.refl _ _ | with_reducible assumption | exact On.of ((Ext.refl _).drew) | exact On.trans (by assumption) (On.of ((Ext.refl _).alloc _))
      clear hKQ KQ
      try simp only [Act.put, s1, s2, s3]
      refine wpAnyH_take (i := 12) (oi := _) (v := ?_) rfl (by kernel_rfl) (by kernel_rfl) (by kernel_rfl) (fun _ _ _ h => h) (Or.inl ⟨by first | kernel_rfl | rfl, ?_⟩) (by assumption) ?_
      rotate_left
      · (intro wS hSw; (try dsimp only at hSw); have z0 := cellOn hSw (by exact hbg) b0; have z1 := cellOn hSw (by exact hbg) b1; have z2 := cellOn hSw (by exact hbg) b2; (try go_simp); (try with_reducible rfl))
      try simp only [Act.put, s1, s2, s3]
      refine wpAnyH_ready (rs := [18]) (by kernel_rfl) (by simp) ?_
      refine AllReadyH.cons rfl (fun KQ hKQ => ?_) AllReadyH.nil
      go_simp
      (refine (mkNext_any g _ _ (Lib.hid (HT7.out)) (by omega) (by omega)).mono ?_; rintro e8 w8 ⟨v8, rfl, v80, v81, h82, h83⟩; have w9_8 : v8 ≤ 1 := (by omega); have wr_8 : IntKind.i64.wrap (1 + v8) = 1 + v8 := (by rw [IntKind.wrap_i64]; omega); have HT8 := Lib.hid h82; replace h83 : On g w5 w8 := On.trans (by first | exact On.refl _ _ | with_reducible assumption | exact On.of ((Ext.refl _).drew) | exact On.trans (by assumption) (On.of ((Ext.refl _).alloc _))) h83)
      refine hKQ.out _ _ ?_ (fun hHeld => ?_)
      · (try dsimp only); first | exact On.refl _ _ | with_reducible assumption | exact On.of ((Ext.refl _).drew) | exact On.trans (by assumption) (On.of ((Ext.refl _).alloc _))
      clear hKQ KQ
      try simp only [Act.put, s1, s2, s3]
      refine wpAnyH_take (i := 19) (oi := _) (v := ?_) rfl (by kernel_rfl) (by kernel_rfl) (by kernel_rfl) (fun _ _ _ h => h) (Or.inl ⟨by first | kernel_rfl | rfl, ?_⟩) (by assumption) ?_
      rotate_left
      · (intro wS hSw; (try dsimp only at hSw); have z0 := cellOn hSw (by exact hbg) b0; have z1 := cellOn hSw (by exact hbg) b1; have z2 := cellOn hSw (by exact hbg) b2; (try go_simp); (try with_reducible rfl))
      try simp only [Act.put, s1, s2, s3]
      refine wpAnyH_ready (rs := [20]) (by kernel_rfl) (by simp) ?_
      refine AllReadyH.cons rfl (fun KQ hKQ => ?_) AllReadyH.nil
      go_simp
      refine hKQ.out _ _ ?_ (fun hHeld => ?_)
      · (try dsimp only); first | exact On.refl _ _ | with_reducible assumption | exact On.of ((Ext.refl _).drew) | exact On.trans (by assumption) (On.of ((Ext.refl _).alloc _))
      clear hKQ KQ
      try simp only [Act.put, s1, s2, s3]
      refine wpAnyH_ready (rs := [21]) (by kernel_rfl) (by simp) ?_
      refine AllReadyH.cons rfl (fun KQ hKQ => ?_) AllReadyH.nil
      go_simp
      refine hKQ.out _ _ ?_ (fun hHeld => ?_)
      · (try dsimp only); first | exact On.refl _ _ | with_reducible assumption | exact On.of ((Ext.refl _).drew) | exact On.trans (by assumption) (On.of ((Ext.refl _).alloc _))
      clear hKQ KQ
      try simp only [Act.put, s1, s2, s3]
      refine wpAnyH_done (by kernel_rfl) ?_ _
      have v62 : v6 ≤ 1 := by omega
      obtain ⟨n0, hn0⟩ : ∃ n0 : Nat, 1 + v6 = (n0 : Int) := ⟨(1 + v6).toNat, by omega⟩
      obtain ⟨n2, hn2⟩ : ∃ n2 : Nat, 1 + v7 = (n2 : Int) := ⟨(1 + v7).toNat, by omega⟩
      obtain ⟨n3, hn3⟩ : ∃ n3 : Nat, 1 + v8 = (n3 : Int) := ⟨(1 + v8).toNat, by omega⟩
      have r0 : 1 ≤ n0 ∧ n0 ≤ 2 := by omega
      have r2 : 1 ≤ n2 ∧ n2 ≤ 2 := by omega
      have r3 : 1 ≤ n3 ∧ n3 ≤ 2 := by omega
      have hk2 : (n2 : Int) ≤ a1 := by omega
      have hk3 : (n3 : Int) ≤ a2 := by omega
      rw [hn0, hn2, hn3]
      clear hn0 hn2 hn3 v60 v61 v70 v71 v80 v81 v62 w9_6 w9_7 w9_8 wr_6 wr_7 wr_8
      obtain ⟨r00, r01⟩ := r0
      obtain ⟨r20, r21⟩ := r2
      obtain ⟨r30, r31⟩ := r3
      have u1 : n0 * m0 ≤ 128 := by have := Nat.mul_le_mul r01 (show m0 ≤ 64 by omega); omega
      have u2 : n0 * m0 * n2 ≤ 256 := by have := Nat.mul_le_mul u1 r21; omega
      have u3 : n0 * m0 * n2 * n3 ≤ 512 := by have := Nat.mul_le_mul u2 r31; omega
      have g1 : (n0 : Int) * (m0 : Int) ≤ 128 ∧ 0 ≤ (n0 : Int) * (m0 : Int) := by rw [← Int.natCast_mul]; omega
      have g2 : (n0 : Int) * (m0 : Int) * (n2 : Int) ≤ 256 ∧ 0 ≤ (n0 : Int) * (m0 : Int) * (n2 : Int) := by rw [← Int.natCast_mul, ← Int.natCast_mul]; omega
      have g3 : (n0 : Int) * (m0 : Int) * (n2 : Int) * (n3 : Int) ≤ 512 ∧ 0 ≤ (n0 : Int) * (m0 : Int) * (n2 : Int) * (n3 : Int) := by rw [← Int.natCast_mul, ← Int.natCast_mul, ← Int.natCast_mul]; omega
      obtain ⟨g10, g11⟩ := g1
      obtain ⟨g20, g21⟩ := g2
      obtain ⟨g30, g31⟩ := g3
      have hw1 : IntKind.i64.wrap ((n0 : Int) * (m0 : Int)) = (n0 : Int) * (m0 : Int) := by rw [IntKind.wrap_i64]; omega
      have hw2 : IntKind.i64.wrap ((n0 : Int) * (m0 : Int) * (n2 : Int)) = (n0 : Int) * (m0 : Int) * (n2 : Int) := by rw [IntKind.wrap_i64]; omega
      have hw3 : IntKind.i64.wrap ((n0 : Int) * (m0 : Int) * (n2 : Int) * (n3 : Int)) = (n0 : Int) * (m0 : Int) * (n2 : Int) * (n3 : Int) := by rw [IntKind.wrap_i64]; omega
      obtain ⟨NN, hNN⟩ : ∃ NN, NN = n0 * m0 * n2 * n3 := ⟨_, rfl⟩
      have hnn : NN ≤ 512 := by omega
      have HNN := Lib.hid (show (NN : Int) = (n0 : Int) * (m0 : Int) * (n2 : Int) * (n3 : Int) by rw [hNN, Int.natCast_mul, Int.natCast_mul, Int.natCast_mul])
      have hs5 := HO5.out.size
      have hs8 := h83.size
      rw [HSZ.out] at hs5
      have hng : w8.heap.size ≠ g := by omega
      have hnp : w8.heap.size ≠ w.heap.size := by omega
      have HK8 := Lib.hid (show ZX (w8.alloc (.cells #[.int .i64 (n0 : Int), .int .i64 (m0 : Int), .int .i64 (n2 : Int), .int .i64 (n3 : Int)] 3)) (some ⟨w8.heap.size, 0, none⟩) 4 4 [(n0 : Int), (m0 : Int), (n2 : Int), (n3 : Int)] from zx_newL w8 [(n0 : Int), (m0 : Int), (n2 : Int), (n3 : Int)] (by simp))
      have y0 := cell_newI w8 [.int .i64 (n0 : Int), .int .i64 (m0 : Int), .int .i64 (n2 : Int), .int .i64 (n3 : Int)] 3 0 _ rfl (by simp)
      have y1 := cell_newI w8 [.int .i64 (n0 : Int), .int .i64 (m0 : Int), .int .i64 (n2 : Int), .int .i64 (n3 : Int)] 3 1 _ rfl (by simp)
      have y2 := cell_newI w8 [.int .i64 (n0 : Int), .int .i64 (m0 : Int), .int .i64 (n2 : Int), .int .i64 (n3 : Int)] 3 2 _ rfl (by simp)
      have y3 := cell_newI w8 [.int .i64 (n0 : Int), .int .i64 (m0 : Int), .int .i64 (n2 : Int), .int .i64 (n3 : Int)] 3 3 _ rfl (by simp)
      have HYK := Lib.hid (TyM.new w8 #[.int .i64 (n0 : Int), .int .i64 (m0 : Int), .int .i64 (n2 : Int), .int .i64 (n3 : Int)])
      have HT8' := Lib.hid (TM.keep HT8.out ((Ext.refl w8).alloc (.cells #[.int .i64 (n0 : Int), .int .i64 (m0 : Int), .int .i64 (n2 : Int), .int .i64 (n3 : Int)] 3)))
      have HO8 := Lib.hid (HO5.out.trans (h83.trans (On.of ((Ext.refl w8).alloc (.cells #[.int .i64 (n0 : Int), .int .i64 (m0 : Int), .int .i64 (n2 : Int), .int .i64 (n3 : Int)] 3)))))
      have hW8s : w8.heap.size < (w8.alloc (.cells #[.int .i64 (n0 : Int), .int .i64 (m0 : Int), .int .i64 (n2 : Int), .int .i64 (n3 : Int)] 3)).heap.size := by simp
      clear u1 u2 u3 hNN h62 h63 h72 h73 h82
      go_wp2_with fail
      generalize hW8 : (w8.alloc (.cells #[.int .i64 (n0 : Int), .int .i64 (m0 : Int), .int .i64 (n2 : Int), .int .i64 (n3 : Int)] 3)) = W8 at *
      clear hW8
      have HR9 := Lib.hid (show Calls Try.prog 66 #[.pointer (some ⟨g, 0, none⟩), .int .i64 ((n0 : Int) * (m0 : Int) * (n2 : Int) * (n3 : Int))] W8.drew fun e w' => RwPost W8.drew g NN e w' by rw [← HNN.out]; exact mkRow_any g NN W8.drew (Lib.hid (HT8'.out.keep ((Ext.refl _).drew))) (by omega))
      refine wp_region_held_drew (S := (fun w' => OnGP g w.heap.size W8 w')) (by kernel_rfl) ?_ (fun hHeld => ?_)
      · (try dsimp only); first | with_reducible exact OnGP.of (On.refl _ _) | with_reducible exact OnGP.of (by assumption) | with_reducible exact OnGP.of (On.of ((Ext.refl _).drew))
      refine wpAnyH_take (i := 0) (oi := _) (v := ?_) rfl (by kernel_rfl) (by kernel_rfl) (by kernel_rfl) (fun _ _ _ h => h) (Or.inl ⟨by first | kernel_rfl | rfl, ?_⟩) (by assumption) ?_
      rotate_left
      · (intro wS hSw; (try dsimp only at hSw); have z0 := OnGP.cell hSw (by exact hng) (by exact hnp) y0; have z1 := OnGP.cell hSw (by exact hng) (by exact hnp) y1; have z2 := OnGP.cell hSw (by exact hng) (by exact hnp) y2; have z3 := OnGP.cell hSw (by exact hng) (by exact hnp) y3; (try go_simp); (try with_reducible rfl))
      try simp only [Act.put, s1, s2, s3]
      refine wpAnyH_take (i := 1) (oi := _) (v := ?_) rfl (by kernel_rfl) (by kernel_rfl) (by kernel_rfl) (fun _ _ _ h => h) (Or.inl ⟨by first | kernel_rfl | rfl, ?_⟩) (by assumption) ?_
      rotate_left
      · (intro wS hSw; (try dsimp only at hSw); have z0 := OnGP.cell hSw (by exact hng) (by exact hnp) y0; have z1 := OnGP.cell hSw (by exact hng) (by exact hnp) y1; have z2 := OnGP.cell hSw (by exact hng) (by exact hnp) y2; have z3 := OnGP.cell hSw (by exact hng) (by exact hnp) y3; (try go_simp); (try with_reducible rfl))
      try simp only [Act.put, s1, s2, s3]
      refine wpAnyH_take (i := 2) (oi := _) (v := ?_) rfl (by kernel_rfl) (by kernel_rfl) (by kernel_rfl) (fun _ _ _ h => h) (Or.inl ⟨by first | kernel_rfl | rfl, ?_⟩) (by assumption) ?_
      rotate_left
      · (intro wS hSw; (try dsimp only at hSw); have z0 := OnGP.cell hSw (by exact hng) (by exact hnp) y0; have z1 := OnGP.cell hSw (by exact hng) (by exact hnp) y1; have z2 := OnGP.cell hSw (by exact hng) (by exact hnp) y2; have z3 := OnGP.cell hSw (by exact hng) (by exact hnp) y3; (try go_simp); (try with_reducible rfl))
      try simp only [Act.put, s1, s2, s3]
      refine wpAnyH_take (i := 3) (oi := _) (v := ?_) rfl (by kernel_rfl) (by kernel_rfl) (by kernel_rfl) (fun _ _ _ h => h) (Or.inl ⟨by first | kernel_rfl | rfl, ?_⟩) (by assumption) ?_
      rotate_left
      · (intro wS hSw; (try dsimp only at hSw); have z0 := OnGP.cell hSw (by exact hng) (by exact hnp) y0; have z1 := OnGP.cell hSw (by exact hng) (by exact hnp) y1; have z2 := OnGP.cell hSw (by exact hng) (by exact hnp) y2; have z3 := OnGP.cell hSw (by exact hng) (by exact hnp) y3; (try go_simp); (try with_reducible rfl))
      try simp only [Act.put, s1, s2, s3]
      refine wpAnyH_take (i := 4) (oi := _) (v := ?_) rfl (by kernel_rfl) (by kernel_rfl) (by kernel_rfl) (fun _ _ _ h => h) (Or.inl ⟨by first | kernel_rfl | rfl, ?_⟩) (by assumption) ?_
      rotate_left
      · (intro wS hSw; (try dsimp only at hSw); have z0 := OnGP.cell hSw (by exact hng) (by exact hnp) y0; have z1 := OnGP.cell hSw (by exact hng) (by exact hnp) y1; have z2 := OnGP.cell hSw (by exact hng) (by exact hnp) y2; have z3 := OnGP.cell hSw (by exact hng) (by exact hnp) y3; (try go_simp); (try with_reducible rfl))
      try simp only [Act.put, s1, s2, s3]
      refine wpAnyH_take (i := 5) (oi := _) (v := ?_) rfl (by kernel_rfl) (by kernel_rfl) (by kernel_rfl) (fun _ _ _ h => h) (Or.inl ⟨by first | kernel_rfl | rfl, ?_⟩) (by assumption) ?_
      rotate_left
      · (intro wS hSw; (try dsimp only at hSw); have z0 := OnGP.cell hSw (by exact hng) (by exact hnp) y0; have z1 := OnGP.cell hSw (by exact hng) (by exact hnp) y1; have z2 := OnGP.cell hSw (by exact hng) (by exact hnp) y2; have z3 := OnGP.cell hSw (by exact hng) (by exact hnp) y3; (try go_simp); (try with_reducible rfl))
      try simp only [Act.put, s1, s2, s3]
      refine wpAnyH_take (i := 6) (oi := _) (v := ?_) rfl (by kernel_rfl) (by kernel_rfl) (by kernel_rfl) (fun _ _ _ h => h) (Or.inl ⟨by first | kernel_rfl | rfl, ?_⟩) (by assumption) ?_
      rotate_left
      · (intro wS hSw; (try dsimp only at hSw); have z0 := OnGP.cell hSw (by exact hng) (by exact hnp) y0; have z1 := OnGP.cell hSw (by exact hng) (by exact hnp) y1; have z2 := OnGP.cell hSw (by exact hng) (by exact hnp) y2; have z3 := OnGP.cell hSw (by exact hng) (by exact hnp) y3; (try go_simp); (try with_reducible rfl))
      try simp only [Act.put, s1, s2, s3]
      refine wpAnyH_take (i := 7) (oi := _) (v := ?_) rfl (by kernel_rfl) (by kernel_rfl) (by kernel_rfl) (fun _ _ _ h => h) (Or.inl ⟨by first | kernel_rfl | rfl, ?_⟩) (by assumption) ?_
      rotate_left
      · (intro wS hSw; (try dsimp only at hSw); have z0 := OnGP.cell hSw (by exact hng) (by exact hnp) y0; have z1 := OnGP.cell hSw (by exact hng) (by exact hnp) y1; have z2 := OnGP.cell hSw (by exact hng) (by exact hnp) y2; have z3 := OnGP.cell hSw (by exact hng) (by exact hnp) y3; (try go_simp); (try with_reducible rfl))
      try simp only [Act.put, s1, s2, s3]
      refine wpAnyH_take (i := 8) (oi := _) (v := ?_) rfl (by kernel_rfl) (by kernel_rfl) (by kernel_rfl) (fun _ _ _ h => h) (Or.inl ⟨by first | kernel_rfl | rfl, ?_⟩) (by assumption) ?_
      rotate_left
      · (intro wS hSw; (try dsimp only at hSw); have z0 := OnGP.cell hSw (by exact hng) (by exact hnp) y0; have z1 := OnGP.cell hSw (by exact hng) (by exact hnp) y1; have z2 := OnGP.cell hSw (by exact hng) (by exact hnp) y2; have z3 := OnGP.cell hSw (by exact hng) (by exact hnp) y3; (try go_simp); (try with_reducible rfl))
      try simp only [Act.put, s1, s2, s3]
      refine wpAnyH_take (i := 9) (oi := _) (v := ?_) rfl (by kernel_rfl) (by kernel_rfl) (by kernel_rfl) (fun _ _ _ h => h) (Or.inl ⟨by first | kernel_rfl | rfl, ?_⟩) (by assumption) ?_
      rotate_left
      · (intro wS hSw; (try dsimp only at hSw); have z0 := OnGP.cell hSw (by exact hng) (by exact hnp) y0; have z1 := OnGP.cell hSw (by exact hng) (by exact hnp) y1; have z2 := OnGP.cell hSw (by exact hng) (by exact hnp) y2; have z3 := OnGP.cell hSw (by exact hng) (by exact hnp) y3; (try go_simp); (try with_reducible rfl))
      try simp only [Act.put, s1, s2, s3]
      refine wpAnyH_take (i := 10) (oi := _) (v := ?_) rfl (by kernel_rfl) (by kernel_rfl) (by kernel_rfl) (fun _ _ _ h => h) (Or.inl ⟨by first | kernel_rfl | rfl, ?_⟩) (by assumption) ?_
      rotate_left
      · (intro wS hSw; (try dsimp only at hSw); have z0 := OnGP.cell hSw (by exact hng) (by exact hnp) y0; have z1 := OnGP.cell hSw (by exact hng) (by exact hnp) y1; have z2 := OnGP.cell hSw (by exact hng) (by exact hnp) y2; have z3 := OnGP.cell hSw (by exact hng) (by exact hnp) y3; (try go_simp); (try with_reducible rfl))
      try simp only [Act.put, s1, s2, s3]
      refine wpAnyH_take (i := 11) (oi := _) (v := ?_) rfl (by kernel_rfl) (by kernel_rfl) (by kernel_rfl) (fun _ _ _ h => h) (Or.inl ⟨by first | kernel_rfl | rfl, ?_⟩) (by assumption) ?_
      rotate_left
      · (intro wS hSw; (try dsimp only at hSw); have z0 := OnGP.cell hSw (by exact hng) (by exact hnp) y0; have z1 := OnGP.cell hSw (by exact hng) (by exact hnp) y1; have z2 := OnGP.cell hSw (by exact hng) (by exact hnp) y2; have z3 := OnGP.cell hSw (by exact hng) (by exact hnp) y3; (try go_simp); (try with_reducible rfl))
      try simp only [Act.put, s1, s2, s3]
      refine wpAnyH_take (i := 12) (oi := _) (v := ?_) rfl (by kernel_rfl) (by kernel_rfl) (by kernel_rfl) (fun _ _ _ h => h) (Or.inl ⟨by first | kernel_rfl | rfl, ?_⟩) (by assumption) ?_
      rotate_left
      · (intro wS hSw; (try dsimp only at hSw); have z0 := OnGP.cell hSw (by exact hng) (by exact hnp) y0; have z1 := OnGP.cell hSw (by exact hng) (by exact hnp) y1; have z2 := OnGP.cell hSw (by exact hng) (by exact hnp) y2; have z3 := OnGP.cell hSw (by exact hng) (by exact hnp) y3; (try go_simp); (try with_reducible rfl))
      try simp only [Act.put, s1, s2, s3]
      refine wpAnyH_take (i := 13) (oi := _) (v := ?_) rfl (by kernel_rfl) (by kernel_rfl) (by kernel_rfl) (fun _ _ _ h => h) (Or.inl ⟨by first | kernel_rfl | rfl, ?_⟩) (by assumption) ?_
      rotate_left
      · (intro wS hSw; (try dsimp only at hSw); have z0 := OnGP.cell hSw (by exact hng) (by exact hnp) y0; have z1 := OnGP.cell hSw (by exact hng) (by exact hnp) y1; have z2 := OnGP.cell hSw (by exact hng) (by exact hnp) y2; have z3 := OnGP.cell hSw (by exact hng) (by exact hnp) y3; (try go_simp); (try with_reducible rfl))
      try simp only [Act.put, s1, s2, s3]
      refine wpAnyH_take (i := 14) (oi := _) (v := ?_) rfl (by kernel_rfl) (by kernel_rfl) (by kernel_rfl) (fun _ _ _ h => h) (Or.inl ⟨by first | kernel_rfl | rfl, ?_⟩) (by assumption) ?_
      rotate_left
      · (intro wS hSw; (try dsimp only at hSw); have z0 := OnGP.cell hSw (by exact hng) (by exact hnp) y0; have z1 := OnGP.cell hSw (by exact hng) (by exact hnp) y1; have z2 := OnGP.cell hSw (by exact hng) (by exact hnp) y2; have z3 := OnGP.cell hSw (by exact hng) (by exact hnp) y3; (try go_simp); (try with_reducible rfl))
      try simp only [Act.put, s1, s2, s3]
      refine wpAnyH_take (i := 15) (oi := _) (v := ?_) rfl (by kernel_rfl) (by kernel_rfl) (by kernel_rfl) (fun _ _ _ h => h) (Or.inl ⟨by first | kernel_rfl | rfl, ?_⟩) (by assumption) ?_
      rotate_left
      · (intro wS hSw; (try dsimp only at hSw); have z0 := OnGP.cell hSw (by exact hng) (by exact hnp) y0; have z1 := OnGP.cell hSw (by exact hng) (by exact hnp) y1; have z2 := OnGP.cell hSw (by exact hng) (by exact hnp) y2; have z3 := OnGP.cell hSw (by exact hng) (by exact hnp) y3; (try go_simp); (try with_reducible rfl))
      try simp only [Act.put, s1, s2, s3]
      refine wpAnyH_take (i := 16) (oi := _) (v := ?_) rfl (by kernel_rfl) (by kernel_rfl) (by kernel_rfl) (fun _ _ _ h => h) (Or.inl ⟨by first | kernel_rfl | rfl, ?_⟩) (by assumption) ?_
      rotate_left
      · (intro wS hSw; (try dsimp only at hSw); have z0 := OnGP.cell hSw (by exact hng) (by exact hnp) y0; have z1 := OnGP.cell hSw (by exact hng) (by exact hnp) y1; have z2 := OnGP.cell hSw (by exact hng) (by exact hnp) y2; have z3 := OnGP.cell hSw (by exact hng) (by exact hnp) y3; (try go_simp); (try with_reducible rfl))
      try simp only [Act.put, s1, s2, s3]
      refine wpAnyH_take (i := 17) (oi := _) (v := ?_) rfl (by kernel_rfl) (by kernel_rfl) (by kernel_rfl) (fun _ _ _ h => h) (Or.inl ⟨by first | kernel_rfl | rfl, ?_⟩) (by assumption) ?_
      rotate_left
      · (intro wS hSw; (try dsimp only at hSw); have z0 := OnGP.cell hSw (by exact hng) (by exact hnp) y0; have z1 := OnGP.cell hSw (by exact hng) (by exact hnp) y1; have z2 := OnGP.cell hSw (by exact hng) (by exact hnp) y2; have z3 := OnGP.cell hSw (by exact hng) (by exact hnp) y3; (try go_simp); (try with_reducible rfl))
      try simp only [Act.put, s1, s2, s3]
      refine wpAnyH_take (i := 19) (oi := _) (v := ?_) rfl (by kernel_rfl) (by kernel_rfl) (by kernel_rfl) (fun _ _ _ h => h) (Or.inl ⟨by first | kernel_rfl | rfl, ?_⟩) (by assumption) ?_
      rotate_left
      · (intro wS hSw; (try dsimp only at hSw); have z0 := OnGP.cell hSw (by exact hng) (by exact hnp) y0; have z1 := OnGP.cell hSw (by exact hng) (by exact hnp) y1; have z2 := OnGP.cell hSw (by exact hng) (by exact hnp) y2; have z3 := OnGP.cell hSw (by exact hng) (by exact hnp) y3; (try go_simp); (try with_reducible rfl))
      try simp only [Act.put, s1, s2, s3]
      refine wpAnyH_take (i := 20) (oi := _) (v := ?_) rfl (by kernel_rfl) (by kernel_rfl) (by kernel_rfl) (fun _ _ _ h => h) (Or.inl ⟨by first | kernel_rfl | rfl, ?_⟩) (by assumption) ?_
      rotate_left
      · (intro wS hSw; (try dsimp only at hSw); have z0 := OnGP.cell hSw (by exact hng) (by exact hnp) y0; have z1 := OnGP.cell hSw (by exact hng) (by exact hnp) y1; have z2 := OnGP.cell hSw (by exact hng) (by exact hnp) y2; have z3 := OnGP.cell hSw (by exact hng) (by exact hnp) y3; (try go_simp); (try with_reducible rfl))
      try simp only [Act.put, s1, s2, s3]
      refine wpAnyH_take (i := 21) (oi := _) (v := ?_) rfl (by kernel_rfl) (by kernel_rfl) (by kernel_rfl) (fun _ _ _ h => h) (Or.inl ⟨by first | kernel_rfl | rfl, ?_⟩) (by assumption) ?_
      rotate_left
      · (intro wS hSw; (try dsimp only at hSw); have z0 := OnGP.cell hSw (by exact hng) (by exact hnp) y0; have z1 := OnGP.cell hSw (by exact hng) (by exact hnp) y1; have z2 := OnGP.cell hSw (by exact hng) (by exact hnp) y2; have z3 := OnGP.cell hSw (by exact hng) (by exact hnp) y3; (try go_simp); (try with_reducible rfl))
      try simp only [Act.put, s1, s2, s3]
      refine wpAnyH_take (i := 22) (oi := _) (v := ?_) rfl (by kernel_rfl) (by kernel_rfl) (by kernel_rfl) (fun _ _ _ h => h) (Or.inl ⟨by first | kernel_rfl | rfl, ?_⟩) (by assumption) ?_
      rotate_left
      · (intro wS hSw; (try dsimp only at hSw); have z0 := OnGP.cell hSw (by exact hng) (by exact hnp) y0; have z1 := OnGP.cell hSw (by exact hng) (by exact hnp) y1; have z2 := OnGP.cell hSw (by exact hng) (by exact hnp) y2; have z3 := OnGP.cell hSw (by exact hng) (by exact hnp) y3; (try go_simp); (try with_reducible rfl))
      try simp only [Act.put, s1, s2, s3]
      refine wpAnyH_ready (rs := [18]) (by kernel_rfl) (by simp) ?_
      refine AllReadyH.cons rfl (fun KQ hKQ => ?_) AllReadyH.nil
      go_simp
      (refine HR9.out.mono ?_; rintro e9 w9 ⟨A9, c9, l9, rfl, hl9, h94, hz9, hf9, h92, h93, ty9⟩; have HT9 := Lib.hid h92; replace h93 : On g W8 w9 := On.trans (On.of ((Ext.refl _).drew)) h93; have hs9 := h93.size)
      refine hKQ.out _ _ ?_ (fun hHeld => ?_)
      · (try dsimp only); first | with_reducible exact OnGP.of (On.refl _ _) | with_reducible exact OnGP.of (by assumption) | with_reducible exact OnGP.of (On.of ((Ext.refl _).drew))
      clear hKQ KQ
      try simp only [Act.put, s1, s2, s3]
      refine wpAnyH_ready (rs := [23]) (by kernel_rfl) (by simp) ?_
      refine AllReadyH.cons rfl (fun KQ hKQ => ?_) AllReadyH.nil
      go_simp
      (refine (mkRow_any g n0 w9 HT9 (by omega)).mono ?_; rintro e10 w10 ⟨A10, c10, l10, rfl, hl10, h104, hz10, hf10, h102, h103, ty10⟩; have HG9 := Lib.hid (show ZG g w10 A9 NN c9 l9 from ZG.on ⟨hz9, fun ad e => by have := hf9 ad e; simp at this; omega⟩ h103); have HP9 := Lib.hid (show ∀ ad, A9 = some ad → ad.block ≠ w.heap.size from fun ad e => by have := hf9 ad e; simp at this; omega); have HF9 := Lib.hid (ty9.onT HT9.out h103); replace h103 : On g W8 w10 := On.trans h93 h103; have hh9 := heap_on HH.out (HO8.out.trans h103) (by omega); have da : w10.cell? ⟨w.heap.size, 0, none⟩ = some (.int .i64 0) := cell_of_heap hh9 rfl; have fa : w10.frozen? ⟨w.heap.size, 0, none⟩ = false := frozen_of_heap hh9; have db : w10.cell? ⟨w.heap.size, 1, none⟩ = some (.int .i64 0) := cell_of_heap hh9 rfl; have fb : w10.frozen? ⟨w.heap.size, 1, none⟩ = false := frozen_of_heap hh9; have dc : w10.cell? ⟨w.heap.size, 2, none⟩ = some (.int .i64 0) := cell_of_heap hh9 rfl; have fc : w10.frozen? ⟨w.heap.size, 2, none⟩ = false := frozen_of_heap hh9; have dd : w10.cell? ⟨w.heap.size, 3, none⟩ = some (.slice none 0 0) := cell_of_heap hh9 rfl; have fd : w10.frozen? ⟨w.heap.size, 3, none⟩ = false := frozen_of_heap hh9; have de : w10.cell? ⟨w.heap.size, 4, none⟩ = some (.int .i64 0) := cell_of_heap hh9 rfl; have fe : w10.frozen? ⟨w.heap.size, 4, none⟩ = false := frozen_of_heap hh9; have df : w10.cell? ⟨w.heap.size, 5, none⟩ = some (.int .i64 0) := cell_of_heap hh9 rfl; have ff : w10.frozen? ⟨w.heap.size, 5, none⟩ = false := frozen_of_heap hh9; have dg : w10.cell? ⟨w.heap.size, 6, none⟩ = some (.int .i64 0) := cell_of_heap hh9 rfl; have fg : w10.frozen? ⟨w.heap.size, 6, none⟩ = false := frozen_of_heap hh9; have dh : w10.cell? ⟨w.heap.size, 7, none⟩ = some (.slice none 0 0) := cell_of_heap hh9 rfl; have fh : w10.frozen? ⟨w.heap.size, 7, none⟩ = false := frozen_of_heap hh9; have di : w10.cell? ⟨w.heap.size, 8, none⟩ = some (.slice none 0 0) := cell_of_heap hh9 rfl; have fi : w10.frozen? ⟨w.heap.size, 8, none⟩ = false := frozen_of_heap hh9; clear hh9)
      refine hKQ.out _ _ ?_ (fun hHeld => ?_)
      · (try dsimp only); first | with_reducible exact OnGP.of (On.refl _ _) | with_reducible exact OnGP.of (by assumption) | with_reducible exact OnGP.of (On.of ((Ext.refl _).drew))
      clear hKQ KQ
      try simp only [Act.put, s1, s2, s3]
      refine wpAnyH_take (i := 24) (oi := _) (v := ?_) rfl (by kernel_rfl) (by kernel_rfl) (by kernel_rfl) (fun _ _ _ h => h) (Or.inl ⟨by first | kernel_rfl | rfl, ?_⟩) (by assumption) ?_
      rotate_left
      · (intro wS hSw; (try dsimp only at hSw); have z0 := OnGP.cell hSw (by exact hng) (by exact hnp) y0; have z1 := OnGP.cell hSw (by exact hng) (by exact hnp) y1; have z2 := OnGP.cell hSw (by exact hng) (by exact hnp) y2; have z3 := OnGP.cell hSw (by exact hng) (by exact hnp) y3; (try go_simp); (try with_reducible rfl))
      try simp only [Act.put, s1, s2, s3]
      refine wpAnyH_ready (rs := [25]) (by kernel_rfl) (by simp) ?_
      refine AllReadyH.cons rfl (fun KQ hKQ => ?_) AllReadyH.nil
      go_simp
      refine hKQ.out _ _ ?_ (fun hHeld => ?_)
      · (try dsimp only); exact OnGP.of2 (b := w10) h103 (onp_cells [.int .i64 4, .int .i64 (ia : Int), .int .i64 0, .slice (some ⟨w8.heap.size, 0, none⟩) 4 4, .int .i64 0, .int .i64 0, .int .i64 0, .slice A9 NN c9, .slice A10 n0 c10] w10 0)
      clear hKQ KQ
      try simp only [Act.put, s1, s2, s3]
      refine wpAnyH_done (by kernel_rfl) ?_ _
      have HT := Lib.hid h102
      have HOV := Lib.hid (HO8.out.trans h103)
      have HD9 := Lib.hid (show ZG g w10 A9 l9.length c9 l9 from by rw [hl9]; exact HG9.out)
      have HD10 := Lib.hid (show ZG g w10 A10 l10.length c10 l10 from ⟨by rw [hl10]; exact hz10, fun ad e => by have := hf10 ad e; omega⟩)
      have HP10 := Lib.hid (show ∀ ad, A10 = some ad → ad.block ≠ w.heap.size from fun ad e => by have := hf10 ad e; omega)
      have HF10 := Lib.hid ty10
      have HKL := Lib.hid (show ZX w10 (some ⟨w8.heap.size, 0, none⟩) 4 4 [(n0 : Int), (m0 : Int), (n2 : Int), (n3 : Int)] from (ZG.on (g := g) ⟨HK8.out, fun ad e => by injection e with e; subst e; exact hng⟩ h103).zx)
      have HMC := Lib.hid (mk_conv (s := s) (l := l9) (bi := l10) (ia := ia) (k0 := (n0 : Int)) (k2 := (n2 : Int)) (k3 := (n3 : Int)) HS.out HG3.out (by simp; omega) (by simp; omega) (by simp; omega) (by rw [HS3.out]; exact hk2) (by rw [HS3.out]; exact hk3) (by rw [HS3.out, hl9, HNN.out]; rfl) (by rw [hl10]) h94 h104)
      have HL9 := Lib.hid hl9
      have HL10 := Lib.hid hl10
      obtain ⟨s', hno, hgo⟩ := HMC.out
      rw [HS3.out] at hno
      have HNO := Lib.hid (show nodeR ⟨4, (ia : Int), 0, [(n0 : Int), (m0 : Int), (n2 : Int), (n3 : Int)], 0, 0, 0, l9, l10⟩ shs = .ok s' from hno)
      have HYK2 := Lib.hid (HYK.out.onT HT8'.out h103)
      clear hno h102 h103 h93 hl9 hl10 hz9 hz10 h94 h104 hf9 hf10
      have HHW := Lib.hid (heap_on HH.out HOV.out (by omega))
      have hyy : ∀ A, TyM w10 A → TyM (World.setCells w10 w.heap.size 0 [.int .i64 4, .int .i64 (ia : Int), .int .i64 0, .slice (some ⟨w8.heap.size, 0, none⟩) 4 4, .int .i64 0, .int .i64 0, .int .i64 0, .slice A9 NN c9, .slice A10 n0 c10]) A := fun A h => h.onp HHW.out (by decide) (onp_cells [.int .i64 4, .int .i64 (ia : Int), .int .i64 0, .slice (some ⟨w8.heap.size, 0, none⟩) 4 4, .int .i64 0, .int .i64 0, .int .i64 0, .slice A9 NN c9, .slice A10 n0 c10] w10 0)
      go_wp2
      refine bodyPost_ret (v := .agg #[.int .i64 4, .int .i64 (ia : Int), .int .i64 0, .slice (some ⟨w8.heap.size, 0, none⟩) 4 4, .int .i64 0, .int .i64 0, .int .i64 0, .slice A9 NN c9, .slice A10 n0 c10]) (by simp [results, Try.results44, go_sem, da, db, dc, dd, de, df, dg, dh, di]) rfl ⟨⟨4, (ia : Int), 0, [(n0 : Int), (m0 : Int), (n2 : Int), (n3 : Int)], 0, 0, 0, l9, l10⟩, some ⟨w8.heap.size, 0, none⟩, A9, A10, 4, c9, c10, s', by rw [← HL9.out, ← HL10.out]; rfl, ⟨⟨?_, ?_, ?_⟩, ?_, ?_, ?_⟩, HNO.out, hgo, tm_cells [.int .i64 4, .int .i64 (ia : Int), .int .i64 0, .slice (some ⟨w8.heap.size, 0, none⟩) 4 4, .int .i64 0, .int .i64 0, .int .i64 0, .slice A9 NN c9, .slice A10 n0 c10] w10 0 HT.out hgl, on_cells ((On.of KV.out).trans HOV.out) (Nat.le_refl _) [.int .i64 4, .int .i64 (ia : Int), .int .i64 0, .slice (some ⟨w8.heap.size, 0, none⟩) 4 4, .int .i64 0, .int .i64 0, .int .i64 0, .slice A9 NN c9, .slice A10 n0 c10] 0, .inl (hyy _ HYK2.out), hyy _ HF9.out, hyy _ HF10.out⟩
      · exact ⟨(ZG.on (g := w.heap.size) ⟨HKL.out, fun ad e => by injection e with e; subst e; exact hnp⟩ (onp_cells [.int .i64 4, .int .i64 (ia : Int), .int .i64 0, .slice (some ⟨w8.heap.size, 0, none⟩) 4 4, .int .i64 0, .int .i64 0, .int .i64 0, .slice A9 NN c9, .slice A10 n0 c10] w10 0)).zx, fun ad e => by injection e with e; subst e; exact hng⟩
      · exact ⟨(ZG.on (g := w.heap.size) ⟨HD9.out.zx, HP9.out⟩ (onp_cells [.int .i64 4, .int .i64 (ia : Int), .int .i64 0, .slice (some ⟨w8.heap.size, 0, none⟩) 4 4, .int .i64 0, .int .i64 0, .int .i64 0, .slice A9 NN c9, .slice A10 n0 c10] w10 0)).zx, HD9.out.off⟩
      · exact ⟨(ZG.on (g := w.heap.size) ⟨HD10.out.zx, HP10.out⟩ (onp_cells [.int .i64 4, .int .i64 (ia : Int), .int .i64 0, .slice (some ⟨w8.heap.size, 0, none⟩) 4 4, .int .i64 0, .int .i64 0, .int .i64 0, .slice A9 NN c9, .slice A10 n0 c10] w10 0)).zx, HD10.out.off⟩
      all_goals (have q1 := HL9.out; have q2 := HL10.out; first | (simp; done) | (dsimp only; omega) | (simp; omega))
    ·
      have hl3 : ((s.length : Int) == 3) = false := by simp; omega
      clear h3
      go_wp2_with fail
      refine (mkSmall_any g w5 HT5).mono ?_
      rintro e6 w6 ⟨v6, rfl, v60, v61, h62, h63⟩
      have HT := Lib.hid (TM.keep h62 ((Ext.refl w6).alloc (.cells #[.int .i64 v6] 3)))
      have HOV := Lib.hid ((HO5.out.trans h63).trans (On.of ((Ext.refl w6).alloc (.cells #[.int .i64 v6] 3))))
      have hs6 := (HO5.out.trans h63).size
      rw [HSZ.out] at hs6
      clear h62 h63
      have hh9 := heap_on HH.out HOV.out (by omega)
      have da : (w6.alloc (.cells #[.int .i64 v6] 3)).cell? ⟨w.heap.size, 0, none⟩ = some (.int .i64 0) := cell_of_heap hh9 rfl
      have fa : (w6.alloc (.cells #[.int .i64 v6] 3)).frozen? ⟨w.heap.size, 0, none⟩ = false := frozen_of_heap hh9
      have db : (w6.alloc (.cells #[.int .i64 v6] 3)).cell? ⟨w.heap.size, 1, none⟩ = some (.int .i64 0) := cell_of_heap hh9 rfl
      have fb : (w6.alloc (.cells #[.int .i64 v6] 3)).frozen? ⟨w.heap.size, 1, none⟩ = false := frozen_of_heap hh9
      have dc : (w6.alloc (.cells #[.int .i64 v6] 3)).cell? ⟨w.heap.size, 2, none⟩ = some (.int .i64 0) := cell_of_heap hh9 rfl
      have fc : (w6.alloc (.cells #[.int .i64 v6] 3)).frozen? ⟨w.heap.size, 2, none⟩ = false := frozen_of_heap hh9
      have dd : (w6.alloc (.cells #[.int .i64 v6] 3)).cell? ⟨w.heap.size, 3, none⟩ = some (.slice none 0 0) := cell_of_heap hh9 rfl
      have fd : (w6.alloc (.cells #[.int .i64 v6] 3)).frozen? ⟨w.heap.size, 3, none⟩ = false := frozen_of_heap hh9
      have de : (w6.alloc (.cells #[.int .i64 v6] 3)).cell? ⟨w.heap.size, 4, none⟩ = some (.int .i64 0) := cell_of_heap hh9 rfl
      have fe : (w6.alloc (.cells #[.int .i64 v6] 3)).frozen? ⟨w.heap.size, 4, none⟩ = false := frozen_of_heap hh9
      have df : (w6.alloc (.cells #[.int .i64 v6] 3)).cell? ⟨w.heap.size, 5, none⟩ = some (.int .i64 0) := cell_of_heap hh9 rfl
      have ff : (w6.alloc (.cells #[.int .i64 v6] 3)).frozen? ⟨w.heap.size, 5, none⟩ = false := frozen_of_heap hh9
      have dg : (w6.alloc (.cells #[.int .i64 v6] 3)).cell? ⟨w.heap.size, 6, none⟩ = some (.int .i64 0) := cell_of_heap hh9 rfl
      have fg : (w6.alloc (.cells #[.int .i64 v6] 3)).frozen? ⟨w.heap.size, 6, none⟩ = false := frozen_of_heap hh9
      have dh : (w6.alloc (.cells #[.int .i64 v6] 3)).cell? ⟨w.heap.size, 7, none⟩ = some (.slice none 0 0) := cell_of_heap hh9 rfl
      have fh : (w6.alloc (.cells #[.int .i64 v6] 3)).frozen? ⟨w.heap.size, 7, none⟩ = false := frozen_of_heap hh9
      have di : (w6.alloc (.cells #[.int .i64 v6] 3)).cell? ⟨w.heap.size, 8, none⟩ = some (.slice none 0 0) := cell_of_heap hh9 rfl
      have fi : (w6.alloc (.cells #[.int .i64 v6] 3)).frozen? ⟨w.heap.size, 8, none⟩ = false := frozen_of_heap hh9
      have HH9 := Lib.hid hh9
      clear hh9
      have hyy : ∀ A, TyM (w6.alloc (.cells #[.int .i64 v6] 3)) A → TyM (World.setCells (w6.alloc (.cells #[.int .i64 v6] 3)) w.heap.size 0 [.int .i64 7, .int .i64 (ia : Int), .int .i64 0, .slice none 0 0, .int .i64 0, .int .i64 0, .int .i64 0, .slice (some ⟨w6.heap.size, 0, none⟩) 1 1, .slice none 0 0]) A := fun A h => h.onp HH9.out (by decide) (onp_cells [.int .i64 7, .int .i64 (ia : Int), .int .i64 0, .slice none 0 0, .int .i64 0, .int .i64 0, .int .i64 0, .slice (some ⟨w6.heap.size, 0, none⟩) 1 1, .slice none 0 0] (w6.alloc (.cells #[.int .i64 v6] 3)) 0)
      go_wp2
      refine bodyPost_ret (v := .agg #[.int .i64 7, .int .i64 (ia : Int), .int .i64 0, .slice none 0 0, .int .i64 0, .int .i64 0, .int .i64 0, .slice (some ⟨w6.heap.size, 0, none⟩) 1 1, .slice none 0 0]) (by simp [results, Try.results44, go_sem, da, db, dc, dd, de, df, dg, dh, di]) rfl ⟨⟨7, (ia : Int), 0, [], 0, 0, 0, [v6], []⟩, _, _, _, _, _, _, _, rfl, ⟨⟨?_, ?_, ?_⟩, ?_, ?_, ?_⟩, mk_like (.inl ⟨rfl, rfl⟩) HS.out (by intro z hz; simp at hz; omega), hgs.out, tm_cells [.int .i64 7, .int .i64 (ia : Int), .int .i64 0, .slice none 0 0, .int .i64 0, .int .i64 0, .int .i64 0, .slice (some ⟨w6.heap.size, 0, none⟩) 1 1, .slice none 0 0] (w6.alloc (.cells #[.int .i64 v6] 3)) 0 HT.out hgl, on_cells ((On.of KV.out).trans HOV.out) (Nat.le_refl _) [.int .i64 7, .int .i64 (ia : Int), .int .i64 0, .slice none 0 0, .int .i64 0, .int .i64 0, .int .i64 0, .slice (some ⟨w6.heap.size, 0, none⟩) 1 1, .slice none 0 0] 0, .inl (hyy _ (TyM.none_ _)), (hyy _ (TyM.new _ _)), (hyy _ (TyM.none_ _))⟩
      · exact ⟨(ZG.on (g := w.heap.size) (ZG.none_ _ _) (onp_cells [.int .i64 7, .int .i64 (ia : Int), .int .i64 0, .slice none 0 0, .int .i64 0, .int .i64 0, .int .i64 0, .slice (some ⟨w6.heap.size, 0, none⟩) 1 1, .slice none 0 0] (w6.alloc (.cells #[.int .i64 v6] 3)) 0)).zx, (fun ad e => by cases e)⟩
      · exact ⟨(ZG.on (g := w.heap.size) (⟨zx_new1 w6 v6, fun ad e => by injection e with e; subst e; show w6.heap.size ≠ w.heap.size; omega⟩) (onp_cells [.int .i64 7, .int .i64 (ia : Int), .int .i64 0, .slice none 0 0, .int .i64 0, .int .i64 0, .int .i64 0, .slice (some ⟨w6.heap.size, 0, none⟩) 1 1, .slice none 0 0] (w6.alloc (.cells #[.int .i64 v6] 3)) 0)).zx, (fun ad e => by injection e with e; subst e; show w6.heap.size ≠ g; omega)⟩
      · exact ⟨(ZG.on (g := w.heap.size) (ZG.none_ _ _) (onp_cells [.int .i64 7, .int .i64 (ia : Int), .int .i64 0, .slice none 0 0, .int .i64 0, .int .i64 0, .int .i64 0, .slice (some ⟨w6.heap.size, 0, none⟩) 1 1, .slice none 0 0] (w6.alloc (.cells #[.int .i64 v6] 3)) 0)).zx, (fun ad e => by cases e)⟩
      all_goals (first | (simp; done) | (dsimp only; omega) | (simp; omega))
  ·
    by_cases h3 : s.length = 3
    ·
      obtain ⟨a0, a1, a2, hs3⟩ := three_list h3
      have hg3 : s ∈ good3 := by
        rcases hgs.out with h | h | ⟨q, h, _⟩
        · exact h
        · rw [h] at h3; cases h3
        · rw [h] at h3; cases h3
      obtain ⟨adb, rfl, hbc⟩ := HZ5.out.zx.cells (by omega)
      have b0 := hbc 0 a0 (by rw [hs3]; rfl)
      have b1 : w5.cell? ⟨adb.block, adb.off + 1, none⟩ = some (.int .i64 a1) := hbc 1 a1 (by rw [hs3]; rfl)
      have b2 : w5.cell? ⟨adb.block, adb.off + 2, none⟩ = some (.int .i64 a2) := hbc 2 a2 (by rw [hs3]; rfl)
      rw [add0J] at b0
      have dims := entN_dims (by have := (good_ent hgs.out).1; omega : 0 < entN s)
      have q0 := dims a0 (by rw [hs3]; simp)
      have q1 := dims a1 (by rw [hs3]; simp)
      have q2 := dims a2 (by rw [hs3]; simp)
      obtain ⟨q00, q01⟩ := q0
      obtain ⟨q10, q11⟩ := q1
      obtain ⟨q20, q21⟩ := q2
      have hl3 : ((s.length : Int) == 3) = true := by rw [h3]; rfl
      have hlt2 : (2 : Int) < (s.length : Int) := by omega
      have hlt1 : (1 : Int) < (s.length : Int) := by omega
      have hlt0 : (0 : Int) < (s.length : Int) := by omega
      have hltN : 0 < s.length := by omega
      have HS3 := Lib.hid hs3
      have HG3 := Lib.hid hg3
      clear h3 hs3 hg3 hbc dims
      
      by_cases p1 : a1 % 2 = 0
      · by_cases p2 : a2 % 2 = 0
        ·
          have HT := HT5
          have HOV := HO5
          have HMK := Lib.hid (mk_pool (s := s) HS.out HG3.out (by rw [HS3.out]; exact p1) (by rw [HS3.out]; exact p2))
          have e1 : (a1 % 2 == 0) = true := by rw [p1]; rfl
          have e2 : (a2 % 2 == 0) = true := by rw [p2]; rfl
          clear p1 p2
          obtain ⟨s', hno, hgo⟩ := HMK.out
          have HNO := Lib.hid hno
          clear hno
          have hh9 := heap_on HH.out HOV.out (by omega)
          have da : w5.cell? ⟨w.heap.size, 0, none⟩ = some (.int .i64 0) := cell_of_heap hh9 rfl
          have fa : w5.frozen? ⟨w.heap.size, 0, none⟩ = false := frozen_of_heap hh9
          have db : w5.cell? ⟨w.heap.size, 1, none⟩ = some (.int .i64 0) := cell_of_heap hh9 rfl
          have fb : w5.frozen? ⟨w.heap.size, 1, none⟩ = false := frozen_of_heap hh9
          have dc : w5.cell? ⟨w.heap.size, 2, none⟩ = some (.int .i64 0) := cell_of_heap hh9 rfl
          have fc : w5.frozen? ⟨w.heap.size, 2, none⟩ = false := frozen_of_heap hh9
          have dd : w5.cell? ⟨w.heap.size, 3, none⟩ = some (.slice none 0 0) := cell_of_heap hh9 rfl
          have fd : w5.frozen? ⟨w.heap.size, 3, none⟩ = false := frozen_of_heap hh9
          have de : w5.cell? ⟨w.heap.size, 4, none⟩ = some (.int .i64 0) := cell_of_heap hh9 rfl
          have fe : w5.frozen? ⟨w.heap.size, 4, none⟩ = false := frozen_of_heap hh9
          have df : w5.cell? ⟨w.heap.size, 5, none⟩ = some (.int .i64 0) := cell_of_heap hh9 rfl
          have ff : w5.frozen? ⟨w.heap.size, 5, none⟩ = false := frozen_of_heap hh9
          have dg : w5.cell? ⟨w.heap.size, 6, none⟩ = some (.int .i64 0) := cell_of_heap hh9 rfl
          have fg : w5.frozen? ⟨w.heap.size, 6, none⟩ = false := frozen_of_heap hh9
          have dh : w5.cell? ⟨w.heap.size, 7, none⟩ = some (.slice none 0 0) := cell_of_heap hh9 rfl
          have fh : w5.frozen? ⟨w.heap.size, 7, none⟩ = false := frozen_of_heap hh9
          have di : w5.cell? ⟨w.heap.size, 8, none⟩ = some (.slice none 0 0) := cell_of_heap hh9 rfl
          have fi : w5.frozen? ⟨w.heap.size, 8, none⟩ = false := frozen_of_heap hh9
          have HH9 := Lib.hid hh9
          clear hh9
          have hyy : ∀ A, TyM w5 A → TyM (World.setCells w5 w.heap.size 0 [.int .i64 5, .int .i64 (ia : Int), .int .i64 0, .slice none 0 0, .int .i64 0, .int .i64 0, .int .i64 2, .slice none 0 0, .slice none 0 0]) A := fun A h => h.onp HH9.out (by decide) (onp_cells [.int .i64 5, .int .i64 (ia : Int), .int .i64 0, .slice none 0 0, .int .i64 0, .int .i64 0, .int .i64 2, .slice none 0 0, .slice none 0 0] w5 0)
          go_wp2
          refine bodyPost_ret (v := .agg #[.int .i64 5, .int .i64 (ia : Int), .int .i64 0, .slice none 0 0, .int .i64 0, .int .i64 0, .int .i64 2, .slice none 0 0, .slice none 0 0]) (by simp [results, Try.results44, go_sem, da, db, dc, dd, de, df, dg, dh, di]) rfl ⟨⟨5, (ia : Int), 0, [], 0, 0, 2, [], []⟩, _, _, _, _, _, _, _, rfl, ⟨⟨?_, ?_, ?_⟩, ?_, ?_, ?_⟩, HNO.out, hgo, tm_cells [.int .i64 5, .int .i64 (ia : Int), .int .i64 0, .slice none 0 0, .int .i64 0, .int .i64 0, .int .i64 2, .slice none 0 0, .slice none 0 0] w5 0 HT.out hgl, on_cells ((On.of KV.out).trans HOV.out) (Nat.le_refl _) [.int .i64 5, .int .i64 (ia : Int), .int .i64 0, .slice none 0 0, .int .i64 0, .int .i64 0, .int .i64 2, .slice none 0 0, .slice none 0 0] 0, .inl (hyy _ (TyM.none_ _)), (hyy _ (TyM.none_ _)), (hyy _ (TyM.none_ _))⟩
          · exact ⟨(ZG.on (g := w.heap.size) (ZG.none_ _ _) (onp_cells [.int .i64 5, .int .i64 (ia : Int), .int .i64 0, .slice none 0 0, .int .i64 0, .int .i64 0, .int .i64 2, .slice none 0 0, .slice none 0 0] w5 0)).zx, (fun ad e => by cases e)⟩
          · exact ⟨(ZG.on (g := w.heap.size) (ZG.none_ _ _) (onp_cells [.int .i64 5, .int .i64 (ia : Int), .int .i64 0, .slice none 0 0, .int .i64 0, .int .i64 0, .int .i64 2, .slice none 0 0, .slice none 0 0] w5 0)).zx, (fun ad e => by cases e)⟩
          · exact ⟨(ZG.on (g := w.heap.size) (ZG.none_ _ _) (onp_cells [.int .i64 5, .int .i64 (ia : Int), .int .i64 0, .slice none 0 0, .int .i64 0, .int .i64 0, .int .i64 2, .slice none 0 0, .slice none 0 0] w5 0)).zx, (fun ad e => by cases e)⟩
          all_goals (first | (simp; done) | (dsimp only; omega) | (simp; omega))
        · have e1 : (a1 % 2 == 0) = true := by rw [p1]; rfl
          have e2 : (a2 % 2 == 0) = false := by simp; omega
          clear p1 p2
          go_wp2_with fail
          refine (mkSmall_any g w5 HT5).mono ?_
          rintro e6 w6 ⟨v6, rfl, v60, v61, h62, h63⟩
          have HT := Lib.hid (TM.keep h62 ((Ext.refl w6).alloc (.cells #[.int .i64 v6] 3)))
          have HOV := Lib.hid ((HO5.out.trans h63).trans (On.of ((Ext.refl w6).alloc (.cells #[.int .i64 v6] 3))))
          have hs6 := (HO5.out.trans h63).size
          rw [HSZ.out] at hs6
          clear h62 h63
          have hh9 := heap_on HH.out HOV.out (by omega)
          have da : (w6.alloc (.cells #[.int .i64 v6] 3)).cell? ⟨w.heap.size, 0, none⟩ = some (.int .i64 0) := cell_of_heap hh9 rfl
          have fa : (w6.alloc (.cells #[.int .i64 v6] 3)).frozen? ⟨w.heap.size, 0, none⟩ = false := frozen_of_heap hh9
          have db : (w6.alloc (.cells #[.int .i64 v6] 3)).cell? ⟨w.heap.size, 1, none⟩ = some (.int .i64 0) := cell_of_heap hh9 rfl
          have fb : (w6.alloc (.cells #[.int .i64 v6] 3)).frozen? ⟨w.heap.size, 1, none⟩ = false := frozen_of_heap hh9
          have dc : (w6.alloc (.cells #[.int .i64 v6] 3)).cell? ⟨w.heap.size, 2, none⟩ = some (.int .i64 0) := cell_of_heap hh9 rfl
          have fc : (w6.alloc (.cells #[.int .i64 v6] 3)).frozen? ⟨w.heap.size, 2, none⟩ = false := frozen_of_heap hh9
          have dd : (w6.alloc (.cells #[.int .i64 v6] 3)).cell? ⟨w.heap.size, 3, none⟩ = some (.slice none 0 0) := cell_of_heap hh9 rfl
          have fd : (w6.alloc (.cells #[.int .i64 v6] 3)).frozen? ⟨w.heap.size, 3, none⟩ = false := frozen_of_heap hh9
          have de : (w6.alloc (.cells #[.int .i64 v6] 3)).cell? ⟨w.heap.size, 4, none⟩ = some (.int .i64 0) := cell_of_heap hh9 rfl
          have fe : (w6.alloc (.cells #[.int .i64 v6] 3)).frozen? ⟨w.heap.size, 4, none⟩ = false := frozen_of_heap hh9
          have df : (w6.alloc (.cells #[.int .i64 v6] 3)).cell? ⟨w.heap.size, 5, none⟩ = some (.int .i64 0) := cell_of_heap hh9 rfl
          have ff : (w6.alloc (.cells #[.int .i64 v6] 3)).frozen? ⟨w.heap.size, 5, none⟩ = false := frozen_of_heap hh9
          have dg : (w6.alloc (.cells #[.int .i64 v6] 3)).cell? ⟨w.heap.size, 6, none⟩ = some (.int .i64 0) := cell_of_heap hh9 rfl
          have fg : (w6.alloc (.cells #[.int .i64 v6] 3)).frozen? ⟨w.heap.size, 6, none⟩ = false := frozen_of_heap hh9
          have dh : (w6.alloc (.cells #[.int .i64 v6] 3)).cell? ⟨w.heap.size, 7, none⟩ = some (.slice none 0 0) := cell_of_heap hh9 rfl
          have fh : (w6.alloc (.cells #[.int .i64 v6] 3)).frozen? ⟨w.heap.size, 7, none⟩ = false := frozen_of_heap hh9
          have di : (w6.alloc (.cells #[.int .i64 v6] 3)).cell? ⟨w.heap.size, 8, none⟩ = some (.slice none 0 0) := cell_of_heap hh9 rfl
          have fi : (w6.alloc (.cells #[.int .i64 v6] 3)).frozen? ⟨w.heap.size, 8, none⟩ = false := frozen_of_heap hh9
          have HH9 := Lib.hid hh9
          clear hh9
          have hyy : ∀ A, TyM (w6.alloc (.cells #[.int .i64 v6] 3)) A → TyM (World.setCells (w6.alloc (.cells #[.int .i64 v6] 3)) w.heap.size 0 [.int .i64 7, .int .i64 (ia : Int), .int .i64 0, .slice none 0 0, .int .i64 0, .int .i64 0, .int .i64 0, .slice (some ⟨w6.heap.size, 0, none⟩) 1 1, .slice none 0 0]) A := fun A h => h.onp HH9.out (by decide) (onp_cells [.int .i64 7, .int .i64 (ia : Int), .int .i64 0, .slice none 0 0, .int .i64 0, .int .i64 0, .int .i64 0, .slice (some ⟨w6.heap.size, 0, none⟩) 1 1, .slice none 0 0] (w6.alloc (.cells #[.int .i64 v6] 3)) 0)
          go_wp2
          refine bodyPost_ret (v := .agg #[.int .i64 7, .int .i64 (ia : Int), .int .i64 0, .slice none 0 0, .int .i64 0, .int .i64 0, .int .i64 0, .slice (some ⟨w6.heap.size, 0, none⟩) 1 1, .slice none 0 0]) (by simp [results, Try.results44, go_sem, da, db, dc, dd, de, df, dg, dh, di]) rfl ⟨⟨7, (ia : Int), 0, [], 0, 0, 0, [v6], []⟩, _, _, _, _, _, _, _, rfl, ⟨⟨?_, ?_, ?_⟩, ?_, ?_, ?_⟩, mk_like (.inl ⟨rfl, rfl⟩) HS.out (by intro z hz; simp at hz; omega), hgs.out, tm_cells [.int .i64 7, .int .i64 (ia : Int), .int .i64 0, .slice none 0 0, .int .i64 0, .int .i64 0, .int .i64 0, .slice (some ⟨w6.heap.size, 0, none⟩) 1 1, .slice none 0 0] (w6.alloc (.cells #[.int .i64 v6] 3)) 0 HT.out hgl, on_cells ((On.of KV.out).trans HOV.out) (Nat.le_refl _) [.int .i64 7, .int .i64 (ia : Int), .int .i64 0, .slice none 0 0, .int .i64 0, .int .i64 0, .int .i64 0, .slice (some ⟨w6.heap.size, 0, none⟩) 1 1, .slice none 0 0] 0, .inl (hyy _ (TyM.none_ _)), (hyy _ (TyM.new _ _)), (hyy _ (TyM.none_ _))⟩
          · exact ⟨(ZG.on (g := w.heap.size) (ZG.none_ _ _) (onp_cells [.int .i64 7, .int .i64 (ia : Int), .int .i64 0, .slice none 0 0, .int .i64 0, .int .i64 0, .int .i64 0, .slice (some ⟨w6.heap.size, 0, none⟩) 1 1, .slice none 0 0] (w6.alloc (.cells #[.int .i64 v6] 3)) 0)).zx, (fun ad e => by cases e)⟩
          · exact ⟨(ZG.on (g := w.heap.size) (⟨zx_new1 w6 v6, fun ad e => by injection e with e; subst e; show w6.heap.size ≠ w.heap.size; omega⟩) (onp_cells [.int .i64 7, .int .i64 (ia : Int), .int .i64 0, .slice none 0 0, .int .i64 0, .int .i64 0, .int .i64 0, .slice (some ⟨w6.heap.size, 0, none⟩) 1 1, .slice none 0 0] (w6.alloc (.cells #[.int .i64 v6] 3)) 0)).zx, (fun ad e => by injection e with e; subst e; show w6.heap.size ≠ g; omega)⟩
          · exact ⟨(ZG.on (g := w.heap.size) (ZG.none_ _ _) (onp_cells [.int .i64 7, .int .i64 (ia : Int), .int .i64 0, .slice none 0 0, .int .i64 0, .int .i64 0, .int .i64 0, .slice (some ⟨w6.heap.size, 0, none⟩) 1 1, .slice none 0 0] (w6.alloc (.cells #[.int .i64 v6] 3)) 0)).zx, (fun ad e => by cases e)⟩
          all_goals (first | (simp; done) | (dsimp only; omega) | (simp; omega))
      · have e1 : (a1 % 2 == 0) = false := by simp; omega
        clear p1
        go_wp2_with fail
        refine (mkSmall_any g w5 HT5).mono ?_
        rintro e6 w6 ⟨v6, rfl, v60, v61, h62, h63⟩
        have HT := Lib.hid (TM.keep h62 ((Ext.refl w6).alloc (.cells #[.int .i64 v6] 3)))
        have HOV := Lib.hid ((HO5.out.trans h63).trans (On.of ((Ext.refl w6).alloc (.cells #[.int .i64 v6] 3))))
        have hs6 := (HO5.out.trans h63).size
        rw [HSZ.out] at hs6
        clear h62 h63
        have hh9 := heap_on HH.out HOV.out (by omega)
        have da : (w6.alloc (.cells #[.int .i64 v6] 3)).cell? ⟨w.heap.size, 0, none⟩ = some (.int .i64 0) := cell_of_heap hh9 rfl
        have fa : (w6.alloc (.cells #[.int .i64 v6] 3)).frozen? ⟨w.heap.size, 0, none⟩ = false := frozen_of_heap hh9
        have db : (w6.alloc (.cells #[.int .i64 v6] 3)).cell? ⟨w.heap.size, 1, none⟩ = some (.int .i64 0) := cell_of_heap hh9 rfl
        have fb : (w6.alloc (.cells #[.int .i64 v6] 3)).frozen? ⟨w.heap.size, 1, none⟩ = false := frozen_of_heap hh9
        have dc : (w6.alloc (.cells #[.int .i64 v6] 3)).cell? ⟨w.heap.size, 2, none⟩ = some (.int .i64 0) := cell_of_heap hh9 rfl
        have fc : (w6.alloc (.cells #[.int .i64 v6] 3)).frozen? ⟨w.heap.size, 2, none⟩ = false := frozen_of_heap hh9
        have dd : (w6.alloc (.cells #[.int .i64 v6] 3)).cell? ⟨w.heap.size, 3, none⟩ = some (.slice none 0 0) := cell_of_heap hh9 rfl
        have fd : (w6.alloc (.cells #[.int .i64 v6] 3)).frozen? ⟨w.heap.size, 3, none⟩ = false := frozen_of_heap hh9
        have de : (w6.alloc (.cells #[.int .i64 v6] 3)).cell? ⟨w.heap.size, 4, none⟩ = some (.int .i64 0) := cell_of_heap hh9 rfl
        have fe : (w6.alloc (.cells #[.int .i64 v6] 3)).frozen? ⟨w.heap.size, 4, none⟩ = false := frozen_of_heap hh9
        have df : (w6.alloc (.cells #[.int .i64 v6] 3)).cell? ⟨w.heap.size, 5, none⟩ = some (.int .i64 0) := cell_of_heap hh9 rfl
        have ff : (w6.alloc (.cells #[.int .i64 v6] 3)).frozen? ⟨w.heap.size, 5, none⟩ = false := frozen_of_heap hh9
        have dg : (w6.alloc (.cells #[.int .i64 v6] 3)).cell? ⟨w.heap.size, 6, none⟩ = some (.int .i64 0) := cell_of_heap hh9 rfl
        have fg : (w6.alloc (.cells #[.int .i64 v6] 3)).frozen? ⟨w.heap.size, 6, none⟩ = false := frozen_of_heap hh9
        have dh : (w6.alloc (.cells #[.int .i64 v6] 3)).cell? ⟨w.heap.size, 7, none⟩ = some (.slice none 0 0) := cell_of_heap hh9 rfl
        have fh : (w6.alloc (.cells #[.int .i64 v6] 3)).frozen? ⟨w.heap.size, 7, none⟩ = false := frozen_of_heap hh9
        have di : (w6.alloc (.cells #[.int .i64 v6] 3)).cell? ⟨w.heap.size, 8, none⟩ = some (.slice none 0 0) := cell_of_heap hh9 rfl
        have fi : (w6.alloc (.cells #[.int .i64 v6] 3)).frozen? ⟨w.heap.size, 8, none⟩ = false := frozen_of_heap hh9
        have HH9 := Lib.hid hh9
        clear hh9
        have hyy : ∀ A, TyM (w6.alloc (.cells #[.int .i64 v6] 3)) A → TyM (World.setCells (w6.alloc (.cells #[.int .i64 v6] 3)) w.heap.size 0 [.int .i64 7, .int .i64 (ia : Int), .int .i64 0, .slice none 0 0, .int .i64 0, .int .i64 0, .int .i64 0, .slice (some ⟨w6.heap.size, 0, none⟩) 1 1, .slice none 0 0]) A := fun A h => h.onp HH9.out (by decide) (onp_cells [.int .i64 7, .int .i64 (ia : Int), .int .i64 0, .slice none 0 0, .int .i64 0, .int .i64 0, .int .i64 0, .slice (some ⟨w6.heap.size, 0, none⟩) 1 1, .slice none 0 0] (w6.alloc (.cells #[.int .i64 v6] 3)) 0)
        go_wp2
        refine bodyPost_ret (v := .agg #[.int .i64 7, .int .i64 (ia : Int), .int .i64 0, .slice none 0 0, .int .i64 0, .int .i64 0, .int .i64 0, .slice (some ⟨w6.heap.size, 0, none⟩) 1 1, .slice none 0 0]) (by simp [results, Try.results44, go_sem, da, db, dc, dd, de, df, dg, dh, di]) rfl ⟨⟨7, (ia : Int), 0, [], 0, 0, 0, [v6], []⟩, _, _, _, _, _, _, _, rfl, ⟨⟨?_, ?_, ?_⟩, ?_, ?_, ?_⟩, mk_like (.inl ⟨rfl, rfl⟩) HS.out (by intro z hz; simp at hz; omega), hgs.out, tm_cells [.int .i64 7, .int .i64 (ia : Int), .int .i64 0, .slice none 0 0, .int .i64 0, .int .i64 0, .int .i64 0, .slice (some ⟨w6.heap.size, 0, none⟩) 1 1, .slice none 0 0] (w6.alloc (.cells #[.int .i64 v6] 3)) 0 HT.out hgl, on_cells ((On.of KV.out).trans HOV.out) (Nat.le_refl _) [.int .i64 7, .int .i64 (ia : Int), .int .i64 0, .slice none 0 0, .int .i64 0, .int .i64 0, .int .i64 0, .slice (some ⟨w6.heap.size, 0, none⟩) 1 1, .slice none 0 0] 0, .inl (hyy _ (TyM.none_ _)), (hyy _ (TyM.new _ _)), (hyy _ (TyM.none_ _))⟩
        · exact ⟨(ZG.on (g := w.heap.size) (ZG.none_ _ _) (onp_cells [.int .i64 7, .int .i64 (ia : Int), .int .i64 0, .slice none 0 0, .int .i64 0, .int .i64 0, .int .i64 0, .slice (some ⟨w6.heap.size, 0, none⟩) 1 1, .slice none 0 0] (w6.alloc (.cells #[.int .i64 v6] 3)) 0)).zx, (fun ad e => by cases e)⟩
        · exact ⟨(ZG.on (g := w.heap.size) (⟨zx_new1 w6 v6, fun ad e => by injection e with e; subst e; show w6.heap.size ≠ w.heap.size; omega⟩) (onp_cells [.int .i64 7, .int .i64 (ia : Int), .int .i64 0, .slice none 0 0, .int .i64 0, .int .i64 0, .int .i64 0, .slice (some ⟨w6.heap.size, 0, none⟩) 1 1, .slice none 0 0] (w6.alloc (.cells #[.int .i64 v6] 3)) 0)).zx, (fun ad e => by injection e with e; subst e; show w6.heap.size ≠ g; omega)⟩
        · exact ⟨(ZG.on (g := w.heap.size) (ZG.none_ _ _) (onp_cells [.int .i64 7, .int .i64 (ia : Int), .int .i64 0, .slice none 0 0, .int .i64 0, .int .i64 0, .int .i64 0, .slice (some ⟨w6.heap.size, 0, none⟩) 1 1, .slice none 0 0] (w6.alloc (.cells #[.int .i64 v6] 3)) 0)).zx, (fun ad e => by cases e)⟩
        all_goals (first | (simp; done) | (dsimp only; omega) | (simp; omega))
    ·
      have hl3 : ((s.length : Int) == 3) = false := by simp; omega
      clear h3
      go_wp2_with fail
      refine (mkSmall_any g w5 HT5).mono ?_
      rintro e6 w6 ⟨v6, rfl, v60, v61, h62, h63⟩
      have HT := Lib.hid (TM.keep h62 ((Ext.refl w6).alloc (.cells #[.int .i64 v6] 3)))
      have HOV := Lib.hid ((HO5.out.trans h63).trans (On.of ((Ext.refl w6).alloc (.cells #[.int .i64 v6] 3))))
      have hs6 := (HO5.out.trans h63).size
      rw [HSZ.out] at hs6
      clear h62 h63
      have hh9 := heap_on HH.out HOV.out (by omega)
      have da : (w6.alloc (.cells #[.int .i64 v6] 3)).cell? ⟨w.heap.size, 0, none⟩ = some (.int .i64 0) := cell_of_heap hh9 rfl
      have fa : (w6.alloc (.cells #[.int .i64 v6] 3)).frozen? ⟨w.heap.size, 0, none⟩ = false := frozen_of_heap hh9
      have db : (w6.alloc (.cells #[.int .i64 v6] 3)).cell? ⟨w.heap.size, 1, none⟩ = some (.int .i64 0) := cell_of_heap hh9 rfl
      have fb : (w6.alloc (.cells #[.int .i64 v6] 3)).frozen? ⟨w.heap.size, 1, none⟩ = false := frozen_of_heap hh9
      have dc : (w6.alloc (.cells #[.int .i64 v6] 3)).cell? ⟨w.heap.size, 2, none⟩ = some (.int .i64 0) := cell_of_heap hh9 rfl
      have fc : (w6.alloc (.cells #[.int .i64 v6] 3)).frozen? ⟨w.heap.size, 2, none⟩ = false := frozen_of_heap hh9
      have dd : (w6.alloc (.cells #[.int .i64 v6] 3)).cell? ⟨w.heap.size, 3, none⟩ = some (.slice none 0 0) := cell_of_heap hh9 rfl
      have fd : (w6.alloc (.cells #[.int .i64 v6] 3)).frozen? ⟨w.heap.size, 3, none⟩ = false := frozen_of_heap hh9
      have de : (w6.alloc (.cells #[.int .i64 v6] 3)).cell? ⟨w.heap.size, 4, none⟩ = some (.int .i64 0) := cell_of_heap hh9 rfl
      have fe : (w6.alloc (.cells #[.int .i64 v6] 3)).frozen? ⟨w.heap.size, 4, none⟩ = false := frozen_of_heap hh9
      have df : (w6.alloc (.cells #[.int .i64 v6] 3)).cell? ⟨w.heap.size, 5, none⟩ = some (.int .i64 0) := cell_of_heap hh9 rfl
      have ff : (w6.alloc (.cells #[.int .i64 v6] 3)).frozen? ⟨w.heap.size, 5, none⟩ = false := frozen_of_heap hh9
      have dg : (w6.alloc (.cells #[.int .i64 v6] 3)).cell? ⟨w.heap.size, 6, none⟩ = some (.int .i64 0) := cell_of_heap hh9 rfl
      have fg : (w6.alloc (.cells #[.int .i64 v6] 3)).frozen? ⟨w.heap.size, 6, none⟩ = false := frozen_of_heap hh9
      have dh : (w6.alloc (.cells #[.int .i64 v6] 3)).cell? ⟨w.heap.size, 7, none⟩ = some (.slice none 0 0) := cell_of_heap hh9 rfl
      have fh : (w6.alloc (.cells #[.int .i64 v6] 3)).frozen? ⟨w.heap.size, 7, none⟩ = false := frozen_of_heap hh9
      have di : (w6.alloc (.cells #[.int .i64 v6] 3)).cell? ⟨w.heap.size, 8, none⟩ = some (.slice none 0 0) := cell_of_heap hh9 rfl
      have fi : (w6.alloc (.cells #[.int .i64 v6] 3)).frozen? ⟨w.heap.size, 8, none⟩ = false := frozen_of_heap hh9
      have HH9 := Lib.hid hh9
      clear hh9
      have hyy : ∀ A, TyM (w6.alloc (.cells #[.int .i64 v6] 3)) A → TyM (World.setCells (w6.alloc (.cells #[.int .i64 v6] 3)) w.heap.size 0 [.int .i64 7, .int .i64 (ia : Int), .int .i64 0, .slice none 0 0, .int .i64 0, .int .i64 0, .int .i64 0, .slice (some ⟨w6.heap.size, 0, none⟩) 1 1, .slice none 0 0]) A := fun A h => h.onp HH9.out (by decide) (onp_cells [.int .i64 7, .int .i64 (ia : Int), .int .i64 0, .slice none 0 0, .int .i64 0, .int .i64 0, .int .i64 0, .slice (some ⟨w6.heap.size, 0, none⟩) 1 1, .slice none 0 0] (w6.alloc (.cells #[.int .i64 v6] 3)) 0)
      go_wp2
      refine bodyPost_ret (v := .agg #[.int .i64 7, .int .i64 (ia : Int), .int .i64 0, .slice none 0 0, .int .i64 0, .int .i64 0, .int .i64 0, .slice (some ⟨w6.heap.size, 0, none⟩) 1 1, .slice none 0 0]) (by simp [results, Try.results44, go_sem, da, db, dc, dd, de, df, dg, dh, di]) rfl ⟨⟨7, (ia : Int), 0, [], 0, 0, 0, [v6], []⟩, _, _, _, _, _, _, _, rfl, ⟨⟨?_, ?_, ?_⟩, ?_, ?_, ?_⟩, mk_like (.inl ⟨rfl, rfl⟩) HS.out (by intro z hz; simp at hz; omega), hgs.out, tm_cells [.int .i64 7, .int .i64 (ia : Int), .int .i64 0, .slice none 0 0, .int .i64 0, .int .i64 0, .int .i64 0, .slice (some ⟨w6.heap.size, 0, none⟩) 1 1, .slice none 0 0] (w6.alloc (.cells #[.int .i64 v6] 3)) 0 HT.out hgl, on_cells ((On.of KV.out).trans HOV.out) (Nat.le_refl _) [.int .i64 7, .int .i64 (ia : Int), .int .i64 0, .slice none 0 0, .int .i64 0, .int .i64 0, .int .i64 0, .slice (some ⟨w6.heap.size, 0, none⟩) 1 1, .slice none 0 0] 0, .inl (hyy _ (TyM.none_ _)), (hyy _ (TyM.new _ _)), (hyy _ (TyM.none_ _))⟩
      · exact ⟨(ZG.on (g := w.heap.size) (ZG.none_ _ _) (onp_cells [.int .i64 7, .int .i64 (ia : Int), .int .i64 0, .slice none 0 0, .int .i64 0, .int .i64 0, .int .i64 0, .slice (some ⟨w6.heap.size, 0, none⟩) 1 1, .slice none 0 0] (w6.alloc (.cells #[.int .i64 v6] 3)) 0)).zx, (fun ad e => by cases e)⟩
      · exact ⟨(ZG.on (g := w.heap.size) (⟨zx_new1 w6 v6, fun ad e => by injection e with e; subst e; show w6.heap.size ≠ w.heap.size; omega⟩) (onp_cells [.int .i64 7, .int .i64 (ia : Int), .int .i64 0, .slice none 0 0, .int .i64 0, .int .i64 0, .int .i64 0, .slice (some ⟨w6.heap.size, 0, none⟩) 1 1, .slice none 0 0] (w6.alloc (.cells #[.int .i64 v6] 3)) 0)).zx, (fun ad e => by injection e with e; subst e; show w6.heap.size ≠ g; omega)⟩
      · exact ⟨(ZG.on (g := w.heap.size) (ZG.none_ _ _) (onp_cells [.int .i64 7, .int .i64 (ia : Int), .int .i64 0, .slice none 0 0, .int .i64 0, .int .i64 0, .int .i64 0, .slice (some ⟨w6.heap.size, 0, none⟩) 1 1, .slice none 0 0] (w6.alloc (.cells #[.int .i64 v6] 3)) 0)).zx, (fun ad e => by cases e)⟩
      all_goals (first | (simp; done) | (dsimp only; omega) | (simp; omega))
  ·
    go_wp2_with fail
    go_loopw [127] (fun i wr => ∃ k : Nat, k ≤ shs.length ∧ i = .int .i64 (k : Int) ∧ Hid (TM wr g) ∧ Hid (On g V wr) ∧ Hid (On g w5 wr)) (fun i _ => shs.length - (intOf i).toNat)
    case atStart => exact ⟨0, by omega, rfl, HT5, HO5, Lib.hid (On.refl _ _)⟩
    case round =>
      obtain ⟨k, hk, rfl, hTr, hVr, h5r⟩ := hrel
      by_cases hlt : k < shs.length
      · obtain ⟨sb, hsb⟩ : ∃ sb, shs[k]? = some sb := ⟨_, List.getElem?_eq_getElem hlt⟩
        obtain ⟨Bq, dq, cq, hzk⟩ := HAC.out k sb hsb
        have ckr := cellOn (On.trans (On.of KV.out) hVr.out) (by rw [add_blockJ]; exact hab) cq
        have HZK := Lib.hid (ZG.on hzk (On.trans (On.of KV.out) hVr.out))
        have HZS := Lib.hid (HZ5.out.on h5r.out)
        have hbl : sb.length ≤ 100000 := by
          have := (entN_len (by have := (good_ent (hG.out sb (List.mem_of_getElem? hsb))).1; omega : 0 < entN sb)).2
          omega
        have HSB := Lib.hid hsb
        have j0 : (0 : Int) ≤ (k : Int) := by omega
        have j1 : (k : Int) < (shs.length : Int) := by omega
        clear cq hzk hsb
        go_wp2_with fail
        refine (same_any Bq B sb.length s.length dq d sb s wr (Lib.hid HZK.out.zx) (Lib.hid HZS.out.zx) hbl (by omega)).mono ?_
        rintro e6 w6 ⟨rfl, k6⟩
        have HT6 := Lib.hid (hTr.out.keep k6)
        have HO6 := Lib.hid (hVr.out.trans (On.of k6))
        have H56 := Lib.hid (h5r.out.trans (On.of k6))
        obtain ⟨bb, hbb⟩ : ∃ bb, decide (sb = s) = bb := ⟨_, rfl⟩
        rw [hbb]
        have HBB := Lib.hid hbb
        clear hbb k6
        cases bb
        · go_wp2_with fail
          exact ⟨⟨k + 1, by omega, by go_num, HT6, HO6, H56⟩, by simp [intOf]; omega⟩
        · go_wp2_with fail
          refine (mkNext_any g 2 w6 HT6 (by omega) (by omega)).mono ?_
          rintro e7 w7 ⟨v7, rfl, v70, v71, h72, h73⟩
          have HT7 := Lib.hid h72
          have HO7 := Lib.hid (HO6.out.trans h73)
          have H57 := Lib.hid (H56.out.trans h73)
          have v72 : v7 ≤ 1 := by omega
          clear h72 h73 v71
          by_cases hv : v7 = 1
          · have hvb : (v7 == 1) = true := by rw [hv]; rfl
            clear hv
            have HT := HT7
            have HOV := HO7
            have HSS := Lib.hid (show shs[k]? = some s by rw [HSB.out, of_decide_eq_true HBB.out])
            have hh9 := heap_on HH.out HOV.out (by omega)
            have da : w7.cell? ⟨w.heap.size, 0, none⟩ = some (.int .i64 0) := cell_of_heap hh9 rfl
            have fa : w7.frozen? ⟨w.heap.size, 0, none⟩ = false := frozen_of_heap hh9
            have db : w7.cell? ⟨w.heap.size, 1, none⟩ = some (.int .i64 0) := cell_of_heap hh9 rfl
            have fb : w7.frozen? ⟨w.heap.size, 1, none⟩ = false := frozen_of_heap hh9
            have dc : w7.cell? ⟨w.heap.size, 2, none⟩ = some (.int .i64 0) := cell_of_heap hh9 rfl
            have fc : w7.frozen? ⟨w.heap.size, 2, none⟩ = false := frozen_of_heap hh9
            have dd : w7.cell? ⟨w.heap.size, 3, none⟩ = some (.slice none 0 0) := cell_of_heap hh9 rfl
            have fd : w7.frozen? ⟨w.heap.size, 3, none⟩ = false := frozen_of_heap hh9
            have de : w7.cell? ⟨w.heap.size, 4, none⟩ = some (.int .i64 0) := cell_of_heap hh9 rfl
            have fe : w7.frozen? ⟨w.heap.size, 4, none⟩ = false := frozen_of_heap hh9
            have df : w7.cell? ⟨w.heap.size, 5, none⟩ = some (.int .i64 0) := cell_of_heap hh9 rfl
            have ff : w7.frozen? ⟨w.heap.size, 5, none⟩ = false := frozen_of_heap hh9
            have dg : w7.cell? ⟨w.heap.size, 6, none⟩ = some (.int .i64 0) := cell_of_heap hh9 rfl
            have fg : w7.frozen? ⟨w.heap.size, 6, none⟩ = false := frozen_of_heap hh9
            have dh : w7.cell? ⟨w.heap.size, 7, none⟩ = some (.slice none 0 0) := cell_of_heap hh9 rfl
            have fh : w7.frozen? ⟨w.heap.size, 7, none⟩ = false := frozen_of_heap hh9
            have di : w7.cell? ⟨w.heap.size, 8, none⟩ = some (.slice none 0 0) := cell_of_heap hh9 rfl
            have fi : w7.frozen? ⟨w.heap.size, 8, none⟩ = false := frozen_of_heap hh9
            have HH9 := Lib.hid hh9
            clear hh9
            have hyy : ∀ A, TyM w7 A → TyM (World.setCells w7 w.heap.size 0 [.int .i64 6, .int .i64 (ia : Int), .int .i64 (k : Int), .slice none 0 0, .int .i64 0, .int .i64 0, .int .i64 0, .slice none 0 0, .slice none 0 0]) A := fun A h => h.onp HH9.out (by decide) (onp_cells [.int .i64 6, .int .i64 (ia : Int), .int .i64 (k : Int), .slice none 0 0, .int .i64 0, .int .i64 0, .int .i64 0, .slice none 0 0, .slice none 0 0] w7 0)
            go_wp2
            refine bodyPost_ret (v := .agg #[.int .i64 6, .int .i64 (ia : Int), .int .i64 (k : Int), .slice none 0 0, .int .i64 0, .int .i64 0, .int .i64 0, .slice none 0 0, .slice none 0 0]) (by simp [results, Try.results44, go_sem, da, db, dc, dd, de, df, dg, dh, di]) rfl ⟨⟨6, (ia : Int), (k : Int), [], 0, 0, 0, [], []⟩, _, _, _, _, _, _, _, rfl, ⟨⟨?_, ?_, ?_⟩, ?_, ?_, ?_⟩, mk_add HS.out HSS.out, hgs.out, tm_cells [.int .i64 6, .int .i64 (ia : Int), .int .i64 (k : Int), .slice none 0 0, .int .i64 0, .int .i64 0, .int .i64 0, .slice none 0 0, .slice none 0 0] w7 0 HT.out hgl, on_cells ((On.of KV.out).trans HOV.out) (Nat.le_refl _) [.int .i64 6, .int .i64 (ia : Int), .int .i64 (k : Int), .slice none 0 0, .int .i64 0, .int .i64 0, .int .i64 0, .slice none 0 0, .slice none 0 0] 0, .inl (hyy _ (TyM.none_ _)), (hyy _ (TyM.none_ _)), (hyy _ (TyM.none_ _))⟩
            · exact ⟨(ZG.on (g := w.heap.size) (ZG.none_ _ _) (onp_cells [.int .i64 6, .int .i64 (ia : Int), .int .i64 (k : Int), .slice none 0 0, .int .i64 0, .int .i64 0, .int .i64 0, .slice none 0 0, .slice none 0 0] w7 0)).zx, (fun ad e => by cases e)⟩
            · exact ⟨(ZG.on (g := w.heap.size) (ZG.none_ _ _) (onp_cells [.int .i64 6, .int .i64 (ia : Int), .int .i64 (k : Int), .slice none 0 0, .int .i64 0, .int .i64 0, .int .i64 0, .slice none 0 0, .slice none 0 0] w7 0)).zx, (fun ad e => by cases e)⟩
            · exact ⟨(ZG.on (g := w.heap.size) (ZG.none_ _ _) (onp_cells [.int .i64 6, .int .i64 (ia : Int), .int .i64 (k : Int), .slice none 0 0, .int .i64 0, .int .i64 0, .int .i64 0, .slice none 0 0, .slice none 0 0] w7 0)).zx, (fun ad e => by cases e)⟩
            all_goals (first | (simp; done) | (dsimp only; omega) | (simp; omega))
          · have hvb : (v7 == 1) = false := by simp; exact hv
            clear hv
            go_wp2_with fail
            exact ⟨⟨k + 1, by omega, by go_num, HT7, HO7, H57⟩, by simp [intOf]; omega⟩
      · have hkn : k = shs.length := by omega
        have HT := hTr
        have HOV := hVr
        have hh9 := heap_on HH.out HOV.out (by omega)
        have da : wr.cell? ⟨w.heap.size, 0, none⟩ = some (.int .i64 0) := cell_of_heap hh9 rfl
        have fa : wr.frozen? ⟨w.heap.size, 0, none⟩ = false := frozen_of_heap hh9
        have db : wr.cell? ⟨w.heap.size, 1, none⟩ = some (.int .i64 0) := cell_of_heap hh9 rfl
        have fb : wr.frozen? ⟨w.heap.size, 1, none⟩ = false := frozen_of_heap hh9
        have dc : wr.cell? ⟨w.heap.size, 2, none⟩ = some (.int .i64 0) := cell_of_heap hh9 rfl
        have fc : wr.frozen? ⟨w.heap.size, 2, none⟩ = false := frozen_of_heap hh9
        have dd : wr.cell? ⟨w.heap.size, 3, none⟩ = some (.slice none 0 0) := cell_of_heap hh9 rfl
        have fd : wr.frozen? ⟨w.heap.size, 3, none⟩ = false := frozen_of_heap hh9
        have de : wr.cell? ⟨w.heap.size, 4, none⟩ = some (.int .i64 0) := cell_of_heap hh9 rfl
        have fe : wr.frozen? ⟨w.heap.size, 4, none⟩ = false := frozen_of_heap hh9
        have df : wr.cell? ⟨w.heap.size, 5, none⟩ = some (.int .i64 0) := cell_of_heap hh9 rfl
        have ff : wr.frozen? ⟨w.heap.size, 5, none⟩ = false := frozen_of_heap hh9
        have dg : wr.cell? ⟨w.heap.size, 6, none⟩ = some (.int .i64 0) := cell_of_heap hh9 rfl
        have fg : wr.frozen? ⟨w.heap.size, 6, none⟩ = false := frozen_of_heap hh9
        have dh : wr.cell? ⟨w.heap.size, 7, none⟩ = some (.slice none 0 0) := cell_of_heap hh9 rfl
        have fh : wr.frozen? ⟨w.heap.size, 7, none⟩ = false := frozen_of_heap hh9
        have di : wr.cell? ⟨w.heap.size, 8, none⟩ = some (.slice none 0 0) := cell_of_heap hh9 rfl
        have fi : wr.frozen? ⟨w.heap.size, 8, none⟩ = false := frozen_of_heap hh9
        have HH9 := Lib.hid hh9
        clear hh9
        have hyy : ∀ A, TyM wr A → TyM (World.setCells wr w.heap.size 0 [.int .i64 6, .int .i64 (ia : Int), .int .i64 (ia : Int), .slice none 0 0, .int .i64 0, .int .i64 0, .int .i64 0, .slice none 0 0, .slice none 0 0]) A := fun A h => h.onp HH9.out (by decide) (onp_cells [.int .i64 6, .int .i64 (ia : Int), .int .i64 (ia : Int), .slice none 0 0, .int .i64 0, .int .i64 0, .int .i64 0, .slice none 0 0, .slice none 0 0] wr 0)
        go_wp2
        refine bodyPost_ret (v := .agg #[.int .i64 6, .int .i64 (ia : Int), .int .i64 (ia : Int), .slice none 0 0, .int .i64 0, .int .i64 0, .int .i64 0, .slice none 0 0, .slice none 0 0]) (by simp [results, Try.results44, go_sem, da, db, dc, dd, de, df, dg, dh, di]) rfl ⟨⟨6, (ia : Int), (ia : Int), [], 0, 0, 0, [], []⟩, _, _, _, _, _, _, _, rfl, ⟨⟨?_, ?_, ?_⟩, ?_, ?_, ?_⟩, mk_add HS.out HS.out, hgs.out, tm_cells [.int .i64 6, .int .i64 (ia : Int), .int .i64 (ia : Int), .slice none 0 0, .int .i64 0, .int .i64 0, .int .i64 0, .slice none 0 0, .slice none 0 0] wr 0 HT.out hgl, on_cells ((On.of KV.out).trans HOV.out) (Nat.le_refl _) [.int .i64 6, .int .i64 (ia : Int), .int .i64 (ia : Int), .slice none 0 0, .int .i64 0, .int .i64 0, .int .i64 0, .slice none 0 0, .slice none 0 0] 0, .inl (hyy _ (TyM.none_ _)), (hyy _ (TyM.none_ _)), (hyy _ (TyM.none_ _))⟩
        · exact ⟨(ZG.on (g := w.heap.size) (ZG.none_ _ _) (onp_cells [.int .i64 6, .int .i64 (ia : Int), .int .i64 (ia : Int), .slice none 0 0, .int .i64 0, .int .i64 0, .int .i64 0, .slice none 0 0, .slice none 0 0] wr 0)).zx, (fun ad e => by cases e)⟩
        · exact ⟨(ZG.on (g := w.heap.size) (ZG.none_ _ _) (onp_cells [.int .i64 6, .int .i64 (ia : Int), .int .i64 (ia : Int), .slice none 0 0, .int .i64 0, .int .i64 0, .int .i64 0, .slice none 0 0, .slice none 0 0] wr 0)).zx, (fun ad e => by cases e)⟩
        · exact ⟨(ZG.on (g := w.heap.size) (ZG.none_ _ _) (onp_cells [.int .i64 6, .int .i64 (ia : Int), .int .i64 (ia : Int), .slice none 0 0, .int .i64 0, .int .i64 0, .int .i64 0, .slice none 0 0, .slice none 0 0] wr 0)).zx, (fun ad e => by cases e)⟩
        all_goals (first | (simp; done) | (dsimp only; omega) | (simp; omega))
  ·
    go_wp2_with fail
    refine (mkSmall_any g w5 HT5).mono ?_
    rintro e6 w6 ⟨v6, rfl, v60, v61, h62, h63⟩
    have HT6 := Lib.hid h62
    have HO6 := Lib.hid (HO5.out.trans h63)
    clear h62 h63
    go_wp2_with fail
    refine (mkSmall_any g w6 HT6).mono ?_
    rintro e7 w7 ⟨v7, rfl, v70, v71, h62, h63⟩
    have HT7 := Lib.hid h62
    have HO7 := Lib.hid (HO6.out.trans h63)
    clear h62 h63
    go_wp2_with fail
    refine (mkNext_any g 3 w7 HT7 (by omega) (by omega)).mono ?_
    rintro e8 w8 ⟨v8, rfl, v80, v81, h62, h63⟩
    have v82 : v8 ≤ 2 := by omega
    have HT := Lib.hid (TM.keep h62 ((Ext.refl w8).alloc (.cells #[.int .i64 v6, .int .i64 v7, .int .i64 (v8 - 1)] 3)))
    have HOV := Lib.hid ((HO7.out.trans h63).trans (On.of ((Ext.refl w8).alloc (.cells #[.int .i64 v6, .int .i64 v7, .int .i64 (v8 - 1)] 3))))
    have hs6 := (HO7.out.trans h63).size
    rw [HSZ.out] at hs6
    clear h62 h63 v81
    have hh9 := heap_on HH.out HOV.out (by omega)
    have da : (w8.alloc (.cells #[.int .i64 v6, .int .i64 v7, .int .i64 (v8 - 1)] 3)).cell? ⟨w.heap.size, 0, none⟩ = some (.int .i64 0) := cell_of_heap hh9 rfl
    have fa : (w8.alloc (.cells #[.int .i64 v6, .int .i64 v7, .int .i64 (v8 - 1)] 3)).frozen? ⟨w.heap.size, 0, none⟩ = false := frozen_of_heap hh9
    have db : (w8.alloc (.cells #[.int .i64 v6, .int .i64 v7, .int .i64 (v8 - 1)] 3)).cell? ⟨w.heap.size, 1, none⟩ = some (.int .i64 0) := cell_of_heap hh9 rfl
    have fb : (w8.alloc (.cells #[.int .i64 v6, .int .i64 v7, .int .i64 (v8 - 1)] 3)).frozen? ⟨w.heap.size, 1, none⟩ = false := frozen_of_heap hh9
    have dc : (w8.alloc (.cells #[.int .i64 v6, .int .i64 v7, .int .i64 (v8 - 1)] 3)).cell? ⟨w.heap.size, 2, none⟩ = some (.int .i64 0) := cell_of_heap hh9 rfl
    have fc : (w8.alloc (.cells #[.int .i64 v6, .int .i64 v7, .int .i64 (v8 - 1)] 3)).frozen? ⟨w.heap.size, 2, none⟩ = false := frozen_of_heap hh9
    have dd : (w8.alloc (.cells #[.int .i64 v6, .int .i64 v7, .int .i64 (v8 - 1)] 3)).cell? ⟨w.heap.size, 3, none⟩ = some (.slice none 0 0) := cell_of_heap hh9 rfl
    have fd : (w8.alloc (.cells #[.int .i64 v6, .int .i64 v7, .int .i64 (v8 - 1)] 3)).frozen? ⟨w.heap.size, 3, none⟩ = false := frozen_of_heap hh9
    have de : (w8.alloc (.cells #[.int .i64 v6, .int .i64 v7, .int .i64 (v8 - 1)] 3)).cell? ⟨w.heap.size, 4, none⟩ = some (.int .i64 0) := cell_of_heap hh9 rfl
    have fe : (w8.alloc (.cells #[.int .i64 v6, .int .i64 v7, .int .i64 (v8 - 1)] 3)).frozen? ⟨w.heap.size, 4, none⟩ = false := frozen_of_heap hh9
    have df : (w8.alloc (.cells #[.int .i64 v6, .int .i64 v7, .int .i64 (v8 - 1)] 3)).cell? ⟨w.heap.size, 5, none⟩ = some (.int .i64 0) := cell_of_heap hh9 rfl
    have ff : (w8.alloc (.cells #[.int .i64 v6, .int .i64 v7, .int .i64 (v8 - 1)] 3)).frozen? ⟨w.heap.size, 5, none⟩ = false := frozen_of_heap hh9
    have dg : (w8.alloc (.cells #[.int .i64 v6, .int .i64 v7, .int .i64 (v8 - 1)] 3)).cell? ⟨w.heap.size, 6, none⟩ = some (.int .i64 0) := cell_of_heap hh9 rfl
    have fg : (w8.alloc (.cells #[.int .i64 v6, .int .i64 v7, .int .i64 (v8 - 1)] 3)).frozen? ⟨w.heap.size, 6, none⟩ = false := frozen_of_heap hh9
    have dh : (w8.alloc (.cells #[.int .i64 v6, .int .i64 v7, .int .i64 (v8 - 1)] 3)).cell? ⟨w.heap.size, 7, none⟩ = some (.slice none 0 0) := cell_of_heap hh9 rfl
    have fh : (w8.alloc (.cells #[.int .i64 v6, .int .i64 v7, .int .i64 (v8 - 1)] 3)).frozen? ⟨w.heap.size, 7, none⟩ = false := frozen_of_heap hh9
    have di : (w8.alloc (.cells #[.int .i64 v6, .int .i64 v7, .int .i64 (v8 - 1)] 3)).cell? ⟨w.heap.size, 8, none⟩ = some (.slice none 0 0) := cell_of_heap hh9 rfl
    have fi : (w8.alloc (.cells #[.int .i64 v6, .int .i64 v7, .int .i64 (v8 - 1)] 3)).frozen? ⟨w.heap.size, 8, none⟩ = false := frozen_of_heap hh9
    have HH9 := Lib.hid hh9
    clear hh9
    have hyy : ∀ A, TyM (w8.alloc (.cells #[.int .i64 v6, .int .i64 v7, .int .i64 (v8 - 1)] 3)) A → TyM (World.setCells (w8.alloc (.cells #[.int .i64 v6, .int .i64 v7, .int .i64 (v8 - 1)] 3)) w.heap.size 0 [.int .i64 8, .int .i64 (ia : Int), .int .i64 0, .slice none 0 0, .int .i64 0, .int .i64 0, .int .i64 0, .slice (some ⟨w8.heap.size, 0, none⟩) 3 3, .slice none 0 0]) A := fun A h => h.onp HH9.out (by decide) (onp_cells [.int .i64 8, .int .i64 (ia : Int), .int .i64 0, .slice none 0 0, .int .i64 0, .int .i64 0, .int .i64 0, .slice (some ⟨w8.heap.size, 0, none⟩) 3 3, .slice none 0 0] (w8.alloc (.cells #[.int .i64 v6, .int .i64 v7, .int .i64 (v8 - 1)] 3)) 0)
    go_wp2
    refine bodyPost_ret (v := .agg #[.int .i64 8, .int .i64 (ia : Int), .int .i64 0, .slice none 0 0, .int .i64 0, .int .i64 0, .int .i64 0, .slice (some ⟨w8.heap.size, 0, none⟩) 3 3, .slice none 0 0]) (by simp [results, Try.results44, go_sem, da, db, dc, dd, de, df, dg, dh, di]) rfl ⟨⟨8, (ia : Int), 0, [], 0, 0, 0, [v6, v7, v8 - 1], []⟩, _, _, _, _, _, _, _, rfl, ⟨⟨?_, ?_, ?_⟩, ?_, ?_, ?_⟩, mk_like (.inr ⟨rfl, rfl⟩) HS.out (by intro z hz; simp at hz; omega), hgs.out, tm_cells [.int .i64 8, .int .i64 (ia : Int), .int .i64 0, .slice none 0 0, .int .i64 0, .int .i64 0, .int .i64 0, .slice (some ⟨w8.heap.size, 0, none⟩) 3 3, .slice none 0 0] (w8.alloc (.cells #[.int .i64 v6, .int .i64 v7, .int .i64 (v8 - 1)] 3)) 0 HT.out hgl, on_cells ((On.of KV.out).trans HOV.out) (Nat.le_refl _) [.int .i64 8, .int .i64 (ia : Int), .int .i64 0, .slice none 0 0, .int .i64 0, .int .i64 0, .int .i64 0, .slice (some ⟨w8.heap.size, 0, none⟩) 3 3, .slice none 0 0] 0, .inl (hyy _ (TyM.none_ _)), (hyy _ (TyM.new _ _)), (hyy _ (TyM.none_ _))⟩
    · exact ⟨(ZG.on (g := w.heap.size) (ZG.none_ _ _) (onp_cells [.int .i64 8, .int .i64 (ia : Int), .int .i64 0, .slice none 0 0, .int .i64 0, .int .i64 0, .int .i64 0, .slice (some ⟨w8.heap.size, 0, none⟩) 3 3, .slice none 0 0] (w8.alloc (.cells #[.int .i64 v6, .int .i64 v7, .int .i64 (v8 - 1)] 3)) 0)).zx, (fun ad e => by cases e)⟩
    · exact ⟨(ZG.on (g := w.heap.size) (⟨zx_newL w8 [v6, v7, v8 - 1] (by simp), fun ad e => by injection e with e; subst e; show w8.heap.size ≠ w.heap.size; omega⟩) (onp_cells [.int .i64 8, .int .i64 (ia : Int), .int .i64 0, .slice none 0 0, .int .i64 0, .int .i64 0, .int .i64 0, .slice (some ⟨w8.heap.size, 0, none⟩) 3 3, .slice none 0 0] (w8.alloc (.cells #[.int .i64 v6, .int .i64 v7, .int .i64 (v8 - 1)] 3)) 0)).zx, (fun ad e => by injection e with e; subst e; show w8.heap.size ≠ g; omega)⟩
    · exact ⟨(ZG.on (g := w.heap.size) (ZG.none_ _ _) (onp_cells [.int .i64 8, .int .i64 (ia : Int), .int .i64 0, .slice none 0 0, .int .i64 0, .int .i64 0, .int .i64 0, .slice (some ⟨w8.heap.size, 0, none⟩) 3 3, .slice none 0 0] (w8.alloc (.cells #[.int .i64 v6, .int .i64 v7, .int .i64 (v8 - 1)] 3)) 0)).zx, (fun ad e => by cases e)⟩
    all_goals (first | (simp; done) | (dsimp only; omega) | (simp; omega))
  ·
    have HT := Lib.hid (TM.keep HT5.out ((Ext.refl w5).alloc (.cells #[.int .i64 (m : Int)] 3)))
    have HOV := Lib.hid (HO5.out.trans (On.of ((Ext.refl w5).alloc (.cells #[.int .i64 (m : Int)] 3))))
    have hs6 := HO5.out.size
    rw [HSZ.out] at hs6
    have hh9 := heap_on HH.out HOV.out (by omega)
    have da : (w5.alloc (.cells #[.int .i64 (m : Int)] 3)).cell? ⟨w.heap.size, 0, none⟩ = some (.int .i64 0) := cell_of_heap hh9 rfl
    have fa : (w5.alloc (.cells #[.int .i64 (m : Int)] 3)).frozen? ⟨w.heap.size, 0, none⟩ = false := frozen_of_heap hh9
    have db : (w5.alloc (.cells #[.int .i64 (m : Int)] 3)).cell? ⟨w.heap.size, 1, none⟩ = some (.int .i64 0) := cell_of_heap hh9 rfl
    have fb : (w5.alloc (.cells #[.int .i64 (m : Int)] 3)).frozen? ⟨w.heap.size, 1, none⟩ = false := frozen_of_heap hh9
    have dc : (w5.alloc (.cells #[.int .i64 (m : Int)] 3)).cell? ⟨w.heap.size, 2, none⟩ = some (.int .i64 0) := cell_of_heap hh9 rfl
    have fc : (w5.alloc (.cells #[.int .i64 (m : Int)] 3)).frozen? ⟨w.heap.size, 2, none⟩ = false := frozen_of_heap hh9
    have dd : (w5.alloc (.cells #[.int .i64 (m : Int)] 3)).cell? ⟨w.heap.size, 3, none⟩ = some (.slice none 0 0) := cell_of_heap hh9 rfl
    have fd : (w5.alloc (.cells #[.int .i64 (m : Int)] 3)).frozen? ⟨w.heap.size, 3, none⟩ = false := frozen_of_heap hh9
    have de : (w5.alloc (.cells #[.int .i64 (m : Int)] 3)).cell? ⟨w.heap.size, 4, none⟩ = some (.int .i64 0) := cell_of_heap hh9 rfl
    have fe : (w5.alloc (.cells #[.int .i64 (m : Int)] 3)).frozen? ⟨w.heap.size, 4, none⟩ = false := frozen_of_heap hh9
    have df : (w5.alloc (.cells #[.int .i64 (m : Int)] 3)).cell? ⟨w.heap.size, 5, none⟩ = some (.int .i64 0) := cell_of_heap hh9 rfl
    have ff : (w5.alloc (.cells #[.int .i64 (m : Int)] 3)).frozen? ⟨w.heap.size, 5, none⟩ = false := frozen_of_heap hh9
    have dg : (w5.alloc (.cells #[.int .i64 (m : Int)] 3)).cell? ⟨w.heap.size, 6, none⟩ = some (.int .i64 0) := cell_of_heap hh9 rfl
    have fg : (w5.alloc (.cells #[.int .i64 (m : Int)] 3)).frozen? ⟨w.heap.size, 6, none⟩ = false := frozen_of_heap hh9
    have dh : (w5.alloc (.cells #[.int .i64 (m : Int)] 3)).cell? ⟨w.heap.size, 7, none⟩ = some (.slice none 0 0) := cell_of_heap hh9 rfl
    have fh : (w5.alloc (.cells #[.int .i64 (m : Int)] 3)).frozen? ⟨w.heap.size, 7, none⟩ = false := frozen_of_heap hh9
    have di : (w5.alloc (.cells #[.int .i64 (m : Int)] 3)).cell? ⟨w.heap.size, 8, none⟩ = some (.slice none 0 0) := cell_of_heap hh9 rfl
    have fi : (w5.alloc (.cells #[.int .i64 (m : Int)] 3)).frozen? ⟨w.heap.size, 8, none⟩ = false := frozen_of_heap hh9
    have HH9 := Lib.hid hh9
    clear hh9
    have hyy : ∀ A, TyM (w5.alloc (.cells #[.int .i64 (m : Int)] 3)) A → TyM (World.setCells (w5.alloc (.cells #[.int .i64 (m : Int)] 3)) w.heap.size 0 [.int .i64 9, .int .i64 (ia : Int), .int .i64 0, .slice (some ⟨w5.heap.size, 0, none⟩) 1 1, .int .i64 0, .int .i64 0, .int .i64 0, .slice none 0 0, .slice none 0 0]) A := fun A h => h.onp HH9.out (by decide) (onp_cells [.int .i64 9, .int .i64 (ia : Int), .int .i64 0, .slice (some ⟨w5.heap.size, 0, none⟩) 1 1, .int .i64 0, .int .i64 0, .int .i64 0, .slice none 0 0, .slice none 0 0] (w5.alloc (.cells #[.int .i64 (m : Int)] 3)) 0)
    go_wp2
    refine bodyPost_ret (v := .agg #[.int .i64 9, .int .i64 (ia : Int), .int .i64 0, .slice (some ⟨w5.heap.size, 0, none⟩) 1 1, .int .i64 0, .int .i64 0, .int .i64 0, .slice none 0 0, .slice none 0 0]) (by simp [results, Try.results44, go_sem, da, db, dc, dd, de, df, dg, dh, di]) rfl ⟨⟨9, (ia : Int), 0, [(m : Int)], 0, 0, 0, [], []⟩, _, _, _, _, _, _, _, rfl, ⟨⟨?_, ?_, ?_⟩, ?_, ?_, ?_⟩, (show nodeR ⟨9, (ia : Int), 0, [(m : Int)], 0, 0, 0, [], []⟩ shs = .ok [(m : Int)] by rw [← HM.out]; exact (mk_flat HS.out hgs.out).1), (show GoodS [(m : Int)] by rw [← HM.out]; exact (mk_flat HS.out hgs.out).2), tm_cells [.int .i64 9, .int .i64 (ia : Int), .int .i64 0, .slice (some ⟨w5.heap.size, 0, none⟩) 1 1, .int .i64 0, .int .i64 0, .int .i64 0, .slice none 0 0, .slice none 0 0] (w5.alloc (.cells #[.int .i64 (m : Int)] 3)) 0 HT.out hgl, on_cells ((On.of KV.out).trans HOV.out) (Nat.le_refl _) [.int .i64 9, .int .i64 (ia : Int), .int .i64 0, .slice (some ⟨w5.heap.size, 0, none⟩) 1 1, .int .i64 0, .int .i64 0, .int .i64 0, .slice none 0 0, .slice none 0 0] 0, .inl (hyy _ (TyM.new _ _)), (hyy _ (TyM.none_ _)), (hyy _ (TyM.none_ _))⟩
    · exact ⟨(ZG.on (g := w.heap.size) (⟨zx_new1 w5 (m : Int), fun ad e => by injection e with e; subst e; show w5.heap.size ≠ w.heap.size; omega⟩) (onp_cells [.int .i64 9, .int .i64 (ia : Int), .int .i64 0, .slice (some ⟨w5.heap.size, 0, none⟩) 1 1, .int .i64 0, .int .i64 0, .int .i64 0, .slice none 0 0, .slice none 0 0] (w5.alloc (.cells #[.int .i64 (m : Int)] 3)) 0)).zx, (fun ad e => by injection e with e; subst e; show w5.heap.size ≠ g; omega)⟩
    · exact ⟨(ZG.on (g := w.heap.size) (ZG.none_ _ _) (onp_cells [.int .i64 9, .int .i64 (ia : Int), .int .i64 0, .slice (some ⟨w5.heap.size, 0, none⟩) 1 1, .int .i64 0, .int .i64 0, .int .i64 0, .slice none 0 0, .slice none 0 0] (w5.alloc (.cells #[.int .i64 (m : Int)] 3)) 0)).zx, (fun ad e => by cases e)⟩
    · exact ⟨(ZG.on (g := w.heap.size) (ZG.none_ _ _) (onp_cells [.int .i64 9, .int .i64 (ia : Int), .int .i64 0, .slice (some ⟨w5.heap.size, 0, none⟩) 1 1, .int .i64 0, .int .i64 0, .int .i64 0, .slice none 0 0, .slice none 0 0] (w5.alloc (.cells #[.int .i64 (m : Int)] 3)) 0)).zx, (fun ad e => by cases e)⟩
    all_goals (first | (simp; done) | (dsimp only; omega) | (simp; omega))
  ·
    go_wp2_with fail
    refine (mkSmall_any g w5 HT5).mono ?_
    rintro e6 w6 ⟨v6, rfl, v60, v61, h62, h63⟩
    have HT := Lib.hid (TM.keep h62 ((Ext.refl w6).alloc (.cells #[.int .i64 v6] 3)))
    have HOV := Lib.hid ((HO5.out.trans h63).trans (On.of ((Ext.refl w6).alloc (.cells #[.int .i64 v6] 3))))
    have hs6 := (HO5.out.trans h63).size
    rw [HSZ.out] at hs6
    clear h62 h63
    have hh9 := heap_on HH.out HOV.out (by omega)
    have da : (w6.alloc (.cells #[.int .i64 v6] 3)).cell? ⟨w.heap.size, 0, none⟩ = some (.int .i64 0) := cell_of_heap hh9 rfl
    have fa : (w6.alloc (.cells #[.int .i64 v6] 3)).frozen? ⟨w.heap.size, 0, none⟩ = false := frozen_of_heap hh9
    have db : (w6.alloc (.cells #[.int .i64 v6] 3)).cell? ⟨w.heap.size, 1, none⟩ = some (.int .i64 0) := cell_of_heap hh9 rfl
    have fb : (w6.alloc (.cells #[.int .i64 v6] 3)).frozen? ⟨w.heap.size, 1, none⟩ = false := frozen_of_heap hh9
    have dc : (w6.alloc (.cells #[.int .i64 v6] 3)).cell? ⟨w.heap.size, 2, none⟩ = some (.int .i64 0) := cell_of_heap hh9 rfl
    have fc : (w6.alloc (.cells #[.int .i64 v6] 3)).frozen? ⟨w.heap.size, 2, none⟩ = false := frozen_of_heap hh9
    have dd : (w6.alloc (.cells #[.int .i64 v6] 3)).cell? ⟨w.heap.size, 3, none⟩ = some (.slice none 0 0) := cell_of_heap hh9 rfl
    have fd : (w6.alloc (.cells #[.int .i64 v6] 3)).frozen? ⟨w.heap.size, 3, none⟩ = false := frozen_of_heap hh9
    have de : (w6.alloc (.cells #[.int .i64 v6] 3)).cell? ⟨w.heap.size, 4, none⟩ = some (.int .i64 0) := cell_of_heap hh9 rfl
    have fe : (w6.alloc (.cells #[.int .i64 v6] 3)).frozen? ⟨w.heap.size, 4, none⟩ = false := frozen_of_heap hh9
    have df : (w6.alloc (.cells #[.int .i64 v6] 3)).cell? ⟨w.heap.size, 5, none⟩ = some (.int .i64 0) := cell_of_heap hh9 rfl
    have ff : (w6.alloc (.cells #[.int .i64 v6] 3)).frozen? ⟨w.heap.size, 5, none⟩ = false := frozen_of_heap hh9
    have dg : (w6.alloc (.cells #[.int .i64 v6] 3)).cell? ⟨w.heap.size, 6, none⟩ = some (.int .i64 0) := cell_of_heap hh9 rfl
    have fg : (w6.alloc (.cells #[.int .i64 v6] 3)).frozen? ⟨w.heap.size, 6, none⟩ = false := frozen_of_heap hh9
    have dh : (w6.alloc (.cells #[.int .i64 v6] 3)).cell? ⟨w.heap.size, 7, none⟩ = some (.slice none 0 0) := cell_of_heap hh9 rfl
    have fh : (w6.alloc (.cells #[.int .i64 v6] 3)).frozen? ⟨w.heap.size, 7, none⟩ = false := frozen_of_heap hh9
    have di : (w6.alloc (.cells #[.int .i64 v6] 3)).cell? ⟨w.heap.size, 8, none⟩ = some (.slice none 0 0) := cell_of_heap hh9 rfl
    have fi : (w6.alloc (.cells #[.int .i64 v6] 3)).frozen? ⟨w.heap.size, 8, none⟩ = false := frozen_of_heap hh9
    have HH9 := Lib.hid hh9
    clear hh9
    have hyy : ∀ A, TyM (w6.alloc (.cells #[.int .i64 v6] 3)) A → TyM (World.setCells (w6.alloc (.cells #[.int .i64 v6] 3)) w.heap.size 0 [.int .i64 7, .int .i64 (ia : Int), .int .i64 0, .slice none 0 0, .int .i64 0, .int .i64 0, .int .i64 0, .slice (some ⟨w6.heap.size, 0, none⟩) 1 1, .slice none 0 0]) A := fun A h => h.onp HH9.out (by decide) (onp_cells [.int .i64 7, .int .i64 (ia : Int), .int .i64 0, .slice none 0 0, .int .i64 0, .int .i64 0, .int .i64 0, .slice (some ⟨w6.heap.size, 0, none⟩) 1 1, .slice none 0 0] (w6.alloc (.cells #[.int .i64 v6] 3)) 0)
    go_wp2
    refine bodyPost_ret (v := .agg #[.int .i64 7, .int .i64 (ia : Int), .int .i64 0, .slice none 0 0, .int .i64 0, .int .i64 0, .int .i64 0, .slice (some ⟨w6.heap.size, 0, none⟩) 1 1, .slice none 0 0]) (by simp [results, Try.results44, go_sem, da, db, dc, dd, de, df, dg, dh, di]) rfl ⟨⟨7, (ia : Int), 0, [], 0, 0, 0, [v6], []⟩, _, _, _, _, _, _, _, rfl, ⟨⟨?_, ?_, ?_⟩, ?_, ?_, ?_⟩, mk_like (.inl ⟨rfl, rfl⟩) HS.out (by intro z hz; simp at hz; omega), hgs.out, tm_cells [.int .i64 7, .int .i64 (ia : Int), .int .i64 0, .slice none 0 0, .int .i64 0, .int .i64 0, .int .i64 0, .slice (some ⟨w6.heap.size, 0, none⟩) 1 1, .slice none 0 0] (w6.alloc (.cells #[.int .i64 v6] 3)) 0 HT.out hgl, on_cells ((On.of KV.out).trans HOV.out) (Nat.le_refl _) [.int .i64 7, .int .i64 (ia : Int), .int .i64 0, .slice none 0 0, .int .i64 0, .int .i64 0, .int .i64 0, .slice (some ⟨w6.heap.size, 0, none⟩) 1 1, .slice none 0 0] 0, .inl (hyy _ (TyM.none_ _)), (hyy _ (TyM.new _ _)), (hyy _ (TyM.none_ _))⟩
    · exact ⟨(ZG.on (g := w.heap.size) (ZG.none_ _ _) (onp_cells [.int .i64 7, .int .i64 (ia : Int), .int .i64 0, .slice none 0 0, .int .i64 0, .int .i64 0, .int .i64 0, .slice (some ⟨w6.heap.size, 0, none⟩) 1 1, .slice none 0 0] (w6.alloc (.cells #[.int .i64 v6] 3)) 0)).zx, (fun ad e => by cases e)⟩
    · exact ⟨(ZG.on (g := w.heap.size) (⟨zx_new1 w6 v6, fun ad e => by injection e with e; subst e; show w6.heap.size ≠ w.heap.size; omega⟩) (onp_cells [.int .i64 7, .int .i64 (ia : Int), .int .i64 0, .slice none 0 0, .int .i64 0, .int .i64 0, .int .i64 0, .slice (some ⟨w6.heap.size, 0, none⟩) 1 1, .slice none 0 0] (w6.alloc (.cells #[.int .i64 v6] 3)) 0)).zx, (fun ad e => by injection e with e; subst e; show w6.heap.size ≠ g; omega)⟩
    · exact ⟨(ZG.on (g := w.heap.size) (ZG.none_ _ _) (onp_cells [.int .i64 7, .int .i64 (ia : Int), .int .i64 0, .slice none 0 0, .int .i64 0, .int .i64 0, .int .i64 0, .slice (some ⟨w6.heap.size, 0, none⟩) 1 1, .slice none 0 0] (w6.alloc (.cells #[.int .i64 v6] 3)) 0)).zx, (fun ad e => by cases e)⟩
    all_goals (first | (simp; done) | (dsimp only; omega) | (simp; omega))

end Go.Proofs.Ytdnjjpkajiehgaa
