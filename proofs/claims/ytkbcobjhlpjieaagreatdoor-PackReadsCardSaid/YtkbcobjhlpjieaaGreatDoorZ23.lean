import Derived.Test.YtkbcobjhlpjieaaGreatDoorZTTrans
import Derived.Deep.RegionLaw
import Derived.Test.YtkbcobjhlpjieaaGreatDoorZ11
import Derived.Test.YtkbcobjhlpjieaaGreatDoorZ6
import Derived.Test.YtkbcobjhlpjieaaGreatDoorZ4
import Derived.Test.YtkbcobjhlpjieaaGreatDoorZ9
import Derived.Test.YtkbcobjhlpjieaaGreatDoorZ8
import Derived.Deep.RegionHeld3
namespace Go.Proofs.YtkbcobjhlpjieaaGreatDoor
open Go.RowKit
set_option linter.unusedVariables false
set_option maxRecDepth 100000
def Ends (n q v : Nat) (e : Nat → Nat) : Prop := ∃ u : Nat, M (q : Int) ((n : Int) * (u : Int)) 1 ∧ ∀ i, i < n → e i < q ∧ M (q : Int) (e i : Int) ((u : Int) * (v : Int) ^ i)
structure Table (w : World) (p n q k r v : Nat) : Prop where
 ex : ∃ (a e : Nat → Nat) (gp ge : Nat), Tb w w.heap.size p n q a e gp ge ∧ Good n q k r v a ∧ Ends n q v e
theorem Table.ext {w w' : World} {p n q k r v : Nat} (h : Table w p n q k r v) (k1 : Ext w w') : Table w' p n q k r v := by
 obtain ⟨a, e, gp, ge, h1, h2, h3⟩ := h.ex
 exact ⟨a, e, gp, ge, h1.ext k1, h2, h3⟩
set_option maxHeartbeats 1000000 in
theorem same_any (A A' : Option Addr) (n c c' : Nat) (f f' : Nat → Nat) (w : World) (hX : FX w A n c f) (hX' : FX w A' n c' f') (hn : n ≤ 100000) (he : Hid (∀ i, i < n → f i = f' i)) :
    Calls Tryz.prog 59 #[.slice A n c, .slice A' n c'] w fun ee w' => ee = .returned (.bool true) ∧ Ext w w' := by
 go_enter Tryz.func59, Tryz.ntmps59
 go_wp2
 go_loopw [13] (fun i wr => ∃ m d : Nat, m ≤ n ∧ i = .int .i64 (m : Int) ∧ wr = w.drewN d) (fun i _ => n - (intOf i).toNat)
 case atStart => exact ⟨0, 0, by omega, rfl, rfl⟩
 case round =>
  obtain ⟨m, d, hm, rfl, rfl⟩ := hrel
  by_cases hlt : m < n
  ·obtain ⟨ad, rfl, hc⟩ := hX.cells (by omega)
   obtain ⟨ad', rfl, hc'⟩ := hX'.cells (by omega)
   have h1 := hc m hlt
   have h2 := hc' m hlt
   rw [← he.out m hlt] at h2
   clear hc hc'
   generalize f m = x at *
   have i0 : (0 : Int) ≤ (m : Int) := by omega
   have i1 : (m : Int) < (n : Int) := by omega
   go_wp2
   go_quiet (fail)
   go_wp2
   exact ⟨⟨m + 1, _, by omega, by go_num, rfl⟩, by simp [intOf]; omega⟩
  ·go_wp2
   go_ret
   exact ⟨rfl, (Ext.refl w).drewN d⟩
structure Root (n q k r v : Nat) : Prop where
 nk : n = 2 ^ k
 q0 : 2 ≤ q
 q1 : q ≤ 2305843009213693952
 n0 : 2 ≤ n
 n1 : n ≤ 512
 hr : M (q : Int) ((r : Int) ^ (2 ^ k)) (-1)
 hv : M (q : Int) ((v : Int) ^ (2 ^ k)) (-1)
 rv : M (q : Int) ((r : Int) * (v : Int)) 1
theorem Table.root {w : World} {p n q k r v : Nat} (h : Table w p n q k r v) : Root n q k r v := by
 obtain ⟨a, e, _, _, _, g, _⟩ := h.ex
 have h2 := two_le g.k0 g.k9
 rw [← g.nk] at h2
 exact ⟨g.nk, g.q0, g.q1, h2.1, h2.2, by rw [← g.nk]; exact g.hr, by rw [← g.nk]; exact g.hv, g.rv⟩
structure Tab (w : World) (p n q : Nat) (a e : Nat → Nat) : Prop where
 n0 : 2 ≤ n
 n1 : n ≤ 32
 q0 : 2 ≤ q
 q1 : q < 2305843009213693952
 nk : ∃ k, 1 ≤ k ∧ k ≤ 9 ∧ n = 2 ^ k
 al : ∀ i, i < 2 * n → a i < q
 el : ∀ i, i < n → e i < q
 tb : ∃ gp ge, Tb w w.heap.size p n q a e gp ge
 root : (∃ x, x < q ∧ noSq q x = true) → ∃ k r v, Table w p n q k r v
theorem Tab.ext {w w' : World} {p n q : Nat} {a e : Nat → Nat} (h : Tab w p n q a e) (k : Ext w w') : Tab w' p n q a e :=
 ⟨h.n0, h.n1, h.q0, h.q1, h.nk, h.al, h.el, by obtain ⟨gp, ge, ht⟩ := h.tb; exact ⟨gp, ge, ht.ext k⟩, fun hs => by obtain ⟨k', r, v, ht⟩ := h.root hs; exact ⟨k', r, v, ht.ext k⟩⟩
theorem FX.cut {w : World} {A : Option Addr} {n c : Nat} {f : Nat → Nat} (h : FX w A n c f) {m : Nat} (hm : m ≤ n) : FX w A m c f :=
 ⟨Nat.le_trans hm h.room, fun h0 => by
  obtain ⟨ad, e, hc⟩ := h.cells (by omega)
  exact ⟨ad, e, fun j hj => hc j (by omega)⟩⟩
def fldF (q p : Nat → Nat) (i : Nat) : Value := if i % 2 = 0 then .int .u64 (q (i / 2) : Int) else .pointer (some ⟨p (i / 2), 0, none⟩)
def FR (w : World) (g L : Nat) (q p : Nat → Nat) : Prop := RW w g 216 (L * 2) (fldF q p)
theorem FR.prime {w : World} {g L : Nat} {q p : Nat → Nat} (h : FR w g L q p) {i : Nat} (hi : i < L) : w.cell? ⟨g, i * 2, none⟩ = some (.int .u64 (q i : Int)) := by
 rw [RW.cell h (by omega), fldF, if_pos (by omega), Nat.mul_div_cancel _ (by omega)]
structure Rg (w : World) (r n L : Nat) (q p : Nat → Nat) (a e : Nat → Nat → Nat) : Prop where
 l0 : 0 < L
 l1 : L ≤ 24
 n0 : 2 ≤ n
 n1 : n ≤ 32
 ql : ∀ j, j < L → 2 ≤ q j ∧ q j < 2305843009213693952
 size : w.cell? ⟨r, 0, none⟩ = some (.int .i64 (n : Int))
 ex : ∃ gf, w.cell? ⟨r, 1, none⟩ = some (.slice (some ⟨gf, 0, none⟩) L L) ∧ FR w gf L q p
 tab : ∀ j, j < L → Tab w (p j) n (q j) (a j) (e j)
theorem Rg.ext {w w' : World} {r n L : Nat} {q p : Nat → Nat} {a e : Nat → Nat → Nat} (h : Rg w r n L q p a e) (k : Ext w w') : Rg w' r n L q p a e :=
 ⟨h.l0, h.l1, h.n0, h.n1, h.ql, cell_ext k h.size, by obtain ⟨gf, h1, h2⟩ := h.ex; exact ⟨gf, cell_ext k h1, RW.ext h2 k⟩, fun j hj => (h.tab j hj).ext k⟩
structure PX (w : World) (A : Option Addr) (L c : Nat) (As : Nat → Option Addr) (ns cs : Nat → Nat) (f : Nat → Nat → Nat) : Prop where
 room : L ≤ c
 cells : 0 < L → ∃ ad, A = some ad ∧ ∀ j, j < L → w.cell? (ad.add j) = some (.slice (As j) (ns j) (cs j))
 rows : ∀ j, j < L → FX w (As j) (ns j) (cs j) (f j)
theorem PX.ext {w w' : World} {A : Option Addr} {L c : Nat} {As : Nat → Option Addr} {ns cs : Nat → Nat} {f : Nat → Nat → Nat} (h : PX w A L c As ns cs f) (k : Ext w w') : PX w' A L c As ns cs f :=
 ⟨h.room, fun h0 => by
  obtain ⟨ad, e, hc⟩ := h.cells h0
  exact ⟨ad, e, fun j hj => cell_ext k (hc j hj)⟩, fun j hj => (h.rows j hj).ext k⟩
theorem index_any (A : Option Addr) (n c x : Nat) (f : Nat → Nat) (w : World) (hX : FX w A n c f) (hn : n ≤ 100000) :
    Calls Tryz.prog 147 #[.slice A n c, .int .u64 (x : Int)] w fun ee w' => ∃ z : Int, (0 ≤ z ∧ (∃ i, i < n ∧ f i = x) ∨ z = -1 ∧ ∀ i, i < n → f i ≠ x) ∧ ee = .returned (.int .i64 z) ∧ w = w' := by
 go_enter Tryz.func147, Tryz.ntmps147
 go_wp2
 go_loop [8] (fun i => ∃ m : Nat, m ≤ n ∧ i = .int .i64 (m : Int) ∧ Hid (∀ i, i < m → f i ≠ x)) (fun i => n - (intOf i).toNat)
 case atStart => exact ⟨0, by omega, rfl, Lib.hid fun i hi => by omega⟩
 case round =>
  obtain ⟨m, hm, rfl, hno⟩ := hrel
  by_cases hlt : m < n
  ·obtain ⟨ad, rfl, hc⟩ := hX.cells (by omega)
   have hcell := hc m hlt
   clear hc
   by_cases he : f m = x
   ·have HE := Lib.hid he
    rw [he] at hcell
    clear he
    go_wp2
    go_ret
    exact ⟨_, .inl ⟨by omega, m, hlt, HE.out⟩, rfl, rfl⟩
   ·have HE := Lib.hid (show ∀ i, i < m + 1 → f i ≠ x from fun i hi => by
       by_cases h : i = m
       ·rw [h]; exact he
       ·exact hno.out i (by omega))
    have hne : ((x : Int) == (f m : Int)) = false := by simp; omega
    clear he
    generalize f m = y at *
    go_wp2
    exact ⟨⟨m + 1, by omega, by go_num, HE⟩, by simp [intOf]; omega⟩
  ·have HE := Lib.hid (show ∀ i, i < n → f i ≠ x from fun i hi => hno.out i (by omega))
   go_wp2
   go_ret
   exact ⟨_, .inr ⟨rfl, HE.out⟩, rfl, rfl⟩
theorem contains_any (A : Option Addr) (n c x : Nat) (f : Nat → Nat) (w : World) (hX : FX w A n c f) (hn : n ≤ 100000) :
    Calls Tryz.prog 129 #[.slice A n c, .int .u64 (x : Int)] w fun ee w' => ∃ b : Bool, Hid (b = true ↔ ∃ i, i < n ∧ f i = x) ∧ ee = .returned (.bool b) ∧ w = w' := by
 go_enter Tryz.func129, Tryz.ntmps129
 go_wp2_with fail
 refine (index_any A n c x f w hX hn).mono ?_
 rintro ee w' ⟨z, hz, rfl, rfl⟩
 rcases hz with ⟨h0, h1⟩ | ⟨rfl, h1⟩
 ·have H1 := Lib.hid h1
  clear h1
  go_wp2
  go_ret
  exact ⟨true, Lib.hid ⟨fun _ => H1.out, fun _ => rfl⟩, rfl, rfl⟩
 ·have H1 := Lib.hid h1
  clear h1
  go_wp2
  go_ret
  exact ⟨_, Lib.hid ⟨fun h => by simp at h, fun ⟨i, hi, he⟩ => absurd he (H1.out i hi)⟩, rfl, rfl⟩
theorem Tb.aside {w : World} {B p n q : Nat} {a e : Nat → Nat} {gp ge : Nat} (h : Tb w B p n q a e gp ge) {g m : Nat} {F : Nat → Value} (hr : RW w g 216 m F) (hm : 0 < m) (hF : ∃ z, F 0 = .int .u64 z) (i : Nat) (v : Value) : Tb (w.setCell ⟨g, i, none⟩ v) B p n q a e gp ge := by
 have np : p ≠ g := fun e' => by
  subst e'
  have h1 := h.size
  obtain ⟨z, hz⟩ := hF
  rw [RW.cell hr hm, hz] at h1
  injection h1 with h1
  injection h1 with h1
  cases h1
 have nb : ∀ {x m' : Nat} {F' : Nat → Value}, RW w x 235 m' F' → x ≠ g := fun {x m' F'} hx e' => by
  subst e'
  unfold RW at hx hr
  rw [hr] at hx
  injection hx with hx
  injection hx with _ hx
  exact absurd hx (by decide)
 have k : ∀ {x m' : Nat} {F' : Nat → Value}, RW w x 235 m' F' → RW (w.setCell ⟨g, i, none⟩ v) x 235 m' F' := fun {x m' F'} hx => RW.keep hx (Below.heap_setCell _ _ _ _ (fun e' => nb hx (by simpa using e')))
 exact ⟨h.hp, h.hgp, h.hge, far_cell h.size np, far_cell h.prime np, far_cell h.powers np, far_cell h.ends np, k h.pw, k h.en⟩
theorem Tab.aside {w : World} {p n q : Nat} {a e : Nat → Nat} (h : Tab w p n q a e) {g m : Nat} {F : Nat → Value} (hr : RW w g 216 m F) (hm : 0 < m) (hF : ∃ z, F 0 = .int .u64 z) (i : Nat) (v : Value) : Tab (w.setCell ⟨g, i, none⟩ v) p n q a e := by
 have hs : (w.setCell ⟨g, i, none⟩ v).heap.size = w.heap.size := by simp [World.setCell]
 refine ⟨h.n0, h.n1, h.q0, h.q1, h.nk, h.al, h.el, ?_, fun hq => ?_⟩
 ·obtain ⟨gp, ge, ht⟩ := h.tb
  exact ⟨gp, ge, by rw [hs]; exact ht.aside hr hm hF i v⟩
 ·obtain ⟨k, r, v', a', e', gp, ge, ht, hg, he⟩ := h.root hq
  exact ⟨k, r, v', a', e', gp, ge, by rw [hs]; exact ht.aside hr hm hF i v, hg, he⟩
def Tells (w : World) (P : Prop) (ee : Ending) (w' : World) : Prop := (P ∧ ee = .returned (.bool true) ∧ Ext w w') ∨ (¬ P ∧ ee = .returned (.bool false) ∧ Ext w w')
theorem Tells.yes {w w' : World} {P : Prop} (h : P) (k : Ext w w') : Tells w P (.returned (.bool true)) w' := .inl ⟨h, rfl, k⟩
theorem Tells.no {w w' : World} {P : Prop} (h : ¬ P) (k : Ext w w') : Tells w P (.returned (.bool false)) w' := .inr ⟨h, rfl, k⟩
theorem info_uss : (Tryz.prog.info? 23).map (fun i => (i.zero, i.size, i.bytes)) = some (some (.slice none 0 0), 1, 24) := by kernel_rfl
def newS (c : Nat) : Array Value := ((List.range c).map fun _ => Value.slice none 0 0).toArray
theorem newS_rw (w : World) (c : Nat) : RW (w.alloc (.cells (newS c) 23)) w.heap.size 23 c (fun _ => .slice none 0 0) := heap_alloc_new w _
theorem make_ss (c : Nat) (hc : c ≤ 1000000) (w : World) :
    (Instr.makeSlice 29 (.int .i64 (c : Int)) (.int .i64 (c : Int))).run Tryz.prog w = .ok (.slice (some ⟨w.heap.size, 0, none⟩) c c) (w.alloc (.cells (newS c) 23)) := by
 obtain ⟨i0, hi, hz0, hz1, hz2⟩ := info_parts info_uss
 have hr := run_make (P := Tryz.prog) w 29 23 i0 (.slice none 0 0) Tryz.underlying29 hi hz0 .i64 .i64 (c : Int) (c : Int) (by omega) (by omega) (by rw [hz2]; omega) (by omega)
 rw [hz1] at hr
 simp only [Int.toNat_natCast] at hr
 rw [hr]
 have e : madeCells (Value.slice none 0 0).cells (c * 1) = newS c := by
  apply Array.toList_inj.1
  unfold newS madeCells
  apply List.ext_getElem?
  intro j
  by_cases hj : j < c
  ·simp [hj, Value.cells, Nat.mod_one]
  ·simp [hj]
 rw [e]
structure PM (w : World) (G L n : Nat) (As : Nat → Option Addr) (cs : Nat → Nat) (F : Nat → Nat → Nat) : Prop where
 row : RW w G 23 L (fun j => .slice (As j) n (cs j))
 lists : ∀ j, j < L → FX w (As j) n (cs j) (F j)
theorem PM.px {w : World} {G L n : Nat} {As : Nat → Option Addr} {cs : Nat → Nat} {F : Nat → Nat → Nat} (h : PM w G L n As cs F) : PX w (some ⟨G, 0, none⟩) L L As (fun _ => n) cs F :=
 ⟨Nat.le_refl _, fun _ => ⟨_, rfl, fun j hj => by rw [Addr.add_lit, Nat.zero_add]; exact RW.cell h.row hj⟩, h.lists⟩
theorem PM.ext {w w' : World} {G L n : Nat} {As : Nat → Option Addr} {cs : Nat → Nat} {F : Nat → Nat → Nat} (h : PM w G L n As cs F) (k : Ext w w') : PM w' G L n As cs F := ⟨RW.ext h.row k, fun j hj => (h.lists j hj).ext k⟩
theorem FX.aside {w : World} {A : Option Addr} {n c : Nat} {f : Nat → Nat} (h : FX w A n c f) {p : Addr} {B : Option Addr} {m k : Nat} (hp : w.cell? p = some (.slice B m k)) (v : Value) : FX (w.setCell p v) A n c f :=
 ⟨h.room, fun hn => by
  obtain ⟨ad, e, hc⟩ := h.cells hn
  refine ⟨ad, e, fun j hj => ?_⟩
  rw [set_far]
  ·exact hc j hj
  ·intro e'
   have := hc j hj
   rw [← e', hp] at this
   injection this with this
   cases this⟩
theorem RW.ne {w : World} {x g m m' : Nat} {t t' : TypeId} {F F' : Nat → Value} (h : RW w x t m F) (h' : RW w g t' m' F') (ht : t ≠ t') : x ≠ g := fun e => by
 subst e
 unfold RW at h h'
 rw [h'] at h
 injection h with h
 injection h with _ h
 exact ht h.symm
theorem RW.aside {w : World} {x g m m' : Nat} {t t' : TypeId} {F F' : Nat → Value} (h : RW w x t m F) (h' : RW w g t' m' F') (ht : t ≠ t') (i : Nat) (v : Value) : RW (w.setCell ⟨g, i, none⟩ v) x t m F :=
 RW.keep h (Below.heap_setCell _ _ _ _ (fun e' => RW.ne h h' ht (by simpa using e')))
structure VX (w : World) (A : Option Addr) (n c : Nat) (v : Nat → Int) : Prop where
 room : n ≤ c
 cells : 0 < n → ∃ ad, A = some ad ∧ ∀ j, j < n → w.cell? (ad.add j) = some (.int .i64 (v j))
theorem VX.ext {a b : World} {A : Option Addr} {n c : Nat} {f : Nat → Int} (h : VX a A n c f) (k : Ext a b) : VX b A n c f :=
 ⟨h.room, fun hn => by
  obtain ⟨ad, e, hc⟩ := h.cells hn
  exact ⟨ad, e, fun j hj => cell_ext k (hc j hj)⟩⟩
theorem ret_cell {w : World} {x : Nat} {t : TypeId} {F : Nat → Value} (h : RW w x t 1 F) (v : Value) : (w.setCell ⟨x, 0, none⟩ v).cell? ⟨x, 0, none⟩ = some v := by
 have := (h.set (show 0 < 1 by omega) v).cell (i := 0) (by omega)
 rwa [if_pos rfl] at this
theorem PM.aside {w : World} {G L n x : Nat} {As : Nat → Option Addr} {cs : Nat → Nat} {F : Nat → Nat → Nat} {F' : Nat → Value} {B : Option Addr} {m k : Nat} (h : PM w G L n As cs F) (h' : RW w x 31 1 F') (hF : F' 0 = .slice B m k) (v : Value) : PM (w.setCell ⟨x, 0, none⟩ v) G L n As cs F :=
 ⟨RW.aside h.row h' (by decide) _ _, fun j hj => (h.lists j hj).aside ((h'.cell (i := 0) (by omega)).trans (by rw [hF])) v⟩
def PB (w : World) (A : Option Addr) (L c : Nat) (As : Nat → Option Addr) (ns cs : Nat → Nat) (f : Nat → Nat → Nat) : Prop := PX w A L c As ns cs f ∧ L ≤ 1000000000000000 ∧ ∀ i, i < L → ns i ≤ 1000000000000000
theorem PB.ext {w w' : World} {A : Option Addr} {L c : Nat} {As : Nat → Option Addr} {ns cs : Nat → Nat} {f : Nat → Nat → Nat} (h : PB w A L c As ns cs f) (k : Ext w w') : PB w' A L c As ns cs f := ⟨h.1.ext k, h.2.1, h.2.2⟩
theorem one_at (w : World) (v : Value) (t : TypeId) : (w.alloc (.cells #[v] t)).cell? ⟨w.heap.size, 0, none⟩ = some v := by simp
set_option maxHeartbeats 4000000 in
theorem same5_yes (A A' : Option Addr) (L c c' : Nat) (As As' : Nat → Option Addr) (ns cs cs' : Nat → Nat) (f f' : Nat → Nat → Nat) (w : World) (hX : PX w A L c As ns cs f) (hX' : PX w A' L c' As' ns cs' f') (hL : L ≤ 100000) (hn : Hid (∀ j, j < L → ns j ≤ 100000)) (he : Hid (∀ j, j < L → ∀ i, i < ns j → f j i = f' j i)) :
    Calls Tryz.prog 74 #[.agg #[.slice A L c], .agg #[.slice A' L c']] w fun ee w' => ee = .returned (.bool true) ∧ Ext w w' := by
 have HX := Lib.hid hX
 have HX' := Lib.hid hX'
 clear hX hX'
 go_enter Tryz.func74, Tryz.ntmps74
 have kV : Ext w ((w.alloc (.cells #[.slice A L c] 31)).alloc (.cells #[.slice A' L c'] 31)) := ((Ext.refl w).alloc _).alloc _
 have h2 : ((w.alloc (.cells #[.slice A L c] 31)).alloc (.cells #[.slice A' L c'] 31)).cell? ⟨w.heap.size, 0, none⟩ = some (.slice A L c) := cell_ext ((Ext.refl _).alloc _) (one_at w _ _)
 have h3 : ((w.alloc (.cells #[.slice A L c] 31)).alloc (.cells #[.slice A' L c'] 31)).cell? ⟨w.heap.size + 1, 0, none⟩ = some (.slice A' L c') := by
  rw [show w.heap.size + 1 = (w.alloc (.cells #[.slice A L c] 31)).heap.size by simp]
  exact one_at _ _ _
 have hee : ((L : Int) != (L : Int)) = false := by simp
 go_wp2
 generalize (w.alloc (.cells #[.slice A L c] 31)).alloc (.cells #[.slice A' L c'] 31) = V at *
 go_loopw [16] (fun i wr => ∃ m : Nat, m ≤ L ∧ i = .int .i64 (m : Int) ∧ Ext V wr) (fun i _ => L - (intOf i).toNat)
 case atStart => exact ⟨0, by omega, rfl, Ext.refl _⟩
 case round =>
  obtain ⟨m, hm, rfl, kr⟩ := hrel
  by_cases hlt : m < L
  ·have kw := kV.trans kr
   obtain ⟨ad, rfl, hc⟩ := (HX.out.ext kw).cells (by omega)
   obtain ⟨ad', rfl, hc'⟩ := (HX'.out.ext kw).cells (by omega)
   have x1 := hc m hlt
   have x2 := hc' m hlt
   have X1 := Lib.hid ((HX.out.ext kw).rows m hlt)
   have X2 := Lib.hid ((HX'.out.ext kw).rows m hlt)
   have y2 := cell_ext kr h2
   have y3 := cell_ext kr h3
   have HEQ := Lib.hid (he.out m hlt)
   have hnm := hn.out m hlt
   clear hc hc'
   have i0 : (0 : Int) ≤ (m : Int) := by omega
   have i1 : (m : Int) < (L : Int) := by omega
   go_wp2_with fail
   go_region_held3 (fun w' => w'.cell? ⟨w.heap.size, 0, none⟩ = some (.slice (some ad) L c) ∧ w'.cell? ⟨w.heap.size + 1, 0, none⟩ = some (.slice (some ad') L c') ∧ w'.cell? (ad.add m) = some (.slice (As m) (ns m) (cs m)) ∧ w'.cell? (ad'.add m) = some (.slice (As' m) (ns m) (cs' m))) (go_keep)
    (first
     | (go_at_call 59; refine (same_any (As m) (As' m) (ns m) (cs m) (cs' m) (f m) (f' m) _ (X1.out.ext (Ext.refl _).drew) (X2.out.ext (Ext.refl _).drew) hnm HEQ).mono ?_; rintro e5 w5 ⟨rfl, k5⟩; have k5' := (Ext.refl _).drew.trans k5; have d0 := cell_ext k5' y2; have d1 := cell_ext k5' y3; have d2 := cell_ext k5' x1; have d3 := cell_ext k5' x2)
     | fail)
   go_wp2
   exact ⟨⟨m + 1, by omega, by go_num, kr.trans k5'⟩, by simp [intOf]; omega⟩
  ·go_wp2
   go_ret
   exact ⟨rfl, kV.trans kr⟩
end Go.Proofs.YtkbcobjhlpjieaaGreatDoor
