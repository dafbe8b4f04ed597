import Derived.Test.YtopbibfpjgjalaaGreatDoorZ24
import Derived.Deep.RegionLaw
import Derived.Deep.RegionHeld3
namespace Go.Proofs.YtopbibfpjgjalaaGreatDoor
open Go.RowKit
set_option linter.unusedVariables false
set_option maxRecDepth 100000
def Chk (w : World) (P : Prop) (ee : Ending) (w' : World) : Prop := (P ∧ ee = .returned (.int .i64 0) ∧ Ext w w') ∨ (¬ P ∧ ee = .returned (.int .i64 3) ∧ Ext w w')
set_option maxHeartbeats 2000000 in
theorem zer (r n M : Nat) (q p : Nat → Nat) (a e : Nat → Nat → Nat) (E : Option Addr) (m mc : Nat) (A : Nat → Option Addr) (L c : Nat → Nat) (As : Nat → Nat → Option Addr) (ns cs : Nat → Nat → Nat) (f : Nat → Nat → Nat → Nat) (w : World) (hR : Rg w r n M q p a e) (hm : m ≤ 1000)
    (hE : Hid (0 < m → ∃ ad, E = some ad ∧ ∀ j, j < m → w.cell? (ad.add j) = some (.slice (A j) (L j) (c j))))
    (hX : Hid (∀ j, j < m → PX w (A j) (L j) (c j) (As j) (ns j) (cs j) (f j) ∧ L j ≤ 1000000000000000 ∧ ∀ i, i < L j → ns j i ≤ 1000000000000000)) :
    Calls Tryz.prog 137 #[.pointer (some ⟨r, 0, none⟩), .slice E m mc] w (Chk w (∀ j, j < m → El n M q (L j) (ns j) (f j))) := by
 have hl0 := hR.l0
 obtain ⟨gf, t1, hfr⟩ := hR.ex
 have HR := Lib.hid hR
 clear hfr hR
 have hz : ((M : Int) == 0) = false := by simp; omega
 go_enter Tryz.func137, Tryz.ntmps137
 go_wp2
 go_loopw [19] (fun i wr => ∃ k : Nat, k ≤ m ∧ i = .int .i64 (k : Int) ∧ Hid (∀ j, j < k → El n M q (L j) (ns j) (f j)) ∧ Ext w wr) (fun i _ => m - (intOf i).toNat)
 case atStart => exact ⟨0, by omega, rfl, Lib.hid fun i hi => by omega, Ext.refl _⟩
 case round =>
  obtain ⟨k, hk, rfl, hno, kr⟩ := hrel
  by_cases hlt : k < m
  ·obtain ⟨ad, rfl, hc⟩ := hE.out (by omega)
   have hcell := cE kr (hc k hlt)
   obtain ⟨h1, h2, h3⟩ := hX.out k hlt
   have H1 := Lib.hid h1
   have H3 := Lib.hid h3
   clear hc h1 h3
   go_wp2_with fail
   have kV : Ext wr (wr.alloc (.cells #[.slice (A k) (L k) (c k)] 56)) := (Ext.refl wr).alloc _
   have kw := kr.trans kV
   refine (zz9 r n M q p a e (A k) (L k) (c k) (As k) (ns k) (cs k) (f k) _ (HR.out.ext kw) (H1.out.ext kw) h2 H3).mono ?_
   rintro ee w2 (⟨hy, rfl, k2⟩ | ⟨hy, rfl, k2⟩)
   ·have HE := Lib.hid (show ∀ j, j < k + 1 → El n M q (L j) (ns j) (f j) from fun j hj => by
       by_cases h : j = k
       ·subst h; exact hy
       ·exact hno.out j (by omega))
    clear hy
    go_wp2
    exact ⟨⟨k + 1, by omega, by go_num, HE, kw.trans k2⟩, by simp [intOf]; omega⟩
   ·have HE := Lib.hid (show ¬ ∀ j, j < m → El n M q (L j) (ns j) (f j) from fun h => hy (h k hlt))
    clear hy
    go_wp2
    go_ret
    exact .inr ⟨HE.out, rfl, kw.trans k2⟩
  ·have HE := Lib.hid (show ∀ j, j < m → El n M q (L j) (ns j) (f j) from fun j hj => hno.out j (by omega))
   go_wp2
   go_ret
   exact .inl ⟨HE.out, rfl, kr⟩
theorem zcj (A : Option Addr) (L c : Nat) (w : World) (hL : L ≤ 1000000000000000) :
    Calls Tryz.prog 173 #[.agg #[.slice A L c]] w fun ee w' => ee = .returned (.int .i64 ((L : Int) - 1)) ∧ Ext w w' := by
 go_enter Tryz.func173, Tryz.ntmps173
 go_wp2
 go_ret
 exact ⟨by go_simp, (Ext.refl w).alloc _⟩
theorem zwn : (Tryz.prog.info? 22).map (fun i => (i.zero, i.size, i.bytes)) = some (some (.slice none 0 0), 1, 24) := by kernel_rfl
def newS (c : Nat) : Array Value := ((List.range c).map fun _ => Value.slice none 0 0).toArray
theorem zhg (w : World) (c : Nat) : RW (w.alloc (.cells (newS c) 22)) w.heap.size 22 c (fun _ => .slice none 0 0) := heap_alloc_new w _
theorem zh0 (c : Nat) (hc : c ≤ 1000000) (w : World) :
    (Instr.makeSlice 54 (.int .i64 (c : Int)) (.int .i64 (c : Int))).run Tryz.prog w = .ok (.slice (some ⟨w.heap.size, 0, none⟩) c c) (w.alloc (.cells (newS c) 22)) := by
 obtain ⟨i0, hi, hz0, hz1, hz2⟩ := info_parts zwn
 have hr := run_make (P := Tryz.prog) w 54 22 i0 (.slice none 0 0) Tryz.underlying54 hi hz0 .i64 .i64 (c : Int) (c : Int) (by omega) (by omega) (by rw [hz2]; omega) (by omega)
 rw [hz1] at hr
 simp only [Int.toNat_natCast] at hr
 rw [hr]
 have e : madeCells (Value.slice none 0 0).cells (c * 1) = newS c := by
  apply Array.toList_inj.1
  unfold newS madeCells
  apply List.ext_getElem?
  intro j
  by_cases hj : j < c
  ·simp [hj, Value.cells, Nat.mod_one]
  ·simp [hj]
 rw [e]
structure PM (w : World) (G L n : Nat) (As : Nat → Option Addr) (cs : Nat → Nat) (F : Nat → Nat → Nat) : Prop where
 row : RW w G 22 L (fun j => .slice (As j) n (cs j))
 lists : ∀ j, j < L → FX w (As j) n (cs j) (F j)
theorem PM.px {w : World} {G L n : Nat} {As : Nat → Option Addr} {cs : Nat → Nat} {F : Nat → Nat → Nat} (h : PM w G L n As cs F) : PX w (some ⟨G, 0, none⟩) L L As (fun _ => n) cs F :=
 ⟨Nat.le_refl _, fun _ => ⟨_, rfl, fun j hj => by rw [Addr.add_lit, Nat.zero_add]; exact RW.cell h.row hj⟩, h.lists⟩
theorem PM.ext {w w' : World} {G L n : Nat} {As : Nat → Option Addr} {cs : Nat → Nat} {F : Nat → Nat → Nat} (h : PM w G L n As cs F) (k : Ext w w') : PM w' G L n As cs F := ⟨RW.ext h.row k, fun j hj => (h.lists j hj).ext k⟩
theorem FX.aside {w : World} {A : Option Addr} {n c : Nat} {f : Nat → Nat} (h : FX w A n c f) {p : Addr} {B : Option Addr} {m k : Nat} (hp : w.cell? p = some (.slice B m k)) (v : Value) : FX (w.setCell p v) A n c f :=
 ⟨h.room, fun hn => by
  obtain ⟨ad, e, hc⟩ := h.cells hn
  refine ⟨ad, e, fun j hj => ?_⟩
  rw [zdp]
  ·exact hc j hj
  ·intro e'
   have := hc j hj
   rw [← e', hp] at this
   injection this with this
   cases this⟩
theorem RW.ne {w : World} {x g m m' : Nat} {t t' : TypeId} {F F' : Nat → Value} (h : RW w x t m F) (h' : RW w g t' m' F') (ht : t ≠ t') : x ≠ g := fun e => by
 subst e
 unfold RW at h h'
 rw [h'] at h
 injection h with h
 injection h with _ h
 exact ht h.symm
theorem RW.aside {w : World} {x g m m' : Nat} {t t' : TypeId} {F F' : Nat → Value} (h : RW w x t m F) (h' : RW w g t' m' F') (ht : t ≠ t') (i : Nat) (v : Value) : RW (w.setCell ⟨g, i, none⟩ v) x t m F :=
 RW.keep h (Below.heap_setCell _ _ _ _ (fun e' => RW.ne h h' ht (by simpa using e')))
def z0y (fn : Nat) : Prop := ∀ args w, Sem.run Tryz.prog (callFunc fn args) w = .ok (.enter fn args) w
def Makes (fn : Nat) (cap : Array Value) (w : World) (n L : Nat) (q p : Nat → Nat) (R : Nat → (Nat → Nat) → Prop) : Prop :=
 ∀ j w1, j < L → Ext w w1 → Calls Tryz.prog fn (#[.agg #[.int .u64 (q j : Int), .pointer (some ⟨p j, 0, none⟩)], .int .i64 (j : Int)] ++ cap) w1 fun ee w2 => ∃ (A : Option Addr) (c : Nat) (F : Nat → Nat), ee = .returned (.slice A n c) ∧ FX w2 A n c F ∧ Hid (R j F) ∧ Ext w1 w2
set_option maxHeartbeats 4000000 in
theorem zfu (fn : Nat) (cap : Array Value) (r n M L : Nat) (q p : Nat → Nat) (a e : Nat → Nat → Nat) (R : Nat → (Nat → Nat) → Prop) (w : World) (hR : Rg w r n M q p a e) (hL : L < M) (hE : Hid (z0y fn)) (hM : Hid (Makes fn cap w n (L + 1) q p R)) :
    Calls Tryz.prog 138 #[.pointer (some ⟨r, 0, none⟩), .int .i64 (L : Int), .func (.func fn) #[] cap] w fun ee w' => ∃ (G : Nat) (As : Nat → Option Addr) (cs : Nat → Nat) (F : Nat → Nat → Nat), ee = .returned (.agg #[.slice (some ⟨G, 0, none⟩) (L + 1) (L + 1)]) ∧ PM w' G (L + 1) n As cs F ∧ Hid (∀ j, j < L + 1 → R j (F j)) ∧ Ext w w' := by
 have hl1 := hR.l1
 have HR := Lib.hid hR
 clear hR
 have hmk := zh0 (L + 1) (by omega)
 rw [show ((L + 1 : Nat) : Int) = (L : Int) + 1 by omega] at hmk
 have hw1 : IntKind.i64.wrap ((L : Int) + 1) = (L : Int) + 1 := by rw [IntKind.wrap_i64]; omega
 go_enter Tryz.func138, Tryz.ntmps138
 go_wp2
 clear hmk
 have hrs : RW (w.alloc (.cells #[.slice none 0 0] 56)) w.heap.size 56 1 (fun _ => .slice none 0 0) := heap_alloc_new w _
 have kA : Ext w (w.alloc (.cells #[.slice none 0 0] 56)) := (Ext.refl w).alloc _
 have hrs2 := RW.ext hrs ((Ext.refl _).alloc (.cells (newS (L + 1)) 22))
 have hls := zhg (w.alloc (.cells #[.slice none 0 0] 56)) (L + 1)
 rw [show (w.alloc (.cells #[.slice none 0 0] 56)).heap.size = w.heap.size + 1 by simp] at hls
 have kB := kA.alloc (.cells (newS (L + 1)) 22)
 generalize hV : (w.alloc (.cells #[.slice none 0 0] 56)).alloc (.cells (newS (L + 1)) 22) = V at *
 clear hrs kA hV
 obtain ⟨G, hG⟩ : ∃ G, G = w.heap.size + 1 := ⟨_, rfl⟩
 rw [← hG] at hls ⊢
 have hGw : w.heap.size ≤ G := by omega
 clear hG
 go_loopw [14] (fun i wr => ∃ (k : Nat) (As : Nat → Option Addr) (cs : Nat → Nat) (F : Nat → Nat → Nat), k ≤ L + 1 ∧ i = .int .i64 (k : Int) ∧ RW wr G 22 (L + 1) (fun j => if j < k then .slice (As j) n (cs j) else .slice none 0 0) ∧ Hid (∀ j, j < k → FX wr (As j) n (cs j) (F j) ∧ R j (F j)) ∧ RW wr w.heap.size 56 1 (fun _ => .slice none 0 0) ∧ Ext w wr) (fun i _ => L + 1 - (intOf i).toNat)
 case atStart => exact ⟨0, fun _ => none, fun _ => 0, fun _ _ => 0, by omega, rfl, hls.congr fun i _ => by rw [if_neg (by omega)], Lib.hid fun j hj => by omega, hrs2, kB⟩
 case round =>
  obtain ⟨k, As, cs, F, hk, rfl, hrw, hall, hr0, kr⟩ := hrel
  clear hls hrs2 kB
  by_cases hlt : k < L + 1
  ·have hR2 := HR.out.ext kr
   obtain ⟨gf, t1, hfr⟩ := hR2.ex
   have f0 := FR.prime hfr (i := k) (by omega)
   have f1 := FR.table hfr (i := k) (by omega)
   clear hfr hR2
   have i0 : (0 : Int) ≤ (k : Int) := by omega
   have i1 : (k : Int) < (M : Int) := by omega
   have i2 : (k : Int) < (L : Int) + 1 := by omega
   go_wp2_with fail
   rw [hE.out, Oper.upon_enter]
   refine (hM.out k wr (by omega) kr).mono ?_
   rintro ee w2 ⟨A2, c2, F2, rfl, hu2, hR2, k2⟩
   have h1 := hrw.ext k2
   have c0 := h1.cell (i := k) (by omega)
   have z0 := h1.frozen k
   have hr2 := hr0.ext k2
   simp only [Nat.lt_irrefl, if_false] at c0
   have hsz := h1.lt
   go_wp2_with fail
   have h2 := (h1.set (show k < L + 1 by omega) (.slice A2 n c2)).congr (G := fun j => if j < k + 1 then .slice ((fun j => if j = k then A2 else As j) j) n ((fun j => if j = k then c2 else cs j) j) else .slice none 0 0) fun j _ => by
    by_cases h1 : j = k
    ·subst h1; rw [if_pos rfl, if_pos (by omega)]; simp only [if_true]
    ·simp only [if_neg h1]
     by_cases h2 : j < k
     ·rw [if_pos h2, if_pos (by omega)]
     ·rw [if_neg h2, if_neg (by omega)]
   have HALL := Lib.hid (show ∀ j, j < k + 1 → FX (w2.setCell ⟨G, k, none⟩ (.slice A2 n c2)) ((fun j => if j = k then A2 else As j) j) n ((fun j => if j = k then c2 else cs j) j) ((fun j => if j = k then F2 else F j) j) ∧ R j ((fun j => if j = k then F2 else F j) j) from fun j hj => by
    by_cases hjk : j = k
    ·subst hjk
     simp only [if_true]
     exact ⟨hu2.aside c0 _, hR2.out⟩
    ·simp only [if_neg hjk]
     exact ⟨((hall.out j (by omega)).1.ext k2).aside c0 _, (hall.out j (by omega)).2⟩)
   have hr3 := RW.aside hr2 h1 (by decide) k (.slice A2 n c2)
   have k3 := (kr.trans k2).set (p := ⟨G, k, none⟩) hGw (.slice A2 n c2)
   generalize w2.setCell ⟨G, k, none⟩ (.slice A2 n c2) = w3 at *
   clear h1 c0 z0 hr2 hrw hall hr0
   go_wp2
   exact ⟨⟨k + 1, _, _, _, by omega, by go_num, h2, HALL, hr3, k3⟩, by simp [intOf]; omega⟩
  ·obtain rfl : k = L + 1 := by omega
   have hpm : RW wr G 22 (L + 1) (fun j => .slice (As j) n (cs j)) := hrw.congr fun j hj => by rw [if_pos hj]
   have HPM := Lib.hid hpm
   have c0 := hr0.cell (i := 0) (by omega)
   have z0 := hr0.frozen 0
   have hsz := hr0.lt
   have HB := Lib.hid (show ∀ v : Value, PM (wr.setCell ⟨w.heap.size, 0, none⟩ v) G (L + 1) n As cs F from fun v => ⟨RW.aside hpm hr0 (by decide) _ _, fun j hj => (hall.out j hj).1.aside c0 _⟩)
   have HK := Lib.hid (show ∀ v : Value, Ext w (wr.setCell ⟨w.heap.size, 0, none⟩ v) from fun v => kr.set (p := ⟨w.heap.size, 0, none⟩) (Nat.le_refl _) v)
   have HD := Lib.hid (show ∀ v : Value, (wr.setCell ⟨w.heap.size, 0, none⟩ v).cell? ⟨w.heap.size, 0, none⟩ = some v from fun v => by
    have := (hr0.set (show 0 < 1 by omega) v).cell (i := 0) (by omega)
    rwa [if_pos rfl] at this)
   clear hpm hrw hr0
   go_wp2
   have d0 := HD.out (.slice (some ⟨G, 0, none⟩) (L + 1) (L + 1))
   have d1 := HB.out (.slice (some ⟨G, 0, none⟩) (L + 1) (L + 1))
   have d2 := HK.out (.slice (some ⟨G, 0, none⟩) (L + 1) (L + 1))
   generalize wr.setCell ⟨w.heap.size, 0, none⟩ (.slice (some ⟨G, 0, none⟩) (L + 1) (L + 1)) = w5 at *
   exact bodyPost_ret (v := .agg #[.slice (some ⟨G, 0, none⟩) (L + 1) (L + 1)]) (by simp [results, Tryz.results138, go_sem, d0]) rfl ⟨G, As, cs, F, rfl, d1, Lib.hid fun j hj => (hall.out j hj).2, d2⟩
theorem zvu {a b q : Nat} (hq : 0 < q) (hb : b < q) : subS (a : Int) (b : Int) (q : Int) = ((dif a b q : Nat) : Int) := by
 rw [ze7 (by omega)]
 unfold dif
 rw [Int.natCast_emod, show ((a + q - b : Nat) : Int) = ((a : Int) - (b : Int)) + (q : Int) by omega, Int.add_emod_right]
theorem subM (a b q : Nat) (w : World) (hq0 : 0 < q) (ha : a < q) (hb : b < q) (hq : q < 18446744073709551616) :
    Calls Tryz.prog 179 #[.int .u64 (a : Int), .int .u64 (b : Int), .int .u64 (q : Int)] w fun e w' => ∃ m : Nat, Hid (m = dif a b q) ∧ m < q ∧ e = .returned (.int .u64 (m : Int)) ∧ Ext w w' := by
 have h := zkb (a : Int) (b : Int) (q : Int) w (by omega) (by omega) (by omega) (by omega) (by omega) (by omega)
 rw [zvu hq0 hb] at h
 exact h.mono fun e w' ⟨he, n, hw⟩ => ⟨_, Lib.hid rfl, Nat.mod_lt _ hq0, he, by rw [hw]; exact (Ext.refl w).drewN n⟩
theorem sub0M (b q : Nat) (w : World) (hq0 : 0 < q) (hb : b < q) (hq : q < 18446744073709551616) :
    Calls Tryz.prog 179 #[.int .u64 0, .int .u64 (b : Int), .int .u64 (q : Int)] w fun e w' => ∃ m : Nat, Hid (m = dif 0 b q) ∧ m < q ∧ e = .returned (.int .u64 (m : Int)) ∧ Ext w w' := subM 0 b q w hq0 hq0 hb hq
theorem addM (a b q : Nat) (w : World) (hq0 : 0 < q) (ha : a < q) (hb : b < q) (hq : q < 18446744073709551616) :
    Calls Tryz.prog 227 #[.int .u64 (a : Int), .int .u64 (b : Int), .int .u64 (q : Int)] w fun e w' => ∃ m : Nat, Hid (m = (a + b) % q) ∧ m < q ∧ e = .returned (.int .u64 (m : Int)) ∧ Ext w w' := by
 have h := zpp (a : Int) (b : Int) (q : Int) w (by omega) (by omega) (by omega) (by omega) (by omega) (by omega)
 rw [ze8 (by omega), ← Int.natCast_add, ← Int.natCast_emod] at h
 exact h.mono fun e w' ⟨he, n, hw⟩ => ⟨_, Lib.hid rfl, Nat.mod_lt _ hq0, he, by rw [hw]; exact (Ext.refl w).drewN n⟩
def lif (v : Int) (q : Nat) : Nat := (v % (q : Int)).toNat
theorem ze5 {v : Int} {q : Nat} (hq : 0 < q) : lif v q < q := by
 have := Int.emod_lt_of_pos v (show (0 : Int) < (q : Int) by omega)
 have := Int.emod_nonneg v (show (q : Int) ≠ 0 by omega)
 unfold lif; omega
theorem zu7 {v : Int} {q : Nat} (hq : 0 < q) : lifS v (q : Int) = ((lif v q : Nat) : Int) := by
 have := Int.emod_nonneg v (show (q : Int) ≠ 0 by omega)
 unfold lifS lif; rw [if_neg (by omega)]; omega
theorem liftM (v : Int) (q : Nat) (w : World) (hq0 : 0 < q) (v0 : -9223372036854775808 ≤ v) (v1 : v < 9223372036854775808) (hq : q < 18446744073709551616) :
    Calls Tryz.prog 213 #[.int .i64 v, .int .u64 (q : Int)] w fun e w' => ∃ m : Nat, Hid (m = lif v q) ∧ m < q ∧ e = .returned (.int .u64 (m : Int)) ∧ Ext w w' := by
 have h := zvj v (q : Int) w v0 v1 (by omega) (by omega)
 rw [zu7 hq0] at h
 exact h.mono fun e w' ⟨he, n, hw⟩ => ⟨_, Lib.hid rfl, ze5 hq0, he, by rw [hw]; exact (Ext.refl w).drewN n⟩
structure VX (w : World) (A : Option Addr) (n c : Nat) (v : Nat → Int) : Prop where
 room : n ≤ c
 cells : 0 < n → ∃ ad, A = some ad ∧ ∀ j, j < n → w.cell? (ad.add j) = some (.int .i64 (v j))
theorem VX.ext {a b : World} {A : Option Addr} {n c : Nat} {f : Nat → Int} (h : VX a A n c f) (k : Ext a b) : VX b A n c f :=
 ⟨h.room, fun hn => by
  obtain ⟨ad, e, hc⟩ := h.cells hn
  exact ⟨ad, e, fun j hj => cE k (hc j hj)⟩⟩
theorem zlk {n m y : Nat} {X : Nat → Nat} (h : y = X m) : ∀ i, i < n → (if i = m then y else if i < m then X i else 0) = if i < m + 1 then X i else 0 := fun i _ => by
 by_cases h1 : i = m
 ·subst h1; rw [if_pos rfl, if_pos (by omega), h]
 ·rw [if_neg h1]
  by_cases h2 : i < m
  ·rw [if_pos h2, if_pos (by omega)]
  ·rw [if_neg h2, if_neg (by omega)]
set_option maxHeartbeats 2000000 in
theorem zo5 (A : Option Addr) (n c q : Nat) (P : Option Addr) (v : Nat → Int) (w : World) (hX : VX w A n c v) (hn : n ≤ 1000) (hq0 : 0 < q) (hq : q < 18446744073709551616) (hf : Hid (∀ i, i < n → -9223372036854775808 ≤ v i ∧ v i < 9223372036854775808)) :
    Calls Tryz.prog 140 #[.agg #[.int .u64 (q : Int), .pointer P], .slice A n c] w fun ee w' => ∃ g, ee = .returned (.slice (some ⟨g, 0, none⟩) n n) ∧ UW w' g n (fun i => lif (v i) q) ∧ Ext w w' := by
 have kV : Ext w (w.alloc (.cells #[.int .u64 (q : Int), .pointer P] 193)) := (Ext.refl w).alloc _
 have HX := Lib.hid (hX.ext kV)
 clear hX
 have hmk := zb2 n (by omega)
 go_enter Tryz.func140, Tryz.ntmps140
 go_wp2
 clear hmk
 have x0 : (w.alloc (.cells #[.int .u64 (q : Int), .pointer P] 193)).cell? ⟨w.heap.size, 0, none⟩ = some (.int .u64 (q : Int)) := by simp
 have hs : (w.alloc (.cells #[.int .u64 (q : Int), .pointer P] 193)).heap.size = w.heap.size + 1 := by simp
 generalize w.alloc (.cells #[.int .u64 (q : Int), .pointer P] 193) = V at *
 have u0 := zei V n
 have kU : Ext V (V.alloc (.cells (newU n) 26)) := (Ext.refl V).alloc _
 rw [hs] at u0
 obtain ⟨g, hg⟩ : ∃ g, g = w.heap.size + 1 := ⟨_, rfl⟩
 rw [← hg] at u0 ⊢
 have hVg : V.heap.size ≤ g := by omega
 clear hg hs
 go_loopw [13] (fun i wr => ∃ m : Nat, m ≤ n ∧ i = .int .i64 (m : Int) ∧ UW wr g n (fun i => if i < m then lif (v i) q else 0) ∧ Ext V wr) (fun i _ => n - (intOf i).toNat)
 case atStart => exact ⟨0, by omega, rfl, u0.congr fun i _ => by rw [if_neg (by omega)], kU⟩
 case round =>
  obtain ⟨m, hm, rfl, hu, kr⟩ := hrel
  clear u0 kU
  by_cases hlt : m < n
  ·obtain ⟨ad, rfl, hc⟩ := (HX.out.ext kr).cells (by omega)
   have hcell := hc m hlt
   obtain ⟨hfl, hfl2⟩ := hf.out m hlt
   have x1 := cE kr x0
   clear hc
   have HS := Lib.hid (fun y (h : y = lif (v m) q) => zlk (n := n) (X := fun i => lif (v i) q) h)
   generalize v m = fm at *
   go_wp2_with fail
   refine (liftM fm q wr hq0 hfl hfl2 hq).mono ?_
   rintro ee w2 ⟨y, HY, hyl, rfl, k2⟩
   have hu2 := hu.below (B := 0) k2
   have c0 := RW.cell hu2 hlt
   have z0 := RW.frozen hu2 m
   have hsz := RW.lt hu2
   simp only [Nat.lt_irrefl, if_false] at c0
   go_wp2_with fail
   have hu3 := (hu2.set hlt y).congr (HS.out y HY.out)
   have k3 := (kr.trans k2).set (p := ⟨g, m, none⟩) hVg (.int .u64 (y : Int))
   generalize w2.setCell ⟨g, m, none⟩ (.int .u64 (y : Int)) = w3 at *
   clear c0 z0 hu2 hu
   go_wp2
   exact ⟨⟨m + 1, by omega, by go_num, hu3, k3⟩, by simp [intOf]; omega⟩
  ·have hfin := hu.congr (f' := fun i => lif (v i) q) fun i hi => by rw [if_pos (by omega)]
   clear hu
   go_wp2
   go_ret
   exact ⟨g, rfl, hfin, kV.trans kr⟩
set_option maxHeartbeats 4000000 in
theorem zhz (A A' : Option Addr) (n c c' q : Nat) (P : Option Addr) (f f' : Nat → Nat) (w : World) (hX : FX w A n c f) (hX' : FX w A' n c' f') (hn : n ≤ 1000) (hq0 : 0 < q) (hq : q < 18446744073709551616) (hf : Hid (∀ i, i < n → f i < q)) (hf' : Hid (∀ i, i < n → f' i < q)) :
    Calls Tryz.prog 178 #[.agg #[.int .u64 (q : Int), .pointer P], .slice A n c, .slice A' n c', .func (.func 227) #[] #[]] w fun ee w' => ∃ g, ee = .returned (.slice (some ⟨g, 0, none⟩) n n) ∧ UW w' g n (fun i => (f i + f' i) % q) ∧ Ext w w' := by
 have kV : Ext w (w.alloc (.cells #[.int .u64 (q : Int), .pointer P] 193)) := (Ext.refl w).alloc _
 have HX := Lib.hid (hX.ext kV)
 have HX' := Lib.hid (hX'.ext kV)
 clear hX hX'
 have hmk := zb2 n (by omega)
 go_enter Tryz.func178, Tryz.ntmps178
 go_wp2
 clear hmk
 have x0 : (w.alloc (.cells #[.int .u64 (q : Int), .pointer P] 193)).cell? ⟨w.heap.size, 0, none⟩ = some (.int .u64 (q : Int)) := by simp
 have hs : (w.alloc (.cells #[.int .u64 (q : Int), .pointer P] 193)).heap.size = w.heap.size + 1 := by simp
 generalize w.alloc (.cells #[.int .u64 (q : Int), .pointer P] 193) = V at *
 have u0 := zei V n
 have kU : Ext V (V.alloc (.cells (newU n) 26)) := (Ext.refl V).alloc _
 rw [hs] at u0
 obtain ⟨g, hg⟩ : ∃ g, g = w.heap.size + 1 := ⟨_, rfl⟩
 obtain ⟨b, hb⟩ : ∃ b, b = w.heap.size := ⟨_, rfl⟩
 rw [← hg] at u0 ⊢
 rw [← hb] at x0 ⊢
 have hVg : V.heap.size ≤ g := by omega
 have hbg : b ≠ g := by omega
 clear hg hs hb
 go_loopw [17] (fun i wr => ∃ m : Nat, m ≤ n ∧ i = .int .i64 (m : Int) ∧ UW wr g n (fun i => if i < m then (f i + f' i) % q else 0) ∧ Ext V wr) (fun i _ => n - (intOf i).toNat)
 case atStart => exact ⟨0, by omega, rfl, u0.congr fun i _ => by rw [if_neg (by omega)], kU⟩
 case round =>
  obtain ⟨m, hm, rfl, hu, kr⟩ := hrel
  clear u0 kU
  by_cases hlt : m < n
  ·obtain ⟨ad, rfl, hc⟩ := (HX.out.ext kr).cells (by omega)
   obtain ⟨ad', rfl, hc'⟩ := (HX'.out.ext kr).cells (by omega)
   have hcell := hc m hlt
   have hcell' := hc' m hlt
   have hfl := hf.out m hlt
   have hfl' := hf'.out m hlt
   have x1 := cE kr x0
   clear hc hc'
   have HS := Lib.hid (fun y (h : y = (f m + f' m) % q) => zlk (n := n) (X := fun i => (f i + f' i) % q) h)
   have c0 := RW.cell hu hlt
   have z0 := RW.frozen hu m
   have hsz := RW.lt hu
   simp only [Nat.lt_irrefl, if_false] at c0
   generalize f m = fm at *
   generalize f' m = gm at *
   have i0 : (0 : Int) ≤ (m : Int) := by omega
   have i1 : (m : Int) < (n : Int) := by omega
   go_wp2_with fail
   go_region_law (first
       | (go_simp; go_at_call 227; refine (addM fm gm q _ hq0 hfl hfl' hq).mono ?_; rintro e2 w5 ⟨y, HM, hlm, rfl, k5⟩; have k5' := (Ext.refl _).drew.trans k5; have d0 := cE k5' c0; have z3 := za9 k5' hsz z0)
       | fail)
   all_goals
    have hu5 := ((UW.below (B := 0) hu k5').set hlt y).congr (HS.out y HM.out)
    have k3 := (kr.trans k5').set (p := ⟨g, m, none⟩) hVg (.int .u64 (y : Int))
    clear hu c0 z0
    go_wp2
    exact ⟨⟨m + 1, by omega, by go_num, hu5, k3⟩, by simp [intOf]; omega⟩
  ·have hfin := hu.congr (f' := fun i => (f i + f' i) % q) fun i hi => by rw [if_pos (by omega)]
   clear hu
   go_wp2
   go_ret
   exact ⟨g, rfl, hfin, kV.trans kr⟩
theorem zya (A A' : Option Addr) (n c c' q : Nat) (P : Option Addr) (f f' : Nat → Nat) (w : World) (hX : FX w A n c f) (hX' : FX w A' n c' f') (hn : n ≤ 1000) (hq0 : 0 < q) (hq : q < 18446744073709551616) (hf : Hid (∀ i, i < n → f i < q)) (hf' : Hid (∀ i, i < n → f' i < q)) :
    Calls Tryz.prog 170 #[.agg #[.int .u64 (q : Int), .pointer P], .slice A n c, .slice A' n c'] w fun ee w' => ∃ g, ee = .returned (.slice (some ⟨g, 0, none⟩) n n) ∧ UW w' g n (fun i => (f i + f' i) % q) ∧ Ext w w' := by
 have kV : Ext w (w.alloc (.cells #[.int .u64 (q : Int), .pointer P] 193)) := (Ext.refl w).alloc _
 have HX := Lib.hid (hX.ext kV)
 have HX' := Lib.hid (hX'.ext kV)
 clear hX hX'
 go_enter Tryz.func170, Tryz.ntmps170
 go_wp2_with fail
 refine (zhz A A' n c c' q P f f' _ HX.out HX'.out hn hq0 hq hf hf').mono ?_
 rintro ee w2 ⟨g, rfl, hu, k2⟩
 go_wp2
 go_ret
 exact ⟨g, rfl, hu, kV.trans k2⟩
set_option maxHeartbeats 4000000 in
theorem zhu (A A' : Option Addr) (n c c' q : Nat) (P : Option Addr) (f f' : Nat → Nat) (w : World) (hX : FX w A n c f) (hX' : FX w A' n c' f') (hn : n ≤ 1000) (hq0 : 0 < q) (hq : q < 18446744073709551616) (hf : Hid (∀ i, i < n → f i < q)) (hf' : Hid (∀ i, i < n → f' i < q)) :
    Calls Tryz.prog 178 #[.agg #[.int .u64 (q : Int), .pointer P], .slice A n c, .slice A' n c', .func (.func 179) #[] #[]] w fun ee w' => ∃ g, ee = .returned (.slice (some ⟨g, 0, none⟩) n n) ∧ UW w' g n (fun i => dif (f i) (f' i) q) ∧ Ext w w' := by
 have kV : Ext w (w.alloc (.cells #[.int .u64 (q : Int), .pointer P] 193)) := (Ext.refl w).alloc _
 have HX := Lib.hid (hX.ext kV)
 have HX' := Lib.hid (hX'.ext kV)
 clear hX hX'
 have hmk := zb2 n (by omega)
 go_enter Tryz.func178, Tryz.ntmps178
 go_wp2
 clear hmk
 have x0 : (w.alloc (.cells #[.int .u64 (q : Int), .pointer P] 193)).cell? ⟨w.heap.size, 0, none⟩ = some (.int .u64 (q : Int)) := by simp
 have hs : (w.alloc (.cells #[.int .u64 (q : Int), .pointer P] 193)).heap.size = w.heap.size + 1 := by simp
 generalize w.alloc (.cells #[.int .u64 (q : Int), .pointer P] 193) = V at *
 have u0 := zei V n
 have kU : Ext V (V.alloc (.cells (newU n) 26)) := (Ext.refl V).alloc _
 rw [hs] at u0
 obtain ⟨g, hg⟩ : ∃ g, g = w.heap.size + 1 := ⟨_, rfl⟩
 obtain ⟨b, hb⟩ : ∃ b, b = w.heap.size := ⟨_, rfl⟩
 rw [← hg] at u0 ⊢
 rw [← hb] at x0 ⊢
 have hVg : V.heap.size ≤ g := by omega
 have hbg : b ≠ g := by omega
 clear hg hs hb
 go_loopw [17] (fun i wr => ∃ m : Nat, m ≤ n ∧ i = .int .i64 (m : Int) ∧ UW wr g n (fun i => if i < m then dif (f i) (f' i) q else 0) ∧ Ext V wr) (fun i _ => n - (intOf i).toNat)
 case atStart => exact ⟨0, by omega, rfl, u0.congr fun i _ => by rw [if_neg (by omega)], kU⟩
 case round =>
  obtain ⟨m, hm, rfl, hu, kr⟩ := hrel
  clear u0 kU
  by_cases hlt : m < n
  ·obtain ⟨ad, rfl, hc⟩ := (HX.out.ext kr).cells (by omega)
   obtain ⟨ad', rfl, hc'⟩ := (HX'.out.ext kr).cells (by omega)
   have hcell := hc m hlt
   have hcell' := hc' m hlt
   have hfl := hf.out m hlt
   have hfl' := hf'.out m hlt
   have x1 := cE kr x0
   clear hc hc'
   have HS := Lib.hid (fun y (h : y = dif (f m) (f' m) q) => zlk (n := n) (X := fun i => dif (f i) (f' i) q) h)
   have c0 := RW.cell hu hlt
   have z0 := RW.frozen hu m
   have hsz := RW.lt hu
   simp only [Nat.lt_irrefl, if_false] at c0
   generalize f m = fm at *
   generalize f' m = gm at *
   have i0 : (0 : Int) ≤ (m : Int) := by omega
   have i1 : (m : Int) < (n : Int) := by omega
   go_wp2_with fail
   go_region_law (first
       | (go_simp; go_at_call 179; refine (subM fm gm q _ hq0 hfl hfl' hq).mono ?_; rintro e2 w5 ⟨y, HM, hlm, rfl, k5⟩; have k5' := (Ext.refl _).drew.trans k5; have d0 := cE k5' c0; have z3 := za9 k5' hsz z0)
       | fail)
   all_goals
    have hu5 := ((UW.below (B := 0) hu k5').set hlt y).congr (HS.out y HM.out)
    have k3 := (kr.trans k5').set (p := ⟨g, m, none⟩) hVg (.int .u64 (y : Int))
    clear hu c0 z0
    go_wp2
    exact ⟨⟨m + 1, by omega, by go_num, hu5, k3⟩, by simp [intOf]; omega⟩
  ·have hfin := hu.congr (f' := fun i => dif (f i) (f' i) q) fun i hi => by rw [if_pos (by omega)]
   clear hu
   go_wp2
   go_ret
   exact ⟨g, rfl, hfin, kV.trans kr⟩
theorem zgr (A A' : Option Addr) (n c c' q : Nat) (P : Option Addr) (f f' : Nat → Nat) (w : World) (hX : FX w A n c f) (hX' : FX w A' n c' f') (hn : n ≤ 1000) (hq0 : 0 < q) (hq : q < 18446744073709551616) (hf : Hid (∀ i, i < n → f i < q)) (hf' : Hid (∀ i, i < n → f' i < q)) :
    Calls Tryz.prog 110 #[.agg #[.int .u64 (q : Int), .pointer P], .slice A n c, .slice A' n c'] w fun ee w' => ∃ g, ee = .returned (.slice (some ⟨g, 0, none⟩) n n) ∧ UW w' g n (fun i => dif (f i) (f' i) q) ∧ Ext w w' := by
 have kV : Ext w (w.alloc (.cells #[.int .u64 (q : Int), .pointer P] 193)) := (Ext.refl w).alloc _
 have HX := Lib.hid (hX.ext kV)
 have HX' := Lib.hid (hX'.ext kV)
 clear hX hX'
 go_enter Tryz.func110, Tryz.ntmps110
 go_wp2_with fail
 refine (zhu A A' n c c' q P f f' _ HX.out HX'.out hn hq0 hq hf hf').mono ?_
 rintro ee w2 ⟨g, rfl, hu, k2⟩
 go_wp2
 go_ret
 exact ⟨g, rfl, hu, kV.trans k2⟩
def Made (w : World) (n L : Nat) (R : Nat → (Nat → Nat) → Prop) (ee : Ending) (w' : World) : Prop :=
 ∃ (G : Nat) (As : Nat → Option Addr) (cs : Nat → Nat) (F : Nat → Nat → Nat), ee = .returned (.tuple #[.agg #[.slice (some ⟨G, 0, none⟩) L L], .int .i64 0]) ∧ PM w' G L n As cs F ∧ Hid (∀ j, j < L → R j (F j)) ∧ Ext w w'
def Errs (w : World) (z : Int) (ee : Ending) (w' : World) : Prop := ee = .returned (.tuple #[.agg #[.slice none 0 0], .int .i64 z]) ∧ Ext w w'
theorem zas {w : World} {x : Nat} {t : TypeId} {F : Nat → Value} (h : RW w x t 1 F) (v : Value) : (w.setCell ⟨x, 0, none⟩ v).cell? ⟨x, 0, none⟩ = some v := by
 have := (h.set (show 0 < 1 by omega) v).cell (i := 0) (by omega)
 rwa [if_pos rfl] at this
theorem PM.aside {w : World} {G L n x : Nat} {As : Nat → Option Addr} {cs : Nat → Nat} {F : Nat → Nat → Nat} {F' : Nat → Value} {B : Option Addr} {m k : Nat} (h : PM w G L n As cs F) (h' : RW w x 56 1 F') (hF : F' 0 = .slice B m k) (v : Value) : PM (w.setCell ⟨x, 0, none⟩ v) G L n As cs F :=
 ⟨RW.aside h.row h' (by decide) _ _, fun j hj => (h.lists j hj).aside ((h'.cell (i := 0) (by omega)).trans (by rw [hF])) v⟩
theorem zm2 {w : World} {P : Prop} {ee : Ending} {w' : World} (h : Chk w P ee w') (hp : P) : ee = .returned (.int .i64 0) ∧ Ext w w' := by
 rcases h with ⟨_, h1, h2⟩ | ⟨h, _⟩
 ·exact ⟨h1, h2⟩
 ·exact absurd hp h
theorem zsz (r n M : Nat) (q p : Nat → Nat) (a e : Nat → Nat → Nat) (w : World) (hR : Rg w r n M q p a e) :
    Calls Tryz.prog 137 #[.pointer (some ⟨r, 0, none⟩), .slice none 0 0] w fun ee w' => ee = .returned (.int .i64 0) ∧ Ext w w' :=
 (zer r n M q p a e none 0 0 (fun _ => none) (fun _ => 0) (fun _ => 0) (fun _ _ => none) (fun _ _ => 0) (fun _ _ => 0) (fun _ _ _ => 0) w hR (by omega) (Lib.hid fun h => by omega) (Lib.hid fun j h => by omega)).mono fun ee w' h => zm2 h fun j hj => by omega
def PB (w : World) (A : Option Addr) (L c : Nat) (As : Nat → Option Addr) (ns cs : Nat → Nat) (f : Nat → Nat → Nat) : Prop := PX w A L c As ns cs f ∧ L ≤ 1000000000000000 ∧ ∀ i, i < L → ns i ≤ 1000000000000000
theorem PB.ext {w w' : World} {A : Option Addr} {L c : Nat} {As : Nat → Option Addr} {ns cs : Nat → Nat} {f : Nat → Nat → Nat} (h : PB w A L c As ns cs f) (k : Ext w w') : PB w' A L c As ns cs f := ⟨h.1.ext k, h.2.1, h.2.2⟩
theorem zx1 (r n M : Nat) (q p : Nat → Nat) (a e : Nat → Nat → Nat) (A : Option Addr) (L c : Nat) (As : Nat → Option Addr) (ns cs : Nat → Nat) (f : Nat → Nat → Nat) (w : World) (x : Nat) (hx : w.cell? ⟨x, 0, none⟩ = some (.slice A L c)) (hR : Rg w r n M q p a e) (hP : Hid (PB w A L c As ns cs f)) :
    Calls Tryz.prog 137 #[.pointer (some ⟨r, 0, none⟩), .slice (some ⟨x, 0, none⟩) 1 1] w (Chk w (El n M q L ns f)) :=
 (zer r n M q p a e (some ⟨x, 0, none⟩) 1 1 (fun _ => A) (fun _ => L) (fun _ => c) (fun _ => As) (fun _ => ns) (fun _ => cs) (fun _ => f) w hR (by omega) (Lib.hid fun h => ⟨_, rfl, fun j hj => by rw [show j = 0 by omega]; exact hx⟩) (Lib.hid fun j h => hP.out)).mono fun ee w' h => by
  rcases h with ⟨h, h1, h2⟩ | ⟨h, h1, h2⟩
  ·exact .inl ⟨h 0 (by omega), h1, h2⟩
  ·exact .inr ⟨fun h' => h fun j hj => h', h1, h2⟩
theorem zx0 (r n M : Nat) (q p : Nat → Nat) (a e : Nat → Nat → Nat) (A A' : Option Addr) (L c L' c' : Nat) (As As' : Nat → Option Addr) (ns cs ns' cs' : Nat → Nat) (f f' : Nat → Nat → Nat) (w : World) (x : Nat) (hx : w.cell? ⟨x, 0, none⟩ = some (.slice A L c)) (hx' : w.cell? ⟨x, 1, none⟩ = some (.slice A' L' c')) (hR : Rg w r n M q p a e) (hP : Hid (PB w A L c As ns cs f)) (hP' : Hid (PB w A' L' c' As' ns' cs' f')) :
    Calls Tryz.prog 137 #[.pointer (some ⟨r, 0, none⟩), .slice (some ⟨x, 0, none⟩) 2 2] w (Chk w (El n M q L ns f ∧ El n M q L' ns' f')) :=
 (zer r n M q p a e (some ⟨x, 0, none⟩) 2 2 (fun j => if j = 0 then A else A') (fun j => if j = 0 then L else L') (fun j => if j = 0 then c else c') (fun j => if j = 0 then As else As') (fun j => if j = 0 then ns else ns') (fun j => if j = 0 then cs else cs') (fun j => if j = 0 then f else f') w hR (by omega) (Lib.hid fun h => ⟨_, rfl, fun j hj => by
     rcases (show j = 0 ∨ j = 1 by omega) with rfl | rfl
     ·exact hx
     ·exact hx'⟩) (Lib.hid fun j h => by
     rcases (show j = 0 ∨ j = 1 by omega) with rfl | rfl
     ·exact hP.out
     ·exact hP'.out)).mono fun ee w' h => by
  rcases h with ⟨h, h1, h2⟩ | ⟨h, h1, h2⟩
  ·exact .inl ⟨⟨h 0 (by omega), h 1 (by omega)⟩, h1, h2⟩
  ·exact .inr ⟨fun h' => h fun j hj => by
      rcases (show j = 0 ∨ j = 1 by omega) with rfl | rfl
      ·exact h'.1
      ·exact h'.2, h1, h2⟩
theorem zrg (b n c q p : Nat) (A : Option Addr) (j : Nat) (v : Nat → Int) (w : World) (hb : w.cell? ⟨b, 0, none⟩ = some (.slice A n c)) (hX : VX w A n c v) (hn : n ≤ 1000) (hq0 : 0 < q) (hq : q < 18446744073709551616) (hf : Hid (∀ i, i < n → -9223372036854775808 ≤ v i ∧ v i < 9223372036854775808)) :
    Calls Tryz.prog 139 (#[.agg #[.int .u64 (q : Int), .pointer (some ⟨p, 0, none⟩)], .int .i64 (j : Int)] ++ #[.pointer (some ⟨b, 0, none⟩)]) w fun ee w' => ∃ (A2 : Option Addr) (c2 : Nat) (F : Nat → Nat), ee = .returned (.slice A2 n c2) ∧ FX w' A2 n c2 F ∧ Hid (F = fun i => lif (v i) q) ∧ Ext w w' := by
 have kV : Ext w (w.alloc (.cells #[.int .u64 (q : Int), .pointer (some ⟨p, 0, none⟩)] 193)) := (Ext.refl w).alloc _
 have HX := Lib.hid (hX.ext kV)
 have x1 := cE kV hb
 have hbl : b < w.heap.size := World.block_lt_of_cell? _ _ hb
 clear hX
 rw [show (#[Value.agg #[.int .u64 (q : Int), .pointer (some ⟨p, 0, none⟩)], .int .i64 (j : Int)] ++ #[.pointer (some ⟨b, 0, none⟩)] : Array Value) = #[.agg #[.int .u64 (q : Int), .pointer (some ⟨p, 0, none⟩)], .int .i64 (j : Int), .pointer (some ⟨b, 0, none⟩)] from rfl]
 go_enter Tryz.func139, Tryz.ntmps139
 go_wp2_with fail
 refine (zo5 A n c q (some ⟨p, 0, none⟩) v _ HX.out hn hq0 hq hf).mono ?_
 rintro ee w2 ⟨g, rfl, hu, k2⟩
 go_wp2
 go_ret
 exact ⟨_, _, _, rfl, UW.fx hu, Lib.hid rfl, kV.trans k2⟩
set_option maxHeartbeats 4000000 in
theorem z0m (r n M : Nat) (q p : Nat → Nat) (a e : Nat → Nat → Nat) (A : Option Addr) (N c : Nat) (k : Nat) (w : World) (hR : Rg w r n M q p a e) (hk : k < M) (hN : N ≠ n) (hNl : N ≤ 1000000000000000) :
    Calls Tryz.prog 79 #[.pointer (some ⟨r, 0, none⟩), .slice A N c, .int .i64 (k : Int)] w (Errs w 3) := by
 have HR := Lib.hid hR
 have hl1 := hR.l1
 clear hR
 go_enter Tryz.func79, Tryz.ntmps79
 go_wp2_with fail
 have kV : Ext w ((w.alloc (.cells #[.slice A N c] 30)).alloc (.cells #[.slice none 0 0] 56)) := ((Ext.refl w).alloc _).alloc _
 have hr0 : RW ((w.alloc (.cells #[.slice A N c] 30)).alloc (.cells #[.slice none 0 0] 56)) (w.alloc (.cells #[.slice A N c] 30)).heap.size 56 1 (fun _ => .slice none 0 0) := heap_alloc_new _ _
 rw [show (w.alloc (.cells #[.slice A N c] 30)).heap.size = w.heap.size + 1 by simp] at hr0
 have hb : ((w.alloc (.cells #[.slice A N c] 30)).alloc (.cells #[.slice none 0 0] 56)).cell? ⟨w.heap.size, 0, none⟩ = some (.slice A N c) := by simp
 refine (zsz r n M q p a e _ (HR.out.ext kV)).mono ?_
 rintro ee w2 ⟨rfl, k2⟩
 have hr2 := hr0.ext k2
 have kw := kV.trans k2
 have hb2 := cE k2 hb
 obtain ⟨gf, t1, _⟩ := (HR.out.ext kw).ex
 have t0 := (HR.out.ext kw).size
 have hne : ((N : Int) != (n : Int)) = true := by simp; omega
 have c0 := hr2.cell (i := 0) (by omega)
 have z0 := hr2.frozen 0
 have hsz := hr2.lt
 have i1 : (k : Int) < (M : Int) := by omega
 have HX := Lib.hid (show ∀ (d : Nat) (v : Value), ((w2.drewN d).setCell ⟨w.heap.size + 1, 0, none⟩ v).cell? ⟨w.heap.size + 1, 0, none⟩ = some v ∧ Ext w ((w2.drewN d).setCell ⟨w.heap.size + 1, 0, none⟩ v) from fun d v => ⟨zas (hr2.ext ((Ext.refl w2).drewN d)) v, (kw.drewN d).set (p := ⟨w.heap.size + 1, 0, none⟩) (by show w.heap.size ≤ w.heap.size + 1; omega) v⟩)
 go_wp2_with fail
 go_quiet (fail)
 go_wp2
 exact bodyPost_ret (v := .tuple #[.agg #[.slice none 0 0], .int .i64 3]) (by simp [results, Tryz.results79, go_sem, (HX.out _ _).1]) rfl ⟨rfl, (HX.out _ _).2⟩
set_option maxHeartbeats 4000000 in
theorem zf1 (r n M : Nat) (q p : Nat → Nat) (a e : Nat → Nat → Nat) (A : Option Addr) (c : Nat) (k : Nat) (v : Nat → Int) (w : World) (hR : Rg w r n M q p a e) (hk : k < M) (hX : VX w A n c v) (hf : Hid (∀ i, i < n → -9223372036854775808 ≤ v i ∧ v i < 9223372036854775808)) :
    Calls Tryz.prog 79 #[.pointer (some ⟨r, 0, none⟩), .slice A n c, .int .i64 (k : Int)] w (Made w n (k + 1) (fun j F => F = fun i => lif (v i) (q j))) := by
 have HR := Lib.hid hR
 have HV := Lib.hid hX
 have hl1 := hR.l1
 have hn1 := hR.n1
 clear hR hX
 go_enter Tryz.func79, Tryz.ntmps79
 go_wp2_with fail
 have kV : Ext w ((w.alloc (.cells #[.slice A n c] 30)).alloc (.cells #[.slice none 0 0] 56)) := ((Ext.refl w).alloc _).alloc _
 have hr0 : RW ((w.alloc (.cells #[.slice A n c] 30)).alloc (.cells #[.slice none 0 0] 56)) (w.alloc (.cells #[.slice A n c] 30)).heap.size 56 1 (fun _ => .slice none 0 0) := heap_alloc_new _ _
 rw [show (w.alloc (.cells #[.slice A n c] 30)).heap.size = w.heap.size + 1 by simp] at hr0
 have hb : ((w.alloc (.cells #[.slice A n c] 30)).alloc (.cells #[.slice none 0 0] 56)).cell? ⟨w.heap.size, 0, none⟩ = some (.slice A n c) := by simp
 refine (zsz r n M q p a e _ (HR.out.ext kV)).mono ?_
 rintro ee w2 ⟨rfl, k2⟩
 have hr2 := hr0.ext k2
 have kw := kV.trans k2
 have hb2 := cE k2 hb
 obtain ⟨gf, t1, _⟩ := (HR.out.ext kw).ex
 have t0 := (HR.out.ext kw).size
 have hne : ((n : Int) != (n : Int)) = false := by simp
 have i1 : (k : Int) < (M : Int) := by omega
 have HB := Lib.hid hb2
 go_wp2_with fail
 go_quiet (fail)
 go_wp2_with fail
 refine (zfu _ _ r n M k q p a e (fun j F => F = fun i => lif (v i) (q j)) _ (HR.out.ext (kw.drewN _)) hk (Lib.hid Tryz.call139) (Lib.hid fun j w1 hj k1 => ?_)).mono ?_
 ·have hq := HR.out.ql j (by omega)
  exact zrg w.heap.size n c (q j) (p j) A j v w1 (cE (((Ext.refl w2).drewN _).trans k1) HB.out) (HV.out.ext ((kw.drewN _).trans k1)) (by omega) (by omega) (by omega) hf
 rintro ee w3 ⟨G, As, cs, F, rfl, hpm, hF, k3⟩
 have k3' := ((Ext.refl w2).drewN _).trans k3
 have hr3 := hr2.ext k3'
 have c0 := hr3.cell (i := 0) (by omega)
 have z0 := hr3.frozen 0
 have hsz := hr3.lt
 go_wp2_with fail
 have d0 := zas hr3 (.slice (some ⟨G, 0, none⟩) (k + 1) (k + 1))
 have d1 := (kw.trans k3').set (p := ⟨w.heap.size + 1, 0, none⟩) (by show w.heap.size ≤ w.heap.size + 1; omega) (.slice (some ⟨G, 0, none⟩) (k + 1) (k + 1))
 have d2 := hpm.aside hr3 rfl (.slice (some ⟨G, 0, none⟩) (k + 1) (k + 1))
 generalize w3.setCell ⟨w.heap.size + 1, 0, none⟩ (.slice (some ⟨G, 0, none⟩) (k + 1) (k + 1)) = w5 at *
 exact bodyPost_ret (v := .tuple #[.agg #[.slice (some ⟨G, 0, none⟩) (k + 1) (k + 1)], .int .i64 0]) (by simp [results, Tryz.results79, go_sem, d0]) rfl ⟨G, As, cs, F, rfl, d2, hF, d1⟩
theorem zam (w : World) (v : Value) (t : TypeId) : (w.alloc (.cells #[v] t)).cell? ⟨w.heap.size, 0, none⟩ = some v := by simp
theorem zeh {w : World} {A : Option Addr} {L c n M : Nat} {q : Nat → Nat} {As : Nat → Option Addr} {ns cs : Nat → Nat} {f : Nat → Nat → Nat} (hP : PX w A L c As ns cs f) (hE : El n M q L ns f) {j : Nat} (hj : j < L) : (∃ ad, A = some ad ∧ w.cell? (ad.add j) = some (.slice (As j) n (cs j))) ∧ FX w (As j) n (cs j) (f j) ∧ ∀ i, i < n → f j i < q j := by
 obtain ⟨ad, e, hc⟩ := hP.cells (by omega)
 obtain ⟨h1, h2⟩ := hE.2.2 j hj
 have h3 := hc j hj
 have h4 := hP.rows j hj
 rw [h1] at h3 h4 h2
 exact ⟨⟨ad, e, h3⟩, h4, h2⟩
theorem zvn (b7 b5 b6 n q p L c L' c' cj cj' j : Nat) (A A' Aj Aj' : Option Addr) (f f' : Nat → Nat) (w : World) (h7 : w.cell? ⟨b7, 0, none⟩ = some (.func (.func 170) #[] #[])) (h5 : w.cell? ⟨b5, 0, none⟩ = some (.slice A L c)) (h6 : w.cell? ⟨b6, 0, none⟩ = some (.slice A' L' c')) (hj : j < L) (hj' : j < L') (hA : ∃ ad, A = some ad ∧ w.cell? (ad.add j) = some (.slice Aj n cj)) (hA' : ∃ ad, A' = some ad ∧ w.cell? (ad.add j) = some (.slice Aj' n cj')) (hX : FX w Aj n cj f) (hX' : FX w Aj' n cj' f') (hn0 : 2 ≤ n) (hn : n ≤ 32) (hL : L ≤ 1000000) (hL' : L' ≤ 1000000) (hq0 : 0 < q) (hq : q < 18446744073709551616) (hf : Hid (∀ i, i < n → f i < q)) (hf' : Hid (∀ i, i < n → f' i < q)) :
    Calls Tryz.prog 177 (#[.agg #[.int .u64 (q : Int), .pointer (some ⟨p, 0, none⟩)], .int .i64 (j : Int)] ++ #[.pointer (some ⟨b7, 0, none⟩), .pointer (some ⟨b5, 0, none⟩), .pointer (some ⟨b6, 0, none⟩)]) w fun ee w' => ∃ (A2 : Option Addr) (c2 : Nat) (F : Nat → Nat), ee = .returned (.slice A2 n c2) ∧ FX w' A2 n c2 F ∧ Hid (F = fun i => (f i + f' i) % q) ∧ Ext w w' := by
 have kV : Ext w (w.alloc (.cells #[.int .u64 (q : Int), .pointer (some ⟨p, 0, none⟩)] 193)) := (Ext.refl w).alloc _
 have HX := Lib.hid (hX.ext kV)
 have HX' := Lib.hid (hX'.ext kV)
 have x7 := cE kV h7
 have x5 := cE kV h5
 have x6 := cE kV h6
 obtain ⟨ad, rfl, hc⟩ := hA
 obtain ⟨ad', rfl, hc'⟩ := hA'
 have xj := cE kV hc
 have xj' := cE kV hc'
 have hb7 : b7 < w.heap.size := World.block_lt_of_cell? _ _ h7
 have hb5 : b5 < w.heap.size := World.block_lt_of_cell? _ _ h5
 have hb6 : b6 < w.heap.size := World.block_lt_of_cell? _ _ h6
 clear hX hX'
 rw [show (#[Value.agg #[.int .u64 (q : Int), .pointer (some ⟨p, 0, none⟩)], .int .i64 (j : Int)] ++ #[.pointer (some ⟨b7, 0, none⟩), .pointer (some ⟨b5, 0, none⟩), .pointer (some ⟨b6, 0, none⟩)] : Array Value) = #[.agg #[.int .u64 (q : Int), .pointer (some ⟨p, 0, none⟩)], .int .i64 (j : Int), .pointer (some ⟨b7, 0, none⟩), .pointer (some ⟨b5, 0, none⟩), .pointer (some ⟨b6, 0, none⟩)] from rfl]
 have i0 : (0 : Int) ≤ (j : Int) := by omega
 have i1 : (j : Int) < (L : Int) := by omega
 have i2 : (j : Int) < (L' : Int) := by omega
 go_enter Tryz.func177, Tryz.ntmps177
 go_wp2_with fail
 have f0 : (w.alloc (.cells #[.int .u64 (q : Int), .pointer (some ⟨p, 0, none⟩)] 193)).cell? ⟨w.heap.size, 0, none⟩ = some (.int .u64 (q : Int)) := by simp
 have f1 : (w.alloc (.cells #[.int .u64 (q : Int), .pointer (some ⟨p, 0, none⟩)] 193)).cell? ⟨w.heap.size, 1, none⟩ = some (.pointer (some ⟨p, 0, none⟩)) := by simp
 generalize w.alloc (.cells #[.int .u64 (q : Int), .pointer (some ⟨p, 0, none⟩)] 193) = V at *
 clear h7 h5 h6 hc hc'
 go_region_held3 (fun w' => w'.cell? ⟨b7, 0, none⟩ = some (.func (.func 170) #[] #[]) ∧ w'.cell? ⟨b5, 0, none⟩ = some (.slice (some ad) L c) ∧ w'.cell? ⟨b6, 0, none⟩ = some (.slice (some ad') L' c') ∧ w'.cell? (ad.add j) = some (.slice Aj n cj) ∧ w'.cell? (ad'.add j) = some (.slice Aj' n cj') ∧ w'.cell? ⟨w.heap.size, 0, none⟩ = some (.int .u64 (q : Int)) ∧ w'.cell? ⟨w.heap.size, 1, none⟩ = some (.pointer (some ⟨p, 0, none⟩))) (go_keep)
  (first
   | (go_at_call 170; refine (zya Aj Aj' n cj cj' q (some ⟨p, 0, none⟩) f f' _ (FX.ext HX.out (Ext.refl _).drew) (FX.ext HX'.out (Ext.refl _).drew) (by omega) hq0 hq hf hf').mono ?_; rintro e2 w5 ⟨g5, rfl, hu5, k5⟩; have k5' := (Ext.refl _).drew.trans k5; have d0 := cE k5' x7; have d1 := cE k5' x5; have d2 := cE k5' x6; have d3 := cE k5' xj; have d4 := cE k5' xj'; have d5 := cE k5' f0; have d6 := cE k5' f1)
   | fail)
 go_wp2
 go_ret
 exact ⟨_, _, _, rfl, UW.fx hu5, Lib.hid rfl, kV.trans k5'⟩
set_option maxHeartbeats 4000000 in
theorem zwp (b7 b5 b6 n q p L c L' c' cj cj' j : Nat) (A A' Aj Aj' : Option Addr) (f f' : Nat → Nat) (w : World) (h7 : w.cell? ⟨b7, 0, none⟩ = some (.func (.func 110) #[] #[])) (h5 : w.cell? ⟨b5, 0, none⟩ = some (.slice A L c)) (h6 : w.cell? ⟨b6, 0, none⟩ = some (.slice A' L' c')) (hj : j < L) (hj' : j < L') (hA : ∃ ad, A = some ad ∧ w.cell? (ad.add j) = some (.slice Aj n cj)) (hA' : ∃ ad, A' = some ad ∧ w.cell? (ad.add j) = some (.slice Aj' n cj')) (hX : FX w Aj n cj f) (hX' : FX w Aj' n cj' f') (hn0 : 2 ≤ n) (hn : n ≤ 32) (hL : L ≤ 1000000) (hL' : L' ≤ 1000000) (hq0 : 0 < q) (hq : q < 18446744073709551616) (hf : Hid (∀ i, i < n → f i < q)) (hf' : Hid (∀ i, i < n → f' i < q)) :
    Calls Tryz.prog 177 (#[.agg #[.int .u64 (q : Int), .pointer (some ⟨p, 0, none⟩)], .int .i64 (j : Int)] ++ #[.pointer (some ⟨b7, 0, none⟩), .pointer (some ⟨b5, 0, none⟩), .pointer (some ⟨b6, 0, none⟩)]) w fun ee w' => ∃ (A2 : Option Addr) (c2 : Nat) (F : Nat → Nat), ee = .returned (.slice A2 n c2) ∧ FX w' A2 n c2 F ∧ Hid (F = fun i => dif (f i) (f' i) q) ∧ Ext w w' := by
 have kV : Ext w (w.alloc (.cells #[.int .u64 (q : Int), .pointer (some ⟨p, 0, none⟩)] 193)) := (Ext.refl w).alloc _
 have HX := Lib.hid (hX.ext kV)
 have HX' := Lib.hid (hX'.ext kV)
 have x7 := cE kV h7
 have x5 := cE kV h5
 have x6 := cE kV h6
 obtain ⟨ad, rfl, hc⟩ := hA
 obtain ⟨ad', rfl, hc'⟩ := hA'
 have xj := cE kV hc
 have xj' := cE kV hc'
 have hb7 : b7 < w.heap.size := World.block_lt_of_cell? _ _ h7
 have hb5 : b5 < w.heap.size := World.block_lt_of_cell? _ _ h5
 have hb6 : b6 < w.heap.size := World.block_lt_of_cell? _ _ h6
 clear hX hX'
 rw [show (#[Value.agg #[.int .u64 (q : Int), .pointer (some ⟨p, 0, none⟩)], .int .i64 (j : Int)] ++ #[.pointer (some ⟨b7, 0, none⟩), .pointer (some ⟨b5, 0, none⟩), .pointer (some ⟨b6, 0, none⟩)] : Array Value) = #[.agg #[.int .u64 (q : Int), .pointer (some ⟨p, 0, none⟩)], .int .i64 (j : Int), .pointer (some ⟨b7, 0, none⟩), .pointer (some ⟨b5, 0, none⟩), .pointer (some ⟨b6, 0, none⟩)] from rfl]
 have i0 : (0 : Int) ≤ (j : Int) := by omega
 have i1 : (j : Int) < (L : Int) := by omega
 have i2 : (j : Int) < (L' : Int) := by omega
 go_enter Tryz.func177, Tryz.ntmps177
 go_wp2_with fail
 have f0 : (w.alloc (.cells #[.int .u64 (q : Int), .pointer (some ⟨p, 0, none⟩)] 193)).cell? ⟨w.heap.size, 0, none⟩ = some (.int .u64 (q : Int)) := by simp
 have f1 : (w.alloc (.cells #[.int .u64 (q : Int), .pointer (some ⟨p, 0, none⟩)] 193)).cell? ⟨w.heap.size, 1, none⟩ = some (.pointer (some ⟨p, 0, none⟩)) := by simp
 generalize w.alloc (.cells #[.int .u64 (q : Int), .pointer (some ⟨p, 0, none⟩)] 193) = V at *
 clear h7 h5 h6 hc hc'
 go_region_held3 (fun w' => w'.cell? ⟨b7, 0, none⟩ = some (.func (.func 110) #[] #[]) ∧ w'.cell? ⟨b5, 0, none⟩ = some (.slice (some ad) L c) ∧ w'.cell? ⟨b6, 0, none⟩ = some (.slice (some ad') L' c') ∧ w'.cell? (ad.add j) = some (.slice Aj n cj) ∧ w'.cell? (ad'.add j) = some (.slice Aj' n cj') ∧ w'.cell? ⟨w.heap.size, 0, none⟩ = some (.int .u64 (q : Int)) ∧ w'.cell? ⟨w.heap.size, 1, none⟩ = some (.pointer (some ⟨p, 0, none⟩))) (go_keep)
  (first
   | (go_at_call 110; refine (zgr Aj Aj' n cj cj' q (some ⟨p, 0, none⟩) f f' _ (FX.ext HX.out (Ext.refl _).drew) (FX.ext HX'.out (Ext.refl _).drew) (by omega) hq0 hq hf hf').mono ?_; rintro e2 w5 ⟨g5, rfl, hu5, k5⟩; have k5' := (Ext.refl _).drew.trans k5; have d0 := cE k5' x7; have d1 := cE k5' x5; have d2 := cE k5' x6; have d3 := cE k5' xj; have d4 := cE k5' xj'; have d5 := cE k5' f0; have d6 := cE k5' f1)
   | fail)
 go_wp2
 go_ret
 exact ⟨_, _, _, rfl, UW.fx hu5, Lib.hid rfl, kV.trans k5'⟩
theorem zi3 (p n q k r v : Nat) (A A' : Option Addr) (c c' : Nat) (f f' : Nat → Nat) (w : World) (hT : Table w p n q k r v) (hX : FX w A n c f) (hX' : FX w A' n c' f') (hf : Hid (∀ i, i < n → f i < q)) (hf' : Hid (∀ i, i < n → f' i < q)) :
    Calls Tryz.prog 141 #[.agg #[.int .u64 (q : Int), .pointer (some ⟨p, 0, none⟩)], .slice A n c, .slice A' n c'] w fun ee w' => ∃ (g : Nat) (F : Nat → Nat), ee = .returned (.slice (some ⟨g, 0, none⟩) n n) ∧ UW w' g n F ∧ Hid (∀ i, i < n → F i < q ∧ M (q : Int) (F i : Int) (nega n (fun j => (f j : Int)) (fun j => (f' j : Int)) i)) ∧ Ext w w' := by
 have kV : Ext w (w.alloc (.cells #[.int .u64 (q : Int), .pointer (some ⟨p, 0, none⟩)] 193)) := (Ext.refl w).alloc _
 have HX := Lib.hid (hX.ext kV)
 have HX' := Lib.hid (hX'.ext kV)
 have HT := Lib.hid (hT.ext kV)
 clear hX hX' hT
 go_enter Tryz.func141, Tryz.ntmps141
 go_wp2_with fail
 refine (zt5 p n q k r v A A' c c' f f' _ HT.out HX.out hf HX'.out hf').mono ?_
 rintro ee w2 ⟨g, F, rfl, hu, hF, k2⟩
 go_wp2
 go_ret
 exact ⟨g, F, rfl, hu, hF, kV.trans k2⟩
set_option maxHeartbeats 4000000 in
theorem zor (b7 b5 b6 n q p L c L' c' cj cj' j : Nat) (A A' Aj Aj' : Option Addr) (f f' : Nat → Nat) (k r v : Nat) (w : World) (h7 : w.cell? ⟨b7, 0, none⟩ = some (.func (.func 141) #[] #[])) (h5 : w.cell? ⟨b5, 0, none⟩ = some (.slice A L c)) (h6 : w.cell? ⟨b6, 0, none⟩ = some (.slice A' L' c')) (hj : j < L) (hj' : j < L') (hA : ∃ ad, A = some ad ∧ w.cell? (ad.add j) = some (.slice Aj n cj)) (hA' : ∃ ad, A' = some ad ∧ w.cell? (ad.add j) = some (.slice Aj' n cj')) (hX : FX w Aj n cj f) (hX' : FX w Aj' n cj' f') (hn0 : 2 ≤ n) (hn : n ≤ 32) (hL : L ≤ 1000000) (hL' : L' ≤ 1000000) (hq0 : 0 < q) (hq : q < 18446744073709551616) (hf : Hid (∀ i, i < n → f i < q)) (hf' : Hid (∀ i, i < n → f' i < q)) (hT : Table w p n q k r v) :
    Calls Tryz.prog 177 (#[.agg #[.int .u64 (q : Int), .pointer (some ⟨p, 0, none⟩)], .int .i64 (j : Int)] ++ #[.pointer (some ⟨b7, 0, none⟩), .pointer (some ⟨b5, 0, none⟩), .pointer (some ⟨b6, 0, none⟩)]) w fun ee w' => ∃ (A2 : Option Addr) (c2 : Nat) (F : Nat → Nat), ee = .returned (.slice A2 n c2) ∧ FX w' A2 n c2 F ∧ Hid (∀ i, i < n → F i < q ∧ M (q : Int) (F i : Int) (nega n (fun j => (f j : Int)) (fun j => (f' j : Int)) i)) ∧ Ext w w' := by
 have kV : Ext w (w.alloc (.cells #[.int .u64 (q : Int), .pointer (some ⟨p, 0, none⟩)] 193)) := (Ext.refl w).alloc _
 have HX := Lib.hid (hX.ext kV)
 have HX' := Lib.hid (hX'.ext kV)
 have x7 := cE kV h7
 have x5 := cE kV h5
 have x6 := cE kV h6
 obtain ⟨ad, rfl, hc⟩ := hA
 obtain ⟨ad', rfl, hc'⟩ := hA'
 have xj := cE kV hc
 have xj' := cE kV hc'
 have hb7 : b7 < w.heap.size := World.block_lt_of_cell? _ _ h7
 have hb5 : b5 < w.heap.size := World.block_lt_of_cell? _ _ h5
 have hb6 : b6 < w.heap.size := World.block_lt_of_cell? _ _ h6
 have HT := Lib.hid (hT.ext kV)
 clear hX hX' hT
 rw [show (#[Value.agg #[.int .u64 (q : Int), .pointer (some ⟨p, 0, none⟩)], .int .i64 (j : Int)] ++ #[.pointer (some ⟨b7, 0, none⟩), .pointer (some ⟨b5, 0, none⟩), .pointer (some ⟨b6, 0, none⟩)] : Array Value) = #[.agg #[.int .u64 (q : Int), .pointer (some ⟨p, 0, none⟩)], .int .i64 (j : Int), .pointer (some ⟨b7, 0, none⟩), .pointer (some ⟨b5, 0, none⟩), .pointer (some ⟨b6, 0, none⟩)] from rfl]
 have i0 : (0 : Int) ≤ (j : Int) := by omega
 have i1 : (j : Int) < (L : Int) := by omega
 have i2 : (j : Int) < (L' : Int) := by omega
 go_enter Tryz.func177, Tryz.ntmps177
 go_wp2_with fail
 have f0 : (w.alloc (.cells #[.int .u64 (q : Int), .pointer (some ⟨p, 0, none⟩)] 193)).cell? ⟨w.heap.size, 0, none⟩ = some (.int .u64 (q : Int)) := by simp
 have f1 : (w.alloc (.cells #[.int .u64 (q : Int), .pointer (some ⟨p, 0, none⟩)] 193)).cell? ⟨w.heap.size, 1, none⟩ = some (.pointer (some ⟨p, 0, none⟩)) := by simp
 generalize w.alloc (.cells #[.int .u64 (q : Int), .pointer (some ⟨p, 0, none⟩)] 193) = V at *
 clear h7 h5 h6 hc hc'
 go_region_held3 (fun w' => w'.cell? ⟨b7, 0, none⟩ = some (.func (.func 141) #[] #[]) ∧ w'.cell? ⟨b5, 0, none⟩ = some (.slice (some ad) L c) ∧ w'.cell? ⟨b6, 0, none⟩ = some (.slice (some ad') L' c') ∧ w'.cell? (ad.add j) = some (.slice Aj n cj) ∧ w'.cell? (ad'.add j) = some (.slice Aj' n cj') ∧ w'.cell? ⟨w.heap.size, 0, none⟩ = some (.int .u64 (q : Int)) ∧ w'.cell? ⟨w.heap.size, 1, none⟩ = some (.pointer (some ⟨p, 0, none⟩))) (go_keep)
  (first
   | (go_at_call 141; refine (zi3 p n q k r v Aj Aj' cj cj' f f' _ (HT.out.ext (Ext.refl _).drew) (FX.ext HX.out (Ext.refl _).drew) (FX.ext HX'.out (Ext.refl _).drew) hf hf').mono ?_; rintro e2 w5 ⟨g5, F5, rfl, hu5, hF5, k5⟩; have k5' := (Ext.refl _).drew.trans k5; have d0 := cE k5' x7; have d1 := cE k5' x5; have d2 := cE k5' x6; have d3 := cE k5' xj; have d4 := cE k5' xj'; have d5 := cE k5' f0; have d6 := cE k5' f1)
   | fail)
 go_wp2
 go_ret
 exact ⟨_, _, _, rfl, UW.fx hu5, hF5, kV.trans k5'⟩
theorem zri (w : World) (v u : Value) (t : TypeId) : (w.alloc (.cells #[v, u] t)).cell? ⟨w.heap.size, 0, none⟩ = some v := by simp
theorem zso (w : World) (v u : Value) (t : TypeId) : (w.alloc (.cells #[v, u] t)).cell? ⟨w.heap.size, 1, none⟩ = some u := by simp
set_option maxHeartbeats 4000000 in
theorem zfh (r n M : Nat) (q p : Nat → Nat) (a e : Nat → Nat → Nat) (A A' : Option Addr) (L c c' : Nat) (As As' : Nat → Option Addr) (ns cs ns' cs' : Nat → Nat) (f f' : Nat → Nat → Nat) (fn : Nat) (cap : Array Value) (R : Nat → (Nat → Nat) → Prop) (w : World) (hR : Rg w r n M q p a e) (hP : Hid (PB w A L c As ns cs f)) (hP' : Hid (PB w A' L c' As' ns' cs' f')) (hE : El n M q L ns f ∧ El n M q L ns' f')
    (hM : Hid (∀ w2, Ext w w2 → w2.cell? ⟨w.heap.size, 0, none⟩ = some (.slice A L c) → w2.cell? ⟨w.heap.size + 1, 0, none⟩ = some (.slice A' L c') → w2.cell? ⟨w.heap.size + 1 + 1, 0, none⟩ = some (.func (.func fn) #[] cap) → Makes 177 #[.pointer (some ⟨w.heap.size + 1 + 1, 0, none⟩), .pointer (some ⟨w.heap.size, 0, none⟩), .pointer (some ⟨w.heap.size + 1, 0, none⟩)] w2 n L q p R)) :
    Calls Tryz.prog 109 #[.pointer (some ⟨r, 0, none⟩), .agg #[.slice A L c], .agg #[.slice A' L c'], .func (.func fn) #[] cap] w (Made w n L R) := by
 have hl1 := hR.l1
 have HR := Lib.hid hR
 have HE := Lib.hid hE
 clear hR hE
 go_enter Tryz.func109, Tryz.ntmps109
 go_wp2_with fail
 obtain ⟨V, hV⟩ : ∃ V, V = (((w.alloc (.cells #[.slice A L c] 56)).alloc (.cells #[.slice A' L c'] 56)).alloc (.cells #[.func (.func fn) #[] cap] 189)).alloc (.cells #[.slice none 0 0] 56) := ⟨_, rfl⟩
 rw [← hV]
 have kV : Ext w V := by rw [hV]; exact (((((Ext.refl w).alloc _).alloc _).alloc _).alloc _)
 have hr0 : RW V (w.heap.size + 1 + 1 + 1) 56 1 (fun _ => .slice none 0 0) := by
  have : RW V (((w.alloc (.cells #[.slice A L c] 56)).alloc (.cells #[.slice A' L c'] 56)).alloc (.cells #[.func (.func fn) #[] cap] 189)).heap.size 56 1 (fun _ => .slice none 0 0) := by rw [hV]; exact heap_alloc_new _ _
  rwa [show (((w.alloc (.cells #[.slice A L c] 56)).alloc (.cells #[.slice A' L c'] 56)).alloc (.cells #[.func (.func fn) #[] cap] 189)).heap.size = w.heap.size + 1 + 1 + 1 by simp] at this
 have h5 : V.cell? ⟨w.heap.size, 0, none⟩ = some (.slice A L c) := by rw [hV]; exact cE ((((Ext.refl _).alloc _).alloc _).alloc _) (zam w _ _)
 have h6 : V.cell? ⟨w.heap.size + 1, 0, none⟩ = some (.slice A' L c') := by
  rw [hV, show w.heap.size + 1 = (w.alloc (.cells #[.slice A L c] 56)).heap.size by simp]
  exact cE (((Ext.refl _).alloc _).alloc _) (zam _ _ _)
 have h7 : V.cell? ⟨w.heap.size + 1 + 1, 0, none⟩ = some (.func (.func fn) #[] cap) := by
  rw [hV, show w.heap.size + 1 + 1 = ((w.alloc (.cells #[.slice A L c] 56)).alloc (.cells #[.slice A' L c'] 56)).heap.size by simp]
  exact cE ((Ext.refl _).alloc _) (zam _ _ _)
 have hsV : V.heap.size = w.heap.size + 1 + 1 + 1 + 1 := by rw [hV]; simp
 clear hV
 have kX : Ext V (V.alloc (.cells #[.slice A L c, .slice A' L c'] 56)) := (Ext.refl V).alloc _
 have hx0 : (V.alloc (.cells #[.slice A L c, .slice A' L c'] 56)).cell? ⟨w.heap.size + 1 + 1 + 1 + 1, 0, none⟩ = some (.slice A L c) := by rw [← hsV]; exact zri _ _ _ _
 have hx1 : (V.alloc (.cells #[.slice A L c, .slice A' L c'] 56)).cell? ⟨w.heap.size + 1 + 1 + 1 + 1, 1, none⟩ = some (.slice A' L c') := by rw [← hsV]; exact zso _ _ _ _
 refine (zx0 r n M q p a e A A' L c L c' As As' ns cs ns' cs' f f' _ (w.heap.size + 1 + 1 + 1 + 1) hx0 hx1 (HR.out.ext (kV.trans kX)) (Lib.hid (hP.out.ext (kV.trans kX))) (Lib.hid (hP'.out.ext (kV.trans kX)))).mono ?_
 intro ee w2 hchk
 obtain ⟨rfl, k2'⟩ := zm2 hchk HE.out
 clear hchk
 have k2 := kX.trans k2'
 have hr2 := hr0.ext k2
 have y5 := cE k2 h5
 have y6 := cE k2 h6
 have y7 := cE k2 h7
 have hLl := HE.out.1.2.1
 have hLl' := HE.out.2.2.1
 clear hx0 hx1 h5 h6 h7 hr0
 have kk : Ext w2 w2 := Ext.refl w2
 go_wp2_with fail
 go_region_held3 (fun w' => w'.cell? ⟨w.heap.size, 0, none⟩ = some (.slice A L c) ∧ w'.cell? ⟨w.heap.size + 1, 0, none⟩ = some (.slice A' L c')) (go_keep)
  (first
   | (go_at_call 173; refine (zcj A L c _ (by omega)).mono ?_; rintro e5 w5 ⟨rfl, k5⟩; replace kk : Ext w2 w5 := (by first | exact Ext.trans kk k5 | exact Ext.trans (Ext.drew kk) k5); have d5 := cE kk y5; have d6 := cE kk y6)
   | (go_at_call 173; refine (zcj A' L c' _ (by omega)).mono ?_; rintro e5 w5 ⟨rfl, k5⟩; replace kk : Ext w2 w5 := (by first | exact Ext.trans kk k5 | exact Ext.trans (Ext.drew kk) k5); have d5 := cE kk y5; have d6 := cE kk y6)
   | fail)
 have hb : ((L : Int) - 1 != (L : Int) - 1) = false := by simp
 have kz := kV.trans (k2.trans kk)
 have hr5 := hr2.ext kk
 have hL0 := HE.out.1.1
 go_wp2_with fail
 refine (zcj A L c w5 (by omega)).mono ?_
 rintro ee w6 ⟨rfl, k6⟩
 have u5 := cE (kk.trans k6) y5
 have u6 := cE (kk.trans k6) y6
 have u7 := cE (kk.trans k6) y7
 have hr6 := hr5.ext k6
 have kz6 := kz.trans k6
 obtain ⟨l, rfl⟩ : ∃ l, L = l + 1 := ⟨L - 1, by omega⟩
 have hl : ((l + 1 : Nat) : Int) - 1 = (l : Int) := by omega
 rw [hl]
 go_wp2_with fail
 refine (zfu _ _ r n M l q p a e R _ (HR.out.ext kz6) (by omega) (Lib.hid Tryz.call177) (Lib.hid (hM.out w6 kz6 u5 u6 u7))).mono ?_
 rintro ee w7 ⟨G, Bs, ds, F, rfl, hpm, hF, k7⟩
 have hr7 := hr6.ext k7
 have c0 := hr7.cell (i := 0) (by omega)
 have z0 := hr7.frozen 0
 have hsz := hr7.lt
 go_wp2_with fail
 have d0 := zas hr7 (.slice (some ⟨G, 0, none⟩) (l + 1) (l + 1))
 have d1 := (kz6.trans k7).set (p := ⟨w.heap.size + 1 + 1 + 1, 0, none⟩) (by show w.heap.size ≤ w.heap.size + 1 + 1 + 1; omega) (.slice (some ⟨G, 0, none⟩) (l + 1) (l + 1))
 have d2 := hpm.aside hr7 rfl (.slice (some ⟨G, 0, none⟩) (l + 1) (l + 1))
 generalize w7.setCell ⟨w.heap.size + 1 + 1 + 1, 0, none⟩ (.slice (some ⟨G, 0, none⟩) (l + 1) (l + 1)) = w9 at *
 exact bodyPost_ret (v := .tuple #[.agg #[.slice (some ⟨G, 0, none⟩) (l + 1) (l + 1)], .int .i64 0]) (by simp [results, Tryz.results109, go_sem, d0]) rfl ⟨G, Bs, ds, F, rfl, d2, hF, d1⟩
end Go.Proofs.YtopbibfpjgjalaaGreatDoor
