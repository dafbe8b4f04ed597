/-
  What Wholes of package crt answers of right lists: the number of each place, centered.
-/
import Derived.Test.YtbpehdfpiembfaaGreatDoorZ35
import Derived.Test.YtbpehdfpiembfaaGreatDoorZ31
namespace Go.Proofs.YtbpehdfpiembfaaGreatDoor
open Go.RowKit
set_option linter.unusedVariables false
set_option maxRecDepth 100000

/-- What has been joined is below the product. -/
theorem jn_lt {q p r : Nat → Nat} : ∀ L, (∀ j, j < L → 0 < q j ∧ p j < q j) → jnF q p r 0 L < prodF q L
  | 0, _ => by show 0 < prodF q 0; unfold prodF; omega
  | L + 1, h => by
    have ih := jn_lt (r := r) L (fun j hj => h j (by omega))
    obtain ⟨h1, h2⟩ := h L (by omega)
    rw [jnF, prodF]
    unfold crtF
    have h3 := Nat.mod_lt (dif (r L) (jnF q p r 0 L % q L) (q L) * p L) h1
    generalize dif (r L) (jnF q p r 0 L % q L) (q L) * p L % q L = c at *
    generalize jnF q p r 0 L = X at *
    generalize prodF q L = P at *
    have h4 : c * P ≤ (q L - 1) * P := Nat.mul_le_mul_right _ (by omega)
    have h5 : (q L - 1) * P + P = q L * P := by rw [← Nat.succ_mul]; congr 1; omega
    first
      | omega
      | (rw [Nat.mul_comm P (q L)]; omega)
theorem info_whole : (Tryz.prog.info? 50).map (fun i => (i.zero, i.size, i.bytes)) = some (some (.agg #[.bool false, .slice none 0 0]), 2, 32) := by kernel_rfl
def zeroV (i : Nat) : Value := if i % 2 = 0 then .bool false else .slice none 0 0
def newWhole (c : Nat) : Array Value := ((List.range (c * 2)).map zeroV).toArray
theorem newWhole_rw (w : World) (c : Nat) : RW (w.alloc (.cells (newWhole c) 50)) w.heap.size 50 (c * 2) zeroV := heap_alloc_new w _
theorem make_whole (c : Nat) (hc : c ≤ 1000000) (w : World) :
    (Instr.makeSlice 52 (.int .i64 (c : Int)) (.int .i64 (c : Int))).run Tryz.prog w = .ok (.slice (some ⟨w.heap.size, 0, none⟩) c c) (w.alloc (.cells (newWhole c) 50)) := by
  obtain ⟨i0, hi, hz0, hz1, hz2⟩ := info_parts info_whole
  have hr := run_make (P := Tryz.prog) w 52 50 i0 (.agg #[.bool false, .slice none 0 0]) Tryz.underlying52 hi hz0 .i64 .i64 (c : Int) (c : Int) (by omega) (by omega) (by rw [hz2]; omega) (by omega)
  rw [hz1] at hr
  simp only [Int.toNat_natCast] at hr
  rw [hr]
  have e : madeCells (Value.agg #[.bool false, .slice none 0 0]).cells (c * 2) = newWhole c := by
    apply Array.toList_inj.1
    unfold newWhole madeCells zeroV
    apply List.ext_getElem?
    intro j
    by_cases hj : j < c * 2
    · rcases (show j % 2 = 0 ∨ j % 2 = 1 by omega) with h | h <;> simp [hj, Value.cells, h]
    · simp [hj]
  rw [e]
/-- The cells of a row of whole numbers. -/
def wfF (b : Nat → Bool) (As : Nat → Option Addr) (ns cs : Nat → Nat) (i : Nat) : Value := if i % 2 = 0 then .bool (b (i / 2)) else .slice (As (i / 2)) (ns (i / 2)) (cs (i / 2))
def wfUp (b : Nat → Bool) (As : Nat → Option Addr) (ns cs : Nat → Nat) (k i : Nat) : Value := if i < k * 2 then wfF b As ns cs i else zeroV i
/-- A row of whole numbers in memory, of which the first k are laid: their signs and sizes. -/
def WK (w : World) (g n k N : Nat) (b : Nat → Bool) (X : Nat → Nat) : Prop := ∃ (As : Nat → Option Addr) (ns cs : Nat → Nat), RW w g 50 (n * 2) (wfUp b As ns cs k) ∧ ∀ i, i < k → ns i ≤ N ∧ NX w (As i) (ns i) (cs i) (nw (X i))
theorem WK.new (w : World) (n N : Nat) (b : Nat → Bool) (X : Nat → Nat) : WK (w.alloc (.cells (newWhole n) 50)) w.heap.size n 0 N b X :=
  ⟨fun _ => none, fun _ => 0, fun _ => 0, (newWhole_rw w n).congr fun i _ => by unfold wfUp; rw [if_neg (by omega)], fun i hi => by omega⟩
theorem WK.ext {w w' : World} {g n k N : Nat} {b : Nat → Bool} {X : Nat → Nat} (h : WK w g n k N b X) (e : Ext w w') : WK w' g n k N b X := by
  obtain ⟨As, ns, cs, h1, h2⟩ := h
  exact ⟨As, ns, cs, h1.ext e, fun i hi => ⟨(h2 i hi).1, NX.ext (h2 i hi).2 e⟩⟩
/-- Two stores into block g. -/
def set2 (w : World) (g i : Nat) (a b : Value) : World := (w.setCell ⟨g, i, none⟩ a).setCell ⟨g, i + 1, none⟩ b
theorem wf_noword {b : Nat → Bool} {As : Nat → Option Addr} {ns cs : Nat → Nat} {k i : Nat} : ∀ x : Nat, wfUp b As ns cs k i ≠ .int .u64 (x : Int) := fun x => by
  unfold wfUp wfF zeroV
  split <;> split <;> (intro h; cases h)
theorem NX.set2 {w : World} {g m i : Nat} {F : Nat → Value} {A : Option Addr} {n c : Nat} {xs : List Nat} (hr : RW w g 50 m F) (hF : ∀ j (x : Nat), F j ≠ .int .u64 (x : Int)) (hi : i + 1 < m) (h : NX w A n c xs) (u v : Value) : NX (Go.Proofs.YtbpehdfpiembfaaGreatDoor.set2 w g i u v) A n c xs := by
  have h1 := NX.off h (hr.cell (i := i) (by omega)) (hF i) u
  have h2 : (w.setCell ⟨g, i, none⟩ u).cell? ⟨g, i + 1, none⟩ = some (F (i + 1)) := by
    rw [set_far (fun e => by simp at e)]
    exact hr.cell hi
  exact NX.off h1 h2 (hF (i + 1)) v
theorem RW.keep2 {w : World} {x m : Nat} {t : TypeId} {F : Nat → Value} (h : RW w x t m F) {g : Nat} (hg : x ≠ g) (i : Nat) (a b : Value) : RW (set2 w g i a b) x t m F :=
  RW.keep (RW.keep h (Below.heap_setCell _ _ _ _ (fun e => hg (by simpa using e)))) (Below.heap_setCell _ _ _ _ (fun e => hg (by simpa using e)))
theorem Ext.keep2 {a w : World} (h : Ext a w) {g : Nat} (hg : a.heap.size ≤ g) (i : Nat) (x y : Value) : Ext a (set2 w g i x y) :=
  (h.set (p := ⟨g, i, none⟩) hg x).set (p := ⟨g, i + 1, none⟩) hg y
theorem cell2 {w : World} {g i : Nat} {p : Addr} {u v x : Value} (hp : p.block ≠ g) (hc : w.cell? p = some x) : (set2 w g i u v).cell? p = some x := by
  unfold set2
  rw [set_far (fun e => hp (by rw [← e])), set_far (fun e => hp (by rw [← e]))]
  exact hc
theorem WK.put {w : World} {g n k N m c : Nat} {A : Option Addr} {b : Nat → Bool} {X : Nat → Nat} (h : WK w g n k N b X) (hk : k < n) (hm : m ≤ N) (hx : NX w A m c (nw (X k))) : WK (set2 w g (k * 2) (.bool (b k)) (.slice A m c)) g n (k + 1) N b X := by
  obtain ⟨As, ns, cs, h1, h2⟩ := h
  refine ⟨fun j => if j = k then A else As j, fun j => if j = k then m else ns j, fun j => if j = k then c else cs j, ?_, fun i hi => ?_⟩
  · refine ((h1.set (show k * 2 < n * 2 by omega) _).set (show k * 2 + 1 < n * 2 by omega) _).congr fun i hi => ?_
    by_cases e1 : i = k * 2 + 1
    · subst e1
      rw [if_pos rfl]
      unfold wfUp wfF
      dsimp only
      rw [if_pos (by omega), if_neg (by omega), show (k * 2 + 1) / 2 = k by omega, if_pos rfl, if_pos rfl, if_pos rfl]
    · rw [if_neg e1]
      by_cases e2 : i = k * 2
      · subst e2
        rw [if_pos rfl]
        unfold wfUp wfF
        rw [if_pos (by omega), if_pos (by omega), show k * 2 / 2 = k by omega]
      · rw [if_neg e2]
        unfold wfUp wfF
        by_cases e3 : i < k * 2
        · dsimp only
          rw [if_pos e3, if_pos (show i < (k + 1) * 2 by omega), if_neg (show ¬ i / 2 = k by omega), if_neg (show ¬ i / 2 = k by omega), if_neg (show ¬ i / 2 = k by omega)]
        · rw [if_neg e3, if_neg (show ¬ i < (k + 1) * 2 by omega)]
  · dsimp only
    by_cases e : i = k
    · subst e
      rw [if_pos rfl, if_pos rfl, if_pos rfl]
      exact ⟨hm, NX.set2 h1 (fun _ => wf_noword) (by omega) hx _ _⟩
    · rw [if_neg e, if_neg e, if_neg e]
      obtain ⟨h3, h4⟩ := h2 i (by omega)
      exact ⟨h3, NX.set2 h1 (fun _ => wf_noword) (by omega) h4 _ _⟩
theorem WK.at {w : World} {g n k N : Nat} {b : Nat → Bool} {X : Nat → Nat} (h : WK w g n k N b X) {i : Nat} (hi : i < k) (hk : k ≤ n) : ∃ A m c, w.cell? ⟨g, i * 2, none⟩ = some (.bool (b i)) ∧ w.cell? ⟨g, i * 2 + 1, none⟩ = some (.slice A m c) ∧ m ≤ N ∧ NX w A m c (nw (X i)) := by
  obtain ⟨As, ns, cs, h1, h2⟩ := h
  refine ⟨As i, ns i, cs i, ?_, ?_, h2 i hi⟩
  · rw [h1.cell (by omega), wfUp, if_pos (by omega), wfF, if_pos (by omega), show i * 2 / 2 = i by omega]
  · rw [h1.cell (by omega), wfUp, if_pos (by omega), wfF, if_neg (by omega), show (i * 2 + 1) / 2 = i by omega]
/-- Parts of a row. -/
def Parts (L : Nat) (q p : Nat → Nat) : Prop := ∀ j, j < L → PartOk (prodF q j % q j) (q j) (p j)
set_option maxHeartbeats 8000000 in
theorem Wholes_any (A B : Option Addr) (L c d n : Nat) (As : Nat → Option Addr) (ns cs : Nat → Nat) (f : Nat → Nat → Nat) (q : Nat → Nat) (w : World) (hX : PX w A L c As ns cs f) (hB : FX w B L d q) (hq : Hid (∀ j, j < L → q j < 18446744073709551616)) (hT : Tabs w) (hR : RowC L q) (hC : Hid (Lsts n L ns f q)) (hn0 : 0 < n) (hn : n ≤ 1000) :
    Calls Tryz.prog 116 #[.agg #[.slice A L c], .slice B L d] w fun ee w' => ∃ (p : Nat → Nat) (g : Nat), Hid (Parts L q p) ∧ ee = .returned (.tuple #[.slice (some ⟨g, 0, none⟩) n n, .int .i64 0]) ∧ w.heap.size ≤ g ∧ WK w' g n n 1000 (fun i => cenB (jnF q p (fun j => f j i) 0 L) (prodF q L)) (fun i => cenN (jnF q p (fun j => f j i) 0 L) (prodF q L)) ∧ Ext w w' := by
  have kV : Ext w (w.alloc (.cells #[.slice A L c] 28)) := (Ext.refl w).alloc _
  have x0 := one_at w (.slice A L c) 28
  have hXV := hX.ext kV
  have HX := Lib.hid hXV
  have HB := Lib.hid (hB.ext kV)
  have HT := Lib.hid (hT.ext kV)
  have HR := Lib.hid hR
  have hL0 := hR.1
  have hL := hR.2.1
  have HQ := Lib.hid (show ∀ j, j < L → 2 ≤ q j ∧ q j < 18446744073709551616 from fun j hj => by
    have := (hR.2.2 j hj).1
    have h1 := this.1
    have h2 := this.2.1
    omega)
  obtain ⟨ad, hA, hcc⟩ := hXV.cells hL0
  have c0 := hcc 0 hL0
  rw [(hC.out 0 hL0).1] at c0
  have c0' : (w.alloc (.cells #[.slice A L c] 28)).cell? ad = some (.slice (As 0) n (cs 0)) := by simpa [Addr.add] using c0
  subst hA
  have hmk := make_whole n (by omega)
  clear hX hB hT hR hXV hcc
  have i00 : (0 : Int) < (L : Int) := by omega
  go_enter Tryz.func116, Tryz.ntmps116
  go_wp2_with fail
  generalize w.alloc (.cells #[.slice (some ad) L c] 28) = V at *
  refine (isRow_any B L d q V (by omega) HB.out hq HT.out).mono ?_
  rintro e1 w1 h1
  obtain ⟨rfl, k1⟩ := tells_yes h1 HR.out
  clear h1
  have x1 := cell_ext k1 x0
  go_wp2_with fail
  refine (areLists_yes (some ad) B L c d n As ns cs f q w1 (HX.out.ext k1) (HB.out.ext k1) (by omega) (by omega) hC).mono ?_
  rintro e2 w2 ⟨rfl, k2⟩
  replace k2 := k1.trans k2
  go_wp2_with fail
  refine (planOf_any B L d q w2 hL (HB.out.ext k2) HQ).mono ?_
  rintro e3 w3 ⟨G, p, As3, ns3, cs3, A3, n3, c3, rfl, hg, hn3, hx3, hall, k3⟩
  have HG := Lib.hid hg
  have H3 := Lib.hid hx3
  have HPO := Lib.hid (show Parts L q p from fun j hj => (hall.out j hj).2.2)
  clear hg hx3
  replace k3 := k2.trans k3
  replace x1 := cell_ext k3 x0
  replace c0 := cell_ext k3 c0
  replace c0' := cell_ext k3 c0'
  clear k1 k2
  have i0 : (0 : Int) ≤ (n : Int) := by omega
  have k4 : Ext w3 (w3.alloc (.cells #[.slice (some ⟨G, 0, none⟩) L L, .slice A3 n3 c3] 237)) := (Ext.refl w3).alloc _
  have d0 := cell_ext k4 c0
  have d0' := cell_ext k4 c0'
  have d1 := cell_ext k4 x1
  go_wp2_with fail
  have hsz4 : (w3.alloc (.cells #[.slice (some ⟨G, 0, none⟩) L L, .slice A3 n3 c3] 237)).heap.size = w3.heap.size + 1 := by simp
  have hw4 := WK.new (w3.alloc (.cells #[.slice (some ⟨G, 0, none⟩) L L, .slice A3 n3 c3] 237)) n 1000 (fun i => cenB (jnF q p (fun j => f j i) 0 L) (prodF q L)) (fun i => cenN (jnF q p (fun j => f j i) 0 L) (prodF q L))
  have hp4 : RW (w3.alloc (.cells #[.slice (some ⟨G, 0, none⟩) L L, .slice A3 n3 c3] 237)) w3.heap.size 237 2 (two (.slice (some ⟨G, 0, none⟩) L L) (.slice A3 n3 c3)) := heap_alloc_new _ _
  rw [hsz4] at hw4
  have k5 : Ext w3 ((w3.alloc (.cells #[.slice (some ⟨G, 0, none⟩) L L, .slice A3 n3 c3] 237)).alloc (.cells (newWhole n) 50)) := k4.alloc _
  replace hp4 := hp4.ext ((Ext.refl _).alloc (.cells (newWhole n) 50))
  have k35 := k3.trans k5
  have hsV : V.heap.size ≤ w3.heap.size := k3.size
  clear hmk hsz4 d0 d0' d1 k4 c0 c0' x1
  generalize (w3.alloc (.cells #[.slice (some ⟨G, 0, none⟩) L L, .slice A3 n3 c3] 237)).alloc (.cells (newWhole n) 50) = V5 at *
  have HALL := Lib.hid (show ∀ j, j < L → (ns3 j ≤ 25 ∧ NX w3 (As3 j) (ns3 j) (cs3 j) (nw (prodF q j))) ∧ 2 ≤ q j ∧ q j < 2305843009213693952 ∧ p j < q j from fun j hj => ⟨⟨(hall.out j hj).1, (hall.out j hj).2.1⟩, (HQ.out j hj).1, (HR.out.2.2 j hj).1.2.1, (hall.out j hj).2.2.1⟩)
  have HX3 := Lib.hid (HX.out.ext k3)
  have x3 := cell_ext k3 x0
  have HJ := Lib.hid (show ∀ r : Nat → Nat, jnF q p r 0 L < prodF q L from fun r => jn_lt L fun j hj => ⟨by have := (HQ.out j hj).1; omega, (hall.out j hj).2.2.1⟩)
  have kw3 := kV.trans k3
  have hsw3 := kw3.size
  obtain ⟨b, hb⟩ : ∃ b : Nat → Bool, b = (fun i => cenB (jnF q p (fun j => f j i) 0 L) (prodF q L)) := ⟨_, rfl⟩
  obtain ⟨X, hXv⟩ : ∃ X : Nat → Nat, X = (fun i => cenN (jnF q p (fun j => f j i) 0 L) (prodF q L)) := ⟨_, rfl⟩
  rw [← hb, ← hXv] at hw4
  have HBV := Lib.hid hb
  have HXV := Lib.hid hXv
  clear hall x0 HX HB kV k3 k35 hb hXv HT
  obtain ⟨g5, hg5⟩ : ∃ g5, g5 = w3.heap.size + 1 := ⟨_, rfl⟩
  rw [← hg5] at hw4 ⊢
  have hg5' : w3.heap.size < g5 := by omega
  clear hg5
  go_loopw [27] (fun iv wr => ∃ k : Nat, k ≤ n ∧ iv = .int .i64 (k : Int) ∧ WK wr g5 n k 1000 b X ∧ RW wr w3.heap.size 237 2 (two (.slice (some ⟨G, 0, none⟩) L L) (.slice A3 n3 c3)) ∧ Ext w3 wr) (fun iv _ => n - (intOf iv).toNat)
  case atStart => exact ⟨0, by omega, rfl, hw4, hp4, k5⟩
  case round =>
    obtain ⟨k, hk, rfl, hwk, hp, kr⟩ := hrel
    clear hw4 hp4 k5
    by_cases hlt : k < n
    · have i1 : (k : Int) < (n : Int) := by omega
      have i2 : (0 : Int) ≤ (k : Int) := by omega
      have ka : Ext wr (wr.alloc (.cells #[.int .i64 (k : Int)] 3)) := (Ext.refl wr).alloc _
      have y0 := one_at wr (.int .i64 (k : Int)) 3
      have hy : RW (wr.alloc (.cells #[.int .i64 (k : Int)] 3)) wr.heap.size 3 1 (fun _ => .int .i64 (k : Int)) := heap_alloc_new _ _
      have hwa := hwk.ext ka
      have hpa := hp.ext ka
      have kra := kr.trans ka
      have hsr := kr.size
      obtain ⟨Bs, Ns, Cs, hrw, hxs⟩ := hwk
      have neY : wr.heap.size ≠ g5 := by have := hrw.lt; omega
      have neP : w3.heap.size ≠ g5 := by omega
      have hrwa := hrw.ext ka
      clear hwa hp kr
      go_wp2_with fail
      generalize wr.alloc (.cells #[.int .i64 (k : Int)] 3) = W at *
      obtain ⟨Y, hY⟩ : ∃ Y, Y = wr.heap.size := ⟨_, rfl⟩
      rw [← hY] at y0 hy neY ⊢
      clear hY hrw
      have p0 : W.cell? ⟨w3.heap.size, 0, none⟩ = some (.slice (some ⟨G, 0, none⟩) L L) := hpa.cell (i := 0) (by omega)
      have p1 : W.cell? ⟨w3.heap.size, 1, none⟩ = some (.slice A3 n3 c3) := hpa.cell (i := 1) (by omega)
      have ne1 : (Y = g5) = False := by simp; exact neY
      have ne2 : (g5 = Y) = False := by simp; exact fun e => neY e.symm
      have ne3 : (w3.heap.size = g5) = False := by simp; exact neP
      have ne4 : (g5 = w3.heap.size) = False := by simp; exact fun e => neP e.symm
      have HC := Lib.hid (show Lsts n L ns f q from hC.out)
      have kk : Ext W W := Ext.refl W
      go_region_held3 (fun w' => w'.cell? ⟨Y, 0, none⟩ = some (.int .i64 (k : Int)) ∧ w'.cell? ⟨w3.heap.size, 0, none⟩ = some (.slice (some ⟨G, 0, none⟩) L L) ∧ w'.cell? ⟨w3.heap.size, 1, none⟩ = some (.slice A3 n3 c3)) (go_keep)
        (first
          | (go_at_call 178; refine (wholeS_any w.heap.size Y G L n3 c3 A3 q p (fun j => f j k) As3 ns3 cs3 _ hL (HG.out.ext (kra.trans (Ext.drew kk))) hn3 (NX.ext H3.out (kra.trans (Ext.drew kk))) (Lib.hid fun j hj => ⟨⟨(HALL.out j hj).1.1, NX.ext (HALL.out j hj).1.2 (kra.trans (Ext.drew kk))⟩, (HALL.out j hj).2.1, (HALL.out j hj).2.2.1, (HALL.out j hj).2.2.2, (HC.out j hj).2 k hlt⟩) (HJ.out _) (Lib.hid (readS_any w.heap.size Y L c n k (some ad) As ns cs f _ (cell_ext (kra.trans (Ext.drew kk)) x3) (cell_ext (Ext.drew kk) y0) (HX3.out.ext (kra.trans (Ext.drew kk))) (fun j hj => (HC.out j hj).1) hlt (by omega) (by omega)))).mono ?_; rintro e5 w5 ⟨A5, n5, c5, rfl, hn5, hx5, k5⟩; replace kk : Ext W w5 := (Ext.trans (Ext.drew kk) k5); have z0 := cell_ext kk y0; have z1 := cell_ext kk p0; have z2 := cell_ext kk p1; have r5 := hrwa.ext kk; have c50 := r5.cell (i := k * 2) (by omega); have c51 := r5.cell (i := k * 2 + 1) (by omega); have f50 := r5.frozen (k * 2); have f51 := r5.frozen (k * 2 + 1); have s5 := r5.lt)
          | fail)
      all_goals
        have hw6 : (w5.setCell ⟨g5, k * 2, none⟩ (.bool (cenB (jnF q p (fun j => f j k) 0 L) (prodF q L)))).setCell ⟨g5, k * 2 + 1, none⟩ (.slice A5 n5 c5) = set2 w5 g5 (k * 2) (.bool (cenB (jnF q p (fun j => f j k) 0 L) (prodF q L))) (.slice A5 n5 c5) := rfl
        have hbk : cenB (jnF q p (fun j => f j k) 0 L) (prodF q L) = b k := by rw [HBV.out]
        rw [hw6, hbk]
        have kx := ka.trans kk
        have hput : WK (set2 w5 g5 (k * 2) (.bool (b k)) (.slice A5 n5 c5)) g5 n (k + 1) 1000 b X := WK.put ⟨Bs, Ns, Cs, r5, fun i hi => ⟨(hxs i hi).1, NX.ext (hxs i hi).2 kx⟩⟩ hlt hn5 (by rw [HXV.out]; exact hx5)
        have hp6 := (hpa.ext kk).keep2 neP (k * 2) (.bool (b k)) (.slice A5 n5 c5)
        have k6 := (kra.trans kk).keep2 (g := g5) (by omega) (k * 2) (.bool (b k)) (.slice A5 n5 c5)
        generalize set2 w5 g5 (k * 2) (.bool (b k)) (.slice A5 n5 c5) = w6 at *
        clear z0 z1 z2 c50 c51 f50 f51 s5 hw6 hbk r5 hxs hrwa hpa p0 p1 y0 hy
        go_wp2
        exact ⟨⟨k + 1, by omega, by go_num, hput, hp6, k6⟩, by simp [intOf]; omega⟩
    · obtain rfl : k = n := by omega
      have HW := Lib.hid hwk
      clear hwk
      go_wp2
      go_ret2
      exact ⟨p, g5, HPO, rfl, by omega, by rw [← HBV.out, ← HXV.out]; exact HW.out, kw3.trans kr⟩
end Go.Proofs.YtbpehdfpiembfaaGreatDoor
