/-
  The pieces of an element: for each prime the element that is the same modulo it, and 0 modulo all others.
-/
import Derived.Test.YtbpehdfpiembfaaGreatDoorZ41
import Derived.Test.YtbpehdfpiembfaaGreatDoorZ42
import Derived.Laws.CopyOwn
namespace Go.Proofs.YtbpehdfpiembfaaGreatDoor
open Go.RowKit
set_option linter.unusedVariables false
set_option maxRecDepth 100000

theorem wpList_copyAll {w : World} {ops : Array Oper} {rest : List Oper} {o : Oper} {a : Act} {Q : Exit → Act → World → Prop} (hgd : o.guard = none) (d s : Operand)
    (ho : o.op = .call { callee := .builtin .copy, args := #[d, s], argTypes := #[23, 23] }) (g n c : Nat) (A : Option Addr) (F0 F : Nat → Nat) (hu : UW w g n F0) (hX : FX w A n c F) (hn : 0 < n)
    (hd : a.eval d = .slice (some ⟨g, 0, none⟩) n n) (hs : a.eval s = .slice A n c)
    (h : ∀ w', UW w' g n F → OnB g w w' → wpList Tryz.prog ops Q rest (a.put o.dst (goInt n)) w') : wpList Tryz.prog ops Q (o :: rest) a w := by
  obtain ⟨ad, rfl, hc⟩ := hX.cells hn
  have hlen : ((List.range n).map (fun i => Value.int .u64 (F i : Int))).length = n := by simp
  refine wpList_copy_own hgd d s 23 23 ho 22 Tryz.underlying23 (by kernel_rfl) g 0 n n ad n c hd hs _ 22 hu ((List.range n).map (fun i => Value.int .u64 (F i : Int))) (by rw [hlen]; exact (Nat.min_self n).symm) (fun j v hv => ?_) (by simp) (fun v hv => ?_) ?_
  · by_cases hj : j < n
    · rw [List.getElem?_map, List.getElem?_range hj] at hv
      simp only [Option.map_some, Option.some.injEq] at hv
      rw [← hv]
      exact hc j hj
    · rw [List.getElem?_eq_none (by simp; omega)] at hv
      cases hv
  · obtain ⟨j, _, rfl⟩ := List.mem_map.1 hv
    rfl
  · have e : (List.take 0 ((List.range n).map (fun i => Value.int .u64 (F0 i : Int))).toArray.toList ++ ((List.range n).map (fun i => Value.int .u64 (F i : Int)) ++ List.drop (0 + ((List.range n).map (fun i => Value.int .u64 (F i : Int))).length) ((List.range n).map (fun i => Value.int .u64 (F0 i : Int))).toArray.toList)) = (List.range n).map (fun i => Value.int .u64 (F i : Int)) := by
      rw [hlen]
      simp
    rw [hlen] at *
    rw [e]
    refine h _ (setRow_heap w g _ _ _ _ hu) ⟨rfl, rfl, rfl, by simp, fun k hk hne => setRow_other w g k _ (fun e2 => hne (by rw [e2]))⟩
theorem make_poly (c : Nat) (hc : c ≤ 1000000) (w : World) :
    (Instr.makeSlice 43 (.int .i64 (c : Int)) (.int .i64 (c : Int))).run Tryz.prog w = .ok (.slice (some ⟨w.heap.size, 0, none⟩) c c) (w.alloc (.cells (newS c) 28)) := by
  obtain ⟨i0, hi, hz0, hz1, hz2⟩ := info_parts info_poly
  have hr := run_make (P := Tryz.prog) w 43 28 i0 (.agg #[.slice none 0 0]) Tryz.underlying43 hi hz0 .i64 .i64 (c : Int) (c : Int) (by omega) (by omega) (by rw [hz2]; omega) (by omega)
  rw [hz1] at hr
  simp only [Int.toNat_natCast] at hr
  rw [hr]
  have e : madeCells (Value.agg #[.slice none 0 0]).cells (c * 1) = newS c := by
    apply Array.toList_inj.1
    unfold newS madeCells
    apply List.ext_getElem?
    intro j
    by_cases hj : j < c
    · simp [hj, Value.cells, Nat.mod_one]
    · simp [hj]
  rw [e]
theorem newP_rw (w : World) (c : Nat) : RW (w.alloc (.cells (newS c) 28)) w.heap.size 28 c (fun _ => .slice none 0 0) := heap_alloc_new w _
theorem Own.onB {w0 w w' : World} {G L n g : Nat} {gs : Nat → Nat} {F : Nat → Nat → Nat} (h : Own w0 w G L n gs F) (ho : OnB g w w') (hG : G ≠ g) (hg : ∀ j, j < L → gs j ≠ g) : Own w0 w' G L n gs F :=
  ⟨ho.rw_ h.row hG, fun j hj => ho.rw_ (h.lists j hj) (hg j hj), h.new, h.apart⟩
theorem Own.base {w0 w1 w : World} {G L n : Nat} {gs : Nat → Nat} {F : Nat → Nat → Nat} (h : Own w1 w G L n gs F) (k : w0.heap.size ≤ w1.heap.size) : Own w0 w G L n gs F := ⟨h.row, h.lists, fun j hj => Nat.le_trans k (h.new j hj), h.apart⟩
/-- A piece. -/
def pieceF (F : Nat → Nat → Nat) (i j : Nat) : Nat → Nat := if j = i then F i else fun _ => 0
/-- Pieces, so far k of them. -/
def PiecesAt (w0 w : World) (P L n k : Nat) (Gs : Nat → Nat) (gs : Nat → Nat → Nat) (F : Nat → Nat → Nat) : Prop :=
  RW w P 28 L (fun i => if i < k then .slice (some ⟨Gs i, 0, none⟩) L L else .slice none 0 0) ∧ ∀ i, i < k → Own w0 w (Gs i) L n (gs i) (pieceF F i)
set_option maxHeartbeats 8000000 in
theorem pieces_any (n T L c : Nat) (Wd : Int) (A : Option Addr) (r b : Option Addr) (S : Option Addr) (Sl Sc : Nat) (t : Option Addr) (B : Option Addr) (bc : Nat) (Bs : Nat → Option Addr) (cs : Nat → Nat) (F : Nat → Nat → Nat) (w : World) (hn0 : 0 < n) (hn : n ≤ 1000) (hL : L ≤ 1000) (hT : T < 18446744073709551616) (hX : PX w B L bc Bs (fun _ => n) cs F) :
    Calls Tryz.prog 207 #[.agg #[.int .i64 (n : Int), .int .u64 (T : Int), .slice A L c, .int .i64 Wd, .pointer r, .pointer b, .slice S Sl Sc, .pointer t], .agg #[.slice B L bc]] w fun ee w' => ∃ (P : Nat) (Gs : Nat → Nat) (gs : Nat → Nat → Nat), ee = .returned (.slice (some ⟨P, 0, none⟩) L L) ∧ PiecesAt w w' P L n L Gs gs F ∧ Ext w w' := by
  have hmk := make_poly L (by omega)
  have HX := Lib.hid hX
  clear hX
  have k1 : Ext w ((w.alloc (.cells #[.int .i64 (n : Int), .int .u64 (T : Int), .slice A L c, .int .i64 Wd, .pointer r, .pointer b, .slice S Sl Sc, .pointer t] 151)).alloc (.cells #[.slice B L bc] 28)) := ((Ext.refl w).alloc _).alloc _
  have kd : Ext (w.alloc (.cells #[.int .i64 (n : Int), .int .u64 (T : Int), .slice A L c, .int .i64 Wd, .pointer r, .pointer b, .slice S Sl Sc, .pointer t] 151)) ((w.alloc (.cells #[.int .i64 (n : Int), .int .u64 (T : Int), .slice A L c, .int .i64 Wd, .pointer r, .pointer b, .slice S Sl Sc, .pointer t] 151)).alloc (.cells #[.slice B L bc] 28)) := (Ext.refl _).alloc _
  have x0 : (w.alloc (.cells #[.int .i64 (n : Int), .int .u64 (T : Int), .slice A L c, .int .i64 Wd, .pointer r, .pointer b, .slice S Sl Sc, .pointer t] 151)).cell? ⟨w.heap.size, 0, none⟩ = some (.int .i64 (n : Int)) := by simp
  have x1 : (w.alloc (.cells #[.int .i64 (n : Int), .int .u64 (T : Int), .slice A L c, .int .i64 Wd, .pointer r, .pointer b, .slice S Sl Sc, .pointer t] 151)).cell? ⟨w.heap.size, 1, none⟩ = some (.int .u64 (T : Int)) := by simp
  have x2 : (w.alloc (.cells #[.int .i64 (n : Int), .int .u64 (T : Int), .slice A L c, .int .i64 Wd, .pointer r, .pointer b, .slice S Sl Sc, .pointer t] 151)).cell? ⟨w.heap.size, 2, none⟩ = some (.slice A L c) := by simp
  have x3 : (w.alloc (.cells #[.int .i64 (n : Int), .int .u64 (T : Int), .slice A L c, .int .i64 Wd, .pointer r, .pointer b, .slice S Sl Sc, .pointer t] 151)).cell? ⟨w.heap.size, 3, none⟩ = some (.int .i64 Wd) := by simp
  have x4 : (w.alloc (.cells #[.int .i64 (n : Int), .int .u64 (T : Int), .slice A L c, .int .i64 Wd, .pointer r, .pointer b, .slice S Sl Sc, .pointer t] 151)).cell? ⟨w.heap.size, 4, none⟩ = some (.pointer r) := by simp
  have x5 : (w.alloc (.cells #[.int .i64 (n : Int), .int .u64 (T : Int), .slice A L c, .int .i64 Wd, .pointer r, .pointer b, .slice S Sl Sc, .pointer t] 151)).cell? ⟨w.heap.size, 5, none⟩ = some (.pointer b) := by simp
  have x6 : (w.alloc (.cells #[.int .i64 (n : Int), .int .u64 (T : Int), .slice A L c, .int .i64 Wd, .pointer r, .pointer b, .slice S Sl Sc, .pointer t] 151)).cell? ⟨w.heap.size, 6, none⟩ = some (.slice S Sl Sc) := by simp
  have x7 : (w.alloc (.cells #[.int .i64 (n : Int), .int .u64 (T : Int), .slice A L c, .int .i64 Wd, .pointer r, .pointer b, .slice S Sl Sc, .pointer t] 151)).cell? ⟨w.heap.size, 7, none⟩ = some (.pointer t) := by simp
  replace x0 := cell_ext kd x0
  replace x1 := cell_ext kd x1
  replace x2 := cell_ext kd x2
  replace x3 := cell_ext kd x3
  replace x4 := cell_ext kd x4
  replace x5 := cell_ext kd x5
  replace x6 := cell_ext kd x6
  replace x7 := cell_ext kd x7
  have xf := one_at (w.alloc (.cells #[.int .i64 (n : Int), .int .u64 (T : Int), .slice A L c, .int .i64 Wd, .pointer r, .pointer b, .slice S Sl Sc, .pointer t] 151)) (.slice B L bc) 28
  rw [show (w.alloc (.cells #[.int .i64 (n : Int), .int .u64 (T : Int), .slice A L c, .int .i64 Wd, .pointer r, .pointer b, .slice S Sl Sc, .pointer t] 151)).heap.size = w.heap.size + 1 by simp] at xf
  have hVs : ((w.alloc (.cells #[.int .i64 (n : Int), .int .u64 (T : Int), .slice A L c, .int .i64 Wd, .pointer r, .pointer b, .slice S Sl Sc, .pointer t] 151)).alloc (.cells #[.slice B L bc] 28)).heap.size = w.heap.size + 1 + 1 := by simp
  clear kd
  go_enter Tryz.func207, Tryz.ntmps207
  go_wp2
  clear hmk
  have hls := newP_rw ((w.alloc (.cells #[.int .i64 (n : Int), .int .u64 (T : Int), .slice A L c, .int .i64 Wd, .pointer r, .pointer b, .slice S Sl Sc, .pointer t] 151)).alloc (.cells #[.slice B L bc] 28)) L
  have kB : Ext ((w.alloc (.cells #[.int .i64 (n : Int), .int .u64 (T : Int), .slice A L c, .int .i64 Wd, .pointer r, .pointer b, .slice S Sl Sc, .pointer t] 151)).alloc (.cells #[.slice B L bc] 28)) (((w.alloc (.cells #[.int .i64 (n : Int), .int .u64 (T : Int), .slice A L c, .int .i64 Wd, .pointer r, .pointer b, .slice S Sl Sc, .pointer t] 151)).alloc (.cells #[.slice B L bc] 28)).alloc (.cells (newS L) 28)) := (Ext.refl _).alloc _
  generalize ((w.alloc (.cells #[.int .i64 (n : Int), .int .u64 (T : Int), .slice A L c, .int .i64 Wd, .pointer r, .pointer b, .slice S Sl Sc, .pointer t] 151)).alloc (.cells #[.slice B L bc] 28)) = V at *
  rw [hVs] at hls
  generalize V.alloc (.cells (newS L) 28) = V2 at *
  obtain ⟨P, hP⟩ : ∃ P, P = w.heap.size + 1 + 1 := ⟨_, rfl⟩
  rw [← hP] at hls ⊢
  have hPV : V.heap.size ≤ P := by omega
  clear hP hVs
  go_loopw [15] (fun iv wr => ∃ (k : Nat) (Gs : Nat → Nat) (gs : Nat → Nat → Nat), k ≤ L ∧ iv = .int .i64 (k : Int) ∧ PiecesAt V wr P L n k Gs gs F ∧ Ext V wr) (fun iv _ => L - (intOf iv).toNat)
  case atStart => exact ⟨0, fun _ => 0, fun _ _ => 0, by omega, rfl, ⟨hls.congr fun i _ => by rw [if_neg (by omega)], fun i hi => absurd hi (by omega)⟩, kB⟩
  case round =>
    obtain ⟨k, Gs, gs, hk, rfl, hpc, kr⟩ := hrel
    have HPC := Lib.hid hpc
    clear hpc hls kB
    by_cases hlt : k < L
    · have hXr := HX.out.ext (k1.trans kr)
      obtain ⟨ad, rfl, hc⟩ := hXr.cells (by omega)
      have hck := hc k hlt
      have HFX := Lib.hid (hXr.rows k hlt)
      clear hc hXr
      have y0 := cell_ext kr x0
      have y1 := cell_ext kr x1
      have y2 := cell_ext kr x2
      have y3 := cell_ext kr x3
      have y4 := cell_ext kr x4
      have y5 := cell_ext kr x5
      have y6 := cell_ext kr x6
      have y7 := cell_ext kr x7
      have i0 : (0 : Int) ≤ (k : Int) := by omega
      have i1 : (k : Int) < (L : Int) := by omega
      go_wp2_with fail
      refine (nought_any n T L c Wd A r b S Sl Sc t wr hn hL hT).mono ?_
      rintro ee w5 ⟨G, g2, rfl, hown, hG, k5⟩
      have hrw := RW.ext HPC.out.1 k5
      have c0 := hrw.cell (i := k) (by omega)
      simp only [Nat.lt_irrefl, if_false] at c0
      have f0 := hrw.frozen k
      have hsz := hrw.lt
      have HRW := Lib.hid hrw
      have HOWN := Lib.hid hown
      have HFX5 := Lib.hid (HFX.out.ext k5)
      have kz := kr.trans k5
      have hno : RW (w5.setCell ⟨P, k, none⟩ (.slice (some ⟨G, 0, none⟩) L L)) G 23 L (fun j => .slice (some ⟨g2 j, 0, none⟩) n n) := RW.aside hown.row hrw (by decide) k _
      have hrow := hno.cell (i := k) hlt
      have hul : UW (w5.setCell ⟨P, k, none⟩ (.slice (some ⟨G, 0, none⟩) L L)) (g2 k) n (fun _ => 0) := RW.aside (hown.lists k hlt) hrw (by decide) k _
      have HUL := Lib.hid hul
      have hset : RW (w5.setCell ⟨P, k, none⟩ (.slice (some ⟨G, 0, none⟩) L L)) P 28 L _ := hrw.set hlt (.slice (some ⟨G, 0, none⟩) L L)
      have hcP := hset.cell (i := k) hlt
      rw [if_pos rfl] at hcP
      have HSET := Lib.hid hset
      have HFX6 := Lib.hid (HFX5.out.aside c0 (.slice (some ⟨G, 0, none⟩) L L))
      clear hrw hown hul hset hno x0 x1 x2 x3 x4 x5 x6 x7
      go_wp2_with (with_reducible refine wpList_copyAll rfl _ _ rfl (g2 k) n _ _ _ _ HUL.out HFX6.out hn0 rfl rfl ?_; intro w7 hu7 ho7)
      have hkr := kr.size
      have hne : P ≠ g2 k := RW.ne HSET.out HUL.out (by decide)
      have hnew := HOWN.out.new
      have k6 : Ext V (w5.setCell ⟨P, k, none⟩ (.slice (some ⟨G, 0, none⟩) L L)) := kz.set (p := ⟨P, k, none⟩) hPV _
      have k7 : Ext V w7 := Ext.onB k6 ho7 (Nat.le_trans hkr (hnew k hlt))
      have hrow7 := ho7.rw_ HSET.out hne
      have own6 : ∀ {w1 : World} {G' : Nat} {g' : Nat → Nat} {F' : Nat → Nat → Nat}, Own w1 w5 G' L n g' F' → Own w1 (w5.setCell ⟨P, k, none⟩ (.slice (some ⟨G, 0, none⟩) L L)) G' L n g' F' := fun h => ⟨RW.aside h.row HRW.out (by decide) k _, fun j hj => RW.aside (h.lists j hj) HRW.out (by decide) k _, h.new, h.apart⟩
      refine ⟨⟨k + 1, fun i => if i = k then G else Gs i, fun i => if i = k then g2 else gs i, by omega, by go_num, ⟨RW.congr hrow7 fun j hj => ?_, fun i hi => ?_⟩, k7⟩, by simp [intOf]; omega⟩
      · dsimp only
        by_cases h1 : j = k
        · subst h1; rw [if_pos rfl, if_pos (by omega), if_pos rfl]
        · rw [if_neg h1]
          by_cases h2 : j < k
          · rw [if_pos h2, if_pos (by omega), if_neg h1]
          · rw [if_neg h2, if_neg (by omega)]
      · by_cases h1 : i = k
        · subst h1
          simp only [if_true]
          have h6 := own6 HOWN.out
          refine ⟨ho7.rw_ h6.row (RW.ne h6.row HUL.out (by decide)), fun j hj => ?_, fun j hj => Nat.le_trans hkr (h6.new j hj), h6.apart⟩
          unfold pieceF
          by_cases h2 : j = i
          · subst h2
            rw [if_pos rfl]
            exact hu7
          · rw [if_neg h2]
            refine ho7.rw_ (h6.lists j hj) (fun e => ?_)
            rcases Nat.lt_or_ge j i with h3 | h3
            · have := h6.apart i hlt j h3; omega
            · have := h6.apart j hj i (by omega); omega
        · simp only [if_neg h1]
          have h0 := HPC.out.2 i (by omega)
          have h6 := own6 (h0.ext k5)
          refine Own.onB h6 ho7 (RW.ne h6.row HUL.out (by decide)) (fun j hj e => ?_)
          have h3 := RW.lt (h0.lists j hj)
          have h4 := hnew k hlt
          omega
    · obtain rfl : k = L := by omega
      have kW := k1.trans kr
      have hP : PiecesAt w wr P k n k Gs gs F := ⟨HPC.out.1, fun i hi => (HPC.out.2 i hi).base k1.size⟩
      have HP := Lib.hid hP
      clear hP HPC
      go_wp2
      go_ret
      exact ⟨P, Gs, gs, rfl, HP.out, kW⟩
end Go.Proofs.YtbpehdfpiembfaaGreatDoor
