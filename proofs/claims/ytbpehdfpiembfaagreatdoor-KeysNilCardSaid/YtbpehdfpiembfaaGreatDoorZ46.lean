/-
  Without a tape nothing is drawn: what hides, switches and keys answer then.
-/
import Derived.Test.YtbpehdfpiembfaaGreatDoorZYPie
import Derived.Test.YtbpehdfpiembfaaGreatDoorZ45
import Derived.Test.YtbpehdfpiembfaaGreatDoorZ27
namespace Go.Proofs.YtbpehdfpiembfaaGreatDoor
open Go.RowKit
set_option linter.unusedVariables false
set_option maxRecDepth 100000

set_option maxHeartbeats 4000000 in
theorem hideNil_any (n T L c : Nat) (Wd : Int) (A : Option Addr) (r b : Option Addr) (S : Option Addr) (Sl Sc : Nat) (H : Option Addr) (Hl Hc : Nat) (w : World) (hn : n ≤ 1000) (hT : T < 18446744073709551616) :
    Calls Tryz.prog 89 #[.agg #[.int .i64 (n : Int), .int .u64 (T : Int), .slice A L c, .int .i64 Wd, .pointer r, .pointer b, .slice S Sl Sc, .pointer none], .agg #[.slice H Hl Hc]] w fun ee w' => ee = .returned (.tuple #[.agg #[.slice none 0 0, .slice none 0 0], .int .i64 1]) ∧ Ext w w' := by
  have k0 : Ext w (((w.alloc (.cells #[.int .i64 (n : Int), .int .u64 (T : Int), .slice A L c, .int .i64 Wd, .pointer r, .pointer b, .slice S Sl Sc, .pointer none] 151)).alloc (.cells #[.slice H Hl Hc] 28)).alloc (.cells #[.slice none 0 0, .slice none 0 0] 155)) := (((Ext.refl w).alloc _).alloc _).alloc _
  have k2 : Ext (w.alloc (.cells #[.int .i64 (n : Int), .int .u64 (T : Int), .slice A L c, .int .i64 Wd, .pointer r, .pointer b, .slice S Sl Sc, .pointer none] 151)) (((w.alloc (.cells #[.int .i64 (n : Int), .int .u64 (T : Int), .slice A L c, .int .i64 Wd, .pointer r, .pointer b, .slice S Sl Sc, .pointer none] 151)).alloc (.cells #[.slice H Hl Hc] 28)).alloc (.cells #[.slice none 0 0, .slice none 0 0] 155)) := ((Ext.refl _).alloc _).alloc _
  have x0 : (w.alloc (.cells #[.int .i64 (n : Int), .int .u64 (T : Int), .slice A L c, .int .i64 Wd, .pointer r, .pointer b, .slice S Sl Sc, .pointer none] 151)).cell? ⟨w.heap.size, 0, none⟩ = some (.int .i64 (n : Int)) := by simp
  have x2 : (w.alloc (.cells #[.int .i64 (n : Int), .int .u64 (T : Int), .slice A L c, .int .i64 Wd, .pointer r, .pointer b, .slice S Sl Sc, .pointer none] 151)).cell? ⟨w.heap.size, 2, none⟩ = some (.slice A L c) := by simp
  have x7 : (w.alloc (.cells #[.int .i64 (n : Int), .int .u64 (T : Int), .slice A L c, .int .i64 Wd, .pointer r, .pointer b, .slice S Sl Sc, .pointer none] 151)).cell? ⟨w.heap.size, 7, none⟩ = some (.pointer none) := by simp
  replace x0 := cell_ext k2 x0
  replace x2 := cell_ext k2 x2
  replace x7 := cell_ext k2 x7
  have hr : RW (((w.alloc (.cells #[.int .i64 (n : Int), .int .u64 (T : Int), .slice A L c, .int .i64 Wd, .pointer r, .pointer b, .slice S Sl Sc, .pointer none] 151)).alloc (.cells #[.slice H Hl Hc] 28)).alloc (.cells #[.slice none 0 0, .slice none 0 0] 155)) (w.heap.size + 1 + 1) 155 2 (fun _ => .slice none 0 0) := by
    have : RW (((w.alloc (.cells #[.int .i64 (n : Int), .int .u64 (T : Int), .slice A L c, .int .i64 Wd, .pointer r, .pointer b, .slice S Sl Sc, .pointer none] 151)).alloc (.cells #[.slice H Hl Hc] 28)).alloc (.cells #[.slice none 0 0, .slice none 0 0] 155)) ((w.alloc (.cells #[.int .i64 (n : Int), .int .u64 (T : Int), .slice A L c, .int .i64 Wd, .pointer r, .pointer b, .slice S Sl Sc, .pointer none] 151)).alloc (.cells #[.slice H Hl Hc] 28)).heap.size 155 2 (fun _ => .slice none 0 0) := heap_alloc_new _ _
    rwa [show ((w.alloc (.cells #[.int .i64 (n : Int), .int .u64 (T : Int), .slice A L c, .int .i64 Wd, .pointer r, .pointer b, .slice S Sl Sc, .pointer none] 151)).alloc (.cells #[.slice H Hl Hc] 28)).heap.size = w.heap.size + 1 + 1 by simp] at this
  go_enter Tryz.func89, Tryz.ntmps89
  go_wp2_with fail
  generalize (((w.alloc (.cells #[.int .i64 (n : Int), .int .u64 (T : Int), .slice A L c, .int .i64 Wd, .pointer r, .pointer b, .slice S Sl Sc, .pointer none] 151)).alloc (.cells #[.slice H Hl Hc] 28)).alloc (.cells #[.slice none 0 0, .slice none 0 0] 155)) = V at *
  refine (uniform_nil (n : Int) A L c V (by omega) (by omega)).mono ?_
  rintro ee V1 ⟨rfl, k1⟩
  replace hr := hr.ext k1
  replace k0 := k0.trans k1
  clear k1 k2 x0 x2 x7
  have c0 := hr.cell (i := 0) (by omega)
  have c1 := hr.cell (i := 1) (by omega)
  have z0 := hr.frozen 0
  have z1 := hr.frozen 1
  have hsz := hr.lt
  have HR := Lib.hid hr
  have K0 := Lib.hid k0
  clear hr k0
  go_wp2_with fail
  have hs := RW.ext ((HR.out.set (show 0 < 2 by omega) (.slice none 0 0)).set (show 1 < 2 by omega) (.slice none 0 0)) ((Ext.refl _).alloc (.cells #[.slice none 0 0] 28))
  have d0 := hs.cell (i := 0) (by omega)
  have d1 := hs.cell (i := 1) (by omega)
  have hk := ((K0.out.set (p := ⟨w.heap.size + 1 + 1, 0, none⟩) (by show w.heap.size ≤ w.heap.size + 1 + 1; omega) (.slice none 0 0)).set (p := ⟨w.heap.size + 1 + 1, 1, none⟩) (by show w.heap.size ≤ w.heap.size + 1 + 1; omega) (.slice none 0 0)).alloc (.cells #[.slice none 0 0] 28)
  generalize ((V1.setCell ⟨w.heap.size + 1 + 1, 0, none⟩ (.slice none 0 0)).setCell ⟨w.heap.size + 1 + 1, 1, none⟩ (.slice none 0 0)).alloc (.cells #[.slice none 0 0] 28) = w9 at *
  simp only [if_true] at d0 d1
  clear hs c0 c1 z0 z1
  exact bodyPost_ret (v := .tuple #[.agg #[.slice none 0 0, .slice none 0 0], .int .i64 1]) (by simp [results, Tryz.results89, go_sem, d0, d1]) rfl ⟨rfl, hk⟩
set_option maxHeartbeats 4000000 in
theorem eachNil_any (n T L c : Nat) (Wd : Int) (A : Option Addr) (r b : Option Addr) (S : Option Addr) (Sl Sc : Nat) (P m : Nat) (Gs : Nat → Nat) (K : Nat) (w : World) (hn : n ≤ 1000) (hT : T < 18446744073709551616) (hP : RW w P 28 (m + 1) (fun i => .slice (some ⟨Gs i, 0, none⟩) K K)) :
    Calls Tryz.prog 206 #[.func (.func 89) #[.agg #[.int .i64 (n : Int), .int .u64 (T : Int), .slice A L c, .int .i64 Wd, .pointer r, .pointer b, .slice S Sl Sc, .pointer none]] #[], .slice (some ⟨P, 0, none⟩) (m + 1) (m + 1)] w fun ee w' => ee = .returned (.tuple #[.slice none 0 0, .int .i64 1]) ∧ Ext w w' := by
  have c0 := hP.cell (i := 0) (by omega)
  have i1 : (0 : Int) < ((m + 1 : Nat) : Int) := by omega
  have i2 : (0 : Int) < (m : Int) + 1 := by omega
  go_enter Tryz.func206, Tryz.ntmps206
  go_wp2
  go_loopw [13] (fun iv wr => iv = .int .i64 0 ∧ wr = w) (fun _ _ => 0)
  case atStart => exact ⟨rfl, rfl⟩
  case round =>
    obtain ⟨rfl, rfl⟩ := hrel
    go_wp2_with fail
    refine (hideNil_any n T L c Wd A r b S Sl Sc (some ⟨Gs 0, 0, none⟩) K K _ hn hT).mono ?_
    rintro ee w5 ⟨rfl, k5⟩
    have kk := ((Ext.refl wr).alloc (.cells #[.slice (some ⟨Gs 0, 0, none⟩) K K] 28)).trans k5
    have KK := Lib.hid (kk.alloc (.cells #[.slice none 0 0, .slice none 0 0] 155))
    clear kk k5
    go_wp2
    go_ret2
    exact ⟨rfl, KK.out⟩
end Go.Proofs.YtbpehdfpiembfaaGreatDoor

/-
  Without a tape no switch is drawn.
-/
namespace Go.Proofs.YtbpehdfpiembfaaGreatDoor
open Go.RowKit
set_option linter.unusedVariables false
set_option maxRecDepth 100000

set_option maxHeartbeats 8000000 in
theorem switchNil_any (n T L m c : Nat) (Wd : Int) (A : Option Addr) (r b : Option Addr) (S : Option Addr) (Sl Sc : Nat) (B : Option Addr) (bc : Nat) (Bs : Nat → Option Addr) (cs : Nat → Nat) (F : Nat → Nat → Nat) (w : World) (hn0 : 0 < n) (hn : n ≤ 1000) (HLM : Hid (L = m + 1)) (hm : L ≤ 1000) (hT : T < 18446744073709551616) (hX : PX w B L bc Bs (fun _ => n) cs F) :
    Calls Tryz.prog 148 #[.agg #[.int .i64 (n : Int), .int .u64 (T : Int), .slice A L c, .int .i64 Wd, .pointer r, .pointer b, .slice S Sl Sc, .pointer none], .agg #[.slice B L bc]] w fun ee w' => ee = .returned (.tuple #[.agg #[.slice none 0 0, .slice none 0 0], .int .i64 1]) ∧ Ext w w' := by
  have HX := Lib.hid hX
  clear hX
  have k0 : Ext w (((w.alloc (.cells #[.int .i64 (n : Int), .int .u64 (T : Int), .slice A L c, .int .i64 Wd, .pointer r, .pointer b, .slice S Sl Sc, .pointer none] 151)).alloc (.cells #[.slice B L bc] 28)).alloc (.cells #[.slice none 0 0, .slice none 0 0] 83)) := (((Ext.refl w).alloc _).alloc _).alloc _
  have k2 : Ext (w.alloc (.cells #[.int .i64 (n : Int), .int .u64 (T : Int), .slice A L c, .int .i64 Wd, .pointer r, .pointer b, .slice S Sl Sc, .pointer none] 151)) (((w.alloc (.cells #[.int .i64 (n : Int), .int .u64 (T : Int), .slice A L c, .int .i64 Wd, .pointer r, .pointer b, .slice S Sl Sc, .pointer none] 151)).alloc (.cells #[.slice B L bc] 28)).alloc (.cells #[.slice none 0 0, .slice none 0 0] 83)) := ((Ext.refl _).alloc _).alloc _
  have k3 : Ext ((w.alloc (.cells #[.int .i64 (n : Int), .int .u64 (T : Int), .slice A L c, .int .i64 Wd, .pointer r, .pointer b, .slice S Sl Sc, .pointer none] 151)).alloc (.cells #[.slice B L bc] 28)) (((w.alloc (.cells #[.int .i64 (n : Int), .int .u64 (T : Int), .slice A L c, .int .i64 Wd, .pointer r, .pointer b, .slice S Sl Sc, .pointer none] 151)).alloc (.cells #[.slice B L bc] 28)).alloc (.cells #[.slice none 0 0, .slice none 0 0] 83)) := (Ext.refl _).alloc _
  have x0 : (w.alloc (.cells #[.int .i64 (n : Int), .int .u64 (T : Int), .slice A L c, .int .i64 Wd, .pointer r, .pointer b, .slice S Sl Sc, .pointer none] 151)).cell? ⟨w.heap.size, 0, none⟩ = some (.int .i64 (n : Int)) := by simp
  have x1 : (w.alloc (.cells #[.int .i64 (n : Int), .int .u64 (T : Int), .slice A L c, .int .i64 Wd, .pointer r, .pointer b, .slice S Sl Sc, .pointer none] 151)).cell? ⟨w.heap.size, 1, none⟩ = some (.int .u64 (T : Int)) := by simp
  have x2 : (w.alloc (.cells #[.int .i64 (n : Int), .int .u64 (T : Int), .slice A L c, .int .i64 Wd, .pointer r, .pointer b, .slice S Sl Sc, .pointer none] 151)).cell? ⟨w.heap.size, 2, none⟩ = some (.slice A L c) := by simp
  have x3 : (w.alloc (.cells #[.int .i64 (n : Int), .int .u64 (T : Int), .slice A L c, .int .i64 Wd, .pointer r, .pointer b, .slice S Sl Sc, .pointer none] 151)).cell? ⟨w.heap.size, 3, none⟩ = some (.int .i64 Wd) := by simp
  have x4 : (w.alloc (.cells #[.int .i64 (n : Int), .int .u64 (T : Int), .slice A L c, .int .i64 Wd, .pointer r, .pointer b, .slice S Sl Sc, .pointer none] 151)).cell? ⟨w.heap.size, 4, none⟩ = some (.pointer r) := by simp
  have x5 : (w.alloc (.cells #[.int .i64 (n : Int), .int .u64 (T : Int), .slice A L c, .int .i64 Wd, .pointer r, .pointer b, .slice S Sl Sc, .pointer none] 151)).cell? ⟨w.heap.size, 5, none⟩ = some (.pointer b) := by simp
  have x6 : (w.alloc (.cells #[.int .i64 (n : Int), .int .u64 (T : Int), .slice A L c, .int .i64 Wd, .pointer r, .pointer b, .slice S Sl Sc, .pointer none] 151)).cell? ⟨w.heap.size, 6, none⟩ = some (.slice S Sl Sc) := by simp
  have x7 : (w.alloc (.cells #[.int .i64 (n : Int), .int .u64 (T : Int), .slice A L c, .int .i64 Wd, .pointer r, .pointer b, .slice S Sl Sc, .pointer none] 151)).cell? ⟨w.heap.size, 7, none⟩ = some (.pointer none) := by simp
  have xf := one_at (w.alloc (.cells #[.int .i64 (n : Int), .int .u64 (T : Int), .slice A L c, .int .i64 Wd, .pointer r, .pointer b, .slice S Sl Sc, .pointer none] 151)) (.slice B L bc) 28
  rw [show (w.alloc (.cells #[.int .i64 (n : Int), .int .u64 (T : Int), .slice A L c, .int .i64 Wd, .pointer r, .pointer b, .slice S Sl Sc, .pointer none] 151)).heap.size = w.heap.size + 1 by simp] at xf
  replace xf := cell_ext k3 xf
  replace x0 := cell_ext k2 x0
  replace x1 := cell_ext k2 x1
  replace x2 := cell_ext k2 x2
  replace x3 := cell_ext k2 x3
  replace x4 := cell_ext k2 x4
  replace x5 := cell_ext k2 x5
  replace x6 := cell_ext k2 x6
  replace x7 := cell_ext k2 x7
  have hr : RW (((w.alloc (.cells #[.int .i64 (n : Int), .int .u64 (T : Int), .slice A L c, .int .i64 Wd, .pointer r, .pointer b, .slice S Sl Sc, .pointer none] 151)).alloc (.cells #[.slice B L bc] 28)).alloc (.cells #[.slice none 0 0, .slice none 0 0] 83)) (w.heap.size + 1 + 1) 83 2 (fun _ => .slice none 0 0) := by
    have : RW (((w.alloc (.cells #[.int .i64 (n : Int), .int .u64 (T : Int), .slice A L c, .int .i64 Wd, .pointer r, .pointer b, .slice S Sl Sc, .pointer none] 151)).alloc (.cells #[.slice B L bc] 28)).alloc (.cells #[.slice none 0 0, .slice none 0 0] 83)) ((w.alloc (.cells #[.int .i64 (n : Int), .int .u64 (T : Int), .slice A L c, .int .i64 Wd, .pointer r, .pointer b, .slice S Sl Sc, .pointer none] 151)).alloc (.cells #[.slice B L bc] 28)).heap.size 83 2 (fun _ => .slice none 0 0) := heap_alloc_new _ _
    rwa [show ((w.alloc (.cells #[.int .i64 (n : Int), .int .u64 (T : Int), .slice A L c, .int .i64 Wd, .pointer r, .pointer b, .slice S Sl Sc, .pointer none] 151)).alloc (.cells #[.slice B L bc] 28)).heap.size = w.heap.size + 1 + 1 by simp] at this
  clear k2 k3
  go_enter Tryz.func148, Tryz.ntmps148
  go_wp2_with fail
  generalize (((w.alloc (.cells #[.int .i64 (n : Int), .int .u64 (T : Int), .slice A L c, .int .i64 Wd, .pointer r, .pointer b, .slice S Sl Sc, .pointer none] 151)).alloc (.cells #[.slice B L bc] 28)).alloc (.cells #[.slice none 0 0, .slice none 0 0] 83)) = V at *
  have kk : Ext V V := Ext.refl V
  have HPI := Lib.hid (fun w' (h : Ext V w') => pieces_any n T L c Wd A r b S Sl Sc none B bc Bs cs F w' hn0 hn hm hT (HX.out.ext (k0.trans h)))
  have HEA := Lib.hid (fun w' P Gs (h : RW w' P 28 (m + 1) (fun i => .slice (some ⟨Gs i, 0, none⟩) L L)) => eachNil_any n T L c Wd A r b S Sl Sc P m Gs L w' hn hT h)
  rw [← HLM.out] at HEA
  go_region_held3 (fun w' => w'.cell? ⟨w.heap.size, 0, none⟩ = some (.int .i64 (n : Int)) ∧ w'.cell? ⟨w.heap.size, 1, none⟩ = some (.int .u64 (T : Int)) ∧ w'.cell? ⟨w.heap.size, 2, none⟩ = some (.slice A L c) ∧ w'.cell? ⟨w.heap.size, 3, none⟩ = some (.int .i64 Wd) ∧ w'.cell? ⟨w.heap.size, 4, none⟩ = some (.pointer r) ∧ w'.cell? ⟨w.heap.size, 5, none⟩ = some (.pointer b) ∧ w'.cell? ⟨w.heap.size, 6, none⟩ = some (.slice S Sl Sc) ∧ w'.cell? ⟨w.heap.size, 7, none⟩ = some (.pointer none) ∧ w'.cell? ⟨w.heap.size + 1, 0, none⟩ = some (.slice B L bc)) (go_keep)
    (first
      | (go_at_call 207; refine (HPI.out _ (by first | exact kk | exact Ext.drew kk)).mono ?_; rintro e5 w5 ⟨P, Gs, gs, rfl, hpc, k5⟩; replace kk : Ext V w5 := (by first | exact Ext.trans kk k5 | exact Ext.trans (Ext.drew kk) k5); have HPC := Lib.hid hpc; clear hpc; have d0 := cell_ext kk x0; have d1 := cell_ext kk x1; have d2 := cell_ext kk x2; have d3 := cell_ext kk x3; have d4 := cell_ext kk x4; have d5 := cell_ext kk x5; have d6 := cell_ext kk x6; have d7 := cell_ext kk x7; have d8 := cell_ext kk xf)
      | (go_at_call 206; refine (HEA.out _ P Gs (by exact (RW.ext HPC.out.1 (by first | exact Ext.refl _ | exact (Ext.refl _).drew)).congr fun i hi => by rw [if_pos hi])).mono ?_; rintro e6 w6 ⟨rfl, k6⟩; replace kk : Ext V w6 := (by first | exact Ext.trans kk k6 | exact Ext.trans (Ext.drew kk) k6); have d0 := cell_ext kk x0; have d1 := cell_ext kk x1; have d2 := cell_ext kk x2; have d3 := cell_ext kk x3; have d4 := cell_ext kk x4; have d5 := cell_ext kk x5; have d6 := cell_ext kk x6; have d7 := cell_ext kk x7; have d8 := cell_ext kk xf)
      | fail)
  all_goals
    have hr6 := hr.ext kk
    have kr6 := k0.trans kk
    have c0 := hr6.cell (i := 0) (by omega)
    have c1 := hr6.cell (i := 1) (by omega)
    have z0 := hr6.frozen 0
    have z1 := hr6.frozen 1
    have hsz := hr6.lt
    have HR6 := Lib.hid hr6
    have KR6 := Lib.hid kr6
    clear hr6 kr6 hr HPI HEA HPC kk k5 k6 k0 x0 x1 x2 x3 x4 x5 x6 x7 xf
    go_wp2_with fail
    have hs := (HR6.out.set (show 0 < 2 by omega) (.slice none 0 0)).set (show 1 < 2 by omega) (.slice none 0 0)
    have e0 := hs.cell (i := 0) (by omega)
    have e1 := hs.cell (i := 1) (by omega)
    have hk := (KR6.out.set (p := ⟨w.heap.size + 1 + 1, 0, none⟩) (by show w.heap.size ≤ w.heap.size + 1 + 1; omega) (.slice none 0 0)).set (p := ⟨w.heap.size + 1 + 1, 1, none⟩) (by show w.heap.size ≤ w.heap.size + 1 + 1; omega) (.slice none 0 0)
    generalize (w6.setCell ⟨w.heap.size + 1 + 1, 0, none⟩ (.slice none 0 0)).setCell ⟨w.heap.size + 1 + 1, 1, none⟩ (.slice none 0 0) = w9 at *
    simp only [if_true] at e0 e1
    clear hs c0 c1 z0 z1
    exact bodyPost_ret (v := .tuple #[.agg #[.slice none 0 0, .slice none 0 0], .int .i64 1]) (by simp [results, Tryz.results148, go_sem, e0, e1]) rfl ⟨rfl, hk⟩
set_option maxHeartbeats 8000000 in
theorem relinNil_any (n T L m c G k : Nat) (Wd : Int) (A : Option Addr) (r : Nat) (b : Option Addr) (q p : Nat → Nat) (a e : Nat → Nat → Nat) (As : Nat → Option Addr) (cs : Nat → Nat) (F : Nat → Nat → Nat) (w : World) (hn0 : 0 < n) (hn : n ≤ 1000) (HLM : Hid (L = m + 1)) (hm : L ≤ 1000) (hT : T < 18446744073709551616) (hR : Rg w r n L q p a e) (hPM : PM w G L n As cs F) (hF : Hid (∀ j, j < L → ∀ i, i < n → F j i < q j)) (hk : Hid (1 ≤ k ∧ k ≤ 9 ∧ n = 2 ^ k)) :
    Calls Tryz.prog 97 #[.agg #[.int .i64 (n : Int), .int .u64 (T : Int), .slice A L c, .int .i64 Wd, .pointer (some ⟨r, 0, none⟩), .pointer b, .slice (some ⟨G, 0, none⟩) L L, .pointer none]] w fun ee w' => ee = .returned (.tuple #[.agg #[.slice none 0 0, .slice none 0 0], .int .i64 1]) ∧ Ext w w' := by
  have HRG := Lib.hid hR
  have HPM := Lib.hid hPM
  clear hR hPM
  have k0 : Ext w ((w.alloc (.cells #[.int .i64 (n : Int), .int .u64 (T : Int), .slice A L c, .int .i64 Wd, .pointer (some ⟨r, 0, none⟩), .pointer b, .slice (some ⟨G, 0, none⟩) L L, .pointer none] 151)).alloc (.cells #[.slice none 0 0, .slice none 0 0] 83)) := ((Ext.refl w).alloc _).alloc _
  have k2 : Ext (w.alloc (.cells #[.int .i64 (n : Int), .int .u64 (T : Int), .slice A L c, .int .i64 Wd, .pointer (some ⟨r, 0, none⟩), .pointer b, .slice (some ⟨G, 0, none⟩) L L, .pointer none] 151)) ((w.alloc (.cells #[.int .i64 (n : Int), .int .u64 (T : Int), .slice A L c, .int .i64 Wd, .pointer (some ⟨r, 0, none⟩), .pointer b, .slice (some ⟨G, 0, none⟩) L L, .pointer none] 151)).alloc (.cells #[.slice none 0 0, .slice none 0 0] 83)) := (Ext.refl _).alloc _
  have x0 : (w.alloc (.cells #[.int .i64 (n : Int), .int .u64 (T : Int), .slice A L c, .int .i64 Wd, .pointer (some ⟨r, 0, none⟩), .pointer b, .slice (some ⟨G, 0, none⟩) L L, .pointer none] 151)).cell? ⟨w.heap.size, 0, none⟩ = some (.int .i64 (n : Int)) := by simp
  have x1 : (w.alloc (.cells #[.int .i64 (n : Int), .int .u64 (T : Int), .slice A L c, .int .i64 Wd, .pointer (some ⟨r, 0, none⟩), .pointer b, .slice (some ⟨G, 0, none⟩) L L, .pointer none] 151)).cell? ⟨w.heap.size, 1, none⟩ = some (.int .u64 (T : Int)) := by simp
  have x2 : (w.alloc (.cells #[.int .i64 (n : Int), .int .u64 (T : Int), .slice A L c, .int .i64 Wd, .pointer (some ⟨r, 0, none⟩), .pointer b, .slice (some ⟨G, 0, none⟩) L L, .pointer none] 151)).cell? ⟨w.heap.size, 2, none⟩ = some (.slice A L c) := by simp
  have x3 : (w.alloc (.cells #[.int .i64 (n : Int), .int .u64 (T : Int), .slice A L c, .int .i64 Wd, .pointer (some ⟨r, 0, none⟩), .pointer b, .slice (some ⟨G, 0, none⟩) L L, .pointer none] 151)).cell? ⟨w.heap.size, 3, none⟩ = some (.int .i64 Wd) := by simp
  have x4 : (w.alloc (.cells #[.int .i64 (n : Int), .int .u64 (T : Int), .slice A L c, .int .i64 Wd, .pointer (some ⟨r, 0, none⟩), .pointer b, .slice (some ⟨G, 0, none⟩) L L, .pointer none] 151)).cell? ⟨w.heap.size, 4, none⟩ = some (.pointer (some ⟨r, 0, none⟩)) := by simp
  have x5 : (w.alloc (.cells #[.int .i64 (n : Int), .int .u64 (T : Int), .slice A L c, .int .i64 Wd, .pointer (some ⟨r, 0, none⟩), .pointer b, .slice (some ⟨G, 0, none⟩) L L, .pointer none] 151)).cell? ⟨w.heap.size, 5, none⟩ = some (.pointer b) := by simp
  have x6 : (w.alloc (.cells #[.int .i64 (n : Int), .int .u64 (T : Int), .slice A L c, .int .i64 Wd, .pointer (some ⟨r, 0, none⟩), .pointer b, .slice (some ⟨G, 0, none⟩) L L, .pointer none] 151)).cell? ⟨w.heap.size, 6, none⟩ = some (.slice (some ⟨G, 0, none⟩) L L) := by simp
  have x7 : (w.alloc (.cells #[.int .i64 (n : Int), .int .u64 (T : Int), .slice A L c, .int .i64 Wd, .pointer (some ⟨r, 0, none⟩), .pointer b, .slice (some ⟨G, 0, none⟩) L L, .pointer none] 151)).cell? ⟨w.heap.size, 7, none⟩ = some (.pointer none) := by simp
  have hr : RW ((w.alloc (.cells #[.int .i64 (n : Int), .int .u64 (T : Int), .slice A L c, .int .i64 Wd, .pointer (some ⟨r, 0, none⟩), .pointer b, .slice (some ⟨G, 0, none⟩) L L, .pointer none] 151)).alloc (.cells #[.slice none 0 0, .slice none 0 0] 83)) (w.heap.size + 1) 83 2 (fun _ => .slice none 0 0) := by
    have : RW ((w.alloc (.cells #[.int .i64 (n : Int), .int .u64 (T : Int), .slice A L c, .int .i64 Wd, .pointer (some ⟨r, 0, none⟩), .pointer b, .slice (some ⟨G, 0, none⟩) L L, .pointer none] 151)).alloc (.cells #[.slice none 0 0, .slice none 0 0] 83)) (w.alloc (.cells #[.int .i64 (n : Int), .int .u64 (T : Int), .slice A L c, .int .i64 Wd, .pointer (some ⟨r, 0, none⟩), .pointer b, .slice (some ⟨G, 0, none⟩) L L, .pointer none] 151)).heap.size 83 2 (fun _ => .slice none 0 0) := heap_alloc_new _ _
    rwa [show (w.alloc (.cells #[.int .i64 (n : Int), .int .u64 (T : Int), .slice A L c, .int .i64 Wd, .pointer (some ⟨r, 0, none⟩), .pointer b, .slice (some ⟨G, 0, none⟩) L L, .pointer none] 151)).heap.size = w.heap.size + 1 by simp] at this
  replace x0 := cell_ext k2 x0
  replace x1 := cell_ext k2 x1
  replace x2 := cell_ext k2 x2
  replace x3 := cell_ext k2 x3
  replace x4 := cell_ext k2 x4
  replace x5 := cell_ext k2 x5
  replace x6 := cell_ext k2 x6
  replace x7 := cell_ext k2 x7
  clear k2
  have HE := Lib.hid (show El n L q L (fun _ => n) F from ⟨by rw [HLM.out]; omega, Nat.le_refl _, fun j hj => ⟨rfl, hF.out j hj⟩⟩)
  go_enter Tryz.func97, Tryz.ntmps97
  go_wp2_with fail
  generalize ((w.alloc (.cells #[.int .i64 (n : Int), .int .u64 (T : Int), .slice A L c, .int .i64 Wd, .pointer (some ⟨r, 0, none⟩), .pointer b, .slice (some ⟨G, 0, none⟩) L L, .pointer none] 151)).alloc (.cells #[.slice none 0 0, .slice none 0 0] 83)) = V at *
  refine (rMulE_any r n L q p a e _ _ L L L _ _ _ _ _ _ F F V (HRG.out.ext k0) (Lib.hid ⟨(HPM.out.ext k0).px, by omega, fun _ _ => by omega⟩) (Lib.hid ⟨(HPM.out.ext k0).px, by omega, fun _ _ => by omega⟩) ⟨HE.out, HE.out⟩ k hk).mono ?_
  rintro ee V1 ⟨G2, As2, cs2, F2, rfl, hpm2, _, k1⟩
  have kz := k1.alloc (.cells #[.slice (some ⟨G2, 0, none⟩) L L] 28)
  have xq := one_at V1 (.slice (some ⟨G2, 0, none⟩) L L) 28
  have HPM2 := Lib.hid (hpm2.ext ((Ext.refl V1).alloc (.cells #[.slice (some ⟨G2, 0, none⟩) L L] 28)))
  replace x0 := cell_ext kz x0
  replace x1 := cell_ext kz x1
  replace x2 := cell_ext kz x2
  replace x3 := cell_ext kz x3
  replace x4 := cell_ext kz x4
  replace x5 := cell_ext kz x5
  replace x6 := cell_ext kz x6
  replace x7 := cell_ext kz x7
  replace hr := hr.ext kz
  replace k0 := k0.trans kz
  clear k1 kz hpm2
  go_wp2_with fail
  generalize V1.alloc (.cells #[.slice (some ⟨G2, 0, none⟩) L L] 28) = V2 at *
  refine (switchNil_any n T L m c Wd A (some ⟨r, 0, none⟩) b (some ⟨G, 0, none⟩) L L _ L _ _ F2 V2 hn0 hn HLM hm hT HPM2.out.px).mono ?_
  rintro ee V3 ⟨rfl, k3⟩
  have hr6 := hr.ext k3
  have kr6 := k0.trans k3
  have c0 := hr6.cell (i := 0) (by omega)
  have c1 := hr6.cell (i := 1) (by omega)
  have z0 := hr6.frozen 0
  have z1 := hr6.frozen 1
  have hsz := hr6.lt
  have HR6 := Lib.hid hr6
  have KR6 := Lib.hid kr6
  clear hr6 kr6 hr k0 k3 x0 x1 x2 x3 x4 x5 x6 x7 xq
  go_wp2_with fail
  have hs := (HR6.out.set (show 0 < 2 by omega) (.slice none 0 0)).set (show 1 < 2 by omega) (.slice none 0 0)
  have e0 := hs.cell (i := 0) (by omega)
  have e1 := hs.cell (i := 1) (by omega)
  have hk := (KR6.out.set (p := ⟨w.heap.size + 1, 0, none⟩) (by show w.heap.size ≤ w.heap.size + 1; omega) (.slice none 0 0)).set (p := ⟨w.heap.size + 1, 1, none⟩) (by show w.heap.size ≤ w.heap.size + 1; omega) (.slice none 0 0)
  generalize (V3.setCell ⟨w.heap.size + 1, 0, none⟩ (.slice none 0 0)).setCell ⟨w.heap.size + 1, 1, none⟩ (.slice none 0 0) = w9 at *
  simp only [if_true] at e0 e1
  clear hs c0 c1 z0 z1
  exact bodyPost_ret (v := .tuple #[.agg #[.slice none 0 0, .slice none 0 0], .int .i64 1]) (by simp [results, Tryz.results97, go_sem, e0, e1]) rfl ⟨rfl, hk⟩
end Go.Proofs.YtbpehdfpiembfaaGreatDoor

/-
  Without a tape: what Secret, Public and All of package keys answer.
-/
namespace Go.Proofs.YtbpehdfpiembfaaGreatDoor
open Go.RowKit
set_option linter.unusedVariables false
set_option maxRecDepth 100000

theorem ask_no {P S R : Prop} {b : Bool} {x : Nat} (h : AskIs P S R b x) (h1 : ¬ (P ∧ S)) : (¬ P ∧ x = 8) ∨ (P ∧ ¬ S ∧ x = 3) := by
  rcases h with h | h | ⟨p, s, _⟩ | ⟨p, s, _⟩
  · exact .inl h
  · exact .inr h
  · exact absurd ⟨p, s⟩ h1
  · exact absurd ⟨p, s⟩ h1
theorem ask_yes {P S R : Prop} {b : Bool} {x : Nat} (h : AskIs P S R b x) (hp : P) (hs : S) (hr : R) : x = if b then 1 else 0 := by
  rcases h with ⟨h, _⟩ | ⟨_, h, _⟩ | ⟨_, _, h, _⟩ | ⟨_, _, _, h⟩
  · exact absurd hp h
  · exact absurd hs h
  · exact absurd hr h
  · exact h
theorem ask_step {P S R : Prop} {b : Bool} {x : Nat} (h : AskIs P S R b x) (hp : P) (hs : S) (hr : ¬ R) : x = 5 := by
  rcases h with ⟨h, _⟩ | ⟨_, h, _⟩ | ⟨_, _, _, h⟩ | ⟨_, _, h, _⟩
  · exact absurd hp h
  · exact absurd hs h
  · exact h
  · exact absurd h hr
set_option maxHeartbeats 2000000 in
theorem secretNil_any {N : Int} {T L c : Nat} {Wd : Int} {A : Option Addr} {q : Nat → Nat} (x : Nat) (w : World) (hP : Hid (PA w N T A L c Wd q)) (hL : L ≤ 100) (hT : Tabs w) (hx : Hid ((¬ ParP N T L q Wd ∧ x = 8) ∨ (ParP N T L q Wd ∧ x = 1))) :
    Calls Tryz.prog 34 #[.agg #[.int .i64 N, .int .u64 (T : Int), .slice A L c, .int .i64 Wd], .pointer none] w fun ee w' => ee = .returned (.tuple #[.slice none 0 0, .int .i64 (x : Int)]) ∧ Ext w w' := by
  have HT := Lib.hid hT
  clear hT
  have hn0 := hP.out.n0
  have hn1 := hP.out.n1
  have ht1 := hP.out.t1
  have k0 : Ext w (w.alloc (.cells #[.int .i64 N, .int .u64 (T : Int), .slice A L c, .int .i64 Wd] 25)) := (Ext.refl w).alloc _
  obtain ⟨x0, x1, x2, x3⟩ := four_at w (.int .i64 N) (.int .u64 (T : Int)) (.slice A L c) (.int .i64 Wd) 25
  obtain ⟨z, hz⟩ := errZ (ParP N T L q Wd)
  have HZ := Lib.hid hz
  go_enter Tryz.func34, Tryz.ntmps34
  go_wp2_with fail
  generalize w.alloc (.cells #[.int .i64 N, .int .u64 (T : Int), .slice A L c, .int .i64 Wd] 25) = V0 at *
  refine (checkZ (z := z) (hP.out.ext k0) (by omega) (HT.out.ext k0) HZ).mono ?_
  rintro ee V ⟨rfl, k1⟩
  replace x0 := cell_ext k1 x0
  replace k0 := k0.trans k1
  clear k1 x1 x2 x3
  rcases hz with ⟨hp, rfl⟩ | ⟨hp, rfl⟩
  · have HP := Lib.hid hp
    clear hp
    have ex : x = 1 := by
      rcases hx.out with ⟨h, _⟩ | ⟨_, h⟩
      · exact absurd HP.out h
      · exact h
    subst ex
    go_wp2_with fail
    refine (ternaries_nil N V hn0 hn1).mono ?_
    rintro ee V2 ⟨rfl, rfl⟩
    go_wp2
    go_ret2
    exact ⟨rfl, k0⟩
  · have HP := Lib.hid hp
    clear hp
    have ex : x = 8 := by
      rcases hx.out with ⟨_, h⟩ | ⟨h, _⟩
      · exact h
      · exact absurd h HP.out
    subst ex
    go_wp2
    go_ret2
    exact ⟨rfl, k0⟩
theorem pair_new (w : World) : RW (w.alloc (.cells #[.slice none 0 0, .slice none 0 0] 155)) w.heap.size 155 2 (fun _ => .slice none 0 0) := heap_alloc_new w _
theorem two_lay {w V : World} {g : Nat} {t : TypeId} (hr : RW V g t 2 (fun _ => .slice none 0 0)) (hk : Ext w V) (hg : w.heap.size ≤ g) (a b : Value) :
    ∃ W, (V.setCell ⟨g, 0, none⟩ a).setCell ⟨g, 1, none⟩ b = W ∧ W.cell? ⟨g, 0, none⟩ = some a ∧ W.cell? ⟨g, 1, none⟩ = some b ∧ Ext w W := by
  have hs := (hr.set (show 0 < 2 by omega) a).set (show 1 < 2 by omega) b
  exact ⟨_, rfl, by have := hs.cell (i := 0) (by omega); simpa using this, by have := hs.cell (i := 1) (by omega); simpa using this, (hk.set (p := ⟨g, 0, none⟩) hg a).set (p := ⟨g, 1, none⟩) hg b⟩
set_option maxHeartbeats 8000000 in
theorem publicNil_any {N : Int} {T L c : Nat} {Wd : Int} {A : Option Addr} {q : Nat → Nat} (n d : Nat) (B : Option Addr) (v : Nat → Int) (x : Nat) (w : World) (hP : Hid (PA w N T A L c Wd q)) (hN : N ≤ 32) (hL : L ≤ 100) (hX : VX w B n d v) (hn : n ≤ 100000) (hv : Hid (∀ i, i < n → -9223372036854775808 ≤ v i ∧ v i < 9223372036854775808)) (hT : Tabs w) (s : Nat → Int) (hx : Hid (AskIs (ParP N T L q Wd) (SecP N n v) (StepsP N 0 s) true x)) :
    Calls Tryz.prog 36 #[.agg #[.int .i64 N, .int .u64 (T : Int), .slice A L c, .int .i64 Wd], .slice B n d, .pointer none] w fun ee w' => ee = .returned (.tuple #[.agg #[.slice none 0 0, .slice none 0 0], .int .i64 (x : Int)]) ∧ Ext w w' := by
  have HT := Lib.hid hT
  have HX := Lib.hid hX
  clear hT hX
  have hn0 := hP.out.n0
  have hn1 := hP.out.n1
  have ht1 := hP.out.t1
  have k0 : Ext w ((w.alloc (.cells #[.int .i64 N, .int .u64 (T : Int), .slice A L c, .int .i64 Wd] 25)).alloc (.cells #[.slice none 0 0, .slice none 0 0] 69)) := ((Ext.refl w).alloc _).alloc _
  have k2 : Ext (w.alloc (.cells #[.int .i64 N, .int .u64 (T : Int), .slice A L c, .int .i64 Wd] 25)) ((w.alloc (.cells #[.int .i64 N, .int .u64 (T : Int), .slice A L c, .int .i64 Wd] 25)).alloc (.cells #[.slice none 0 0, .slice none 0 0] 69)) := (Ext.refl _).alloc _
  obtain ⟨x0, x1, x2, x3⟩ := four_at w (.int .i64 N) (.int .u64 (T : Int)) (.slice A L c) (.int .i64 Wd) 25
  replace x0 := cell_ext k2 x0
  replace x1 := cell_ext k2 x1
  replace x2 := cell_ext k2 x2
  replace x3 := cell_ext k2 x3
  have hr : RW ((w.alloc (.cells #[.int .i64 N, .int .u64 (T : Int), .slice A L c, .int .i64 Wd] 25)).alloc (.cells #[.slice none 0 0, .slice none 0 0] 69)) (w.heap.size + 1) 69 2 (fun _ => .slice none 0 0) := by
    have : RW ((w.alloc (.cells #[.int .i64 N, .int .u64 (T : Int), .slice A L c, .int .i64 Wd] 25)).alloc (.cells #[.slice none 0 0, .slice none 0 0] 69)) (w.alloc (.cells #[.int .i64 N, .int .u64 (T : Int), .slice A L c, .int .i64 Wd] 25)).heap.size 69 2 (fun _ => .slice none 0 0) := heap_alloc_new _ _
    rwa [show (w.alloc (.cells #[.int .i64 N, .int .u64 (T : Int), .slice A L c, .int .i64 Wd] 25)).heap.size = w.heap.size + 1 by simp] at this
  clear k2
  by_cases hps : ParP N T L q Wd ∧ SecP N n v
  case neg =>
    have hno := ask_no hx.out hps
    have HNO := Lib.hid hno
    have hx0 : ((x : Int) != 0) = true := by rcases hno with ⟨_, h⟩ | ⟨_, _, h⟩ <;> subst h <;> rfl
    clear hno hps hx
    go_enter Tryz.func36, Tryz.ntmps36
    go_wp2_with fail
    generalize ((w.alloc (.cells #[.int .i64 N, .int .u64 (T : Int), .slice A L c, .int .i64 Wd] 25)).alloc (.cells #[.slice none 0 0, .slice none 0 0] 69)) = V at *
    refine (drawer_no n d B v none x V (Lib.hid (hP.out.ext k0)) hL (HX.out.ext k0) hn hv (HT.out.ext k0) HNO).mono ?_
    rintro ee V1 ⟨rfl, k1⟩
    have kz := k1.alloc (.cells #[.int .i64 0, .int .u64 0, .slice none 0 0, .int .i64 0, .pointer none, .pointer none, .slice none 0 0, .pointer none] 151)
    have hr6 := hr.ext k1
    have kr6 := k0.trans k1
    have c0 := hr6.cell (i := 0) (by omega)
    have c1 := hr6.cell (i := 1) (by omega)
    have z0 := hr6.frozen 0
    have z1 := hr6.frozen 1
    have hsz := hr6.lt
    have HR6 := Lib.hid hr6
    have KR6 := Lib.hid kr6
    clear hr6 kr6 hr k1 kz k0 x0 x1 x2 x3
    go_wp2_with fail
    obtain ⟨W, hW, e0, e1, hk⟩ := two_lay HR6.out KR6.out (by omega) (.slice none 0 0) (.slice none 0 0)
    rw [hW]
    clear hW c0 c1 z0 z1
    replace e0 := cell_ext ((Ext.refl W).alloc (.cells #[.int .i64 0, .int .u64 0, .slice none 0 0, .int .i64 0, .pointer none, .pointer none, .slice none 0 0, .pointer none] 151)) e0
    replace e1 := cell_ext ((Ext.refl W).alloc (.cells #[.int .i64 0, .int .u64 0, .slice none 0 0, .int .i64 0, .pointer none, .pointer none, .slice none 0 0, .pointer none] 151)) e1
    replace hk := hk.alloc (.cells #[.int .i64 0, .int .u64 0, .slice none 0 0, .int .i64 0, .pointer none, .pointer none, .slice none 0 0, .pointer none] 151)
    generalize W.alloc (.cells #[.int .i64 0, .int .u64 0, .slice none 0 0, .int .i64 0, .pointer none, .pointer none, .slice none 0 0, .pointer none] 151) = W3 at *
    exact bodyPost_ret (v := .tuple #[.agg #[.slice none 0 0, .slice none 0 0], .int .i64 (x : Int)]) (by simp [results, Tryz.results36, go_sem, e0, e1]) rfl ⟨rfl, hk⟩
  obtain ⟨hp, hnN, hs⟩ := hps
  subst hnN
  obtain ⟨hrow, hn8, hL1, hL8⟩ := par_rowY hp hN
  have hx1 := ask_yes hx.out hp ⟨rfl, hs⟩ (fun i hi => absurd hi (by omega))
  simp only [if_true] at hx1
  subst hx1
  have HP := Lib.hid hp
  have HS := Lib.hid hs
  clear hp hs hrow hx
  go_enter Tryz.func36, Tryz.ntmps36
  go_wp2_with fail
  generalize ((w.alloc (.cells #[.int .i64 (n : Int), .int .u64 (T : Int), .slice A L c, .int .i64 Wd] 25)).alloc (.cells #[.slice none 0 0, .slice none 0 0] 69)) = V at *
  refine (drawer_any d B v none V (Lib.hid (hP.out.ext k0)) hL (by omega) (HX.out.ext k0) hv (HT.out.ext k0) HP HS).mono ?_
  rintro ee V1 ⟨r, b, G, rfl, hdr⟩
  have HDR := Lib.hid hdr
  have k1 : Ext V V1 := by obtain ⟨_, _, _, _, _, _, _, _, _, _, _, _, _, _, _, _, h⟩ := hdr; exact h
  clear hdr
  have kz := k1.alloc (.cells #[.int .i64 (n : Int), .int .u64 (T : Int), .slice A L c, .int .i64 Wd, .pointer (some ⟨r, 0, none⟩), .pointer (some ⟨b, 0, none⟩), .slice (some ⟨G, 0, none⟩) L L, .pointer none] 151)
  have ka : Ext V1 (V1.alloc (.cells #[.int .i64 (n : Int), .int .u64 (T : Int), .slice A L c, .int .i64 Wd, .pointer (some ⟨r, 0, none⟩), .pointer (some ⟨b, 0, none⟩), .slice (some ⟨G, 0, none⟩) L L, .pointer none] 151)) := (Ext.refl V1).alloc _
  have y0 : (V1.alloc (.cells #[.int .i64 (n : Int), .int .u64 (T : Int), .slice A L c, .int .i64 Wd, .pointer (some ⟨r, 0, none⟩), .pointer (some ⟨b, 0, none⟩), .slice (some ⟨G, 0, none⟩) L L, .pointer none] 151)).cell? ⟨V1.heap.size, 0, none⟩ = some (.int .i64 (n : Int)) := by simp
  have y1 : (V1.alloc (.cells #[.int .i64 (n : Int), .int .u64 (T : Int), .slice A L c, .int .i64 Wd, .pointer (some ⟨r, 0, none⟩), .pointer (some ⟨b, 0, none⟩), .slice (some ⟨G, 0, none⟩) L L, .pointer none] 151)).cell? ⟨V1.heap.size, 1, none⟩ = some (.int .u64 (T : Int)) := by simp
  have y2 : (V1.alloc (.cells #[.int .i64 (n : Int), .int .u64 (T : Int), .slice A L c, .int .i64 Wd, .pointer (some ⟨r, 0, none⟩), .pointer (some ⟨b, 0, none⟩), .slice (some ⟨G, 0, none⟩) L L, .pointer none] 151)).cell? ⟨V1.heap.size, 2, none⟩ = some (.slice A L c) := by simp
  have y3 : (V1.alloc (.cells #[.int .i64 (n : Int), .int .u64 (T : Int), .slice A L c, .int .i64 Wd, .pointer (some ⟨r, 0, none⟩), .pointer (some ⟨b, 0, none⟩), .slice (some ⟨G, 0, none⟩) L L, .pointer none] 151)).cell? ⟨V1.heap.size, 3, none⟩ = some (.int .i64 Wd) := by simp
  have y4 : (V1.alloc (.cells #[.int .i64 (n : Int), .int .u64 (T : Int), .slice A L c, .int .i64 Wd, .pointer (some ⟨r, 0, none⟩), .pointer (some ⟨b, 0, none⟩), .slice (some ⟨G, 0, none⟩) L L, .pointer none] 151)).cell? ⟨V1.heap.size, 4, none⟩ = some (.pointer (some ⟨r, 0, none⟩)) := by simp
  have y5 : (V1.alloc (.cells #[.int .i64 (n : Int), .int .u64 (T : Int), .slice A L c, .int .i64 Wd, .pointer (some ⟨r, 0, none⟩), .pointer (some ⟨b, 0, none⟩), .slice (some ⟨G, 0, none⟩) L L, .pointer none] 151)).cell? ⟨V1.heap.size, 5, none⟩ = some (.pointer (some ⟨b, 0, none⟩)) := by simp
  have y6 : (V1.alloc (.cells #[.int .i64 (n : Int), .int .u64 (T : Int), .slice A L c, .int .i64 Wd, .pointer (some ⟨r, 0, none⟩), .pointer (some ⟨b, 0, none⟩), .slice (some ⟨G, 0, none⟩) L L, .pointer none] 151)).cell? ⟨V1.heap.size, 6, none⟩ = some (.slice (some ⟨G, 0, none⟩) L L) := by simp
  have y7 : (V1.alloc (.cells #[.int .i64 (n : Int), .int .u64 (T : Int), .slice A L c, .int .i64 Wd, .pointer (some ⟨r, 0, none⟩), .pointer (some ⟨b, 0, none⟩), .slice (some ⟨G, 0, none⟩) L L, .pointer none] 151)).cell? ⟨V1.heap.size, 7, none⟩ = some (.pointer none) := by simp
  replace hr := hr.ext kz
  replace k0 := k0.trans kz
  clear k1 kz ka x0 x1 x2 x3
  have hdw : RW (V1.alloc (.cells #[.int .i64 (n : Int), .int .u64 (T : Int), .slice A L c, .int .i64 Wd, .pointer (some ⟨r, 0, none⟩), .pointer (some ⟨b, 0, none⟩), .slice (some ⟨G, 0, none⟩) L L, .pointer none] 151)) V1.heap.size 151 8 (fun i => (#[.int .i64 (n : Int), .int .u64 (T : Int), .slice A L c, .int .i64 Wd, .pointer (some ⟨r, 0, none⟩), .pointer (some ⟨b, 0, none⟩), .slice (some ⟨G, 0, none⟩) L L, .pointer none] : Array Value).toList.getD i (.bool false)) := heap_alloc_new _ _
  go_wp2_with fail
  generalize V1.alloc (.cells #[.int .i64 (n : Int), .int .u64 (T : Int), .slice A L c, .int .i64 Wd, .pointer (some ⟨r, 0, none⟩), .pointer (some ⟨b, 0, none⟩), .slice (some ⟨G, 0, none⟩) L L, .pointer none] 151) = V2 at *
  have HDW := Lib.hid hdw
  clear hdw
  have kk : Ext V2 V2 := Ext.refl V2
  have HNO := Lib.hid (fun w' => nought_any n T L c Wd A (some ⟨r, 0, none⟩) (some ⟨b, 0, none⟩) (some ⟨G, 0, none⟩) L L none w' (by omega) (by omega) ht1)
  have HHI := Lib.hid (fun w' H => hideNil_any n T L c Wd A (some ⟨r, 0, none⟩) (some ⟨b, 0, none⟩) (some ⟨G, 0, none⟩) L L H L L w' (by omega) ht1)
  go_region_held3 (fun w' => w'.cell? ⟨V1.heap.size, 0, none⟩ = some (.int .i64 (n : Int)) ∧ w'.cell? ⟨V1.heap.size, 1, none⟩ = some (.int .u64 (T : Int)) ∧ w'.cell? ⟨V1.heap.size, 2, none⟩ = some (.slice A L c) ∧ w'.cell? ⟨V1.heap.size, 3, none⟩ = some (.int .i64 Wd) ∧ w'.cell? ⟨V1.heap.size, 4, none⟩ = some (.pointer (some ⟨r, 0, none⟩)) ∧ w'.cell? ⟨V1.heap.size, 5, none⟩ = some (.pointer (some ⟨b, 0, none⟩)) ∧ w'.cell? ⟨V1.heap.size, 6, none⟩ = some (.slice (some ⟨G, 0, none⟩) L L) ∧ w'.cell? ⟨V1.heap.size, 7, none⟩ = some (.pointer none)) (go_keep)
    (first
      | (go_at_call 90; refine (HNO.out _).mono ?_; rintro e5 w5 ⟨G5, gs, rfl, hown, _, k5⟩; replace kk : Ext V2 w5 := (by first | with_reducible exact Ext.trans kk k5 | with_reducible exact Ext.trans (Ext.drew kk) k5 | with_reducible exact Ext.trans (Ext.alloc kk _) k5 | with_reducible exact Ext.trans (Ext.drew (Ext.alloc kk _)) k5 | with_reducible exact Ext.trans (Ext.alloc (Ext.drew kk) _) k5); clear hown; (try (have hpr := (by first | with_reducible exact RW.ext (pair_new _) k5 | with_reducible exact RW.ext (pair_new _) ((Ext.refl _).drew.trans k5)); have q0 := hpr.cell (i := 0) (by omega); have q1 := hpr.cell (i := 1) (by omega); have g0 := hpr.frozen 0; have g1 := hpr.frozen 1; have gl := hpr.lt; have ne1 := eq_false (RW.ne (RW.ext HDW.out kk) hpr (by decide)); have ne2 := eq_false (RW.ne (RW.ext HDW.out kk) hpr (by decide)).symm)); have d0 := cell_ext kk y0; have d1 := cell_ext kk y1; have d2 := cell_ext kk y2; have d3 := cell_ext kk y3; have d4 := cell_ext kk y4; have d5 := cell_ext kk y5; have d6 := cell_ext kk y6; have d7 := cell_ext kk y7)
      | (go_at_call 89; refine (HHI.out _ _).mono ?_; rintro e6 w6 ⟨rfl, k6⟩; replace kk : Ext V2 w6 := (by first | with_reducible exact Ext.trans kk k6 | with_reducible exact Ext.trans (Ext.drew kk) k6 | with_reducible exact Ext.trans (Ext.alloc kk _) k6 | with_reducible exact Ext.trans (Ext.drew (Ext.alloc kk _)) k6 | with_reducible exact Ext.trans (Ext.alloc (Ext.drew kk) _) k6); (try (have hpr := (by first | with_reducible exact RW.ext hpr k6 | with_reducible exact RW.ext hpr ((Ext.refl _).drew.trans k6) | with_reducible exact RW.ext (pair_new _) k6 | with_reducible exact RW.ext (pair_new _) ((Ext.refl _).drew.trans k6)); have q0 := hpr.cell (i := 0) (by omega); have q1 := hpr.cell (i := 1) (by omega); have g0 := hpr.frozen 0; have g1 := hpr.frozen 1; have gl := hpr.lt; have ne1 := eq_false (RW.ne (RW.ext HDW.out kk) hpr (by decide)); have ne2 := eq_false (RW.ne (RW.ext HDW.out kk) hpr (by decide)).symm)); have d0 := cell_ext kk y0; have d1 := cell_ext kk y1; have d2 := cell_ext kk y2; have d3 := cell_ext kk y3; have d4 := cell_ext kk y4; have d5 := cell_ext kk y5; have d6 := cell_ext kk y6; have d7 := cell_ext kk y7)
      | fail)
  · have ka : Ext w6 (w6.alloc (.cells #[.slice none 0 0, .slice none 0 0] 155)) := (Ext.refl w6).alloc _
    have hrX := (hr.ext kk).ext ka
    have kX := (k0.trans kk).trans ka
    have p0 := two_at0 w6 (.slice none 0 0) (.slice none 0 0) 155
    have p1 := two_at1 w6 (.slice none 0 0) (.slice none 0 0) 155
    generalize w6.alloc (.cells #[.slice none 0 0, .slice none 0 0] 155) = X at *
    clear ka hr k0 kk k5 k6 HNO HHI HDW y0 y1 y2 y3 y4 y5 y6 y7 d0 d1 d2 d3 d4 d5 d6 d7
    have c0 := hrX.cell (i := 0) (by omega)
    have c1 := hrX.cell (i := 1) (by omega)
    have z0 := hrX.frozen 0
    have z1 := hrX.frozen 1
    have hszX := hrX.lt
    have HRX := Lib.hid hrX
    have KX := Lib.hid kX
    clear hrX kX
    go_wp2_with fail
    obtain ⟨W, hW, e0, e1, hk⟩ := two_lay HRX.out KX.out (by omega) (.slice none 0 0) (.slice none 0 0)
    rw [hW]
    clear hW c0 c1 z0 z1
    exact bodyPost_ret (v := .tuple #[.agg #[.slice none 0 0, .slice none 0 0], .int .i64 1]) (by simp [results, Tryz.results36, go_sem, e0, e1]) rfl ⟨rfl, hk⟩
  · have hb : w.heap.size ≤ w5.heap.size := by
      have h5 : V2.heap.size ≤ w5.heap.size := k5.size
      have := k0.size
      omega
    have hrX := RW.aside (RW.aside (hr.ext kk) hpr (by decide) 0 (.slice none 0 0)) (hpr.set (show 0 < 2 by omega) (.slice none 0 0)) (by decide) 1 (.slice none 0 0)
    have hsX := (hpr.set (show 0 < 2 by omega) (.slice none 0 0)).set (show 1 < 2 by omega) (.slice none 0 0)
    have p0 := hsX.cell (i := 0) (by omega)
    have p1 := hsX.cell (i := 1) (by omega)
    simp only [if_true] at p0 p1
    have kX := ((k0.trans kk).set (p := ⟨w5.heap.size, 0, none⟩) hb (.slice none 0 0)).set (p := ⟨w5.heap.size, 1, none⟩) hb (.slice none 0 0)
    generalize (w6.setCell ⟨w5.heap.size, 0, none⟩ (.slice none 0 0)).setCell ⟨w5.heap.size, 1, none⟩ (.slice none 0 0) = X at *
    clear hsX hpr hr k0 kk k5 k6 HNO HHI HDW y0 y1 y2 y3 y4 y5 y6 y7 d0 d1 d2 d3 d4 d5 d6 d7 q0 q1 g0 g1 gl ne1 ne2
    have c0 := hrX.cell (i := 0) (by omega)
    have c1 := hrX.cell (i := 1) (by omega)
    have z0 := hrX.frozen 0
    have z1 := hrX.frozen 1
    have hszX := hrX.lt
    have HRX := Lib.hid hrX
    have KX := Lib.hid kX
    clear hrX kX
    go_wp2_with fail
    obtain ⟨W, hW, e0, e1, hk⟩ := two_lay HRX.out KX.out (by omega) (.slice none 0 0) (.slice none 0 0)
    rw [hW]
    clear hW c0 c1 z0 z1
    exact bodyPost_ret (v := .tuple #[.agg #[.slice none 0 0, .slice none 0 0], .int .i64 1]) (by simp [results, Tryz.results36, go_sem, e0, e1]) rfl ⟨rfl, hk⟩
  · have hb : w.heap.size ≤ V2.heap.size := by
      exact k0.size
    have hrX := RW.aside (RW.aside (hr.ext kk) hpr (by decide) 0 (.slice none 0 0)) (hpr.set (show 0 < 2 by omega) (.slice none 0 0)) (by decide) 1 (.slice none 0 0)
    have hsX := (hpr.set (show 0 < 2 by omega) (.slice none 0 0)).set (show 1 < 2 by omega) (.slice none 0 0)
    have p0 := hsX.cell (i := 0) (by omega)
    have p1 := hsX.cell (i := 1) (by omega)
    simp only [if_true] at p0 p1
    have kX := ((k0.trans kk).set (p := ⟨V2.heap.size, 0, none⟩) hb (.slice none 0 0)).set (p := ⟨V2.heap.size, 1, none⟩) hb (.slice none 0 0)
    generalize (w6.setCell ⟨V2.heap.size, 0, none⟩ (.slice none 0 0)).setCell ⟨V2.heap.size, 1, none⟩ (.slice none 0 0) = X at *
    clear hsX hpr hr k0 kk k5 k6 HNO HHI HDW y0 y1 y2 y3 y4 y5 y6 y7 d0 d1 d2 d3 d4 d5 d6 d7 q0 q1 g0 g1 gl ne1 ne2
    have c0 := hrX.cell (i := 0) (by omega)
    have c1 := hrX.cell (i := 1) (by omega)
    have z0 := hrX.frozen 0
    have z1 := hrX.frozen 1
    have hszX := hrX.lt
    have HRX := Lib.hid hrX
    have KX := Lib.hid kX
    clear hrX kX
    go_wp2_with fail
    obtain ⟨W, hW, e0, e1, hk⟩ := two_lay HRX.out KX.out (by omega) (.slice none 0 0) (.slice none 0 0)
    rw [hW]
    clear hW c0 c1 z0 z1
    exact bodyPost_ret (v := .tuple #[.agg #[.slice none 0 0, .slice none 0 0], .int .i64 1]) (by simp [results, Tryz.results36, go_sem, e0, e1]) rfl ⟨rfl, hk⟩
end Go.Proofs.YtbpehdfpiembfaaGreatDoor

/-
  Without a tape: what All of package keys answers.
-/
namespace Go.Proofs.YtbpehdfpiembfaaGreatDoor
open Go.RowKit
set_option linter.unusedVariables false
set_option maxRecDepth 100000

theorem three_lay {w V : World} {g : Nat} {t : TypeId} (hr : RW V g t 3 (fun _ => .slice none 0 0)) (hk : Ext w V) (hg : w.heap.size ≤ g) (a b c : Value) :
    ∃ W, ((V.setCell ⟨g, 0, none⟩ a).setCell ⟨g, 1, none⟩ b).setCell ⟨g, 2, none⟩ c = W ∧ W.cell? ⟨g, 0, none⟩ = some a ∧ W.cell? ⟨g, 1, none⟩ = some b ∧ W.cell? ⟨g, 2, none⟩ = some c ∧ Ext w W := by
  have hs := ((hr.set (show 0 < 3 by omega) a).set (show 1 < 3 by omega) b).set (show 2 < 3 by omega) c
  exact ⟨_, rfl, by have := hs.cell (i := 0) (by omega); simpa using this, by have := hs.cell (i := 1) (by omega); simpa using this, by have := hs.cell (i := 2) (by omega); simpa using this, ((hk.set (p := ⟨g, 0, none⟩) hg a).set (p := ⟨g, 1, none⟩) hg b).set (p := ⟨g, 2, none⟩) hg c⟩
set_option maxHeartbeats 8000000 in
theorem allNil_any {N : Int} {T L c : Nat} {Wd : Int} {A : Option Addr} {q : Nat → Nat} (n d m e : Nat) (B C : Option Addr) (v s : Nat → Int) (x : Nat) (w : World) (hP : Hid (PA w N T A L c Wd q)) (hN : N ≤ 32) (hL : L ≤ 100) (hX : VX w B n d v) (hn : n ≤ 100000) (hv : Hid (∀ i, i < n → -9223372036854775808 ≤ v i ∧ v i < 9223372036854775808)) (hS : VX w C m e s) (hm : m ≤ 100000) (hsv : Hid (∀ i, i < m → -9223372036854775808 ≤ s i ∧ s i < 9223372036854775808)) (hT : Tabs w) (hx : Hid (AskIs (ParP N T L q Wd) (SecP N n v) (StepsP N m s) true x)) :
    Calls Tryz.prog 51 #[.agg #[.int .i64 N, .int .u64 (T : Int), .slice A L c, .int .i64 Wd], .slice B n d, .slice C m e, .pointer none] w fun ee w' => ee = .returned (.tuple #[.agg #[.slice none 0 0, .slice none 0 0, .slice none 0 0], .int .i64 (x : Int)]) ∧ Ext w w' := by
  have HT := Lib.hid hT
  have HX := Lib.hid hX
  have HSX := Lib.hid hS
  clear hT hX hS
  have hn0 := hP.out.n0
  have hn1 := hP.out.n1
  have ht1 := hP.out.t1
  have k0 : Ext w ((w.alloc (.cells #[.int .i64 N, .int .u64 (T : Int), .slice A L c, .int .i64 Wd] 25)).alloc (.cells #[.slice none 0 0, .slice none 0 0, .slice none 0 0] 99)) := ((Ext.refl w).alloc _).alloc _
  have k2 : Ext (w.alloc (.cells #[.int .i64 N, .int .u64 (T : Int), .slice A L c, .int .i64 Wd] 25)) ((w.alloc (.cells #[.int .i64 N, .int .u64 (T : Int), .slice A L c, .int .i64 Wd] 25)).alloc (.cells #[.slice none 0 0, .slice none 0 0, .slice none 0 0] 99)) := (Ext.refl _).alloc _
  obtain ⟨x0, x1, x2, x3⟩ := four_at w (.int .i64 N) (.int .u64 (T : Int)) (.slice A L c) (.int .i64 Wd) 25
  replace x0 := cell_ext k2 x0
  replace x1 := cell_ext k2 x1
  replace x2 := cell_ext k2 x2
  replace x3 := cell_ext k2 x3
  have hr : RW ((w.alloc (.cells #[.int .i64 N, .int .u64 (T : Int), .slice A L c, .int .i64 Wd] 25)).alloc (.cells #[.slice none 0 0, .slice none 0 0, .slice none 0 0] 99)) (w.heap.size + 1) 99 3 (fun _ => .slice none 0 0) := by
    have : RW ((w.alloc (.cells #[.int .i64 N, .int .u64 (T : Int), .slice A L c, .int .i64 Wd] 25)).alloc (.cells #[.slice none 0 0, .slice none 0 0, .slice none 0 0] 99)) (w.alloc (.cells #[.int .i64 N, .int .u64 (T : Int), .slice A L c, .int .i64 Wd] 25)).heap.size 99 3 (fun _ => .slice none 0 0) := heap_alloc_new _ _
    rwa [show (w.alloc (.cells #[.int .i64 N, .int .u64 (T : Int), .slice A L c, .int .i64 Wd] 25)).heap.size = w.heap.size + 1 by simp] at this
  clear k2
  by_cases hps : ParP N T L q Wd ∧ SecP N n v
  case neg =>
    have hno := ask_no hx.out hps
    have HNO := Lib.hid hno
    have hx0 : ((x : Int) != 0) = true := by rcases hno with ⟨_, h⟩ | ⟨_, _, h⟩ <;> subst h <;> rfl
    clear hno hps hx
    go_enter Tryz.func51, Tryz.ntmps51
    go_wp2_with fail
    generalize ((w.alloc (.cells #[.int .i64 N, .int .u64 (T : Int), .slice A L c, .int .i64 Wd] 25)).alloc (.cells #[.slice none 0 0, .slice none 0 0, .slice none 0 0] 99)) = V at *
    refine (drawer_no n d B v none x V (Lib.hid (hP.out.ext k0)) hL (HX.out.ext k0) hn hv (HT.out.ext k0) HNO).mono ?_
    rintro ee V1 ⟨rfl, k1⟩
    replace hr := hr.ext k1
    replace k0 := k0.trans k1
    clear k1 x0 x1 x2 x3
    have c0 := hr.cell (i := 0) (by omega)
    have c1 := hr.cell (i := 1) (by omega)
    have c2 := hr.cell (i := 2) (by omega)
    have z0 := hr.frozen 0
    have z1 := hr.frozen 1
    have z2 := hr.frozen 2
    have hsz := hr.lt
    have HR6 := Lib.hid hr
    have KR6 := Lib.hid k0
    clear hr k0
    go_wp2_with fail
    obtain ⟨W, hW, e0, e1, e2, hk⟩ := three_lay HR6.out KR6.out (by omega) (.slice none 0 0) (.slice none 0 0) (.slice none 0 0)
    rw [hW]
    clear hW c0 c1 c2 z0 z1 z2
    replace e0 := cell_ext ((Ext.refl W).alloc (.cells #[.int .i64 0, .int .u64 0, .slice none 0 0, .int .i64 0, .pointer none, .pointer none, .slice none 0 0, .pointer none] 151)) e0
    replace e1 := cell_ext ((Ext.refl W).alloc (.cells #[.int .i64 0, .int .u64 0, .slice none 0 0, .int .i64 0, .pointer none, .pointer none, .slice none 0 0, .pointer none] 151)) e1
    replace e2 := cell_ext ((Ext.refl W).alloc (.cells #[.int .i64 0, .int .u64 0, .slice none 0 0, .int .i64 0, .pointer none, .pointer none, .slice none 0 0, .pointer none] 151)) e2
    replace hk := hk.alloc (.cells #[.int .i64 0, .int .u64 0, .slice none 0 0, .int .i64 0, .pointer none, .pointer none, .slice none 0 0, .pointer none] 151)
    generalize W.alloc (.cells #[.int .i64 0, .int .u64 0, .slice none 0 0, .int .i64 0, .pointer none, .pointer none, .slice none 0 0, .pointer none] 151) = W3 at *
    exact bodyPost_ret (v := .tuple #[.agg #[.slice none 0 0, .slice none 0 0, .slice none 0 0], .int .i64 (x : Int)]) (by simp [results, Tryz.results51, go_sem, e0, e1, e2]) rfl ⟨rfl, hk⟩
  obtain ⟨hp, hnN, hs⟩ := hps
  subst hnN
  obtain ⟨hrow, hn8, hL1, hL8⟩ := par_rowY hp hN
  have HP := Lib.hid hp
  have HS := Lib.hid hs
  obtain ⟨k, hk1, hk2, hk3⟩ : ∃ k, 1 ≤ k ∧ k ≤ 9 ∧ n = 2 ^ k := by
    rcases hn8 with h | h | h
    · exact ⟨3, by omega, by omega, by omega⟩
    · exact ⟨4, by omega, by omega, by omega⟩
    · exact ⟨5, by omega, by omega, by omega⟩
  have HK := Lib.hid (⟨hk1, hk2, hk3⟩ : 1 ≤ k ∧ k ≤ 9 ∧ n = 2 ^ k)
  have HQ := Lib.hid (show ∀ j, j < L → 0 < q j from fun j hj => by
    have h := (hrow.2.2 j hj).1
    have h4 := h.2.2.2.1
    rcases Nat.eq_zero_or_pos (q j) with e | e
    · rw [e, Nat.zero_mod] at h4; omega
    · exact e)
  clear hp hs hrow hk1 hk2 hk3
  go_enter Tryz.func51, Tryz.ntmps51
  go_wp2_with fail
  generalize ((w.alloc (.cells #[.int .i64 (n : Int), .int .u64 (T : Int), .slice A L c, .int .i64 Wd] 25)).alloc (.cells #[.slice none 0 0, .slice none 0 0, .slice none 0 0] 99)) = V at *
  refine (drawer_any d B v none V (Lib.hid (hP.out.ext k0)) hL (by omega) (HX.out.ext k0) hv (HT.out.ext k0) HP HS).mono ?_
  rintro ee V1 ⟨r, b, G, rfl, p, a, e', kk, rr, u, x', As, cs, F, hrg, _, _, _, hpm, hF, k1⟩
  have kz := k1.alloc (.cells #[.int .i64 (n : Int), .int .u64 (T : Int), .slice A L c, .int .i64 Wd, .pointer (some ⟨r, 0, none⟩), .pointer (some ⟨b, 0, none⟩), .slice (some ⟨G, 0, none⟩) L L, .pointer none] 151)
  have ka : Ext V1 (V1.alloc (.cells #[.int .i64 (n : Int), .int .u64 (T : Int), .slice A L c, .int .i64 Wd, .pointer (some ⟨r, 0, none⟩), .pointer (some ⟨b, 0, none⟩), .slice (some ⟨G, 0, none⟩) L L, .pointer none] 151)) := (Ext.refl V1).alloc _
  have HRG := Lib.hid (hrg.ext ka)
  have HPM := Lib.hid (hpm.ext ka)
  have y0 : (V1.alloc (.cells #[.int .i64 (n : Int), .int .u64 (T : Int), .slice A L c, .int .i64 Wd, .pointer (some ⟨r, 0, none⟩), .pointer (some ⟨b, 0, none⟩), .slice (some ⟨G, 0, none⟩) L L, .pointer none] 151)).cell? ⟨V1.heap.size, 0, none⟩ = some (.int .i64 (n : Int)) := by simp
  have y1 : (V1.alloc (.cells #[.int .i64 (n : Int), .int .u64 (T : Int), .slice A L c, .int .i64 Wd, .pointer (some ⟨r, 0, none⟩), .pointer (some ⟨b, 0, none⟩), .slice (some ⟨G, 0, none⟩) L L, .pointer none] 151)).cell? ⟨V1.heap.size, 1, none⟩ = some (.int .u64 (T : Int)) := by simp
  have y2 : (V1.alloc (.cells #[.int .i64 (n : Int), .int .u64 (T : Int), .slice A L c, .int .i64 Wd, .pointer (some ⟨r, 0, none⟩), .pointer (some ⟨b, 0, none⟩), .slice (some ⟨G, 0, none⟩) L L, .pointer none] 151)).cell? ⟨V1.heap.size, 2, none⟩ = some (.slice A L c) := by simp
  have y3 : (V1.alloc (.cells #[.int .i64 (n : Int), .int .u64 (T : Int), .slice A L c, .int .i64 Wd, .pointer (some ⟨r, 0, none⟩), .pointer (some ⟨b, 0, none⟩), .slice (some ⟨G, 0, none⟩) L L, .pointer none] 151)).cell? ⟨V1.heap.size, 3, none⟩ = some (.int .i64 Wd) := by simp
  have y4 : (V1.alloc (.cells #[.int .i64 (n : Int), .int .u64 (T : Int), .slice A L c, .int .i64 Wd, .pointer (some ⟨r, 0, none⟩), .pointer (some ⟨b, 0, none⟩), .slice (some ⟨G, 0, none⟩) L L, .pointer none] 151)).cell? ⟨V1.heap.size, 4, none⟩ = some (.pointer (some ⟨r, 0, none⟩)) := by simp
  have y5 : (V1.alloc (.cells #[.int .i64 (n : Int), .int .u64 (T : Int), .slice A L c, .int .i64 Wd, .pointer (some ⟨r, 0, none⟩), .pointer (some ⟨b, 0, none⟩), .slice (some ⟨G, 0, none⟩) L L, .pointer none] 151)).cell? ⟨V1.heap.size, 5, none⟩ = some (.pointer (some ⟨b, 0, none⟩)) := by simp
  have y6 : (V1.alloc (.cells #[.int .i64 (n : Int), .int .u64 (T : Int), .slice A L c, .int .i64 Wd, .pointer (some ⟨r, 0, none⟩), .pointer (some ⟨b, 0, none⟩), .slice (some ⟨G, 0, none⟩) L L, .pointer none] 151)).cell? ⟨V1.heap.size, 6, none⟩ = some (.slice (some ⟨G, 0, none⟩) L L) := by simp
  have y7 : (V1.alloc (.cells #[.int .i64 (n : Int), .int .u64 (T : Int), .slice A L c, .int .i64 Wd, .pointer (some ⟨r, 0, none⟩), .pointer (some ⟨b, 0, none⟩), .slice (some ⟨G, 0, none⟩) L L, .pointer none] 151)).cell? ⟨V1.heap.size, 7, none⟩ = some (.pointer none) := by simp
  replace hr := hr.ext kz
  replace k0 := k0.trans kz
  replace x0 := cell_ext kz x0
  clear k1 kz ka x1 x2 x3 hrg hpm
  go_wp2_with fail
  generalize V1.alloc (.cells #[.int .i64 (n : Int), .int .u64 (T : Int), .slice A L c, .int .i64 Wd, .pointer (some ⟨r, 0, none⟩), .pointer (some ⟨b, 0, none⟩), .slice (some ⟨G, 0, none⟩) L L, .pointer none] 151) = V2 at *
  refine (mayTurn_any (n : Int) m e C s V2 (by omega) (by omega) (HSX.out.ext k0) hm hsv).mono ?_
  rintro ee V3 (⟨hst, rfl, rfl⟩ | ⟨hst, rfl, rfl⟩)
  case inr =>
    have hx1 := ask_step hx.out HP.out ⟨rfl, HS.out⟩ hst
    subst hx1
    clear hst hx x0 y0 y1 y2 y3 y4 y5 y6 y7
    have c0 := hr.cell (i := 0) (by omega)
    have c1 := hr.cell (i := 1) (by omega)
    have c2 := hr.cell (i := 2) (by omega)
    have z0 := hr.frozen 0
    have z1 := hr.frozen 1
    have z2 := hr.frozen 2
    have hsz := hr.lt
    have HR6 := Lib.hid hr
    have KR6 := Lib.hid k0
    clear hr k0
    go_wp2_with fail
    obtain ⟨W, hW, e0, e1, e2, hk⟩ := three_lay HR6.out KR6.out (by omega) (.slice none 0 0) (.slice none 0 0) (.slice none 0 0)
    rw [hW]
    clear hW c0 c1 c2 z0 z1 z2
    exact bodyPost_ret (v := .tuple #[.agg #[.slice none 0 0, .slice none 0 0, .slice none 0 0], .int .i64 5]) (by simp [results, Tryz.results51, go_sem, e0, e1, e2]) rfl ⟨rfl, hk⟩
  have hx1 := ask_yes hx.out HP.out ⟨rfl, HS.out⟩ hst
  simp only [if_true] at hx1
  subst hx1
  clear hst hx
  have HFL := Lib.hid (show ∀ j, j < L → ∀ i, i < n → F j i < q j from fun j hj i _ => by rw [hF.out j hj]; exact lif_lt (HQ.out j hj))
  have HLM := Lib.hid (show L = L - 1 + 1 by omega)
  go_wp2_with fail
  refine (relinNil_any n T L (L - 1) c G k Wd A r (some ⟨b, 0, none⟩) q p a e' As cs F V2 (by omega) (by omega) HLM (by omega) ht1 HRG.out HPM.out HFL HK).mono ?_
  rintro ee V4 ⟨rfl, k4⟩
  replace hr := hr.ext k4
  replace k0 := k0.trans k4
  clear k4 x0 y0 y1 y2 y3 y4 y5 y6 y7
  have c0 := hr.cell (i := 0) (by omega)
  have c1 := hr.cell (i := 1) (by omega)
  have c2 := hr.cell (i := 2) (by omega)
  have z0 := hr.frozen 0
  have z1 := hr.frozen 1
  have z2 := hr.frozen 2
  have hsz := hr.lt
  have HR6 := Lib.hid hr
  have KR6 := Lib.hid k0
  clear hr k0
  go_wp2_with fail
  obtain ⟨W, hW, e0, e1, e2, hk⟩ := three_lay HR6.out KR6.out (by omega) (.slice none 0 0) (.slice none 0 0) (.slice none 0 0)
  rw [hW]
  clear hW c0 c1 c2 z0 z1 z2
  replace e0 := cell_ext ((Ext.refl W).alloc (.cells #[.slice none 0 0, .slice none 0 0] 83)) e0
  replace e1 := cell_ext ((Ext.refl W).alloc (.cells #[.slice none 0 0, .slice none 0 0] 83)) e1
  replace e2 := cell_ext ((Ext.refl W).alloc (.cells #[.slice none 0 0, .slice none 0 0] 83)) e2
  replace hk := hk.alloc (.cells #[.slice none 0 0, .slice none 0 0] 83)
  generalize W.alloc (.cells #[.slice none 0 0, .slice none 0 0] 83) = W3 at *
  exact bodyPost_ret (v := .tuple #[.agg #[.slice none 0 0, .slice none 0 0, .slice none 0 0], .int .i64 1]) (by simp [results, Tryz.results51, go_sem, e0, e1, e2]) rfl ⟨rfl, hk⟩
end Go.Proofs.YtbpehdfpiembfaaGreatDoor
