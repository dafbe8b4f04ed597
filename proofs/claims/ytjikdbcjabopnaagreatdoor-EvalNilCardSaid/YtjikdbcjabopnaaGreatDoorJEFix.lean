import Derived.Test.YtjikdbcjabopnaaGreatDoorJ41
import Derived.Test.YtjikdbcjabopnaaGreatDoorJ38
import Derived.Test.YtjikdbcjabopnaaGreatDoorJ29
import Derived.Test.YtjikdbcjabopnaaGreatDoorJATxt
import Derived.Test.YtjikdbcjabopnaaGreatDoorJ40
namespace Go.Proofs.YtjikdbcjabopnaaGreatDoor
open Go.RowKit
set_option linter.unusedVariables false
set_option linter.unusedSimpArgs false
set_option maxRecDepth 100000
theorem any_parts {P : Program} {md : Region.Mode} {ops : Array Oper} {Q : Exit → Act → World → Prop} {S : World → Prop} {fuel : Nat} {l : Array Bool} {a : Act} {w : World} (h : ∀ ops' Q' S', ops' = ops → Q' = Q → S' = S → wpAnyH P md ops' Q' S' fuel l a w) : wpAnyH P md ops Q S fuel l a w := h _ _ _ rfl rfl rfl
theorem par_fixE : ParP 8 17 2 fixQ 1 := fun k hk => by
 have h := par_fix k hk
 rcases (show k = 0 ∨ k = 1 ∨ k = 2 ∨ k = 3 ∨ k = 4 ∨ k = 5 by omega) with rfl | rfl | rfl | rfl | rfl | rfl
 ·exact h
 ·show (1 : Int) ≤ 1 ∧ (1 : Int) ≤ 16
  omega
 ·exact h
 ·exact h
 ·exact h
 ·exact h
theorem stZ {W : World} {p a : Addr} {v x : Value} (h : W.cell? p = some (.slice none 0 0)) (ha : W.cell? a = some v) (hv : v ≠ .slice none 0 0) : (W.setCell p x).cell? a = some v := by
 rw [set_far (fun e => ?_)]
 ·exact ha
 ·subst e
  rw [h] at ha
  injection ha with ha
  exact hv ha.symm
theorem PX.stZ {W : World} {p : Addr} {x : Value} {A : Option Addr} {L c : Nat} {As : Nat → Option Addr} {cs : Nat → Nat} {f : Nat → Nat → Nat} (h : W.cell? p = some (.slice none 0 0)) (hp : PX W A L c As (fun _ => 8) cs f) : PX (W.setCell p x) A L c As (fun _ => 8) cs f :=
 ⟨hp.room, fun h0 => by
  obtain ⟨ad, e, hc⟩ := hp.cells h0
  exact ⟨ad, e, fun j hj => Go.Proofs.YtjikdbcjabopnaaGreatDoor.stZ h (hc j hj) (by simp)⟩, fun j hj => ⟨(hp.rows j hj).room, fun h0 => by
  obtain ⟨ad, e, hc⟩ := (hp.rows j hj).cells h0
  exact ⟨ad, e, fun k hk => Go.Proofs.YtjikdbcjabopnaaGreatDoor.stZ h (hc k hk) (by simp)⟩⟩⟩
theorem qp2 {W : World} {gB L : Nat} {F : Nat → Nat → Nat} {A0 : Option Addr} {d0 : Nat} {As0 : Nat → Option Addr} {cs0 : Nat → Nat} {A1 : Option Addr} {d1 : Nat} {As1 : Nat → Option Addr} {cs1 : Nat → Nat} (hL : L ≤ 1000) (b0 : W.cell? ⟨gB, 0, none⟩ = some (.slice A0 L d0)) (b1 : W.cell? ⟨gB, 1, none⟩ = some (.slice A1 L d1)) (p0 : PX W A0 L d0 As0 (fun _ => 8) cs0 F) (p1 : PX W A1 L d1 As1 (fun _ => 8) cs1 F) : ∃ Aj cj Bs cs, QP W (some ⟨gB, 0, none⟩) 2 2 Aj (fun _ => L) cj Bs (fun _ _ => 8) cs (fun _ => F) := by
 refine ⟨(fun j => if j = 0 then A0 else A1 : Nat → Option Addr), (fun j => if j = 0 then d0 else d1 : Nat → Nat), (fun j => if j = 0 then As0 else As1 : Nat → (Nat → Option Addr)), (fun j => if j = 0 then cs0 else cs1 : Nat → (Nat → Nat)), ⟨⟨Nat.le_refl _, fun _ => ⟨_, rfl, fun j hj => ?_⟩⟩, fun j hj => ?_⟩⟩
 ·rw [Addr.add_lit, Nat.zero_add]
  rcases (show j = 0 ∨ j = 1 by omega) with rfl | rfl
  ·exact b0
  ·exact b1
 ·rcases (show j = 0 ∨ j = 1 by omega) with rfl | rfl
  ·exact ⟨p0, by show L ≤ 1000000000000000; omega, fun _ _ => by show (8 : Nat) ≤ 1000000000000000; omega⟩
  ·exact ⟨p1, by show L ≤ 1000000000000000; omega, fun _ _ => by show (8 : Nat) ≤ 1000000000000000; omega⟩
theorem qp3 {W : World} {gB L : Nat} {F : Nat → Nat → Nat} {A0 : Option Addr} {d0 : Nat} {As0 : Nat → Option Addr} {cs0 : Nat → Nat} {A1 : Option Addr} {d1 : Nat} {As1 : Nat → Option Addr} {cs1 : Nat → Nat} {A2 : Option Addr} {d2 : Nat} {As2 : Nat → Option Addr} {cs2 : Nat → Nat} (hL : L ≤ 1000) (b0 : W.cell? ⟨gB, 0, none⟩ = some (.slice A0 L d0)) (b1 : W.cell? ⟨gB, 1, none⟩ = some (.slice A1 L d1)) (b2 : W.cell? ⟨gB, 2, none⟩ = some (.slice A2 L d2)) (p0 : PX W A0 L d0 As0 (fun _ => 8) cs0 F) (p1 : PX W A1 L d1 As1 (fun _ => 8) cs1 F) (p2 : PX W A2 L d2 As2 (fun _ => 8) cs2 F) : ∃ Aj cj Bs cs, QP W (some ⟨gB, 0, none⟩) 3 3 Aj (fun _ => L) cj Bs (fun _ _ => 8) cs (fun _ => F) := by
 refine ⟨(fun j => if j = 0 then A0 else if j = 1 then A1 else A2 : Nat → Option Addr), (fun j => if j = 0 then d0 else if j = 1 then d1 else d2 : Nat → Nat), (fun j => if j = 0 then As0 else if j = 1 then As1 else As2 : Nat → (Nat → Option Addr)), (fun j => if j = 0 then cs0 else if j = 1 then cs1 else cs2 : Nat → (Nat → Nat)), ⟨⟨Nat.le_refl _, fun _ => ⟨_, rfl, fun j hj => ?_⟩⟩, fun j hj => ?_⟩⟩
 ·rw [Addr.add_lit, Nat.zero_add]
  rcases (show j = 0 ∨ j = 1 ∨ j = 2 by omega) with rfl | rfl | rfl
  ·exact b0
  ·exact b1
  ·exact b2
 ·rcases (show j = 0 ∨ j = 1 ∨ j = 2 by omega) with rfl | rfl | rfl
  ·exact ⟨p0, by show L ≤ 1000000000000000; omega, fun _ _ => by show (8 : Nat) ≤ 1000000000000000; omega⟩
  ·exact ⟨p1, by show L ≤ 1000000000000000; omega, fun _ _ => by show (8 : Nat) ≤ 1000000000000000; omega⟩
  ·exact ⟨p2, by show L ≤ 1000000000000000; omega, fun _ _ => by show (8 : Nat) ≤ 1000000000000000; omega⟩
set_option maxHeartbeats 4000000 in
theorem fixed13_any (w : World) (hT : Tabs w) : Calls Tryz.prog 8 #[] w fun e w' => e = .returned (.bool true) ∧ Ext w w' := by
 have HT := Lib.hid hT
 clear hT
 have hQ : FX ((w.alloc (.cells #[.int .u64 97, .int .u64 193] 22)).alloc (.cells #[.int .i64 8, .int .u64 17, .slice (some ⟨w.heap.size, 0, none⟩) 2 2, .int .i64 1] 25)) (some ⟨w.heap.size, 0, none⟩) 2 2 fixQ := (fx_two w 97 193 97 193 rfl rfl).ext ((Ext.refl _).alloc _)
 have kV : Ext w ((w.alloc (.cells #[.int .u64 97, .int .u64 193] 22)).alloc (.cells #[.int .i64 8, .int .u64 17, .slice (some ⟨w.heap.size, 0, none⟩) 2 2, .int .i64 1] 25)) := ((Ext.refl w).alloc _).alloc _
 obtain ⟨x0, x1, x2, x3⟩ := four_at (w.alloc (.cells #[.int .u64 97, .int .u64 193] 22)) (.int .i64 8) (.int .u64 17) (.slice (some ⟨w.heap.size, 0, none⟩) 2 2) (.int .i64 1) 25
 rw [show (w.alloc (.cells #[.int .u64 97, .int .u64 193] 22)).heap.size = w.heap.size + 1 by simp] at x0 x1 x2 x3
 have HF : ∀ j, j < 2 → fixQ j < 18446744073709551616 := fun j hj => by unfold fixQ; split <;> omega
 have HQ := Lib.hid hQ
 clear hQ
 go_enter Tryz.func8, Tryz.ntmps8
 go_wp2_with fail
 generalize ((w.alloc (.cells #[.int .u64 97, .int .u64 193] 22)).alloc (.cells #[.int .i64 8, .int .u64 17, .slice (some ⟨w.heap.size, 0, none⟩) 2 2, .int .i64 1] 25)) = V at *
 obtain ⟨Q0, hQ0⟩ : ∃ b, b = w.heap.size := ⟨_, rfl⟩
 obtain ⟨Pb, hPb⟩ : ∃ b, b = w.heap.size + 1 := ⟨_, rfl⟩
 rw [← hPb] at x0 x1 x2 x3
 rw [← hQ0] at x2 HQ
 try simp only [← hPb]
 try simp only [← hQ0]
 have hPV : Pb < V.heap.size := World.block_lt_of_cell? _ _ x0
 clear hQ0 hPb
 have HPA := Lib.hid (show PA V 8 17 (some ⟨Q0, 0, none⟩) 2 2 1 fixQ from ⟨by omega, by omega, by omega, by omega, by omega, HQ.out, by omega, HF⟩)
 refine (evNew_any (n := 8) HPA (Lib.hid par_fixE) (by omega) (HT.out.ext kV)).mono ?_
 rintro ee V1 ⟨v, s, r, b, Ae, ce, rfl, HEV, k1⟩
 replace x0 := cell_ext k1 x0
 replace x1 := cell_ext k1 x1
 replace x2 := cell_ext k1 x2
 replace x3 := cell_ext k1 x3
 replace HQ := Lib.hid (HQ.out.ext k1)
 replace kV := kV.trans k1
 have hP1 : Pb < V1.heap.size := by have := k1.size; omega
 clear k1 hPV HPA
 go_wp2_with fail
 have hmk : ∀ w' : World, (Instr.makeSlice 75 (.int .i64 8) (.int .i64 8)).run Tryz.prog w' = .ok (.slice (some ⟨w'.heap.size, 0, none⟩) 8 8) (w'.alloc (.cells (newJ 8) 2)) := fun w' => make_i64V 8 (by omega) w'
 have HLI := Lib.hid (fun (l : Nat) (hl : l < 2) (w' : World) (k : Ext V1 w') (A : Option Addr) (hv : VX w' A 8 8 (fun _ => 0)) => refLift_any (some ⟨Q0, 0, none⟩) 2 2 fixQ A 8 8 (fun _ => 0) l w' (HQ.out.ext k) (by omega) (Lib.hid fun j hj => ⟨by unfold fixQ; split <;> omega, HF j hj⟩) hv (by omega) (Lib.hid fun i hi => by omega) hl)
 go_cut [4] (fun sx wx => ∃ (g gB : Nat) (Aj : Nat → Option Addr) (cj : Nat → Nat) (Bs : Nat → Nat → Option Addr) (cs : Nat → Nat → Nat), sx = .pointer (some ⟨g, 0, none⟩) ∧ Hid (wx.cell? ⟨g, 0, none⟩ = some (.slice (some ⟨gB, 0, none⟩) 2 2)) ∧ Hid (QP wx (some ⟨gB, 0, none⟩) 2 2 Aj (fun _ => 1) cj Bs (fun _ _ => 8) cs (fun _ j i => lif 0 (fixQ j))) ∧ Ext V1 wx)
 case first =>
  refine wp_region_held_drew (S := (fun w' => w'.cell? ⟨Pb, 2, none⟩ = some (.slice (some ⟨Q0, 0, none⟩) 2 2))) (by kernel_rfl) ?_ (fun hHeld => ?_)
  ·(try dsimp only); go_keep
  refine wpAnyH_take (i := 0) (oi := _) (v := ?_) rfl (by kernel_rfl) (by kernel_rfl) (by kernel_rfl) (fun _ _ _ h => h) (Or.inl ⟨by rfl, ?_⟩) (by assumption) ?_
  rotate_left
  ·(intro wS hSw; (try dsimp only at hSw); (try go_simp); (try with_reducible rfl))
  try simp only [Act.put, List.setIfInBounds_toArray, List.set_cons_zero, List.set_cons_succ]
  refine wpAnyH_take (i := 1) (oi := _) (v := ?_) rfl (by kernel_rfl) (by kernel_rfl) (by kernel_rfl) (fun _ _ _ h => h) (Or.inl ⟨by rfl, ?_⟩) (by assumption) ?_
  rotate_left
  ·(intro wS hSw; (try dsimp only at hSw); (try go_simp); (try with_reducible rfl))
  try simp only [Act.put, List.setIfInBounds_toArray, List.set_cons_zero, List.set_cons_succ]
  refine wpAnyH_take (i := 4) (oi := _) (v := ?_) rfl (by kernel_rfl) (by kernel_rfl) (by kernel_rfl) (fun _ _ _ h => h) (Or.inl ⟨by rfl, ?_⟩) (by assumption) ?_
  rotate_left
  ·(intro wS hSw; (try dsimp only at hSw); (try go_simp); (try with_reducible rfl))
  try simp only [Act.put, List.setIfInBounds_toArray, List.set_cons_zero, List.set_cons_succ]
  refine wpAnyH_take (i := 5) (oi := _) (v := ?_) rfl (by kernel_rfl) (by kernel_rfl) (by kernel_rfl) (fun _ _ _ h => h) (Or.inl ⟨by rfl, ?_⟩) (by assumption) ?_
  rotate_left
  ·(intro wS hSw; (try dsimp only at hSw); (try go_simp); (try with_reducible rfl))
  try simp only [Act.put, List.setIfInBounds_toArray, List.set_cons_zero, List.set_cons_succ]
  refine any_parts ?_
  intro OPS QQ SS hO hQQ hSS
  have HD6 : Hid (∀ (g0 : Nat) (A0 : Option Addr) (d0 : Nat) (As0 : Nat → Option Addr) (cs0 : Nat → Nat) (g1 : Nat) (A1 : Option Addr) (d1 : Nat) (As1 : Nat → Option Addr) (cs1 : Nat → Nat) (gB : Nat) (gA : Nat) (W : World), Ext V1 W → SS W → (PX W A0 1 d0 As0 (fun _ => 8) cs0 (fun j i => lif 0 (fixQ j))) → (PX W A1 1 d1 As1 (fun _ => 8) cs1 (fun j i => lif 0 (fixQ j))) → (W.heap[gB]? = some (.cells #[.slice A0 1 d0, .slice A1 1 d1] 73 (0, 0))) → (W.heap[gA]? = some (.cells #[.slice none 0 0] 28 (0, 0))) → (V1.heap.size ≤ gA) → ∀ (l : Array Bool) (a : Act), l = #[true, true, true, true, true, true, true, true, true, true, true, false] → a = { tmps := #[.bool false, .pointer (some ⟨Pb, 0, none⟩), .pointer (some ⟨v, 0, none⟩), .int .i64 0, .pointer (some ⟨gA, 0, none⟩), undef, undef, undef, undef, undef, .slice (some ⟨Q0, 0, none⟩) 2 2, .agg #[.int .i64 8, .int .u64 17, .slice (some ⟨Q0, 0, none⟩) 2 2, .int .i64 1], .tuple #[.pointer (some ⟨v, 0, none⟩), .int .i64 0], .agg #[.int .i64 8, .int .u64 17, .slice (some ⟨Q0, 0, none⟩) 2 2, .int .i64 1], .tuple #[.pointer (some ⟨v, 0, none⟩), .int .i64 0], .pointer (some ⟨v, 0, none⟩), .int .i64 0, .pointer (some ⟨Pb, 2, none⟩), .slice (some ⟨Q0, 0, none⟩) 2 2, .slice (some ⟨g0, 0, none⟩) 8 8, .agg #[.slice A0 1 d0], .pointer (some ⟨Pb, 2, none⟩), .slice (some ⟨Q0, 0, none⟩) 2 2, .slice (some ⟨g1, 0, none⟩) 8 8, .agg #[.slice A1 1 d1], .slice (some ⟨gB, 0, none⟩) 2 2, .agg #[.slice (some ⟨gB, 0, none⟩) 2 2], undef, undef, undef, undef, undef, undef, undef, undef, undef, undef, undef, undef, undef, undef, undef, undef, undef, undef, undef, undef, undef, undef, undef, undef, undef, undef, undef, undef, undef, undef, undef, undef, undef, undef, undef, undef, undef, undef], defers := [] } → wpAnyH Tryz.prog .any OPS QQ SS 1 l a W) := Lib.hid (by
   intro g0 A0 d0 As0 cs0 g1 A1 d1 As1 cs1 gB gA W kW hHeld fp0 fp1 fB fA fA2 l a hl ha
   subst hO hQQ hSS hl ha
   try dsimp only at hHeld
   refine wpAnyH_ready (rs := [11]) (by kernel_rfl) (by simp) ?_
   refine AllReadyH.cons rfl (fun KQ hKQ => ?_) AllReadyH.nil
   have z0 := row_z fA 0
   have c0 : W.cell? ⟨gA, 0, none⟩ = some (.slice none 0 0) := by rw [cell_of_row W gA 0 _ _ (0, 0) fA]; rfl
   have hAP : gA ≠ Pb := by omega
   go_simp
   refine hKQ.out _ _ ?_ (fun hHeld2 => ?_)
   ·(try dsimp only); rw [set_far (fun e => hAP (by injection e))]; exact hHeld
   clear hKQ KQ
   refine wpAnyH_done (by kernel_rfl) ?_ _
   go_wp2_with fail
   go_meet
   have b0 : W.cell? ⟨gB, 0, none⟩ = some (.slice A0 1 d0) := by rw [cell_of_row W gB 0 _ _ (0, 0) fB]; rfl
   have b1 : W.cell? ⟨gB, 1, none⟩ = some (.slice A1 1 d1) := by rw [cell_of_row W gB 1 _ _ (0, 0) fB]; rfl
   obtain ⟨Aj, cj, Bs, cs, hqp⟩ := qp2 (L := 1) (by omega) (stZ c0 b0 (by simp)) (stZ c0 b1 (by simp)) (PX.stZ c0 fp0) (PX.stZ c0 fp1)
   exact ⟨gA, gB, Aj, cj, Bs, cs, rfl, Lib.hid (World.cell?_setCell_same _ _ _ c0), Lib.hid hqp, Ext.set (p := ⟨gA, 0, none⟩) kW fA2 _⟩)
  have HD5 : Hid (∀ (g0 : Nat) (A0 : Option Addr) (d0 : Nat) (As0 : Nat → Option Addr) (cs0 : Nat → Nat) (g1 : Nat) (A1 : Option Addr) (d1 : Nat) (As1 : Nat → Option Addr) (cs1 : Nat → Nat) (gB : Nat) (W : World), Ext V1 W → SS W → (PX W A0 1 d0 As0 (fun _ => 8) cs0 (fun j i => lif 0 (fixQ j))) → (PX W A1 1 d1 As1 (fun _ => 8) cs1 (fun j i => lif 0 (fixQ j))) → (W.heap[gB]? = some (.cells #[.slice A0 1 d0, .slice A1 1 d1] 73 (0, 0))) → ∀ (l : Array Bool) (a : Act), l = #[true, true, true, true, true, true, true, true, true, true, false, false] → a = { tmps := #[.bool false, .pointer (some ⟨Pb, 0, none⟩), .pointer (some ⟨v, 0, none⟩), .int .i64 0, undef, undef, undef, undef, undef, undef, .slice (some ⟨Q0, 0, none⟩) 2 2, .agg #[.int .i64 8, .int .u64 17, .slice (some ⟨Q0, 0, none⟩) 2 2, .int .i64 1], .tuple #[.pointer (some ⟨v, 0, none⟩), .int .i64 0], .agg #[.int .i64 8, .int .u64 17, .slice (some ⟨Q0, 0, none⟩) 2 2, .int .i64 1], .tuple #[.pointer (some ⟨v, 0, none⟩), .int .i64 0], .pointer (some ⟨v, 0, none⟩), .int .i64 0, .pointer (some ⟨Pb, 2, none⟩), .slice (some ⟨Q0, 0, none⟩) 2 2, .slice (some ⟨g0, 0, none⟩) 8 8, .agg #[.slice A0 1 d0], .pointer (some ⟨Pb, 2, none⟩), .slice (some ⟨Q0, 0, none⟩) 2 2, .slice (some ⟨g1, 0, none⟩) 8 8, .agg #[.slice A1 1 d1], .slice (some ⟨gB, 0, none⟩) 2 2, .agg #[.slice (some ⟨gB, 0, none⟩) 2 2], undef, undef, undef, undef, undef, undef, undef, undef, undef, undef, undef, undef, undef, undef, undef, undef, undef, undef, undef, undef, undef, undef, undef, undef, undef, undef, undef, undef, undef, undef, undef, undef, undef, undef, undef, undef, undef, undef], defers := [] } → wpAnyH Tryz.prog .any OPS QQ SS 2 l a W) := Lib.hid (by
   intro g0 A0 d0 As0 cs0 g1 A1 d1 As1 cs1 gB W kW hHeld fp0 fp1 fB l a hl ha
   subst hO hQQ hSS hl ha
   try dsimp only at hHeld
   refine wpAnyH_ready (rs := [10]) (by kernel_rfl) (by simp) ?_
   refine AllReadyH.cons rfl (fun KQ hKQ => ?_) AllReadyH.nil
   go_simp
   skip
   refine hKQ.out _ _ ?_ (fun hHeld2 => ?_)
   ·(try dsimp only); exact cell_ext (Ext.alloc (Ext.refl W) _) hHeld
   clear hKQ KQ
   exact HD6.out g0 A0 d0 As0 cs0 g1 A1 d1 As1 cs1 gB W.heap.size _ (kW.trans (Ext.alloc (Ext.refl W) _)) hHeld2 (fp0.ext (Ext.alloc (Ext.refl W) _)) (fp1.ext (Ext.alloc (Ext.refl W) _)) (row_ext fB (Ext.alloc (Ext.refl W) _)) (heap_alloc_new W _) (kW.size) _ _ (by kernel_rfl) (by kernel_rfl))
  have HD7 : Hid (∀ (g0 : Nat) (A0 : Option Addr) (d0 : Nat) (As0 : Nat → Option Addr) (cs0 : Nat → Nat) (g1 : Nat) (A1 : Option Addr) (d1 : Nat) (As1 : Nat → Option Addr) (cs1 : Nat → Nat) (gA : Nat) (W : World), Ext V1 W → SS W → (PX W A0 1 d0 As0 (fun _ => 8) cs0 (fun j i => lif 0 (fixQ j))) → (PX W A1 1 d1 As1 (fun _ => 8) cs1 (fun j i => lif 0 (fixQ j))) → (W.heap[gA]? = some (.cells #[.slice none 0 0] 28 (0, 0))) → (V1.heap.size ≤ gA) → ∀ (l : Array Bool) (a : Act), l = #[true, true, true, true, true, true, true, true, false, false, true, false] → a = { tmps := #[.bool false, .pointer (some ⟨Pb, 0, none⟩), .pointer (some ⟨v, 0, none⟩), .int .i64 0, .pointer (some ⟨gA, 0, none⟩), undef, undef, undef, undef, undef, .slice (some ⟨Q0, 0, none⟩) 2 2, .agg #[.int .i64 8, .int .u64 17, .slice (some ⟨Q0, 0, none⟩) 2 2, .int .i64 1], .tuple #[.pointer (some ⟨v, 0, none⟩), .int .i64 0], .agg #[.int .i64 8, .int .u64 17, .slice (some ⟨Q0, 0, none⟩) 2 2, .int .i64 1], .tuple #[.pointer (some ⟨v, 0, none⟩), .int .i64 0], .pointer (some ⟨v, 0, none⟩), .int .i64 0, .pointer (some ⟨Pb, 2, none⟩), .slice (some ⟨Q0, 0, none⟩) 2 2, .slice (some ⟨g0, 0, none⟩) 8 8, .agg #[.slice A0 1 d0], .pointer (some ⟨Pb, 2, none⟩), .slice (some ⟨Q0, 0, none⟩) 2 2, .slice (some ⟨g1, 0, none⟩) 8 8, .agg #[.slice A1 1 d1], undef, undef, undef, undef, undef, undef, undef, undef, undef, undef, undef, undef, undef, undef, undef, undef, undef, undef, undef, undef, undef, undef, undef, undef, undef, undef, undef, undef, undef, undef, undef, undef, undef, undef, undef, undef, undef, undef, undef, undef], defers := [] } → wpAnyH Tryz.prog .any OPS QQ SS 3 l a W) := Lib.hid (by
   intro g0 A0 d0 As0 cs0 g1 A1 d1 As1 cs1 gA W kW hHeld fp0 fp1 fA fA2 l a hl ha
   subst hO hQQ hSS hl ha
   try dsimp only at hHeld
   refine wpAnyH_ready (rs := [8]) (by kernel_rfl) (by simp) ?_
   refine AllReadyH.cons rfl (fun KQ hKQ => ?_) AllReadyH.nil
   go_simp
   skip
   refine hKQ.out _ _ ?_ (fun hHeld2 => ?_)
   ·(try dsimp only); exact cell_ext (Ext.alloc (Ext.refl W) _) hHeld
   clear hKQ KQ
   try simp only [Act.put, List.setIfInBounds_toArray, List.set_cons_zero, List.set_cons_succ]
   refine wpAnyH_take (i := 9) (oi := _) (v := ?_) rfl (by kernel_rfl) (by kernel_rfl) (by kernel_rfl) (fun _ _ _ h => h) (Or.inl ⟨by rfl, ?_⟩) (by assumption) ?_
   rotate_left
   ·(intro wS hSw; (try dsimp only at hSw); (try go_simp); (try with_reducible rfl))
   try simp only [Act.put, List.setIfInBounds_toArray, List.set_cons_zero, List.set_cons_succ]
   exact HD6.out g0 A0 d0 As0 cs0 g1 A1 d1 As1 cs1 W.heap.size gA _ (kW.trans (Ext.alloc (Ext.refl W) _)) hHeld2 (fp0.ext (Ext.alloc (Ext.refl W) _)) (fp1.ext (Ext.alloc (Ext.refl W) _)) (heap_alloc_new W _) (row_ext fA (Ext.alloc (Ext.refl W) _)) (fA2) _ _ (by kernel_rfl) (by kernel_rfl))
  have HD4 : Hid (∀ (g0 : Nat) (A0 : Option Addr) (d0 : Nat) (As0 : Nat → Option Addr) (cs0 : Nat → Nat) (g1 : Nat) (A1 : Option Addr) (d1 : Nat) (As1 : Nat → Option Addr) (cs1 : Nat → Nat) (W : World), Ext V1 W → SS W → (PX W A0 1 d0 As0 (fun _ => 8) cs0 (fun j i => lif 0 (fixQ j))) → (PX W A1 1 d1 As1 (fun _ => 8) cs1 (fun j i => lif 0 (fixQ j))) → ∀ (l : Array Bool) (a : Act), l = #[true, true, true, true, true, true, true, true, false, false, false, false] → a = { tmps := #[.bool false, .pointer (some ⟨Pb, 0, none⟩), .pointer (some ⟨v, 0, none⟩), .int .i64 0, undef, undef, undef, undef, undef, undef, .slice (some ⟨Q0, 0, none⟩) 2 2, .agg #[.int .i64 8, .int .u64 17, .slice (some ⟨Q0, 0, none⟩) 2 2, .int .i64 1], .tuple #[.pointer (some ⟨v, 0, none⟩), .int .i64 0], .agg #[.int .i64 8, .int .u64 17, .slice (some ⟨Q0, 0, none⟩) 2 2, .int .i64 1], .tuple #[.pointer (some ⟨v, 0, none⟩), .int .i64 0], .pointer (some ⟨v, 0, none⟩), .int .i64 0, .pointer (some ⟨Pb, 2, none⟩), .slice (some ⟨Q0, 0, none⟩) 2 2, .slice (some ⟨g0, 0, none⟩) 8 8, .agg #[.slice A0 1 d0], .pointer (some ⟨Pb, 2, none⟩), .slice (some ⟨Q0, 0, none⟩) 2 2, .slice (some ⟨g1, 0, none⟩) 8 8, .agg #[.slice A1 1 d1], undef, undef, undef, undef, undef, undef, undef, undef, undef, undef, undef, undef, undef, undef, undef, undef, undef, undef, undef, undef, undef, undef, undef, undef, undef, undef, undef, undef, undef, undef, undef, undef, undef, undef, undef, undef, undef, undef, undef, undef], defers := [] } → wpAnyH Tryz.prog .any OPS QQ SS 4 l a W) := Lib.hid (by
   intro g0 A0 d0 As0 cs0 g1 A1 d1 As1 cs1 W kW hHeld fp0 fp1 l a hl ha
   subst hO hQQ hSS hl ha
   try dsimp only at hHeld
   refine wpAnyH_ready (rs := [8, 10]) (by kernel_rfl) (by simp) ?_
   refine AllReadyH.cons rfl (fun KQ hKQ => ?_) ?_
   ·go_simp
    skip
    refine hKQ.out _ _ ?_ (fun hHeld2 => ?_)
    ·(try dsimp only); exact cell_ext (Ext.alloc (Ext.refl W) _) hHeld
    clear hKQ KQ
    try simp only [Act.put, List.setIfInBounds_toArray, List.set_cons_zero, List.set_cons_succ]
    refine wpAnyH_take (i := 9) (oi := _) (v := ?_) rfl (by kernel_rfl) (by kernel_rfl) (by kernel_rfl) (fun _ _ _ h => h) (Or.inl ⟨by rfl, ?_⟩) (by assumption) ?_
    rotate_left
    ·(intro wS hSw; (try dsimp only at hSw); (try go_simp); (try with_reducible rfl))
    try simp only [Act.put, List.setIfInBounds_toArray, List.set_cons_zero, List.set_cons_succ]
    exact HD5.out g0 A0 d0 As0 cs0 g1 A1 d1 As1 cs1 W.heap.size _ (kW.trans (Ext.alloc (Ext.refl W) _)) hHeld2 (fp0.ext (Ext.alloc (Ext.refl W) _)) (fp1.ext (Ext.alloc (Ext.refl W) _)) (heap_alloc_new W _) _ _ (by kernel_rfl) (by kernel_rfl)
   refine AllReadyH.cons rfl (fun KQ hKQ => ?_) AllReadyH.nil
   go_simp
   skip
   refine hKQ.out _ _ ?_ (fun hHeld2 => ?_)
   ·(try dsimp only); exact cell_ext (Ext.alloc (Ext.refl W) _) hHeld
   clear hKQ KQ
   exact HD7.out g0 A0 d0 As0 cs0 g1 A1 d1 As1 cs1 W.heap.size _ (kW.trans (Ext.alloc (Ext.refl W) _)) hHeld2 (fp0.ext (Ext.alloc (Ext.refl W) _)) (fp1.ext (Ext.alloc (Ext.refl W) _)) (heap_alloc_new W _) (kW.size) _ _ (by kernel_rfl) (by kernel_rfl))
  have HD8 : Hid (∀ (g0 : Nat) (A0 : Option Addr) (d0 : Nat) (As0 : Nat → Option Addr) (cs0 : Nat → Nat) (g1 : Nat) (gA : Nat) (W : World), Ext V1 W → SS W → (PX W A0 1 d0 As0 (fun _ => 8) cs0 (fun j i => lif 0 (fixQ j))) → (VX W (some ⟨g1, 0, none⟩) 8 8 (fun _ => 0)) → (W.heap[gA]? = some (.cells #[.slice none 0 0] 28 (0, 0))) → (V1.heap.size ≤ gA) → ∀ (l : Array Bool) (a : Act), l = #[true, true, true, true, true, true, true, false, false, false, true, false] → a = { tmps := #[.bool false, .pointer (some ⟨Pb, 0, none⟩), .pointer (some ⟨v, 0, none⟩), .int .i64 0, .pointer (some ⟨gA, 0, none⟩), undef, undef, undef, undef, undef, .slice (some ⟨Q0, 0, none⟩) 2 2, .agg #[.int .i64 8, .int .u64 17, .slice (some ⟨Q0, 0, none⟩) 2 2, .int .i64 1], .tuple #[.pointer (some ⟨v, 0, none⟩), .int .i64 0], .agg #[.int .i64 8, .int .u64 17, .slice (some ⟨Q0, 0, none⟩) 2 2, .int .i64 1], .tuple #[.pointer (some ⟨v, 0, none⟩), .int .i64 0], .pointer (some ⟨v, 0, none⟩), .int .i64 0, .pointer (some ⟨Pb, 2, none⟩), .slice (some ⟨Q0, 0, none⟩) 2 2, .slice (some ⟨g0, 0, none⟩) 8 8, .agg #[.slice A0 1 d0], .pointer (some ⟨Pb, 2, none⟩), .slice (some ⟨Q0, 0, none⟩) 2 2, .slice (some ⟨g1, 0, none⟩) 8 8, undef, undef, undef, undef, undef, undef, undef, undef, undef, undef, undef, undef, undef, undef, undef, undef, undef, undef, undef, undef, undef, undef, undef, undef, undef, undef, undef, undef, undef, undef, undef, undef, undef, undef, undef, undef, undef, undef, undef, undef, undef], defers := [] } → wpAnyH Tryz.prog .any OPS QQ SS 4 l a W) := Lib.hid (by
   intro g0 A0 d0 As0 cs0 g1 gA W kW hHeld fp0 fg1 fA fA2 l a hl ha
   subst hO hQQ hSS hl ha
   try dsimp only at hHeld
   refine wpAnyH_ready (rs := [7]) (by kernel_rfl) (by simp) ?_
   refine AllReadyH.cons rfl (fun KQ hKQ => ?_) AllReadyH.nil
   go_simp
   go_at_call 45
   refine (HLI.out 0 (by omega) W kW (some ⟨g1, 0, none⟩) fg1).mono ?_
   rintro e5 W5 ⟨A2, c2, As, cs, rfl, hpx, k5⟩
   refine hKQ.out _ _ ?_ (fun hHeld2 => ?_)
   ·(try dsimp only); exact cell_ext k5 hHeld
   clear hKQ KQ
   exact HD7.out g0 A0 d0 As0 cs0 g1 A2 c2 As cs gA _ (kW.trans k5) hHeld2 (fp0.ext k5) (hpx) (row_ext fA k5) (fA2) _ _ (by kernel_rfl) (by kernel_rfl))
  have HD3 : Hid (∀ (g0 : Nat) (A0 : Option Addr) (d0 : Nat) (As0 : Nat → Option Addr) (cs0 : Nat → Nat) (g1 : Nat) (W : World), Ext V1 W → SS W → (PX W A0 1 d0 As0 (fun _ => 8) cs0 (fun j i => lif 0 (fixQ j))) → (VX W (some ⟨g1, 0, none⟩) 8 8 (fun _ => 0)) → ∀ (l : Array Bool) (a : Act), l = #[true, true, true, true, true, true, true, false, false, false, false, false] → a = { tmps := #[.bool false, .pointer (some ⟨Pb, 0, none⟩), .pointer (some ⟨v, 0, none⟩), .int .i64 0, undef, undef, undef, undef, undef, undef, .slice (some ⟨Q0, 0, none⟩) 2 2, .agg #[.int .i64 8, .int .u64 17, .slice (some ⟨Q0, 0, none⟩) 2 2, .int .i64 1], .tuple #[.pointer (some ⟨v, 0, none⟩), .int .i64 0], .agg #[.int .i64 8, .int .u64 17, .slice (some ⟨Q0, 0, none⟩) 2 2, .int .i64 1], .tuple #[.pointer (some ⟨v, 0, none⟩), .int .i64 0], .pointer (some ⟨v, 0, none⟩), .int .i64 0, .pointer (some ⟨Pb, 2, none⟩), .slice (some ⟨Q0, 0, none⟩) 2 2, .slice (some ⟨g0, 0, none⟩) 8 8, .agg #[.slice A0 1 d0], .pointer (some ⟨Pb, 2, none⟩), .slice (some ⟨Q0, 0, none⟩) 2 2, .slice (some ⟨g1, 0, none⟩) 8 8, undef, undef, undef, undef, undef, undef, undef, undef, undef, undef, undef, undef, undef, undef, undef, undef, undef, undef, undef, undef, undef, undef, undef, undef, undef, undef, undef, undef, undef, undef, undef, undef, undef, undef, undef, undef, undef, undef, undef, undef, undef], defers := [] } → wpAnyH Tryz.prog .any OPS QQ SS 5 l a W) := Lib.hid (by
   intro g0 A0 d0 As0 cs0 g1 W kW hHeld fp0 fg1 l a hl ha
   subst hO hQQ hSS hl ha
   try dsimp only at hHeld
   refine wpAnyH_ready (rs := [7, 10]) (by kernel_rfl) (by simp) ?_
   refine AllReadyH.cons rfl (fun KQ hKQ => ?_) ?_
   ·go_simp
    go_at_call 45
    refine (HLI.out 0 (by omega) W kW (some ⟨g1, 0, none⟩) fg1).mono ?_
    rintro e5 W5 ⟨A2, c2, As, cs, rfl, hpx, k5⟩
    refine hKQ.out _ _ ?_ (fun hHeld2 => ?_)
    ·(try dsimp only); exact cell_ext k5 hHeld
    clear hKQ KQ
    exact HD4.out g0 A0 d0 As0 cs0 g1 A2 c2 As cs _ (kW.trans k5) hHeld2 (fp0.ext k5) (hpx) _ _ (by kernel_rfl) (by kernel_rfl)
   refine AllReadyH.cons rfl (fun KQ hKQ => ?_) AllReadyH.nil
   go_simp
   skip
   refine hKQ.out _ _ ?_ (fun hHeld2 => ?_)
   ·(try dsimp only); exact cell_ext (Ext.alloc (Ext.refl W) _) hHeld
   clear hKQ KQ
   exact HD8.out g0 A0 d0 As0 cs0 g1 W.heap.size _ (kW.trans (Ext.alloc (Ext.refl W) _)) hHeld2 (fp0.ext (Ext.alloc (Ext.refl W) _)) (fg1.ext (Ext.alloc (Ext.refl W) _)) (heap_alloc_new W _) (kW.size) _ _ (by kernel_rfl) (by kernel_rfl))
  have HD9 : Hid (∀ (g0 : Nat) (A0 : Option Addr) (d0 : Nat) (As0 : Nat → Option Addr) (cs0 : Nat → Nat) (gA : Nat) (W : World), Ext V1 W → SS W → (PX W A0 1 d0 As0 (fun _ => 8) cs0 (fun j i => lif 0 (fixQ j))) → (W.heap[gA]? = some (.cells #[.slice none 0 0] 28 (0, 0))) → (V1.heap.size ≤ gA) → ∀ (l : Array Bool) (a : Act), l = #[true, true, true, true, true, true, false, false, false, false, true, false] → a = { tmps := #[.bool false, .pointer (some ⟨Pb, 0, none⟩), .pointer (some ⟨v, 0, none⟩), .int .i64 0, .pointer (some ⟨gA, 0, none⟩), undef, undef, undef, undef, undef, .slice (some ⟨Q0, 0, none⟩) 2 2, .agg #[.int .i64 8, .int .u64 17, .slice (some ⟨Q0, 0, none⟩) 2 2, .int .i64 1], .tuple #[.pointer (some ⟨v, 0, none⟩), .int .i64 0], .agg #[.int .i64 8, .int .u64 17, .slice (some ⟨Q0, 0, none⟩) 2 2, .int .i64 1], .tuple #[.pointer (some ⟨v, 0, none⟩), .int .i64 0], .pointer (some ⟨v, 0, none⟩), .int .i64 0, .pointer (some ⟨Pb, 2, none⟩), .slice (some ⟨Q0, 0, none⟩) 2 2, .slice (some ⟨g0, 0, none⟩) 8 8, .agg #[.slice A0 1 d0], .pointer (some ⟨Pb, 2, none⟩), .slice (some ⟨Q0, 0, none⟩) 2 2, undef, undef, undef, undef, undef, undef, undef, undef, undef, undef, undef, undef, undef, undef, undef, undef, undef, undef, undef, undef, undef, undef, undef, undef, undef, undef, undef, undef, undef, undef, undef, undef, undef, undef, undef, undef, undef, undef, undef, undef, undef, undef], defers := [] } → wpAnyH Tryz.prog .any OPS QQ SS 5 l a W) := Lib.hid (by
   intro g0 A0 d0 As0 cs0 gA W kW hHeld fp0 fA fA2 l a hl ha
   subst hO hQQ hSS hl ha
   try dsimp only at hHeld
   refine wpAnyH_ready (rs := [6]) (by kernel_rfl) (by simp) ?_
   refine AllReadyH.cons rfl (fun KQ hKQ => ?_) AllReadyH.nil
   go_simp
   skip
   refine hKQ.out _ _ ?_ (fun hHeld2 => ?_)
   ·(try dsimp only); exact cell_ext (Ext.alloc (Ext.refl W) _) hHeld
   clear hKQ KQ
   exact HD8.out g0 A0 d0 As0 cs0 W.heap.size gA _ (kW.trans (Ext.alloc (Ext.refl W) _)) hHeld2 (fp0.ext (Ext.alloc (Ext.refl W) _)) ((newJ_rowX W 8).vxX) (row_ext fA (Ext.alloc (Ext.refl W) _)) (fA2) _ _ (by kernel_rfl) (by kernel_rfl))
  have HD2 : Hid (∀ (g0 : Nat) (A0 : Option Addr) (d0 : Nat) (As0 : Nat → Option Addr) (cs0 : Nat → Nat) (W : World), Ext V1 W → SS W → (PX W A0 1 d0 As0 (fun _ => 8) cs0 (fun j i => lif 0 (fixQ j))) → ∀ (l : Array Bool) (a : Act), l = #[true, true, true, true, true, true, false, false, false, false, false, false] → a = { tmps := #[.bool false, .pointer (some ⟨Pb, 0, none⟩), .pointer (some ⟨v, 0, none⟩), .int .i64 0, undef, undef, undef, undef, undef, undef, .slice (some ⟨Q0, 0, none⟩) 2 2, .agg #[.int .i64 8, .int .u64 17, .slice (some ⟨Q0, 0, none⟩) 2 2, .int .i64 1], .tuple #[.pointer (some ⟨v, 0, none⟩), .int .i64 0], .agg #[.int .i64 8, .int .u64 17, .slice (some ⟨Q0, 0, none⟩) 2 2, .int .i64 1], .tuple #[.pointer (some ⟨v, 0, none⟩), .int .i64 0], .pointer (some ⟨v, 0, none⟩), .int .i64 0, .pointer (some ⟨Pb, 2, none⟩), .slice (some ⟨Q0, 0, none⟩) 2 2, .slice (some ⟨g0, 0, none⟩) 8 8, .agg #[.slice A0 1 d0], .pointer (some ⟨Pb, 2, none⟩), .slice (some ⟨Q0, 0, none⟩) 2 2, undef, undef, undef, undef, undef, undef, undef, undef, undef, undef, undef, undef, undef, undef, undef, undef, undef, undef, undef, undef, undef, undef, undef, undef, undef, undef, undef, undef, undef, undef, undef, undef, undef, undef, undef, undef, undef, undef, undef, undef, undef, undef], defers := [] } → wpAnyH Tryz.prog .any OPS QQ SS 6 l a W) := Lib.hid (by
   intro g0 A0 d0 As0 cs0 W kW hHeld fp0 l a hl ha
   subst hO hQQ hSS hl ha
   try dsimp only at hHeld
   refine wpAnyH_ready (rs := [6, 10]) (by kernel_rfl) (by simp) ?_
   refine AllReadyH.cons rfl (fun KQ hKQ => ?_) ?_
   ·go_simp
    skip
    refine hKQ.out _ _ ?_ (fun hHeld2 => ?_)
    ·(try dsimp only); exact cell_ext (Ext.alloc (Ext.refl W) _) hHeld
    clear hKQ KQ
    exact HD3.out g0 A0 d0 As0 cs0 W.heap.size _ (kW.trans (Ext.alloc (Ext.refl W) _)) hHeld2 (fp0.ext (Ext.alloc (Ext.refl W) _)) ((newJ_rowX W 8).vxX) _ _ (by kernel_rfl) (by kernel_rfl)
   refine AllReadyH.cons rfl (fun KQ hKQ => ?_) AllReadyH.nil
   go_simp
   skip
   refine hKQ.out _ _ ?_ (fun hHeld2 => ?_)
   ·(try dsimp only); exact cell_ext (Ext.alloc (Ext.refl W) _) hHeld
   clear hKQ KQ
   exact HD9.out g0 A0 d0 As0 cs0 W.heap.size _ (kW.trans (Ext.alloc (Ext.refl W) _)) hHeld2 (fp0.ext (Ext.alloc (Ext.refl W) _)) (heap_alloc_new W _) (kW.size) _ _ (by kernel_rfl) (by kernel_rfl))
  have HD11 : Hid (∀ (g0 : Nat) (g1 : Nat) (gA : Nat) (W : World), Ext V1 W → SS W → (VX W (some ⟨g0, 0, none⟩) 8 8 (fun _ => 0)) → (VX W (some ⟨g1, 0, none⟩) 8 8 (fun _ => 0)) → (W.heap[gA]? = some (.cells #[.slice none 0 0] 28 (0, 0))) → (V1.heap.size ≤ gA) → ∀ (l : Array Bool) (a : Act), l = #[true, true, true, false, true, true, true, false, false, false, true, false] → a = { tmps := #[.bool false, .pointer (some ⟨Pb, 0, none⟩), .pointer (some ⟨v, 0, none⟩), .int .i64 0, .pointer (some ⟨gA, 0, none⟩), undef, undef, undef, undef, undef, .slice (some ⟨Q0, 0, none⟩) 2 2, .agg #[.int .i64 8, .int .u64 17, .slice (some ⟨Q0, 0, none⟩) 2 2, .int .i64 1], .tuple #[.pointer (some ⟨v, 0, none⟩), .int .i64 0], .agg #[.int .i64 8, .int .u64 17, .slice (some ⟨Q0, 0, none⟩) 2 2, .int .i64 1], .tuple #[.pointer (some ⟨v, 0, none⟩), .int .i64 0], .pointer (some ⟨v, 0, none⟩), .int .i64 0, .pointer (some ⟨Pb, 2, none⟩), .slice (some ⟨Q0, 0, none⟩) 2 2, .slice (some ⟨g0, 0, none⟩) 8 8, undef, .pointer (some ⟨Pb, 2, none⟩), .slice (some ⟨Q0, 0, none⟩) 2 2, .slice (some ⟨g1, 0, none⟩) 8 8, undef, undef, undef, undef, undef, undef, undef, undef, undef, undef, undef, undef, undef, undef, undef, undef, undef, undef, undef, undef, undef, undef, undef, undef, undef, undef, undef, undef, undef, undef, undef, undef, undef, undef, undef, undef, undef, undef, undef, undef, undef], defers := [] } → wpAnyH Tryz.prog .any OPS QQ SS 5 l a W) := Lib.hid (by
   intro g0 g1 gA W kW hHeld fg0 fg1 fA fA2 l a hl ha
   subst hO hQQ hSS hl ha
   try dsimp only at hHeld
   refine wpAnyH_ready (rs := [3]) (by kernel_rfl) (by simp) ?_
   refine AllReadyH.cons rfl (fun KQ hKQ => ?_) AllReadyH.nil
   go_simp
   go_at_call 45
   refine (HLI.out 0 (by omega) W kW (some ⟨g0, 0, none⟩) fg0).mono ?_
   rintro e5 W5 ⟨A2, c2, As, cs, rfl, hpx, k5⟩
   refine hKQ.out _ _ ?_ (fun hHeld2 => ?_)
   ·(try dsimp only); exact cell_ext k5 hHeld
   clear hKQ KQ
   exact HD8.out g0 A2 c2 As cs g1 gA _ (kW.trans k5) hHeld2 (hpx) (fg1.ext k5) (row_ext fA k5) (fA2) _ _ (by kernel_rfl) (by kernel_rfl))
  have HD10 : Hid (∀ (g0 : Nat) (g1 : Nat) (W : World), Ext V1 W → SS W → (VX W (some ⟨g0, 0, none⟩) 8 8 (fun _ => 0)) → (VX W (some ⟨g1, 0, none⟩) 8 8 (fun _ => 0)) → ∀ (l : Array Bool) (a : Act), l = #[true, true, true, false, true, true, true, false, false, false, false, false] → a = { tmps := #[.bool false, .pointer (some ⟨Pb, 0, none⟩), .pointer (some ⟨v, 0, none⟩), .int .i64 0, undef, undef, undef, undef, undef, undef, .slice (some ⟨Q0, 0, none⟩) 2 2, .agg #[.int .i64 8, .int .u64 17, .slice (some ⟨Q0, 0, none⟩) 2 2, .int .i64 1], .tuple #[.pointer (some ⟨v, 0, none⟩), .int .i64 0], .agg #[.int .i64 8, .int .u64 17, .slice (some ⟨Q0, 0, none⟩) 2 2, .int .i64 1], .tuple #[.pointer (some ⟨v, 0, none⟩), .int .i64 0], .pointer (some ⟨v, 0, none⟩), .int .i64 0, .pointer (some ⟨Pb, 2, none⟩), .slice (some ⟨Q0, 0, none⟩) 2 2, .slice (some ⟨g0, 0, none⟩) 8 8, undef, .pointer (some ⟨Pb, 2, none⟩), .slice (some ⟨Q0, 0, none⟩) 2 2, .slice (some ⟨g1, 0, none⟩) 8 8, undef, undef, undef, undef, undef, undef, undef, undef, undef, undef, undef, undef, undef, undef, undef, undef, undef, undef, undef, undef, undef, undef, undef, undef, undef, undef, undef, undef, undef, undef, undef, undef, undef, undef, undef, undef, undef, undef, undef, undef, undef], defers := [] } → wpAnyH Tryz.prog .any OPS QQ SS 6 l a W) := Lib.hid (by
   intro g0 g1 W kW hHeld fg0 fg1 l a hl ha
   subst hO hQQ hSS hl ha
   try dsimp only at hHeld
   refine wpAnyH_ready (rs := [3, 10]) (by kernel_rfl) (by simp) ?_
   refine AllReadyH.cons rfl (fun KQ hKQ => ?_) ?_
   ·go_simp
    go_at_call 45
    refine (HLI.out 0 (by omega) W kW (some ⟨g0, 0, none⟩) fg0).mono ?_
    rintro e5 W5 ⟨A2, c2, As, cs, rfl, hpx, k5⟩
    refine hKQ.out _ _ ?_ (fun hHeld2 => ?_)
    ·(try dsimp only); exact cell_ext k5 hHeld
    clear hKQ KQ
    exact HD3.out g0 A2 c2 As cs g1 _ (kW.trans k5) hHeld2 (hpx) (fg1.ext k5) _ _ (by kernel_rfl) (by kernel_rfl)
   refine AllReadyH.cons rfl (fun KQ hKQ => ?_) AllReadyH.nil
   go_simp
   skip
   refine hKQ.out _ _ ?_ (fun hHeld2 => ?_)
   ·(try dsimp only); exact cell_ext (Ext.alloc (Ext.refl W) _) hHeld
   clear hKQ KQ
   exact HD11.out g0 g1 W.heap.size _ (kW.trans (Ext.alloc (Ext.refl W) _)) hHeld2 (fg0.ext (Ext.alloc (Ext.refl W) _)) (fg1.ext (Ext.alloc (Ext.refl W) _)) (heap_alloc_new W _) (kW.size) _ _ (by kernel_rfl) (by kernel_rfl))
  have HD12 : Hid (∀ (g0 : Nat) (gA : Nat) (W : World), Ext V1 W → SS W → (VX W (some ⟨g0, 0, none⟩) 8 8 (fun _ => 0)) → (W.heap[gA]? = some (.cells #[.slice none 0 0] 28 (0, 0))) → (V1.heap.size ≤ gA) → ∀ (l : Array Bool) (a : Act), l = #[true, true, true, false, true, true, false, false, false, false, true, false] → a = { tmps := #[.bool false, .pointer (some ⟨Pb, 0, none⟩), .pointer (some ⟨v, 0, none⟩), .int .i64 0, .pointer (some ⟨gA, 0, none⟩), undef, undef, undef, undef, undef, .slice (some ⟨Q0, 0, none⟩) 2 2, .agg #[.int .i64 8, .int .u64 17, .slice (some ⟨Q0, 0, none⟩) 2 2, .int .i64 1], .tuple #[.pointer (some ⟨v, 0, none⟩), .int .i64 0], .agg #[.int .i64 8, .int .u64 17, .slice (some ⟨Q0, 0, none⟩) 2 2, .int .i64 1], .tuple #[.pointer (some ⟨v, 0, none⟩), .int .i64 0], .pointer (some ⟨v, 0, none⟩), .int .i64 0, .pointer (some ⟨Pb, 2, none⟩), .slice (some ⟨Q0, 0, none⟩) 2 2, .slice (some ⟨g0, 0, none⟩) 8 8, undef, .pointer (some ⟨Pb, 2, none⟩), .slice (some ⟨Q0, 0, none⟩) 2 2, undef, undef, undef, undef, undef, undef, undef, undef, undef, undef, undef, undef, undef, undef, undef, undef, undef, undef, undef, undef, undef, undef, undef, undef, undef, undef, undef, undef, undef, undef, undef, undef, undef, undef, undef, undef, undef, undef, undef, undef, undef, undef], defers := [] } → wpAnyH Tryz.prog .any OPS QQ SS 6 l a W) := Lib.hid (by
   intro g0 gA W kW hHeld fg0 fA fA2 l a hl ha
   subst hO hQQ hSS hl ha
   try dsimp only at hHeld
   refine wpAnyH_ready (rs := [3, 6]) (by kernel_rfl) (by simp) ?_
   refine AllReadyH.cons rfl (fun KQ hKQ => ?_) ?_
   ·go_simp
    go_at_call 45
    refine (HLI.out 0 (by omega) W kW (some ⟨g0, 0, none⟩) fg0).mono ?_
    rintro e5 W5 ⟨A2, c2, As, cs, rfl, hpx, k5⟩
    refine hKQ.out _ _ ?_ (fun hHeld2 => ?_)
    ·(try dsimp only); exact cell_ext k5 hHeld
    clear hKQ KQ
    exact HD9.out g0 A2 c2 As cs gA _ (kW.trans k5) hHeld2 (hpx) (row_ext fA k5) (fA2) _ _ (by kernel_rfl) (by kernel_rfl)
   refine AllReadyH.cons rfl (fun KQ hKQ => ?_) AllReadyH.nil
   go_simp
   skip
   refine hKQ.out _ _ ?_ (fun hHeld2 => ?_)
   ·(try dsimp only); exact cell_ext (Ext.alloc (Ext.refl W) _) hHeld
   clear hKQ KQ
   exact HD11.out g0 W.heap.size gA _ (kW.trans (Ext.alloc (Ext.refl W) _)) hHeld2 (fg0.ext (Ext.alloc (Ext.refl W) _)) ((newJ_rowX W 8).vxX) (row_ext fA (Ext.alloc (Ext.refl W) _)) (fA2) _ _ (by kernel_rfl) (by kernel_rfl))
  have HD1 : Hid (∀ (g0 : Nat) (W : World), Ext V1 W → SS W → (VX W (some ⟨g0, 0, none⟩) 8 8 (fun _ => 0)) → ∀ (l : Array Bool) (a : Act), l = #[true, true, true, false, true, true, false, false, false, false, false, false] → a = { tmps := #[.bool false, .pointer (some ⟨Pb, 0, none⟩), .pointer (some ⟨v, 0, none⟩), .int .i64 0, undef, undef, undef, undef, undef, undef, .slice (some ⟨Q0, 0, none⟩) 2 2, .agg #[.int .i64 8, .int .u64 17, .slice (some ⟨Q0, 0, none⟩) 2 2, .int .i64 1], .tuple #[.pointer (some ⟨v, 0, none⟩), .int .i64 0], .agg #[.int .i64 8, .int .u64 17, .slice (some ⟨Q0, 0, none⟩) 2 2, .int .i64 1], .tuple #[.pointer (some ⟨v, 0, none⟩), .int .i64 0], .pointer (some ⟨v, 0, none⟩), .int .i64 0, .pointer (some ⟨Pb, 2, none⟩), .slice (some ⟨Q0, 0, none⟩) 2 2, .slice (some ⟨g0, 0, none⟩) 8 8, undef, .pointer (some ⟨Pb, 2, none⟩), .slice (some ⟨Q0, 0, none⟩) 2 2, undef, undef, undef, undef, undef, undef, undef, undef, undef, undef, undef, undef, undef, undef, undef, undef, undef, undef, undef, undef, undef, undef, undef, undef, undef, undef, undef, undef, undef, undef, undef, undef, undef, undef, undef, undef, undef, undef, undef, undef, undef, undef], defers := [] } → wpAnyH Tryz.prog .any OPS QQ SS 7 l a W) := Lib.hid (by
   intro g0 W kW hHeld fg0 l a hl ha
   subst hO hQQ hSS hl ha
   try dsimp only at hHeld
   refine wpAnyH_ready (rs := [3, 6, 10]) (by kernel_rfl) (by simp) ?_
   refine AllReadyH.cons rfl (fun KQ hKQ => ?_) ?_
   ·go_simp
    go_at_call 45
    refine (HLI.out 0 (by omega) W kW (some ⟨g0, 0, none⟩) fg0).mono ?_
    rintro e5 W5 ⟨A2, c2, As, cs, rfl, hpx, k5⟩
    refine hKQ.out _ _ ?_ (fun hHeld2 => ?_)
    ·(try dsimp only); exact cell_ext k5 hHeld
    clear hKQ KQ
    exact HD2.out g0 A2 c2 As cs _ (kW.trans k5) hHeld2 (hpx) _ _ (by kernel_rfl) (by kernel_rfl)
   refine AllReadyH.cons rfl (fun KQ hKQ => ?_) ?_
   ·go_simp
    skip
    refine hKQ.out _ _ ?_ (fun hHeld2 => ?_)
    ·(try dsimp only); exact cell_ext (Ext.alloc (Ext.refl W) _) hHeld
    clear hKQ KQ
    exact HD10.out g0 W.heap.size _ (kW.trans (Ext.alloc (Ext.refl W) _)) hHeld2 (fg0.ext (Ext.alloc (Ext.refl W) _)) ((newJ_rowX W 8).vxX) _ _ (by kernel_rfl) (by kernel_rfl)
   refine AllReadyH.cons rfl (fun KQ hKQ => ?_) AllReadyH.nil
   go_simp
   skip
   refine hKQ.out _ _ ?_ (fun hHeld2 => ?_)
   ·(try dsimp only); exact cell_ext (Ext.alloc (Ext.refl W) _) hHeld
   clear hKQ KQ
   exact HD12.out g0 W.heap.size _ (kW.trans (Ext.alloc (Ext.refl W) _)) hHeld2 (fg0.ext (Ext.alloc (Ext.refl W) _)) (heap_alloc_new W _) (kW.size) _ _ (by kernel_rfl) (by kernel_rfl))
  have HD14 : Hid (∀ (g1 : Nat) (gA : Nat) (W : World), Ext V1 W → SS W → (VX W (some ⟨g1, 0, none⟩) 8 8 (fun _ => 0)) → (W.heap[gA]? = some (.cells #[.slice none 0 0] 28 (0, 0))) → (V1.heap.size ≤ gA) → ∀ (l : Array Bool) (a : Act), l = #[true, true, false, false, true, true, true, false, false, false, true, false] → a = { tmps := #[.bool false, .pointer (some ⟨Pb, 0, none⟩), .pointer (some ⟨v, 0, none⟩), .int .i64 0, .pointer (some ⟨gA, 0, none⟩), undef, undef, undef, undef, undef, .slice (some ⟨Q0, 0, none⟩) 2 2, .agg #[.int .i64 8, .int .u64 17, .slice (some ⟨Q0, 0, none⟩) 2 2, .int .i64 1], .tuple #[.pointer (some ⟨v, 0, none⟩), .int .i64 0], .agg #[.int .i64 8, .int .u64 17, .slice (some ⟨Q0, 0, none⟩) 2 2, .int .i64 1], .tuple #[.pointer (some ⟨v, 0, none⟩), .int .i64 0], .pointer (some ⟨v, 0, none⟩), .int .i64 0, .pointer (some ⟨Pb, 2, none⟩), .slice (some ⟨Q0, 0, none⟩) 2 2, undef, undef, .pointer (some ⟨Pb, 2, none⟩), .slice (some ⟨Q0, 0, none⟩) 2 2, .slice (some ⟨g1, 0, none⟩) 8 8, undef, undef, undef, undef, undef, undef, undef, undef, undef, undef, undef, undef, undef, undef, undef, undef, undef, undef, undef, undef, undef, undef, undef, undef, undef, undef, undef, undef, undef, undef, undef, undef, undef, undef, undef, undef, undef, undef, undef, undef, undef], defers := [] } → wpAnyH Tryz.prog .any OPS QQ SS 6 l a W) := Lib.hid (by
   intro g1 gA W kW hHeld fg1 fA fA2 l a hl ha
   subst hO hQQ hSS hl ha
   try dsimp only at hHeld
   refine wpAnyH_ready (rs := [2]) (by kernel_rfl) (by simp) ?_
   refine AllReadyH.cons rfl (fun KQ hKQ => ?_) AllReadyH.nil
   go_simp
   skip
   refine hKQ.out _ _ ?_ (fun hHeld2 => ?_)
   ·(try dsimp only); exact cell_ext (Ext.alloc (Ext.refl W) _) hHeld
   clear hKQ KQ
   exact HD11.out W.heap.size g1 gA _ (kW.trans (Ext.alloc (Ext.refl W) _)) hHeld2 ((newJ_rowX W 8).vxX) (fg1.ext (Ext.alloc (Ext.refl W) _)) (row_ext fA (Ext.alloc (Ext.refl W) _)) (fA2) _ _ (by kernel_rfl) (by kernel_rfl))
  have HD13 : Hid (∀ (g1 : Nat) (W : World), Ext V1 W → SS W → (VX W (some ⟨g1, 0, none⟩) 8 8 (fun _ => 0)) → ∀ (l : Array Bool) (a : Act), l = #[true, true, false, false, true, true, true, false, false, false, false, false] → a = { tmps := #[.bool false, .pointer (some ⟨Pb, 0, none⟩), .pointer (some ⟨v, 0, none⟩), .int .i64 0, undef, undef, undef, undef, undef, undef, .slice (some ⟨Q0, 0, none⟩) 2 2, .agg #[.int .i64 8, .int .u64 17, .slice (some ⟨Q0, 0, none⟩) 2 2, .int .i64 1], .tuple #[.pointer (some ⟨v, 0, none⟩), .int .i64 0], .agg #[.int .i64 8, .int .u64 17, .slice (some ⟨Q0, 0, none⟩) 2 2, .int .i64 1], .tuple #[.pointer (some ⟨v, 0, none⟩), .int .i64 0], .pointer (some ⟨v, 0, none⟩), .int .i64 0, .pointer (some ⟨Pb, 2, none⟩), .slice (some ⟨Q0, 0, none⟩) 2 2, undef, undef, .pointer (some ⟨Pb, 2, none⟩), .slice (some ⟨Q0, 0, none⟩) 2 2, .slice (some ⟨g1, 0, none⟩) 8 8, undef, undef, undef, undef, undef, undef, undef, undef, undef, undef, undef, undef, undef, undef, undef, undef, undef, undef, undef, undef, undef, undef, undef, undef, undef, undef, undef, undef, undef, undef, undef, undef, undef, undef, undef, undef, undef, undef, undef, undef, undef], defers := [] } → wpAnyH Tryz.prog .any OPS QQ SS 7 l a W) := Lib.hid (by
   intro g1 W kW hHeld fg1 l a hl ha
   subst hO hQQ hSS hl ha
   try dsimp only at hHeld
   refine wpAnyH_ready (rs := [2, 10]) (by kernel_rfl) (by simp) ?_
   refine AllReadyH.cons rfl (fun KQ hKQ => ?_) ?_
   ·go_simp
    skip
    refine hKQ.out _ _ ?_ (fun hHeld2 => ?_)
    ·(try dsimp only); exact cell_ext (Ext.alloc (Ext.refl W) _) hHeld
    clear hKQ KQ
    exact HD10.out W.heap.size g1 _ (kW.trans (Ext.alloc (Ext.refl W) _)) hHeld2 ((newJ_rowX W 8).vxX) (fg1.ext (Ext.alloc (Ext.refl W) _)) _ _ (by kernel_rfl) (by kernel_rfl)
   refine AllReadyH.cons rfl (fun KQ hKQ => ?_) AllReadyH.nil
   go_simp
   skip
   refine hKQ.out _ _ ?_ (fun hHeld2 => ?_)
   ·(try dsimp only); exact cell_ext (Ext.alloc (Ext.refl W) _) hHeld
   clear hKQ KQ
   exact HD14.out g1 W.heap.size _ (kW.trans (Ext.alloc (Ext.refl W) _)) hHeld2 (fg1.ext (Ext.alloc (Ext.refl W) _)) (heap_alloc_new W _) (kW.size) _ _ (by kernel_rfl) (by kernel_rfl))
  have HD15 : Hid (∀ (gA : Nat) (W : World), Ext V1 W → SS W → (W.heap[gA]? = some (.cells #[.slice none 0 0] 28 (0, 0))) → (V1.heap.size ≤ gA) → ∀ (l : Array Bool) (a : Act), l = #[true, true, false, false, true, true, false, false, false, false, true, false] → a = { tmps := #[.bool false, .pointer (some ⟨Pb, 0, none⟩), .pointer (some ⟨v, 0, none⟩), .int .i64 0, .pointer (some ⟨gA, 0, none⟩), undef, undef, undef, undef, undef, .slice (some ⟨Q0, 0, none⟩) 2 2, .agg #[.int .i64 8, .int .u64 17, .slice (some ⟨Q0, 0, none⟩) 2 2, .int .i64 1], .tuple #[.pointer (some ⟨v, 0, none⟩), .int .i64 0], .agg #[.int .i64 8, .int .u64 17, .slice (some ⟨Q0, 0, none⟩) 2 2, .int .i64 1], .tuple #[.pointer (some ⟨v, 0, none⟩), .int .i64 0], .pointer (some ⟨v, 0, none⟩), .int .i64 0, .pointer (some ⟨Pb, 2, none⟩), .slice (some ⟨Q0, 0, none⟩) 2 2, undef, undef, .pointer (some ⟨Pb, 2, none⟩), .slice (some ⟨Q0, 0, none⟩) 2 2, undef, undef, undef, undef, undef, undef, undef, undef, undef, undef, undef, undef, undef, undef, undef, undef, undef, undef, undef, undef, undef, undef, undef, undef, undef, undef, undef, undef, undef, undef, undef, undef, undef, undef, undef, undef, undef, undef, undef, undef, undef, undef], defers := [] } → wpAnyH Tryz.prog .any OPS QQ SS 7 l a W) := Lib.hid (by
   intro gA W kW hHeld fA fA2 l a hl ha
   subst hO hQQ hSS hl ha
   try dsimp only at hHeld
   refine wpAnyH_ready (rs := [2, 6]) (by kernel_rfl) (by simp) ?_
   refine AllReadyH.cons rfl (fun KQ hKQ => ?_) ?_
   ·go_simp
    skip
    refine hKQ.out _ _ ?_ (fun hHeld2 => ?_)
    ·(try dsimp only); exact cell_ext (Ext.alloc (Ext.refl W) _) hHeld
    clear hKQ KQ
    exact HD12.out W.heap.size gA _ (kW.trans (Ext.alloc (Ext.refl W) _)) hHeld2 ((newJ_rowX W 8).vxX) (row_ext fA (Ext.alloc (Ext.refl W) _)) (fA2) _ _ (by kernel_rfl) (by kernel_rfl)
   refine AllReadyH.cons rfl (fun KQ hKQ => ?_) AllReadyH.nil
   go_simp
   skip
   refine hKQ.out _ _ ?_ (fun hHeld2 => ?_)
   ·(try dsimp only); exact cell_ext (Ext.alloc (Ext.refl W) _) hHeld
   clear hKQ KQ
   exact HD14.out W.heap.size gA _ (kW.trans (Ext.alloc (Ext.refl W) _)) hHeld2 ((newJ_rowX W 8).vxX) (row_ext fA (Ext.alloc (Ext.refl W) _)) (fA2) _ _ (by kernel_rfl) (by kernel_rfl))
  have HD0 : Hid (∀ (W : World), Ext V1 W → SS W → ∀ (l : Array Bool) (a : Act), l = #[true, true, false, false, true, true, false, false, false, false, false, false] → a = { tmps := #[.bool false, .pointer (some ⟨Pb, 0, none⟩), .pointer (some ⟨v, 0, none⟩), .int .i64 0, undef, undef, undef, undef, undef, undef, .slice (some ⟨Q0, 0, none⟩) 2 2, .agg #[.int .i64 8, .int .u64 17, .slice (some ⟨Q0, 0, none⟩) 2 2, .int .i64 1], .tuple #[.pointer (some ⟨v, 0, none⟩), .int .i64 0], .agg #[.int .i64 8, .int .u64 17, .slice (some ⟨Q0, 0, none⟩) 2 2, .int .i64 1], .tuple #[.pointer (some ⟨v, 0, none⟩), .int .i64 0], .pointer (some ⟨v, 0, none⟩), .int .i64 0, .pointer (some ⟨Pb, 2, none⟩), .slice (some ⟨Q0, 0, none⟩) 2 2, undef, undef, .pointer (some ⟨Pb, 2, none⟩), .slice (some ⟨Q0, 0, none⟩) 2 2, undef, undef, undef, undef, undef, undef, undef, undef, undef, undef, undef, undef, undef, undef, undef, undef, undef, undef, undef, undef, undef, undef, undef, undef, undef, undef, undef, undef, undef, undef, undef, undef, undef, undef, undef, undef, undef, undef, undef, undef, undef, undef], defers := [] } → wpAnyH Tryz.prog .any OPS QQ SS 8 l a W) := Lib.hid (by
   intro W kW hHeld l a hl ha
   subst hO hQQ hSS hl ha
   try dsimp only at hHeld
   refine wpAnyH_ready (rs := [2, 6, 10]) (by kernel_rfl) (by simp) ?_
   refine AllReadyH.cons rfl (fun KQ hKQ => ?_) ?_
   ·go_simp
    skip
    refine hKQ.out _ _ ?_ (fun hHeld2 => ?_)
    ·(try dsimp only); exact cell_ext (Ext.alloc (Ext.refl W) _) hHeld
    clear hKQ KQ
    exact HD1.out W.heap.size _ (kW.trans (Ext.alloc (Ext.refl W) _)) hHeld2 ((newJ_rowX W 8).vxX) _ _ (by kernel_rfl) (by kernel_rfl)
   refine AllReadyH.cons rfl (fun KQ hKQ => ?_) ?_
   ·go_simp
    skip
    refine hKQ.out _ _ ?_ (fun hHeld2 => ?_)
    ·(try dsimp only); exact cell_ext (Ext.alloc (Ext.refl W) _) hHeld
    clear hKQ KQ
    exact HD13.out W.heap.size _ (kW.trans (Ext.alloc (Ext.refl W) _)) hHeld2 ((newJ_rowX W 8).vxX) _ _ (by kernel_rfl) (by kernel_rfl)
   refine AllReadyH.cons rfl (fun KQ hKQ => ?_) AllReadyH.nil
   go_simp
   skip
   refine hKQ.out _ _ ?_ (fun hHeld2 => ?_)
   ·(try dsimp only); exact cell_ext (Ext.alloc (Ext.refl W) _) hHeld
   clear hKQ KQ
   exact HD15.out W.heap.size _ (kW.trans (Ext.alloc (Ext.refl W) _)) hHeld2 (heap_alloc_new W _) (kW.size) _ _ (by kernel_rfl) (by kernel_rfl))
  exact HD0.out _ (Ext.drew (Ext.refl _)) (by rw [hSS]; exact hHeld) _ _ (by kernel_rfl) (by kernel_rfl)
 case rest =>
  obtain ⟨g, gB, Aj, cj, Bs, cs, rfl, h4, hq, kk1⟩ := hcut
  rename World => V2
  replace x0 := cell_ext kk1 x0
  replace x1 := cell_ext kk1 x1
  replace x2 := cell_ext kk1 x2
  replace x3 := cell_ext kk1 x3
  have hP2 : Pb < V2.heap.size := by have := kk1.size; omega
  have HL2 := Lib.hid (fun (l : Nat) (hl : l < 2) (w' : World) (k : Ext V2 w') (A : Option Addr) (hv : VX w' A 8 8 (fun _ => 0)) => HLI.out l hl w' (kk1.trans k) A hv)
  clear HLI
  have HLI := HL2
  clear HL2
  go_wp2_with fail
  go_cut [5] (fun sx wx => ∃ (g gB : Nat) (Aj : Nat → Option Addr) (cj : Nat → Nat) (Bs : Nat → Nat → Option Addr) (cs : Nat → Nat → Nat), sx = .pointer (some ⟨g, 0, none⟩) ∧ Hid (wx.cell? ⟨g, 0, none⟩ = some (.slice (some ⟨gB, 0, none⟩) 3 3)) ∧ Hid (QP wx (some ⟨gB, 0, none⟩) 3 3 Aj (fun _ => 2) cj Bs (fun _ _ => 8) cs (fun _ j i => lif 0 (fixQ j))) ∧ Ext V2 wx)
  case first =>
   refine wp_region_held_drew (S := (fun w' => w'.cell? ⟨Pb, 2, none⟩ = some (.slice (some ⟨Q0, 0, none⟩) 2 2))) (by kernel_rfl) ?_ (fun hHeld => ?_)
   ·(try dsimp only); go_keep
   refine wpAnyH_take (i := 0) (oi := _) (v := ?_) rfl (by kernel_rfl) (by kernel_rfl) (by kernel_rfl) (fun _ _ _ h => h) (Or.inl ⟨by rfl, ?_⟩) (by assumption) ?_
   rotate_left
   ·(intro wS hSw; (try dsimp only at hSw); (try go_simp); (try with_reducible rfl))
   try simp only [Act.put, List.setIfInBounds_toArray, List.set_cons_zero, List.set_cons_succ]
   refine wpAnyH_take (i := 1) (oi := _) (v := ?_) rfl (by kernel_rfl) (by kernel_rfl) (by kernel_rfl) (fun _ _ _ h => h) (Or.inl ⟨by rfl, ?_⟩) (by assumption) ?_
   rotate_left
   ·(intro wS hSw; (try dsimp only at hSw); (try go_simp); (try with_reducible rfl))
   try simp only [Act.put, List.setIfInBounds_toArray, List.set_cons_zero, List.set_cons_succ]
   refine wpAnyH_take (i := 4) (oi := _) (v := ?_) rfl (by kernel_rfl) (by kernel_rfl) (by kernel_rfl) (fun _ _ _ h => h) (Or.inl ⟨by rfl, ?_⟩) (by assumption) ?_
   rotate_left
   ·(intro wS hSw; (try dsimp only at hSw); (try go_simp); (try with_reducible rfl))
   try simp only [Act.put, List.setIfInBounds_toArray, List.set_cons_zero, List.set_cons_succ]
   refine wpAnyH_take (i := 5) (oi := _) (v := ?_) rfl (by kernel_rfl) (by kernel_rfl) (by kernel_rfl) (fun _ _ _ h => h) (Or.inl ⟨by rfl, ?_⟩) (by assumption) ?_
   rotate_left
   ·(intro wS hSw; (try dsimp only at hSw); (try go_simp); (try with_reducible rfl))
   try simp only [Act.put, List.setIfInBounds_toArray, List.set_cons_zero, List.set_cons_succ]
   refine wpAnyH_take (i := 8) (oi := _) (v := ?_) rfl (by kernel_rfl) (by kernel_rfl) (by kernel_rfl) (fun _ _ _ h => h) (Or.inl ⟨by rfl, ?_⟩) (by assumption) ?_
   rotate_left
   ·(intro wS hSw; (try dsimp only at hSw); (try go_simp); (try with_reducible rfl))
   try simp only [Act.put, List.setIfInBounds_toArray, List.set_cons_zero, List.set_cons_succ]
   refine wpAnyH_take (i := 9) (oi := _) (v := ?_) rfl (by kernel_rfl) (by kernel_rfl) (by kernel_rfl) (fun _ _ _ h => h) (Or.inl ⟨by rfl, ?_⟩) (by assumption) ?_
   rotate_left
   ·(intro wS hSw; (try dsimp only at hSw); (try go_simp); (try with_reducible rfl))
   try simp only [Act.put, List.setIfInBounds_toArray, List.set_cons_zero, List.set_cons_succ]
   refine any_parts ?_
   intro OPS QQ SS hO hQQ hSS
   have HD8 : Hid (∀ (g0 : Nat) (A0 : Option Addr) (d0 : Nat) (As0 : Nat → Option Addr) (cs0 : Nat → Nat) (g1 : Nat) (A1 : Option Addr) (d1 : Nat) (As1 : Nat → Option Addr) (cs1 : Nat → Nat) (g2 : Nat) (A2 : Option Addr) (d2 : Nat) (As2 : Nat → Option Addr) (cs2 : Nat → Nat) (gB : Nat) (gA : Nat) (W : World), Ext V2 W → SS W → (PX W A0 2 d0 As0 (fun _ => 8) cs0 (fun j i => lif 0 (fixQ j))) → (PX W A1 2 d1 As1 (fun _ => 8) cs1 (fun j i => lif 0 (fixQ j))) → (PX W A2 2 d2 As2 (fun _ => 8) cs2 (fun j i => lif 0 (fixQ j))) → (W.heap[gB]? = some (.cells #[.slice A0 2 d0, .slice A1 2 d1, .slice A2 2 d2] 73 (0, 0))) → (W.heap[gA]? = some (.cells #[.slice none 0 0] 28 (0, 0))) → (V2.heap.size ≤ gA) → ∀ (l : Array Bool) (a : Act), l = #[true, true, true, true, true, true, true, true, true, true, true, true, true, true, true, false] → a = { tmps := #[.bool false, .pointer (some ⟨Pb, 0, none⟩), .pointer (some ⟨v, 0, none⟩), .int .i64 0, .pointer (some ⟨g, 0, none⟩), .pointer (some ⟨gA, 0, none⟩), u6, undef, u8, undef, u10, u11, u12, u13, u14, u15, u16, u17, u18, u19, u20, u21, u22, u23, u24, u25, u26, .pointer (some ⟨Pb, 2, none⟩), .slice (some ⟨Q0, 0, none⟩) 2 2, .slice (some ⟨g0, 0, none⟩) 8 8, .agg #[.slice A0 2 d0], .pointer (some ⟨Pb, 2, none⟩), .slice (some ⟨Q0, 0, none⟩) 2 2, .slice (some ⟨g1, 0, none⟩) 8 8, .agg #[.slice A1 2 d1], .pointer (some ⟨Pb, 2, none⟩), .slice (some ⟨Q0, 0, none⟩) 2 2, .slice (some ⟨g2, 0, none⟩) 8 8, .agg #[.slice A2 2 d2], .slice (some ⟨gB, 0, none⟩) 3 3, .agg #[.slice (some ⟨gB, 0, none⟩) 3 3], u41, u42, u43, u44, u45, u46, u47, u48, u49, u50, u51, u52, u53, u54, u55, u56, u57, u58, u59, u60, u61, u62, u63, u64], defers := [] } → wpAnyH Tryz.prog .any OPS QQ SS 1 l a W) := Lib.hid (by
    intro g0 A0 d0 As0 cs0 g1 A1 d1 As1 cs1 g2 A2 d2 As2 cs2 gB gA W kW hHeld fp0 fp1 fp2 fB fA fA2 l a hl ha
    subst hO hQQ hSS hl ha
    try dsimp only at hHeld
    refine wpAnyH_ready (rs := [15]) (by kernel_rfl) (by simp) ?_
    refine AllReadyH.cons rfl (fun KQ hKQ => ?_) AllReadyH.nil
    have z0 := row_z fA 0
    have c0 : W.cell? ⟨gA, 0, none⟩ = some (.slice none 0 0) := by rw [cell_of_row W gA 0 _ _ (0, 0) fA]; rfl
    have hAP : gA ≠ Pb := by omega
    go_simp
    refine hKQ.out _ _ ?_ (fun hHeld2 => ?_)
    ·(try dsimp only); rw [set_far (fun e => hAP (by injection e))]; exact hHeld
    clear hKQ KQ
    refine wpAnyH_done (by kernel_rfl) ?_ _
    go_wp2_with fail
    go_meet
    have b0 : W.cell? ⟨gB, 0, none⟩ = some (.slice A0 2 d0) := by rw [cell_of_row W gB 0 _ _ (0, 0) fB]; rfl
    have b1 : W.cell? ⟨gB, 1, none⟩ = some (.slice A1 2 d1) := by rw [cell_of_row W gB 1 _ _ (0, 0) fB]; rfl
    have b2 : W.cell? ⟨gB, 2, none⟩ = some (.slice A2 2 d2) := by rw [cell_of_row W gB 2 _ _ (0, 0) fB]; rfl
    obtain ⟨Aj, cj, Bs, cs, hqp⟩ := qp3 (L := 2) (by omega) (stZ c0 b0 (by simp)) (stZ c0 b1 (by simp)) (stZ c0 b2 (by simp)) (PX.stZ c0 fp0) (PX.stZ c0 fp1) (PX.stZ c0 fp2)
    exact ⟨gA, gB, Aj, cj, Bs, cs, rfl, Lib.hid (World.cell?_setCell_same _ _ _ c0), Lib.hid hqp, Ext.set (p := ⟨gA, 0, none⟩) kW fA2 _⟩)
   have HD7 : Hid (∀ (g0 : Nat) (A0 : Option Addr) (d0 : Nat) (As0 : Nat → Option Addr) (cs0 : Nat → Nat) (g1 : Nat) (A1 : Option Addr) (d1 : Nat) (As1 : Nat → Option Addr) (cs1 : Nat → Nat) (g2 : Nat) (A2 : Option Addr) (d2 : Nat) (As2 : Nat → Option Addr) (cs2 : Nat → Nat) (gB : Nat) (W : World), Ext V2 W → SS W → (PX W A0 2 d0 As0 (fun _ => 8) cs0 (fun j i => lif 0 (fixQ j))) → (PX W A1 2 d1 As1 (fun _ => 8) cs1 (fun j i => lif 0 (fixQ j))) → (PX W A2 2 d2 As2 (fun _ => 8) cs2 (fun j i => lif 0 (fixQ j))) → (W.heap[gB]? = some (.cells #[.slice A0 2 d0, .slice A1 2 d1, .slice A2 2 d2] 73 (0, 0))) → ∀ (l : Array Bool) (a : Act), l = #[true, true, true, true, true, true, true, true, true, true, true, true, true, true, false, false] → a = { tmps := #[.bool false, .pointer (some ⟨Pb, 0, none⟩), .pointer (some ⟨v, 0, none⟩), .int .i64 0, .pointer (some ⟨g, 0, none⟩), undef, u6, undef, u8, undef, u10, u11, u12, u13, u14, u15, u16, u17, u18, u19, u20, u21, u22, u23, u24, u25, u26, .pointer (some ⟨Pb, 2, none⟩), .slice (some ⟨Q0, 0, none⟩) 2 2, .slice (some ⟨g0, 0, none⟩) 8 8, .agg #[.slice A0 2 d0], .pointer (some ⟨Pb, 2, none⟩), .slice (some ⟨Q0, 0, none⟩) 2 2, .slice (some ⟨g1, 0, none⟩) 8 8, .agg #[.slice A1 2 d1], .pointer (some ⟨Pb, 2, none⟩), .slice (some ⟨Q0, 0, none⟩) 2 2, .slice (some ⟨g2, 0, none⟩) 8 8, .agg #[.slice A2 2 d2], .slice (some ⟨gB, 0, none⟩) 3 3, .agg #[.slice (some ⟨gB, 0, none⟩) 3 3], u41, u42, u43, u44, u45, u46, u47, u48, u49, u50, u51, u52, u53, u54, u55, u56, u57, u58, u59, u60, u61, u62, u63, u64], defers := [] } → wpAnyH Tryz.prog .any OPS QQ SS 2 l a W) := Lib.hid (by
    intro g0 A0 d0 As0 cs0 g1 A1 d1 As1 cs1 g2 A2 d2 As2 cs2 gB W kW hHeld fp0 fp1 fp2 fB l a hl ha
    subst hO hQQ hSS hl ha
    try dsimp only at hHeld
    refine wpAnyH_ready (rs := [14]) (by kernel_rfl) (by simp) ?_
    refine AllReadyH.cons rfl (fun KQ hKQ => ?_) AllReadyH.nil
    go_simp
    skip
    refine hKQ.out _ _ ?_ (fun hHeld2 => ?_)
    ·(try dsimp only); exact cell_ext (Ext.alloc (Ext.refl W) _) hHeld
    clear hKQ KQ
    exact HD8.out g0 A0 d0 As0 cs0 g1 A1 d1 As1 cs1 g2 A2 d2 As2 cs2 gB W.heap.size _ (kW.trans (Ext.alloc (Ext.refl W) _)) hHeld2 (fp0.ext (Ext.alloc (Ext.refl W) _)) (fp1.ext (Ext.alloc (Ext.refl W) _)) (fp2.ext (Ext.alloc (Ext.refl W) _)) (row_ext fB (Ext.alloc (Ext.refl W) _)) (heap_alloc_new W _) (kW.size) _ _ (by kernel_rfl) (by kernel_rfl))
   have HD9 : Hid (∀ (g0 : Nat) (A0 : Option Addr) (d0 : Nat) (As0 : Nat → Option Addr) (cs0 : Nat → Nat) (g1 : Nat) (A1 : Option Addr) (d1 : Nat) (As1 : Nat → Option Addr) (cs1 : Nat → Nat) (g2 : Nat) (A2 : Option Addr) (d2 : Nat) (As2 : Nat → Option Addr) (cs2 : Nat → Nat) (gA : Nat) (W : World), Ext V2 W → SS W → (PX W A0 2 d0 As0 (fun _ => 8) cs0 (fun j i => lif 0 (fixQ j))) → (PX W A1 2 d1 As1 (fun _ => 8) cs1 (fun j i => lif 0 (fixQ j))) → (PX W A2 2 d2 As2 (fun _ => 8) cs2 (fun j i => lif 0 (fixQ j))) → (W.heap[gA]? = some (.cells #[.slice none 0 0] 28 (0, 0))) → (V2.heap.size ≤ gA) → ∀ (l : Array Bool) (a : Act), l = #[true, true, true, true, true, true, true, true, true, true, true, true, false, false, true, false] → a = { tmps := #[.bool false, .pointer (some ⟨Pb, 0, none⟩), .pointer (some ⟨v, 0, none⟩), .int .i64 0, .pointer (some ⟨g, 0, none⟩), .pointer (some ⟨gA, 0, none⟩), u6, undef, u8, undef, u10, u11, u12, u13, u14, u15, u16, u17, u18, u19, u20, u21, u22, u23, u24, u25, u26, .pointer (some ⟨Pb, 2, none⟩), .slice (some ⟨Q0, 0, none⟩) 2 2, .slice (some ⟨g0, 0, none⟩) 8 8, .agg #[.slice A0 2 d0], .pointer (some ⟨Pb, 2, none⟩), .slice (some ⟨Q0, 0, none⟩) 2 2, .slice (some ⟨g1, 0, none⟩) 8 8, .agg #[.slice A1 2 d1], .pointer (some ⟨Pb, 2, none⟩), .slice (some ⟨Q0, 0, none⟩) 2 2, .slice (some ⟨g2, 0, none⟩) 8 8, .agg #[.slice A2 2 d2], u39, u40, u41, u42, u43, u44, u45, u46, u47, u48, u49, u50, u51, u52, u53, u54, u55, u56, u57, u58, u59, u60, u61, u62, u63, u64], defers := [] } → wpAnyH Tryz.prog .any OPS QQ SS 3 l a W) := Lib.hid (by
    intro g0 A0 d0 As0 cs0 g1 A1 d1 As1 cs1 g2 A2 d2 As2 cs2 gA W kW hHeld fp0 fp1 fp2 fA fA2 l a hl ha
    subst hO hQQ hSS hl ha
    try dsimp only at hHeld
    refine wpAnyH_ready (rs := [12]) (by kernel_rfl) (by simp) ?_
    refine AllReadyH.cons rfl (fun KQ hKQ => ?_) AllReadyH.nil
    go_simp
    skip
    refine hKQ.out _ _ ?_ (fun hHeld2 => ?_)
    ·(try dsimp only); exact cell_ext (Ext.alloc (Ext.refl W) _) hHeld
    clear hKQ KQ
    try simp only [Act.put, List.setIfInBounds_toArray, List.set_cons_zero, List.set_cons_succ]
    refine wpAnyH_take (i := 13) (oi := _) (v := ?_) rfl (by kernel_rfl) (by kernel_rfl) (by kernel_rfl) (fun _ _ _ h => h) (Or.inl ⟨by rfl, ?_⟩) (by assumption) ?_
    rotate_left
    ·(intro wS hSw; (try dsimp only at hSw); (try go_simp); (try with_reducible rfl))
    try simp only [Act.put, List.setIfInBounds_toArray, List.set_cons_zero, List.set_cons_succ]
    exact HD8.out g0 A0 d0 As0 cs0 g1 A1 d1 As1 cs1 g2 A2 d2 As2 cs2 W.heap.size gA _ (kW.trans (Ext.alloc (Ext.refl W) _)) hHeld2 (fp0.ext (Ext.alloc (Ext.refl W) _)) (fp1.ext (Ext.alloc (Ext.refl W) _)) (fp2.ext (Ext.alloc (Ext.refl W) _)) (heap_alloc_new W _) (row_ext fA (Ext.alloc (Ext.refl W) _)) (fA2) _ _ (by kernel_rfl) (by kernel_rfl))
   have HD6 : Hid (∀ (g0 : Nat) (A0 : Option Addr) (d0 : Nat) (As0 : Nat → Option Addr) (cs0 : Nat → Nat) (g1 : Nat) (A1 : Option Addr) (d1 : Nat) (As1 : Nat → Option Addr) (cs1 : Nat → Nat) (g2 : Nat) (A2 : Option Addr) (d2 : Nat) (As2 : Nat → Option Addr) (cs2 : Nat → Nat) (W : World), Ext V2 W → SS W → (PX W A0 2 d0 As0 (fun _ => 8) cs0 (fun j i => lif 0 (fixQ j))) → (PX W A1 2 d1 As1 (fun _ => 8) cs1 (fun j i => lif 0 (fixQ j))) → (PX W A2 2 d2 As2 (fun _ => 8) cs2 (fun j i => lif 0 (fixQ j))) → ∀ (l : Array Bool) (a : Act), l = #[true, true, true, true, true, true, true, true, true, true, true, true, false, false, false, false] → a = { tmps := #[.bool false, .pointer (some ⟨Pb, 0, none⟩), .pointer (some ⟨v, 0, none⟩), .int .i64 0, .pointer (some ⟨g, 0, none⟩), undef, u6, undef, u8, undef, u10, u11, u12, u13, u14, u15, u16, u17, u18, u19, u20, u21, u22, u23, u24, u25, u26, .pointer (some ⟨Pb, 2, none⟩), .slice (some ⟨Q0, 0, none⟩) 2 2, .slice (some ⟨g0, 0, none⟩) 8 8, .agg #[.slice A0 2 d0], .pointer (some ⟨Pb, 2, none⟩), .slice (some ⟨Q0, 0, none⟩) 2 2, .slice (some ⟨g1, 0, none⟩) 8 8, .agg #[.slice A1 2 d1], .pointer (some ⟨Pb, 2, none⟩), .slice (some ⟨Q0, 0, none⟩) 2 2, .slice (some ⟨g2, 0, none⟩) 8 8, .agg #[.slice A2 2 d2], u39, u40, u41, u42, u43, u44, u45, u46, u47, u48, u49, u50, u51, u52, u53, u54, u55, u56, u57, u58, u59, u60, u61, u62, u63, u64], defers := [] } → wpAnyH Tryz.prog .any OPS QQ SS 4 l a W) := Lib.hid (by
    intro g0 A0 d0 As0 cs0 g1 A1 d1 As1 cs1 g2 A2 d2 As2 cs2 W kW hHeld fp0 fp1 fp2 l a hl ha
    subst hO hQQ hSS hl ha
    try dsimp only at hHeld
    refine wpAnyH_ready (rs := [12, 14]) (by kernel_rfl) (by simp) ?_
    refine AllReadyH.cons rfl (fun KQ hKQ => ?_) ?_
    ·go_simp
     skip
     refine hKQ.out _ _ ?_ (fun hHeld2 => ?_)
     ·(try dsimp only); exact cell_ext (Ext.alloc (Ext.refl W) _) hHeld
     clear hKQ KQ
     try simp only [Act.put, List.setIfInBounds_toArray, List.set_cons_zero, List.set_cons_succ]
     refine wpAnyH_take (i := 13) (oi := _) (v := ?_) rfl (by kernel_rfl) (by kernel_rfl) (by kernel_rfl) (fun _ _ _ h => h) (Or.inl ⟨by rfl, ?_⟩) (by assumption) ?_
     rotate_left
     ·(intro wS hSw; (try dsimp only at hSw); (try go_simp); (try with_reducible rfl))
     try simp only [Act.put, List.setIfInBounds_toArray, List.set_cons_zero, List.set_cons_succ]
     exact HD7.out g0 A0 d0 As0 cs0 g1 A1 d1 As1 cs1 g2 A2 d2 As2 cs2 W.heap.size _ (kW.trans (Ext.alloc (Ext.refl W) _)) hHeld2 (fp0.ext (Ext.alloc (Ext.refl W) _)) (fp1.ext (Ext.alloc (Ext.refl W) _)) (fp2.ext (Ext.alloc (Ext.refl W) _)) (heap_alloc_new W _) _ _ (by kernel_rfl) (by kernel_rfl)
    refine AllReadyH.cons rfl (fun KQ hKQ => ?_) AllReadyH.nil
    go_simp
    skip
    refine hKQ.out _ _ ?_ (fun hHeld2 => ?_)
    ·(try dsimp only); exact cell_ext (Ext.alloc (Ext.refl W) _) hHeld
    clear hKQ KQ
    exact HD9.out g0 A0 d0 As0 cs0 g1 A1 d1 As1 cs1 g2 A2 d2 As2 cs2 W.heap.size _ (kW.trans (Ext.alloc (Ext.refl W) _)) hHeld2 (fp0.ext (Ext.alloc (Ext.refl W) _)) (fp1.ext (Ext.alloc (Ext.refl W) _)) (fp2.ext (Ext.alloc (Ext.refl W) _)) (heap_alloc_new W _) (kW.size) _ _ (by kernel_rfl) (by kernel_rfl))
   have HD10 : Hid (∀ (g0 : Nat) (A0 : Option Addr) (d0 : Nat) (As0 : Nat → Option Addr) (cs0 : Nat → Nat) (g1 : Nat) (A1 : Option Addr) (d1 : Nat) (As1 : Nat → Option Addr) (cs1 : Nat → Nat) (g2 : Nat) (gA : Nat) (W : World), Ext V2 W → SS W → (PX W A0 2 d0 As0 (fun _ => 8) cs0 (fun j i => lif 0 (fixQ j))) → (PX W A1 2 d1 As1 (fun _ => 8) cs1 (fun j i => lif 0 (fixQ j))) → (VX W (some ⟨g2, 0, none⟩) 8 8 (fun _ => 0)) → (W.heap[gA]? = some (.cells #[.slice none 0 0] 28 (0, 0))) → (V2.heap.size ≤ gA) → ∀ (l : Array Bool) (a : Act), l = #[true, true, true, true, true, true, true, true, true, true, true, false, false, false, true, false] → a = { tmps := #[.bool false, .pointer (some ⟨Pb, 0, none⟩), .pointer (some ⟨v, 0, none⟩), .int .i64 0, .pointer (some ⟨g, 0, none⟩), .pointer (some ⟨gA, 0, none⟩), u6, undef, u8, undef, u10, u11, u12, u13, u14, u15, u16, u17, u18, u19, u20, u21, u22, u23, u24, u25, u26, .pointer (some ⟨Pb, 2, none⟩), .slice (some ⟨Q0, 0, none⟩) 2 2, .slice (some ⟨g0, 0, none⟩) 8 8, .agg #[.slice A0 2 d0], .pointer (some ⟨Pb, 2, none⟩), .slice (some ⟨Q0, 0, none⟩) 2 2, .slice (some ⟨g1, 0, none⟩) 8 8, .agg #[.slice A1 2 d1], .pointer (some ⟨Pb, 2, none⟩), .slice (some ⟨Q0, 0, none⟩) 2 2, .slice (some ⟨g2, 0, none⟩) 8 8, u38, u39, u40, u41, u42, u43, u44, u45, u46, u47, u48, u49, u50, u51, u52, u53, u54, u55, u56, u57, u58, u59, u60, u61, u62, u63, u64], defers := [] } → wpAnyH Tryz.prog .any OPS QQ SS 4 l a W) := Lib.hid (by
    intro g0 A0 d0 As0 cs0 g1 A1 d1 As1 cs1 g2 gA W kW hHeld fp0 fp1 fg2 fA fA2 l a hl ha
    subst hO hQQ hSS hl ha
    try dsimp only at hHeld
    refine wpAnyH_ready (rs := [11]) (by kernel_rfl) (by simp) ?_
    refine AllReadyH.cons rfl (fun KQ hKQ => ?_) AllReadyH.nil
    go_simp
    go_at_call 45
    refine (HLI.out 1 (by omega) W kW (some ⟨g2, 0, none⟩) fg2).mono ?_
    rintro e5 W5 ⟨A2, c2, As, cs, rfl, hpx, k5⟩
    refine hKQ.out _ _ ?_ (fun hHeld2 => ?_)
    ·(try dsimp only); exact cell_ext k5 hHeld
    clear hKQ KQ
    exact HD9.out g0 A0 d0 As0 cs0 g1 A1 d1 As1 cs1 g2 A2 c2 As cs gA _ (kW.trans k5) hHeld2 (fp0.ext k5) (fp1.ext k5) (hpx) (row_ext fA k5) (fA2) _ _ (by kernel_rfl) (by kernel_rfl))
   have HD5 : Hid (∀ (g0 : Nat) (A0 : Option Addr) (d0 : Nat) (As0 : Nat → Option Addr) (cs0 : Nat → Nat) (g1 : Nat) (A1 : Option Addr) (d1 : Nat) (As1 : Nat → Option Addr) (cs1 : Nat → Nat) (g2 : Nat) (W : World), Ext V2 W → SS W → (PX W A0 2 d0 As0 (fun _ => 8) cs0 (fun j i => lif 0 (fixQ j))) → (PX W A1 2 d1 As1 (fun _ => 8) cs1 (fun j i => lif 0 (fixQ j))) → (VX W (some ⟨g2, 0, none⟩) 8 8 (fun _ => 0)) → ∀ (l : Array Bool) (a : Act), l = #[true, true, true, true, true, true, true, true, true, true, true, false, false, false, false, false] → a = { tmps := #[.bool false, .pointer (some ⟨Pb, 0, none⟩), .pointer (some ⟨v, 0, none⟩), .int .i64 0, .pointer (some ⟨g, 0, none⟩), undef, u6, undef, u8, undef, u10, u11, u12, u13, u14, u15, u16, u17, u18, u19, u20, u21, u22, u23, u24, u25, u26, .pointer (some ⟨Pb, 2, none⟩), .slice (some ⟨Q0, 0, none⟩) 2 2, .slice (some ⟨g0, 0, none⟩) 8 8, .agg #[.slice A0 2 d0], .pointer (some ⟨Pb, 2, none⟩), .slice (some ⟨Q0, 0, none⟩) 2 2, .slice (some ⟨g1, 0, none⟩) 8 8, .agg #[.slice A1 2 d1], .pointer (some ⟨Pb, 2, none⟩), .slice (some ⟨Q0, 0, none⟩) 2 2, .slice (some ⟨g2, 0, none⟩) 8 8, u38, u39, u40, u41, u42, u43, u44, u45, u46, u47, u48, u49, u50, u51, u52, u53, u54, u55, u56, u57, u58, u59, u60, u61, u62, u63, u64], defers := [] } → wpAnyH Tryz.prog .any OPS QQ SS 5 l a W) := Lib.hid (by
    intro g0 A0 d0 As0 cs0 g1 A1 d1 As1 cs1 g2 W kW hHeld fp0 fp1 fg2 l a hl ha
    subst hO hQQ hSS hl ha
    try dsimp only at hHeld
    refine wpAnyH_ready (rs := [11, 14]) (by kernel_rfl) (by simp) ?_
    refine AllReadyH.cons rfl (fun KQ hKQ => ?_) ?_
    ·go_simp
     go_at_call 45
     refine (HLI.out 1 (by omega) W kW (some ⟨g2, 0, none⟩) fg2).mono ?_
     rintro e5 W5 ⟨A2, c2, As, cs, rfl, hpx, k5⟩
     refine hKQ.out _ _ ?_ (fun hHeld2 => ?_)
     ·(try dsimp only); exact cell_ext k5 hHeld
     clear hKQ KQ
     exact HD6.out g0 A0 d0 As0 cs0 g1 A1 d1 As1 cs1 g2 A2 c2 As cs _ (kW.trans k5) hHeld2 (fp0.ext k5) (fp1.ext k5) (hpx) _ _ (by kernel_rfl) (by kernel_rfl)
    refine AllReadyH.cons rfl (fun KQ hKQ => ?_) AllReadyH.nil
    go_simp
    skip
    refine hKQ.out _ _ ?_ (fun hHeld2 => ?_)
    ·(try dsimp only); exact cell_ext (Ext.alloc (Ext.refl W) _) hHeld
    clear hKQ KQ
    exact HD10.out g0 A0 d0 As0 cs0 g1 A1 d1 As1 cs1 g2 W.heap.size _ (kW.trans (Ext.alloc (Ext.refl W) _)) hHeld2 (fp0.ext (Ext.alloc (Ext.refl W) _)) (fp1.ext (Ext.alloc (Ext.refl W) _)) (fg2.ext (Ext.alloc (Ext.refl W) _)) (heap_alloc_new W _) (kW.size) _ _ (by kernel_rfl) (by kernel_rfl))
   have HD11 : Hid (∀ (g0 : Nat) (A0 : Option Addr) (d0 : Nat) (As0 : Nat → Option Addr) (cs0 : Nat → Nat) (g1 : Nat) (A1 : Option Addr) (d1 : Nat) (As1 : Nat → Option Addr) (cs1 : Nat → Nat) (gA : Nat) (W : World), Ext V2 W → SS W → (PX W A0 2 d0 As0 (fun _ => 8) cs0 (fun j i => lif 0 (fixQ j))) → (PX W A1 2 d1 As1 (fun _ => 8) cs1 (fun j i => lif 0 (fixQ j))) → (W.heap[gA]? = some (.cells #[.slice none 0 0] 28 (0, 0))) → (V2.heap.size ≤ gA) → ∀ (l : Array Bool) (a : Act), l = #[true, true, true, true, true, true, true, true, true, true, false, false, false, false, true, false] → a = { tmps := #[.bool false, .pointer (some ⟨Pb, 0, none⟩), .pointer (some ⟨v, 0, none⟩), .int .i64 0, .pointer (some ⟨g, 0, none⟩), .pointer (some ⟨gA, 0, none⟩), u6, undef, u8, undef, u10, u11, u12, u13, u14, u15, u16, u17, u18, u19, u20, u21, u22, u23, u24, u25, u26, .pointer (some ⟨Pb, 2, none⟩), .slice (some ⟨Q0, 0, none⟩) 2 2, .slice (some ⟨g0, 0, none⟩) 8 8, .agg #[.slice A0 2 d0], .pointer (some ⟨Pb, 2, none⟩), .slice (some ⟨Q0, 0, none⟩) 2 2, .slice (some ⟨g1, 0, none⟩) 8 8, .agg #[.slice A1 2 d1], .pointer (some ⟨Pb, 2, none⟩), .slice (some ⟨Q0, 0, none⟩) 2 2, u37, u38, u39, u40, u41, u42, u43, u44, u45, u46, u47, u48, u49, u50, u51, u52, u53, u54, u55, u56, u57, u58, u59, u60, u61, u62, u63, u64], defers := [] } → wpAnyH Tryz.prog .any OPS QQ SS 5 l a W) := Lib.hid (by
    intro g0 A0 d0 As0 cs0 g1 A1 d1 As1 cs1 gA W kW hHeld fp0 fp1 fA fA2 l a hl ha
    subst hO hQQ hSS hl ha
    try dsimp only at hHeld
    refine wpAnyH_ready (rs := [10]) (by kernel_rfl) (by simp) ?_
    refine AllReadyH.cons rfl (fun KQ hKQ => ?_) AllReadyH.nil
    go_simp
    skip
    refine hKQ.out _ _ ?_ (fun hHeld2 => ?_)
    ·(try dsimp only); exact cell_ext (Ext.alloc (Ext.refl W) _) hHeld
    clear hKQ KQ
    exact HD10.out g0 A0 d0 As0 cs0 g1 A1 d1 As1 cs1 W.heap.size gA _ (kW.trans (Ext.alloc (Ext.refl W) _)) hHeld2 (fp0.ext (Ext.alloc (Ext.refl W) _)) (fp1.ext (Ext.alloc (Ext.refl W) _)) ((newJ_rowX W 8).vxX) (row_ext fA (Ext.alloc (Ext.refl W) _)) (fA2) _ _ (by kernel_rfl) (by kernel_rfl))
   have HD4 : Hid (∀ (g0 : Nat) (A0 : Option Addr) (d0 : Nat) (As0 : Nat → Option Addr) (cs0 : Nat → Nat) (g1 : Nat) (A1 : Option Addr) (d1 : Nat) (As1 : Nat → Option Addr) (cs1 : Nat → Nat) (W : World), Ext V2 W → SS W → (PX W A0 2 d0 As0 (fun _ => 8) cs0 (fun j i => lif 0 (fixQ j))) → (PX W A1 2 d1 As1 (fun _ => 8) cs1 (fun j i => lif 0 (fixQ j))) → ∀ (l : Array Bool) (a : Act), l = #[true, true, true, true, true, true, true, true, true, true, false, false, false, false, false, false] → a = { tmps := #[.bool false, .pointer (some ⟨Pb, 0, none⟩), .pointer (some ⟨v, 0, none⟩), .int .i64 0, .pointer (some ⟨g, 0, none⟩), undef, u6, undef, u8, undef, u10, u11, u12, u13, u14, u15, u16, u17, u18, u19, u20, u21, u22, u23, u24, u25, u26, .pointer (some ⟨Pb, 2, none⟩), .slice (some ⟨Q0, 0, none⟩) 2 2, .slice (some ⟨g0, 0, none⟩) 8 8, .agg #[.slice A0 2 d0], .pointer (some ⟨Pb, 2, none⟩), .slice (some ⟨Q0, 0, none⟩) 2 2, .slice (some ⟨g1, 0, none⟩) 8 8, .agg #[.slice A1 2 d1], .pointer (some ⟨Pb, 2, none⟩), .slice (some ⟨Q0, 0, none⟩) 2 2, u37, u38, u39, u40, u41, u42, u43, u44, u45, u46, u47, u48, u49, u50, u51, u52, u53, u54, u55, u56, u57, u58, u59, u60, u61, u62, u63, u64], defers := [] } → wpAnyH Tryz.prog .any OPS QQ SS 6 l a W) := Lib.hid (by
    intro g0 A0 d0 As0 cs0 g1 A1 d1 As1 cs1 W kW hHeld fp0 fp1 l a hl ha
    subst hO hQQ hSS hl ha
    try dsimp only at hHeld
    refine wpAnyH_ready (rs := [10, 14]) (by kernel_rfl) (by simp) ?_
    refine AllReadyH.cons rfl (fun KQ hKQ => ?_) ?_
    ·go_simp
     skip
     refine hKQ.out _ _ ?_ (fun hHeld2 => ?_)
     ·(try dsimp only); exact cell_ext (Ext.alloc (Ext.refl W) _) hHeld
     clear hKQ KQ
     exact HD5.out g0 A0 d0 As0 cs0 g1 A1 d1 As1 cs1 W.heap.size _ (kW.trans (Ext.alloc (Ext.refl W) _)) hHeld2 (fp0.ext (Ext.alloc (Ext.refl W) _)) (fp1.ext (Ext.alloc (Ext.refl W) _)) ((newJ_rowX W 8).vxX) _ _ (by kernel_rfl) (by kernel_rfl)
    refine AllReadyH.cons rfl (fun KQ hKQ => ?_) AllReadyH.nil
    go_simp
    skip
    refine hKQ.out _ _ ?_ (fun hHeld2 => ?_)
    ·(try dsimp only); exact cell_ext (Ext.alloc (Ext.refl W) _) hHeld
    clear hKQ KQ
    exact HD11.out g0 A0 d0 As0 cs0 g1 A1 d1 As1 cs1 W.heap.size _ (kW.trans (Ext.alloc (Ext.refl W) _)) hHeld2 (fp0.ext (Ext.alloc (Ext.refl W) _)) (fp1.ext (Ext.alloc (Ext.refl W) _)) (heap_alloc_new W _) (kW.size) _ _ (by kernel_rfl) (by kernel_rfl))
   have HD13 : Hid (∀ (g0 : Nat) (A0 : Option Addr) (d0 : Nat) (As0 : Nat → Option Addr) (cs0 : Nat → Nat) (g1 : Nat) (g2 : Nat) (gA : Nat) (W : World), Ext V2 W → SS W → (PX W A0 2 d0 As0 (fun _ => 8) cs0 (fun j i => lif 0 (fixQ j))) → (VX W (some ⟨g1, 0, none⟩) 8 8 (fun _ => 0)) → (VX W (some ⟨g2, 0, none⟩) 8 8 (fun _ => 0)) → (W.heap[gA]? = some (.cells #[.slice none 0 0] 28 (0, 0))) → (V2.heap.size ≤ gA) → ∀ (l : Array Bool) (a : Act), l = #[true, true, true, true, true, true, true, false, true, true, true, false, false, false, true, false] → a = { tmps := #[.bool false, .pointer (some ⟨Pb, 0, none⟩), .pointer (some ⟨v, 0, none⟩), .int .i64 0, .pointer (some ⟨g, 0, none⟩), .pointer (some ⟨gA, 0, none⟩), u6, undef, u8, undef, u10, u11, u12, u13, u14, u15, u16, u17, u18, u19, u20, u21, u22, u23, u24, u25, u26, .pointer (some ⟨Pb, 2, none⟩), .slice (some ⟨Q0, 0, none⟩) 2 2, .slice (some ⟨g0, 0, none⟩) 8 8, .agg #[.slice A0 2 d0], .pointer (some ⟨Pb, 2, none⟩), .slice (some ⟨Q0, 0, none⟩) 2 2, .slice (some ⟨g1, 0, none⟩) 8 8, u34, .pointer (some ⟨Pb, 2, none⟩), .slice (some ⟨Q0, 0, none⟩) 2 2, .slice (some ⟨g2, 0, none⟩) 8 8, u38, u39, u40, u41, u42, u43, u44, u45, u46, u47, u48, u49, u50, u51, u52, u53, u54, u55, u56, u57, u58, u59, u60, u61, u62, u63, u64], defers := [] } → wpAnyH Tryz.prog .any OPS QQ SS 5 l a W) := Lib.hid (by
    intro g0 A0 d0 As0 cs0 g1 g2 gA W kW hHeld fp0 fg1 fg2 fA fA2 l a hl ha
    subst hO hQQ hSS hl ha
    try dsimp only at hHeld
    refine wpAnyH_ready (rs := [7]) (by kernel_rfl) (by simp) ?_
    refine AllReadyH.cons rfl (fun KQ hKQ => ?_) AllReadyH.nil
    go_simp
    go_at_call 45
    refine (HLI.out 1 (by omega) W kW (some ⟨g1, 0, none⟩) fg1).mono ?_
    rintro e5 W5 ⟨A2, c2, As, cs, rfl, hpx, k5⟩
    refine hKQ.out _ _ ?_ (fun hHeld2 => ?_)
    ·(try dsimp only); exact cell_ext k5 hHeld
    clear hKQ KQ
    exact HD10.out g0 A0 d0 As0 cs0 g1 A2 c2 As cs g2 gA _ (kW.trans k5) hHeld2 (fp0.ext k5) (hpx) (fg2.ext k5) (row_ext fA k5) (fA2) _ _ (by kernel_rfl) (by kernel_rfl))
   have HD12 : Hid (∀ (g0 : Nat) (A0 : Option Addr) (d0 : Nat) (As0 : Nat → Option Addr) (cs0 : Nat → Nat) (g1 : Nat) (g2 : Nat) (W : World), Ext V2 W → SS W → (PX W A0 2 d0 As0 (fun _ => 8) cs0 (fun j i => lif 0 (fixQ j))) → (VX W (some ⟨g1, 0, none⟩) 8 8 (fun _ => 0)) → (VX W (some ⟨g2, 0, none⟩) 8 8 (fun _ => 0)) → ∀ (l : Array Bool) (a : Act), l = #[true, true, true, true, true, true, true, false, true, true, true, false, false, false, false, false] → a = { tmps := #[.bool false, .pointer (some ⟨Pb, 0, none⟩), .pointer (some ⟨v, 0, none⟩), .int .i64 0, .pointer (some ⟨g, 0, none⟩), undef, u6, undef, u8, undef, u10, u11, u12, u13, u14, u15, u16, u17, u18, u19, u20, u21, u22, u23, u24, u25, u26, .pointer (some ⟨Pb, 2, none⟩), .slice (some ⟨Q0, 0, none⟩) 2 2, .slice (some ⟨g0, 0, none⟩) 8 8, .agg #[.slice A0 2 d0], .pointer (some ⟨Pb, 2, none⟩), .slice (some ⟨Q0, 0, none⟩) 2 2, .slice (some ⟨g1, 0, none⟩) 8 8, u34, .pointer (some ⟨Pb, 2, none⟩), .slice (some ⟨Q0, 0, none⟩) 2 2, .slice (some ⟨g2, 0, none⟩) 8 8, u38, u39, u40, u41, u42, u43, u44, u45, u46, u47, u48, u49, u50, u51, u52, u53, u54, u55, u56, u57, u58, u59, u60, u61, u62, u63, u64], defers := [] } → wpAnyH Tryz.prog .any OPS QQ SS 6 l a W) := Lib.hid (by
    intro g0 A0 d0 As0 cs0 g1 g2 W kW hHeld fp0 fg1 fg2 l a hl ha
    subst hO hQQ hSS hl ha
    try dsimp only at hHeld
    refine wpAnyH_ready (rs := [7, 14]) (by kernel_rfl) (by simp) ?_
    refine AllReadyH.cons rfl (fun KQ hKQ => ?_) ?_
    ·go_simp
     go_at_call 45
     refine (HLI.out 1 (by omega) W kW (some ⟨g1, 0, none⟩) fg1).mono ?_
     rintro e5 W5 ⟨A2, c2, As, cs, rfl, hpx, k5⟩
     refine hKQ.out _ _ ?_ (fun hHeld2 => ?_)
     ·(try dsimp only); exact cell_ext k5 hHeld
     clear hKQ KQ
     exact HD5.out g0 A0 d0 As0 cs0 g1 A2 c2 As cs g2 _ (kW.trans k5) hHeld2 (fp0.ext k5) (hpx) (fg2.ext k5) _ _ (by kernel_rfl) (by kernel_rfl)
    refine AllReadyH.cons rfl (fun KQ hKQ => ?_) AllReadyH.nil
    go_simp
    skip
    refine hKQ.out _ _ ?_ (fun hHeld2 => ?_)
    ·(try dsimp only); exact cell_ext (Ext.alloc (Ext.refl W) _) hHeld
    clear hKQ KQ
    exact HD13.out g0 A0 d0 As0 cs0 g1 g2 W.heap.size _ (kW.trans (Ext.alloc (Ext.refl W) _)) hHeld2 (fp0.ext (Ext.alloc (Ext.refl W) _)) (fg1.ext (Ext.alloc (Ext.refl W) _)) (fg2.ext (Ext.alloc (Ext.refl W) _)) (heap_alloc_new W _) (kW.size) _ _ (by kernel_rfl) (by kernel_rfl))
   have HD14 : Hid (∀ (g0 : Nat) (A0 : Option Addr) (d0 : Nat) (As0 : Nat → Option Addr) (cs0 : Nat → Nat) (g1 : Nat) (gA : Nat) (W : World), Ext V2 W → SS W → (PX W A0 2 d0 As0 (fun _ => 8) cs0 (fun j i => lif 0 (fixQ j))) → (VX W (some ⟨g1, 0, none⟩) 8 8 (fun _ => 0)) → (W.heap[gA]? = some (.cells #[.slice none 0 0] 28 (0, 0))) → (V2.heap.size ≤ gA) → ∀ (l : Array Bool) (a : Act), l = #[true, true, true, true, true, true, true, false, true, true, false, false, false, false, true, false] → a = { tmps := #[.bool false, .pointer (some ⟨Pb, 0, none⟩), .pointer (some ⟨v, 0, none⟩), .int .i64 0, .pointer (some ⟨g, 0, none⟩), .pointer (some ⟨gA, 0, none⟩), u6, undef, u8, undef, u10, u11, u12, u13, u14, u15, u16, u17, u18, u19, u20, u21, u22, u23, u24, u25, u26, .pointer (some ⟨Pb, 2, none⟩), .slice (some ⟨Q0, 0, none⟩) 2 2, .slice (some ⟨g0, 0, none⟩) 8 8, .agg #[.slice A0 2 d0], .pointer (some ⟨Pb, 2, none⟩), .slice (some ⟨Q0, 0, none⟩) 2 2, .slice (some ⟨g1, 0, none⟩) 8 8, u34, .pointer (some ⟨Pb, 2, none⟩), .slice (some ⟨Q0, 0, none⟩) 2 2, u37, u38, u39, u40, u41, u42, u43, u44, u45, u46, u47, u48, u49, u50, u51, u52, u53, u54, u55, u56, u57, u58, u59, u60, u61, u62, u63, u64], defers := [] } → wpAnyH Tryz.prog .any OPS QQ SS 6 l a W) := Lib.hid (by
    intro g0 A0 d0 As0 cs0 g1 gA W kW hHeld fp0 fg1 fA fA2 l a hl ha
    subst hO hQQ hSS hl ha
    try dsimp only at hHeld
    refine wpAnyH_ready (rs := [7, 10]) (by kernel_rfl) (by simp) ?_
    refine AllReadyH.cons rfl (fun KQ hKQ => ?_) ?_
    ·go_simp
     go_at_call 45
     refine (HLI.out 1 (by omega) W kW (some ⟨g1, 0, none⟩) fg1).mono ?_
     rintro e5 W5 ⟨A2, c2, As, cs, rfl, hpx, k5⟩
     refine hKQ.out _ _ ?_ (fun hHeld2 => ?_)
     ·(try dsimp only); exact cell_ext k5 hHeld
     clear hKQ KQ
     exact HD11.out g0 A0 d0 As0 cs0 g1 A2 c2 As cs gA _ (kW.trans k5) hHeld2 (fp0.ext k5) (hpx) (row_ext fA k5) (fA2) _ _ (by kernel_rfl) (by kernel_rfl)
    refine AllReadyH.cons rfl (fun KQ hKQ => ?_) AllReadyH.nil
    go_simp
    skip
    refine hKQ.out _ _ ?_ (fun hHeld2 => ?_)
    ·(try dsimp only); exact cell_ext (Ext.alloc (Ext.refl W) _) hHeld
    clear hKQ KQ
    exact HD13.out g0 A0 d0 As0 cs0 g1 W.heap.size gA _ (kW.trans (Ext.alloc (Ext.refl W) _)) hHeld2 (fp0.ext (Ext.alloc (Ext.refl W) _)) (fg1.ext (Ext.alloc (Ext.refl W) _)) ((newJ_rowX W 8).vxX) (row_ext fA (Ext.alloc (Ext.refl W) _)) (fA2) _ _ (by kernel_rfl) (by kernel_rfl))
   have HD3 : Hid (∀ (g0 : Nat) (A0 : Option Addr) (d0 : Nat) (As0 : Nat → Option Addr) (cs0 : Nat → Nat) (g1 : Nat) (W : World), Ext V2 W → SS W → (PX W A0 2 d0 As0 (fun _ => 8) cs0 (fun j i => lif 0 (fixQ j))) → (VX W (some ⟨g1, 0, none⟩) 8 8 (fun _ => 0)) → ∀ (l : Array Bool) (a : Act), l = #[true, true, true, true, true, true, true, false, true, true, false, false, false, false, false, false] → a = { tmps := #[.bool false, .pointer (some ⟨Pb, 0, none⟩), .pointer (some ⟨v, 0, none⟩), .int .i64 0, .pointer (some ⟨g, 0, none⟩), undef, u6, undef, u8, undef, u10, u11, u12, u13, u14, u15, u16, u17, u18, u19, u20, u21, u22, u23, u24, u25, u26, .pointer (some ⟨Pb, 2, none⟩), .slice (some ⟨Q0, 0, none⟩) 2 2, .slice (some ⟨g0, 0, none⟩) 8 8, .agg #[.slice A0 2 d0], .pointer (some ⟨Pb, 2, none⟩), .slice (some ⟨Q0, 0, none⟩) 2 2, .slice (some ⟨g1, 0, none⟩) 8 8, u34, .pointer (some ⟨Pb, 2, none⟩), .slice (some ⟨Q0, 0, none⟩) 2 2, u37, u38, u39, u40, u41, u42, u43, u44, u45, u46, u47, u48, u49, u50, u51, u52, u53, u54, u55, u56, u57, u58, u59, u60, u61, u62, u63, u64], defers := [] } → wpAnyH Tryz.prog .any OPS QQ SS 7 l a W) := Lib.hid (by
    intro g0 A0 d0 As0 cs0 g1 W kW hHeld fp0 fg1 l a hl ha
    subst hO hQQ hSS hl ha
    try dsimp only at hHeld
    refine wpAnyH_ready (rs := [7, 10, 14]) (by kernel_rfl) (by simp) ?_
    refine AllReadyH.cons rfl (fun KQ hKQ => ?_) ?_
    ·go_simp
     go_at_call 45
     refine (HLI.out 1 (by omega) W kW (some ⟨g1, 0, none⟩) fg1).mono ?_
     rintro e5 W5 ⟨A2, c2, As, cs, rfl, hpx, k5⟩
     refine hKQ.out _ _ ?_ (fun hHeld2 => ?_)
     ·(try dsimp only); exact cell_ext k5 hHeld
     clear hKQ KQ
     exact HD4.out g0 A0 d0 As0 cs0 g1 A2 c2 As cs _ (kW.trans k5) hHeld2 (fp0.ext k5) (hpx) _ _ (by kernel_rfl) (by kernel_rfl)
    refine AllReadyH.cons rfl (fun KQ hKQ => ?_) ?_
    ·go_simp
     skip
     refine hKQ.out _ _ ?_ (fun hHeld2 => ?_)
     ·(try dsimp only); exact cell_ext (Ext.alloc (Ext.refl W) _) hHeld
     clear hKQ KQ
     exact HD12.out g0 A0 d0 As0 cs0 g1 W.heap.size _ (kW.trans (Ext.alloc (Ext.refl W) _)) hHeld2 (fp0.ext (Ext.alloc (Ext.refl W) _)) (fg1.ext (Ext.alloc (Ext.refl W) _)) ((newJ_rowX W 8).vxX) _ _ (by kernel_rfl) (by kernel_rfl)
    refine AllReadyH.cons rfl (fun KQ hKQ => ?_) AllReadyH.nil
    go_simp
    skip
    refine hKQ.out _ _ ?_ (fun hHeld2 => ?_)
    ·(try dsimp only); exact cell_ext (Ext.alloc (Ext.refl W) _) hHeld
    clear hKQ KQ
    exact HD14.out g0 A0 d0 As0 cs0 g1 W.heap.size _ (kW.trans (Ext.alloc (Ext.refl W) _)) hHeld2 (fp0.ext (Ext.alloc (Ext.refl W) _)) (fg1.ext (Ext.alloc (Ext.refl W) _)) (heap_alloc_new W _) (kW.size) _ _ (by kernel_rfl) (by kernel_rfl))
   have HD16 : Hid (∀ (g0 : Nat) (A0 : Option Addr) (d0 : Nat) (As0 : Nat → Option Addr) (cs0 : Nat → Nat) (g2 : Nat) (gA : Nat) (W : World), Ext V2 W → SS W → (PX W A0 2 d0 As0 (fun _ => 8) cs0 (fun j i => lif 0 (fixQ j))) → (VX W (some ⟨g2, 0, none⟩) 8 8 (fun _ => 0)) → (W.heap[gA]? = some (.cells #[.slice none 0 0] 28 (0, 0))) → (V2.heap.size ≤ gA) → ∀ (l : Array Bool) (a : Act), l = #[true, true, true, true, true, true, false, false, true, true, true, false, false, false, true, false] → a = { tmps := #[.bool false, .pointer (some ⟨Pb, 0, none⟩), .pointer (some ⟨v, 0, none⟩), .int .i64 0, .pointer (some ⟨g, 0, none⟩), .pointer (some ⟨gA, 0, none⟩), u6, undef, u8, undef, u10, u11, u12, u13, u14, u15, u16, u17, u18, u19, u20, u21, u22, u23, u24, u25, u26, .pointer (some ⟨Pb, 2, none⟩), .slice (some ⟨Q0, 0, none⟩) 2 2, .slice (some ⟨g0, 0, none⟩) 8 8, .agg #[.slice A0 2 d0], .pointer (some ⟨Pb, 2, none⟩), .slice (some ⟨Q0, 0, none⟩) 2 2, u33, u34, .pointer (some ⟨Pb, 2, none⟩), .slice (some ⟨Q0, 0, none⟩) 2 2, .slice (some ⟨g2, 0, none⟩) 8 8, u38, u39, u40, u41, u42, u43, u44, u45, u46, u47, u48, u49, u50, u51, u52, u53, u54, u55, u56, u57, u58, u59, u60, u61, u62, u63, u64], defers := [] } → wpAnyH Tryz.prog .any OPS QQ SS 6 l a W) := Lib.hid (by
    intro g0 A0 d0 As0 cs0 g2 gA W kW hHeld fp0 fg2 fA fA2 l a hl ha
    subst hO hQQ hSS hl ha
    try dsimp only at hHeld
    refine wpAnyH_ready (rs := [6]) (by kernel_rfl) (by simp) ?_
    refine AllReadyH.cons rfl (fun KQ hKQ => ?_) AllReadyH.nil
    go_simp
    skip
    refine hKQ.out _ _ ?_ (fun hHeld2 => ?_)
    ·(try dsimp only); exact cell_ext (Ext.alloc (Ext.refl W) _) hHeld
    clear hKQ KQ
    exact HD13.out g0 A0 d0 As0 cs0 W.heap.size g2 gA _ (kW.trans (Ext.alloc (Ext.refl W) _)) hHeld2 (fp0.ext (Ext.alloc (Ext.refl W) _)) ((newJ_rowX W 8).vxX) (fg2.ext (Ext.alloc (Ext.refl W) _)) (row_ext fA (Ext.alloc (Ext.refl W) _)) (fA2) _ _ (by kernel_rfl) (by kernel_rfl))
   have HD15 : Hid (∀ (g0 : Nat) (A0 : Option Addr) (d0 : Nat) (As0 : Nat → Option Addr) (cs0 : Nat → Nat) (g2 : Nat) (W : World), Ext V2 W → SS W → (PX W A0 2 d0 As0 (fun _ => 8) cs0 (fun j i => lif 0 (fixQ j))) → (VX W (some ⟨g2, 0, none⟩) 8 8 (fun _ => 0)) → ∀ (l : Array Bool) (a : Act), l = #[true, true, true, true, true, true, false, false, true, true, true, false, false, false, false, false] → a = { tmps := #[.bool false, .pointer (some ⟨Pb, 0, none⟩), .pointer (some ⟨v, 0, none⟩), .int .i64 0, .pointer (some ⟨g, 0, none⟩), undef, u6, undef, u8, undef, u10, u11, u12, u13, u14, u15, u16, u17, u18, u19, u20, u21, u22, u23, u24, u25, u26, .pointer (some ⟨Pb, 2, none⟩), .slice (some ⟨Q0, 0, none⟩) 2 2, .slice (some ⟨g0, 0, none⟩) 8 8, .agg #[.slice A0 2 d0], .pointer (some ⟨Pb, 2, none⟩), .slice (some ⟨Q0, 0, none⟩) 2 2, u33, u34, .pointer (some ⟨Pb, 2, none⟩), .slice (some ⟨Q0, 0, none⟩) 2 2, .slice (some ⟨g2, 0, none⟩) 8 8, u38, u39, u40, u41, u42, u43, u44, u45, u46, u47, u48, u49, u50, u51, u52, u53, u54, u55, u56, u57, u58, u59, u60, u61, u62, u63, u64], defers := [] } → wpAnyH Tryz.prog .any OPS QQ SS 7 l a W) := Lib.hid (by
    intro g0 A0 d0 As0 cs0 g2 W kW hHeld fp0 fg2 l a hl ha
    subst hO hQQ hSS hl ha
    try dsimp only at hHeld
    refine wpAnyH_ready (rs := [6, 14]) (by kernel_rfl) (by simp) ?_
    refine AllReadyH.cons rfl (fun KQ hKQ => ?_) ?_
    ·go_simp
     skip
     refine hKQ.out _ _ ?_ (fun hHeld2 => ?_)
     ·(try dsimp only); exact cell_ext (Ext.alloc (Ext.refl W) _) hHeld
     clear hKQ KQ
     exact HD12.out g0 A0 d0 As0 cs0 W.heap.size g2 _ (kW.trans (Ext.alloc (Ext.refl W) _)) hHeld2 (fp0.ext (Ext.alloc (Ext.refl W) _)) ((newJ_rowX W 8).vxX) (fg2.ext (Ext.alloc (Ext.refl W) _)) _ _ (by kernel_rfl) (by kernel_rfl)
    refine AllReadyH.cons rfl (fun KQ hKQ => ?_) AllReadyH.nil
    go_simp
    skip
    refine hKQ.out _ _ ?_ (fun hHeld2 => ?_)
    ·(try dsimp only); exact cell_ext (Ext.alloc (Ext.refl W) _) hHeld
    clear hKQ KQ
    exact HD16.out g0 A0 d0 As0 cs0 g2 W.heap.size _ (kW.trans (Ext.alloc (Ext.refl W) _)) hHeld2 (fp0.ext (Ext.alloc (Ext.refl W) _)) (fg2.ext (Ext.alloc (Ext.refl W) _)) (heap_alloc_new W _) (kW.size) _ _ (by kernel_rfl) (by kernel_rfl))
   have HD17 : Hid (∀ (g0 : Nat) (A0 : Option Addr) (d0 : Nat) (As0 : Nat → Option Addr) (cs0 : Nat → Nat) (gA : Nat) (W : World), Ext V2 W → SS W → (PX W A0 2 d0 As0 (fun _ => 8) cs0 (fun j i => lif 0 (fixQ j))) → (W.heap[gA]? = some (.cells #[.slice none 0 0] 28 (0, 0))) → (V2.heap.size ≤ gA) → ∀ (l : Array Bool) (a : Act), l = #[true, true, true, true, true, true, false, false, true, true, false, false, false, false, true, false] → a = { tmps := #[.bool false, .pointer (some ⟨Pb, 0, none⟩), .pointer (some ⟨v, 0, none⟩), .int .i64 0, .pointer (some ⟨g, 0, none⟩), .pointer (some ⟨gA, 0, none⟩), u6, undef, u8, undef, u10, u11, u12, u13, u14, u15, u16, u17, u18, u19, u20, u21, u22, u23, u24, u25, u26, .pointer (some ⟨Pb, 2, none⟩), .slice (some ⟨Q0, 0, none⟩) 2 2, .slice (some ⟨g0, 0, none⟩) 8 8, .agg #[.slice A0 2 d0], .pointer (some ⟨Pb, 2, none⟩), .slice (some ⟨Q0, 0, none⟩) 2 2, u33, u34, .pointer (some ⟨Pb, 2, none⟩), .slice (some ⟨Q0, 0, none⟩) 2 2, u37, u38, u39, u40, u41, u42, u43, u44, u45, u46, u47, u48, u49, u50, u51, u52, u53, u54, u55, u56, u57, u58, u59, u60, u61, u62, u63, u64], defers := [] } → wpAnyH Tryz.prog .any OPS QQ SS 7 l a W) := Lib.hid (by
    intro g0 A0 d0 As0 cs0 gA W kW hHeld fp0 fA fA2 l a hl ha
    subst hO hQQ hSS hl ha
    try dsimp only at hHeld
    refine wpAnyH_ready (rs := [6, 10]) (by kernel_rfl) (by simp) ?_
    refine AllReadyH.cons rfl (fun KQ hKQ => ?_) ?_
    ·go_simp
     skip
     refine hKQ.out _ _ ?_ (fun hHeld2 => ?_)
     ·(try dsimp only); exact cell_ext (Ext.alloc (Ext.refl W) _) hHeld
     clear hKQ KQ
     exact HD14.out g0 A0 d0 As0 cs0 W.heap.size gA _ (kW.trans (Ext.alloc (Ext.refl W) _)) hHeld2 (fp0.ext (Ext.alloc (Ext.refl W) _)) ((newJ_rowX W 8).vxX) (row_ext fA (Ext.alloc (Ext.refl W) _)) (fA2) _ _ (by kernel_rfl) (by kernel_rfl)
    refine AllReadyH.cons rfl (fun KQ hKQ => ?_) AllReadyH.nil
    go_simp
    skip
    refine hKQ.out _ _ ?_ (fun hHeld2 => ?_)
    ·(try dsimp only); exact cell_ext (Ext.alloc (Ext.refl W) _) hHeld
    clear hKQ KQ
    exact HD16.out g0 A0 d0 As0 cs0 W.heap.size gA _ (kW.trans (Ext.alloc (Ext.refl W) _)) hHeld2 (fp0.ext (Ext.alloc (Ext.refl W) _)) ((newJ_rowX W 8).vxX) (row_ext fA (Ext.alloc (Ext.refl W) _)) (fA2) _ _ (by kernel_rfl) (by kernel_rfl))
   have HD2 : Hid (∀ (g0 : Nat) (A0 : Option Addr) (d0 : Nat) (As0 : Nat → Option Addr) (cs0 : Nat → Nat) (W : World), Ext V2 W → SS W → (PX W A0 2 d0 As0 (fun _ => 8) cs0 (fun j i => lif 0 (fixQ j))) → ∀ (l : Array Bool) (a : Act), l = #[true, true, true, true, true, true, false, false, true, true, false, false, false, false, false, false] → a = { tmps := #[.bool false, .pointer (some ⟨Pb, 0, none⟩), .pointer (some ⟨v, 0, none⟩), .int .i64 0, .pointer (some ⟨g, 0, none⟩), undef, u6, undef, u8, undef, u10, u11, u12, u13, u14, u15, u16, u17, u18, u19, u20, u21, u22, u23, u24, u25, u26, .pointer (some ⟨Pb, 2, none⟩), .slice (some ⟨Q0, 0, none⟩) 2 2, .slice (some ⟨g0, 0, none⟩) 8 8, .agg #[.slice A0 2 d0], .pointer (some ⟨Pb, 2, none⟩), .slice (some ⟨Q0, 0, none⟩) 2 2, u33, u34, .pointer (some ⟨Pb, 2, none⟩), .slice (some ⟨Q0, 0, none⟩) 2 2, u37, u38, u39, u40, u41, u42, u43, u44, u45, u46, u47, u48, u49, u50, u51, u52, u53, u54, u55, u56, u57, u58, u59, u60, u61, u62, u63, u64], defers := [] } → wpAnyH Tryz.prog .any OPS QQ SS 8 l a W) := Lib.hid (by
    intro g0 A0 d0 As0 cs0 W kW hHeld fp0 l a hl ha
    subst hO hQQ hSS hl ha
    try dsimp only at hHeld
    refine wpAnyH_ready (rs := [6, 10, 14]) (by kernel_rfl) (by simp) ?_
    refine AllReadyH.cons rfl (fun KQ hKQ => ?_) ?_
    ·go_simp
     skip
     refine hKQ.out _ _ ?_ (fun hHeld2 => ?_)
     ·(try dsimp only); exact cell_ext (Ext.alloc (Ext.refl W) _) hHeld
     clear hKQ KQ
     exact HD3.out g0 A0 d0 As0 cs0 W.heap.size _ (kW.trans (Ext.alloc (Ext.refl W) _)) hHeld2 (fp0.ext (Ext.alloc (Ext.refl W) _)) ((newJ_rowX W 8).vxX) _ _ (by kernel_rfl) (by kernel_rfl)
    refine AllReadyH.cons rfl (fun KQ hKQ => ?_) ?_
    ·go_simp
     skip
     refine hKQ.out _ _ ?_ (fun hHeld2 => ?_)
     ·(try dsimp only); exact cell_ext (Ext.alloc (Ext.refl W) _) hHeld
     clear hKQ KQ
     exact HD15.out g0 A0 d0 As0 cs0 W.heap.size _ (kW.trans (Ext.alloc (Ext.refl W) _)) hHeld2 (fp0.ext (Ext.alloc (Ext.refl W) _)) ((newJ_rowX W 8).vxX) _ _ (by kernel_rfl) (by kernel_rfl)
    refine AllReadyH.cons rfl (fun KQ hKQ => ?_) AllReadyH.nil
    go_simp
    skip
    refine hKQ.out _ _ ?_ (fun hHeld2 => ?_)
    ·(try dsimp only); exact cell_ext (Ext.alloc (Ext.refl W) _) hHeld
    clear hKQ KQ
    exact HD17.out g0 A0 d0 As0 cs0 W.heap.size _ (kW.trans (Ext.alloc (Ext.refl W) _)) hHeld2 (fp0.ext (Ext.alloc (Ext.refl W) _)) (heap_alloc_new W _) (kW.size) _ _ (by kernel_rfl) (by kernel_rfl))
   have HD20 : Hid (∀ (g0 : Nat) (g1 : Nat) (g2 : Nat) (gA : Nat) (W : World), Ext V2 W → SS W → (VX W (some ⟨g0, 0, none⟩) 8 8 (fun _ => 0)) → (VX W (some ⟨g1, 0, none⟩) 8 8 (fun _ => 0)) → (VX W (some ⟨g2, 0, none⟩) 8 8 (fun _ => 0)) → (W.heap[gA]? = some (.cells #[.slice none 0 0] 28 (0, 0))) → (V2.heap.size ≤ gA) → ∀ (l : Array Bool) (a : Act), l = #[true, true, true, false, true, true, true, false, true, true, true, false, false, false, true, false] → a = { tmps := #[.bool false, .pointer (some ⟨Pb, 0, none⟩), .pointer (some ⟨v, 0, none⟩), .int .i64 0, .pointer (some ⟨g, 0, none⟩), .pointer (some ⟨gA, 0, none⟩), u6, undef, u8, undef, u10, u11, u12, u13, u14, u15, u16, u17, u18, u19, u20, u21, u22, u23, u24, u25, u26, .pointer (some ⟨Pb, 2, none⟩), .slice (some ⟨Q0, 0, none⟩) 2 2, .slice (some ⟨g0, 0, none⟩) 8 8, u30, .pointer (some ⟨Pb, 2, none⟩), .slice (some ⟨Q0, 0, none⟩) 2 2, .slice (some ⟨g1, 0, none⟩) 8 8, u34, .pointer (some ⟨Pb, 2, none⟩), .slice (some ⟨Q0, 0, none⟩) 2 2, .slice (some ⟨g2, 0, none⟩) 8 8, u38, u39, u40, u41, u42, u43, u44, u45, u46, u47, u48, u49, u50, u51, u52, u53, u54, u55, u56, u57, u58, u59, u60, u61, u62, u63, u64], defers := [] } → wpAnyH Tryz.prog .any OPS QQ SS 6 l a W) := Lib.hid (by
    intro g0 g1 g2 gA W kW hHeld fg0 fg1 fg2 fA fA2 l a hl ha
    subst hO hQQ hSS hl ha
    try dsimp only at hHeld
    refine wpAnyH_ready (rs := [3]) (by kernel_rfl) (by simp) ?_
    refine AllReadyH.cons rfl (fun KQ hKQ => ?_) AllReadyH.nil
    go_simp
    go_at_call 45
    refine (HLI.out 1 (by omega) W kW (some ⟨g0, 0, none⟩) fg0).mono ?_
    rintro e5 W5 ⟨A2, c2, As, cs, rfl, hpx, k5⟩
    refine hKQ.out _ _ ?_ (fun hHeld2 => ?_)
    ·(try dsimp only); exact cell_ext k5 hHeld
    clear hKQ KQ
    exact HD13.out g0 A2 c2 As cs g1 g2 gA _ (kW.trans k5) hHeld2 (hpx) (fg1.ext k5) (fg2.ext k5) (row_ext fA k5) (fA2) _ _ (by kernel_rfl) (by kernel_rfl))
   have HD19 : Hid (∀ (g0 : Nat) (g1 : Nat) (g2 : Nat) (W : World), Ext V2 W → SS W → (VX W (some ⟨g0, 0, none⟩) 8 8 (fun _ => 0)) → (VX W (some ⟨g1, 0, none⟩) 8 8 (fun _ => 0)) → (VX W (some ⟨g2, 0, none⟩) 8 8 (fun _ => 0)) → ∀ (l : Array Bool) (a : Act), l = #[true, true, true, false, true, true, true, false, true, true, true, false, false, false, false, false] → a = { tmps := #[.bool false, .pointer (some ⟨Pb, 0, none⟩), .pointer (some ⟨v, 0, none⟩), .int .i64 0, .pointer (some ⟨g, 0, none⟩), undef, u6, undef, u8, undef, u10, u11, u12, u13, u14, u15, u16, u17, u18, u19, u20, u21, u22, u23, u24, u25, u26, .pointer (some ⟨Pb, 2, none⟩), .slice (some ⟨Q0, 0, none⟩) 2 2, .slice (some ⟨g0, 0, none⟩) 8 8, u30, .pointer (some ⟨Pb, 2, none⟩), .slice (some ⟨Q0, 0, none⟩) 2 2, .slice (some ⟨g1, 0, none⟩) 8 8, u34, .pointer (some ⟨Pb, 2, none⟩), .slice (some ⟨Q0, 0, none⟩) 2 2, .slice (some ⟨g2, 0, none⟩) 8 8, u38, u39, u40, u41, u42, u43, u44, u45, u46, u47, u48, u49, u50, u51, u52, u53, u54, u55, u56, u57, u58, u59, u60, u61, u62, u63, u64], defers := [] } → wpAnyH Tryz.prog .any OPS QQ SS 7 l a W) := Lib.hid (by
    intro g0 g1 g2 W kW hHeld fg0 fg1 fg2 l a hl ha
    subst hO hQQ hSS hl ha
    try dsimp only at hHeld
    refine wpAnyH_ready (rs := [3, 14]) (by kernel_rfl) (by simp) ?_
    refine AllReadyH.cons rfl (fun KQ hKQ => ?_) ?_
    ·go_simp
     go_at_call 45
     refine (HLI.out 1 (by omega) W kW (some ⟨g0, 0, none⟩) fg0).mono ?_
     rintro e5 W5 ⟨A2, c2, As, cs, rfl, hpx, k5⟩
     refine hKQ.out _ _ ?_ (fun hHeld2 => ?_)
     ·(try dsimp only); exact cell_ext k5 hHeld
     clear hKQ KQ
     exact HD12.out g0 A2 c2 As cs g1 g2 _ (kW.trans k5) hHeld2 (hpx) (fg1.ext k5) (fg2.ext k5) _ _ (by kernel_rfl) (by kernel_rfl)
    refine AllReadyH.cons rfl (fun KQ hKQ => ?_) AllReadyH.nil
    go_simp
    skip
    refine hKQ.out _ _ ?_ (fun hHeld2 => ?_)
    ·(try dsimp only); exact cell_ext (Ext.alloc (Ext.refl W) _) hHeld
    clear hKQ KQ
    exact HD20.out g0 g1 g2 W.heap.size _ (kW.trans (Ext.alloc (Ext.refl W) _)) hHeld2 (fg0.ext (Ext.alloc (Ext.refl W) _)) (fg1.ext (Ext.alloc (Ext.refl W) _)) (fg2.ext (Ext.alloc (Ext.refl W) _)) (heap_alloc_new W _) (kW.size) _ _ (by kernel_rfl) (by kernel_rfl))
   have HD21 : Hid (∀ (g0 : Nat) (g1 : Nat) (gA : Nat) (W : World), Ext V2 W → SS W → (VX W (some ⟨g0, 0, none⟩) 8 8 (fun _ => 0)) → (VX W (some ⟨g1, 0, none⟩) 8 8 (fun _ => 0)) → (W.heap[gA]? = some (.cells #[.slice none 0 0] 28 (0, 0))) → (V2.heap.size ≤ gA) → ∀ (l : Array Bool) (a : Act), l = #[true, true, true, false, true, true, true, false, true, true, false, false, false, false, true, false] → a = { tmps := #[.bool false, .pointer (some ⟨Pb, 0, none⟩), .pointer (some ⟨v, 0, none⟩), .int .i64 0, .pointer (some ⟨g, 0, none⟩), .pointer (some ⟨gA, 0, none⟩), u6, undef, u8, undef, u10, u11, u12, u13, u14, u15, u16, u17, u18, u19, u20, u21, u22, u23, u24, u25, u26, .pointer (some ⟨Pb, 2, none⟩), .slice (some ⟨Q0, 0, none⟩) 2 2, .slice (some ⟨g0, 0, none⟩) 8 8, u30, .pointer (some ⟨Pb, 2, none⟩), .slice (some ⟨Q0, 0, none⟩) 2 2, .slice (some ⟨g1, 0, none⟩) 8 8, u34, .pointer (some ⟨Pb, 2, none⟩), .slice (some ⟨Q0, 0, none⟩) 2 2, u37, u38, u39, u40, u41, u42, u43, u44, u45, u46, u47, u48, u49, u50, u51, u52, u53, u54, u55, u56, u57, u58, u59, u60, u61, u62, u63, u64], defers := [] } → wpAnyH Tryz.prog .any OPS QQ SS 7 l a W) := Lib.hid (by
    intro g0 g1 gA W kW hHeld fg0 fg1 fA fA2 l a hl ha
    subst hO hQQ hSS hl ha
    try dsimp only at hHeld
    refine wpAnyH_ready (rs := [3, 10]) (by kernel_rfl) (by simp) ?_
    refine AllReadyH.cons rfl (fun KQ hKQ => ?_) ?_
    ·go_simp
     go_at_call 45
     refine (HLI.out 1 (by omega) W kW (some ⟨g0, 0, none⟩) fg0).mono ?_
     rintro e5 W5 ⟨A2, c2, As, cs, rfl, hpx, k5⟩
     refine hKQ.out _ _ ?_ (fun hHeld2 => ?_)
     ·(try dsimp only); exact cell_ext k5 hHeld
     clear hKQ KQ
     exact HD14.out g0 A2 c2 As cs g1 gA _ (kW.trans k5) hHeld2 (hpx) (fg1.ext k5) (row_ext fA k5) (fA2) _ _ (by kernel_rfl) (by kernel_rfl)
    refine AllReadyH.cons rfl (fun KQ hKQ => ?_) AllReadyH.nil
    go_simp
    skip
    refine hKQ.out _ _ ?_ (fun hHeld2 => ?_)
    ·(try dsimp only); exact cell_ext (Ext.alloc (Ext.refl W) _) hHeld
    clear hKQ KQ
    exact HD20.out g0 g1 W.heap.size gA _ (kW.trans (Ext.alloc (Ext.refl W) _)) hHeld2 (fg0.ext (Ext.alloc (Ext.refl W) _)) (fg1.ext (Ext.alloc (Ext.refl W) _)) ((newJ_rowX W 8).vxX) (row_ext fA (Ext.alloc (Ext.refl W) _)) (fA2) _ _ (by kernel_rfl) (by kernel_rfl))
   have HD18 : Hid (∀ (g0 : Nat) (g1 : Nat) (W : World), Ext V2 W → SS W → (VX W (some ⟨g0, 0, none⟩) 8 8 (fun _ => 0)) → (VX W (some ⟨g1, 0, none⟩) 8 8 (fun _ => 0)) → ∀ (l : Array Bool) (a : Act), l = #[true, true, true, false, true, true, true, false, true, true, false, false, false, false, false, false] → a = { tmps := #[.bool false, .pointer (some ⟨Pb, 0, none⟩), .pointer (some ⟨v, 0, none⟩), .int .i64 0, .pointer (some ⟨g, 0, none⟩), undef, u6, undef, u8, undef, u10, u11, u12, u13, u14, u15, u16, u17, u18, u19, u20, u21, u22, u23, u24, u25, u26, .pointer (some ⟨Pb, 2, none⟩), .slice (some ⟨Q0, 0, none⟩) 2 2, .slice (some ⟨g0, 0, none⟩) 8 8, u30, .pointer (some ⟨Pb, 2, none⟩), .slice (some ⟨Q0, 0, none⟩) 2 2, .slice (some ⟨g1, 0, none⟩) 8 8, u34, .pointer (some ⟨Pb, 2, none⟩), .slice (some ⟨Q0, 0, none⟩) 2 2, u37, u38, u39, u40, u41, u42, u43, u44, u45, u46, u47, u48, u49, u50, u51, u52, u53, u54, u55, u56, u57, u58, u59, u60, u61, u62, u63, u64], defers := [] } → wpAnyH Tryz.prog .any OPS QQ SS 8 l a W) := Lib.hid (by
    intro g0 g1 W kW hHeld fg0 fg1 l a hl ha
    subst hO hQQ hSS hl ha
    try dsimp only at hHeld
    refine wpAnyH_ready (rs := [3, 10, 14]) (by kernel_rfl) (by simp) ?_
    refine AllReadyH.cons rfl (fun KQ hKQ => ?_) ?_
    ·go_simp
     go_at_call 45
     refine (HLI.out 1 (by omega) W kW (some ⟨g0, 0, none⟩) fg0).mono ?_
     rintro e5 W5 ⟨A2, c2, As, cs, rfl, hpx, k5⟩
     refine hKQ.out _ _ ?_ (fun hHeld2 => ?_)
     ·(try dsimp only); exact cell_ext k5 hHeld
     clear hKQ KQ
     exact HD3.out g0 A2 c2 As cs g1 _ (kW.trans k5) hHeld2 (hpx) (fg1.ext k5) _ _ (by kernel_rfl) (by kernel_rfl)
    refine AllReadyH.cons rfl (fun KQ hKQ => ?_) ?_
    ·go_simp
     skip
     refine hKQ.out _ _ ?_ (fun hHeld2 => ?_)
     ·(try dsimp only); exact cell_ext (Ext.alloc (Ext.refl W) _) hHeld
     clear hKQ KQ
     exact HD19.out g0 g1 W.heap.size _ (kW.trans (Ext.alloc (Ext.refl W) _)) hHeld2 (fg0.ext (Ext.alloc (Ext.refl W) _)) (fg1.ext (Ext.alloc (Ext.refl W) _)) ((newJ_rowX W 8).vxX) _ _ (by kernel_rfl) (by kernel_rfl)
    refine AllReadyH.cons rfl (fun KQ hKQ => ?_) AllReadyH.nil
    go_simp
    skip
    refine hKQ.out _ _ ?_ (fun hHeld2 => ?_)
    ·(try dsimp only); exact cell_ext (Ext.alloc (Ext.refl W) _) hHeld
    clear hKQ KQ
    exact HD21.out g0 g1 W.heap.size _ (kW.trans (Ext.alloc (Ext.refl W) _)) hHeld2 (fg0.ext (Ext.alloc (Ext.refl W) _)) (fg1.ext (Ext.alloc (Ext.refl W) _)) (heap_alloc_new W _) (kW.size) _ _ (by kernel_rfl) (by kernel_rfl))
   have HD23 : Hid (∀ (g0 : Nat) (g2 : Nat) (gA : Nat) (W : World), Ext V2 W → SS W → (VX W (some ⟨g0, 0, none⟩) 8 8 (fun _ => 0)) → (VX W (some ⟨g2, 0, none⟩) 8 8 (fun _ => 0)) → (W.heap[gA]? = some (.cells #[.slice none 0 0] 28 (0, 0))) → (V2.heap.size ≤ gA) → ∀ (l : Array Bool) (a : Act), l = #[true, true, true, false, true, true, false, false, true, true, true, false, false, false, true, false] → a = { tmps := #[.bool false, .pointer (some ⟨Pb, 0, none⟩), .pointer (some ⟨v, 0, none⟩), .int .i64 0, .pointer (some ⟨g, 0, none⟩), .pointer (some ⟨gA, 0, none⟩), u6, undef, u8, undef, u10, u11, u12, u13, u14, u15, u16, u17, u18, u19, u20, u21, u22, u23, u24, u25, u26, .pointer (some ⟨Pb, 2, none⟩), .slice (some ⟨Q0, 0, none⟩) 2 2, .slice (some ⟨g0, 0, none⟩) 8 8, u30, .pointer (some ⟨Pb, 2, none⟩), .slice (some ⟨Q0, 0, none⟩) 2 2, u33, u34, .pointer (some ⟨Pb, 2, none⟩), .slice (some ⟨Q0, 0, none⟩) 2 2, .slice (some ⟨g2, 0, none⟩) 8 8, u38, u39, u40, u41, u42, u43, u44, u45, u46, u47, u48, u49, u50, u51, u52, u53, u54, u55, u56, u57, u58, u59, u60, u61, u62, u63, u64], defers := [] } → wpAnyH Tryz.prog .any OPS QQ SS 7 l a W) := Lib.hid (by
    intro g0 g2 gA W kW hHeld fg0 fg2 fA fA2 l a hl ha
    subst hO hQQ hSS hl ha
    try dsimp only at hHeld
    refine wpAnyH_ready (rs := [3, 6]) (by kernel_rfl) (by simp) ?_
    refine AllReadyH.cons rfl (fun KQ hKQ => ?_) ?_
    ·go_simp
     go_at_call 45
     refine (HLI.out 1 (by omega) W kW (some ⟨g0, 0, none⟩) fg0).mono ?_
     rintro e5 W5 ⟨A2, c2, As, cs, rfl, hpx, k5⟩
     refine hKQ.out _ _ ?_ (fun hHeld2 => ?_)
     ·(try dsimp only); exact cell_ext k5 hHeld
     clear hKQ KQ
     exact HD16.out g0 A2 c2 As cs g2 gA _ (kW.trans k5) hHeld2 (hpx) (fg2.ext k5) (row_ext fA k5) (fA2) _ _ (by kernel_rfl) (by kernel_rfl)
    refine AllReadyH.cons rfl (fun KQ hKQ => ?_) AllReadyH.nil
    go_simp
    skip
    refine hKQ.out _ _ ?_ (fun hHeld2 => ?_)
    ·(try dsimp only); exact cell_ext (Ext.alloc (Ext.refl W) _) hHeld
    clear hKQ KQ
    exact HD20.out g0 W.heap.size g2 gA _ (kW.trans (Ext.alloc (Ext.refl W) _)) hHeld2 (fg0.ext (Ext.alloc (Ext.refl W) _)) ((newJ_rowX W 8).vxX) (fg2.ext (Ext.alloc (Ext.refl W) _)) (row_ext fA (Ext.alloc (Ext.refl W) _)) (fA2) _ _ (by kernel_rfl) (by kernel_rfl))
   have HD22 : Hid (∀ (g0 : Nat) (g2 : Nat) (W : World), Ext V2 W → SS W → (VX W (some ⟨g0, 0, none⟩) 8 8 (fun _ => 0)) → (VX W (some ⟨g2, 0, none⟩) 8 8 (fun _ => 0)) → ∀ (l : Array Bool) (a : Act), l = #[true, true, true, false, true, true, false, false, true, true, true, false, false, false, false, false] → a = { tmps := #[.bool false, .pointer (some ⟨Pb, 0, none⟩), .pointer (some ⟨v, 0, none⟩), .int .i64 0, .pointer (some ⟨g, 0, none⟩), undef, u6, undef, u8, undef, u10, u11, u12, u13, u14, u15, u16, u17, u18, u19, u20, u21, u22, u23, u24, u25, u26, .pointer (some ⟨Pb, 2, none⟩), .slice (some ⟨Q0, 0, none⟩) 2 2, .slice (some ⟨g0, 0, none⟩) 8 8, u30, .pointer (some ⟨Pb, 2, none⟩), .slice (some ⟨Q0, 0, none⟩) 2 2, u33, u34, .pointer (some ⟨Pb, 2, none⟩), .slice (some ⟨Q0, 0, none⟩) 2 2, .slice (some ⟨g2, 0, none⟩) 8 8, u38, u39, u40, u41, u42, u43, u44, u45, u46, u47, u48, u49, u50, u51, u52, u53, u54, u55, u56, u57, u58, u59, u60, u61, u62, u63, u64], defers := [] } → wpAnyH Tryz.prog .any OPS QQ SS 8 l a W) := Lib.hid (by
    intro g0 g2 W kW hHeld fg0 fg2 l a hl ha
    subst hO hQQ hSS hl ha
    try dsimp only at hHeld
    refine wpAnyH_ready (rs := [3, 6, 14]) (by kernel_rfl) (by simp) ?_
    refine AllReadyH.cons rfl (fun KQ hKQ => ?_) ?_
    ·go_simp
     go_at_call 45
     refine (HLI.out 1 (by omega) W kW (some ⟨g0, 0, none⟩) fg0).mono ?_
     rintro e5 W5 ⟨A2, c2, As, cs, rfl, hpx, k5⟩
     refine hKQ.out _ _ ?_ (fun hHeld2 => ?_)
     ·(try dsimp only); exact cell_ext k5 hHeld
     clear hKQ KQ
     exact HD15.out g0 A2 c2 As cs g2 _ (kW.trans k5) hHeld2 (hpx) (fg2.ext k5) _ _ (by kernel_rfl) (by kernel_rfl)
    refine AllReadyH.cons rfl (fun KQ hKQ => ?_) ?_
    ·go_simp
     skip
     refine hKQ.out _ _ ?_ (fun hHeld2 => ?_)
     ·(try dsimp only); exact cell_ext (Ext.alloc (Ext.refl W) _) hHeld
     clear hKQ KQ
     exact HD19.out g0 W.heap.size g2 _ (kW.trans (Ext.alloc (Ext.refl W) _)) hHeld2 (fg0.ext (Ext.alloc (Ext.refl W) _)) ((newJ_rowX W 8).vxX) (fg2.ext (Ext.alloc (Ext.refl W) _)) _ _ (by kernel_rfl) (by kernel_rfl)
    refine AllReadyH.cons rfl (fun KQ hKQ => ?_) AllReadyH.nil
    go_simp
    skip
    refine hKQ.out _ _ ?_ (fun hHeld2 => ?_)
    ·(try dsimp only); exact cell_ext (Ext.alloc (Ext.refl W) _) hHeld
    clear hKQ KQ
    exact HD23.out g0 g2 W.heap.size _ (kW.trans (Ext.alloc (Ext.refl W) _)) hHeld2 (fg0.ext (Ext.alloc (Ext.refl W) _)) (fg2.ext (Ext.alloc (Ext.refl W) _)) (heap_alloc_new W _) (kW.size) _ _ (by kernel_rfl) (by kernel_rfl))
   have HD24 : Hid (∀ (g0 : Nat) (gA : Nat) (W : World), Ext V2 W → SS W → (VX W (some ⟨g0, 0, none⟩) 8 8 (fun _ => 0)) → (W.heap[gA]? = some (.cells #[.slice none 0 0] 28 (0, 0))) → (V2.heap.size ≤ gA) → ∀ (l : Array Bool) (a : Act), l = #[true, true, true, false, true, true, false, false, true, true, false, false, false, false, true, false] → a = { tmps := #[.bool false, .pointer (some ⟨Pb, 0, none⟩), .pointer (some ⟨v, 0, none⟩), .int .i64 0, .pointer (some ⟨g, 0, none⟩), .pointer (some ⟨gA, 0, none⟩), u6, undef, u8, undef, u10, u11, u12, u13, u14, u15, u16, u17, u18, u19, u20, u21, u22, u23, u24, u25, u26, .pointer (some ⟨Pb, 2, none⟩), .slice (some ⟨Q0, 0, none⟩) 2 2, .slice (some ⟨g0, 0, none⟩) 8 8, u30, .pointer (some ⟨Pb, 2, none⟩), .slice (some ⟨Q0, 0, none⟩) 2 2, u33, u34, .pointer (some ⟨Pb, 2, none⟩), .slice (some ⟨Q0, 0, none⟩) 2 2, u37, u38, u39, u40, u41, u42, u43, u44, u45, u46, u47, u48, u49, u50, u51, u52, u53, u54, u55, u56, u57, u58, u59, u60, u61, u62, u63, u64], defers := [] } → wpAnyH Tryz.prog .any OPS QQ SS 8 l a W) := Lib.hid (by
    intro g0 gA W kW hHeld fg0 fA fA2 l a hl ha
    subst hO hQQ hSS hl ha
    try dsimp only at hHeld
    refine wpAnyH_ready (rs := [3, 6, 10]) (by kernel_rfl) (by simp) ?_
    refine AllReadyH.cons rfl (fun KQ hKQ => ?_) ?_
    ·go_simp
     go_at_call 45
     refine (HLI.out 1 (by omega) W kW (some ⟨g0, 0, none⟩) fg0).mono ?_
     rintro e5 W5 ⟨A2, c2, As, cs, rfl, hpx, k5⟩
     refine hKQ.out _ _ ?_ (fun hHeld2 => ?_)
     ·(try dsimp only); exact cell_ext k5 hHeld
     clear hKQ KQ
     exact HD17.out g0 A2 c2 As cs gA _ (kW.trans k5) hHeld2 (hpx) (row_ext fA k5) (fA2) _ _ (by kernel_rfl) (by kernel_rfl)
    refine AllReadyH.cons rfl (fun KQ hKQ => ?_) ?_
    ·go_simp
     skip
     refine hKQ.out _ _ ?_ (fun hHeld2 => ?_)
     ·(try dsimp only); exact cell_ext (Ext.alloc (Ext.refl W) _) hHeld
     clear hKQ KQ
     exact HD21.out g0 W.heap.size gA _ (kW.trans (Ext.alloc (Ext.refl W) _)) hHeld2 (fg0.ext (Ext.alloc (Ext.refl W) _)) ((newJ_rowX W 8).vxX) (row_ext fA (Ext.alloc (Ext.refl W) _)) (fA2) _ _ (by kernel_rfl) (by kernel_rfl)
    refine AllReadyH.cons rfl (fun KQ hKQ => ?_) AllReadyH.nil
    go_simp
    skip
    refine hKQ.out _ _ ?_ (fun hHeld2 => ?_)
    ·(try dsimp only); exact cell_ext (Ext.alloc (Ext.refl W) _) hHeld
    clear hKQ KQ
    exact HD23.out g0 W.heap.size gA _ (kW.trans (Ext.alloc (Ext.refl W) _)) hHeld2 (fg0.ext (Ext.alloc (Ext.refl W) _)) ((newJ_rowX W 8).vxX) (row_ext fA (Ext.alloc (Ext.refl W) _)) (fA2) _ _ (by kernel_rfl) (by kernel_rfl))
   have HD1 : Hid (∀ (g0 : Nat) (W : World), Ext V2 W → SS W → (VX W (some ⟨g0, 0, none⟩) 8 8 (fun _ => 0)) → ∀ (l : Array Bool) (a : Act), l = #[true, true, true, false, true, true, false, false, true, true, false, false, false, false, false, false] → a = { tmps := #[.bool false, .pointer (some ⟨Pb, 0, none⟩), .pointer (some ⟨v, 0, none⟩), .int .i64 0, .pointer (some ⟨g, 0, none⟩), undef, u6, undef, u8, undef, u10, u11, u12, u13, u14, u15, u16, u17, u18, u19, u20, u21, u22, u23, u24, u25, u26, .pointer (some ⟨Pb, 2, none⟩), .slice (some ⟨Q0, 0, none⟩) 2 2, .slice (some ⟨g0, 0, none⟩) 8 8, u30, .pointer (some ⟨Pb, 2, none⟩), .slice (some ⟨Q0, 0, none⟩) 2 2, u33, u34, .pointer (some ⟨Pb, 2, none⟩), .slice (some ⟨Q0, 0, none⟩) 2 2, u37, u38, u39, u40, u41, u42, u43, u44, u45, u46, u47, u48, u49, u50, u51, u52, u53, u54, u55, u56, u57, u58, u59, u60, u61, u62, u63, u64], defers := [] } → wpAnyH Tryz.prog .any OPS QQ SS 9 l a W) := Lib.hid (by
    intro g0 W kW hHeld fg0 l a hl ha
    subst hO hQQ hSS hl ha
    try dsimp only at hHeld
    refine wpAnyH_ready (rs := [3, 6, 10, 14]) (by kernel_rfl) (by simp) ?_
    refine AllReadyH.cons rfl (fun KQ hKQ => ?_) ?_
    ·go_simp
     go_at_call 45
     refine (HLI.out 1 (by omega) W kW (some ⟨g0, 0, none⟩) fg0).mono ?_
     rintro e5 W5 ⟨A2, c2, As, cs, rfl, hpx, k5⟩
     refine hKQ.out _ _ ?_ (fun hHeld2 => ?_)
     ·(try dsimp only); exact cell_ext k5 hHeld
     clear hKQ KQ
     exact HD2.out g0 A2 c2 As cs _ (kW.trans k5) hHeld2 (hpx) _ _ (by kernel_rfl) (by kernel_rfl)
    refine AllReadyH.cons rfl (fun KQ hKQ => ?_) ?_
    ·go_simp
     skip
     refine hKQ.out _ _ ?_ (fun hHeld2 => ?_)
     ·(try dsimp only); exact cell_ext (Ext.alloc (Ext.refl W) _) hHeld
     clear hKQ KQ
     exact HD18.out g0 W.heap.size _ (kW.trans (Ext.alloc (Ext.refl W) _)) hHeld2 (fg0.ext (Ext.alloc (Ext.refl W) _)) ((newJ_rowX W 8).vxX) _ _ (by kernel_rfl) (by kernel_rfl)
    refine AllReadyH.cons rfl (fun KQ hKQ => ?_) ?_
    ·go_simp
     skip
     refine hKQ.out _ _ ?_ (fun hHeld2 => ?_)
     ·(try dsimp only); exact cell_ext (Ext.alloc (Ext.refl W) _) hHeld
     clear hKQ KQ
     exact HD22.out g0 W.heap.size _ (kW.trans (Ext.alloc (Ext.refl W) _)) hHeld2 (fg0.ext (Ext.alloc (Ext.refl W) _)) ((newJ_rowX W 8).vxX) _ _ (by kernel_rfl) (by kernel_rfl)
    refine AllReadyH.cons rfl (fun KQ hKQ => ?_) AllReadyH.nil
    go_simp
    skip
    refine hKQ.out _ _ ?_ (fun hHeld2 => ?_)
    ·(try dsimp only); exact cell_ext (Ext.alloc (Ext.refl W) _) hHeld
    clear hKQ KQ
    exact HD24.out g0 W.heap.size _ (kW.trans (Ext.alloc (Ext.refl W) _)) hHeld2 (fg0.ext (Ext.alloc (Ext.refl W) _)) (heap_alloc_new W _) (kW.size) _ _ (by kernel_rfl) (by kernel_rfl))
   have HD27 : Hid (∀ (g1 : Nat) (g2 : Nat) (gA : Nat) (W : World), Ext V2 W → SS W → (VX W (some ⟨g1, 0, none⟩) 8 8 (fun _ => 0)) → (VX W (some ⟨g2, 0, none⟩) 8 8 (fun _ => 0)) → (W.heap[gA]? = some (.cells #[.slice none 0 0] 28 (0, 0))) → (V2.heap.size ≤ gA) → ∀ (l : Array Bool) (a : Act), l = #[true, true, false, false, true, true, true, false, true, true, true, false, false, false, true, false] → a = { tmps := #[.bool false, .pointer (some ⟨Pb, 0, none⟩), .pointer (some ⟨v, 0, none⟩), .int .i64 0, .pointer (some ⟨g, 0, none⟩), .pointer (some ⟨gA, 0, none⟩), u6, undef, u8, undef, u10, u11, u12, u13, u14, u15, u16, u17, u18, u19, u20, u21, u22, u23, u24, u25, u26, .pointer (some ⟨Pb, 2, none⟩), .slice (some ⟨Q0, 0, none⟩) 2 2, u29, u30, .pointer (some ⟨Pb, 2, none⟩), .slice (some ⟨Q0, 0, none⟩) 2 2, .slice (some ⟨g1, 0, none⟩) 8 8, u34, .pointer (some ⟨Pb, 2, none⟩), .slice (some ⟨Q0, 0, none⟩) 2 2, .slice (some ⟨g2, 0, none⟩) 8 8, u38, u39, u40, u41, u42, u43, u44, u45, u46, u47, u48, u49, u50, u51, u52, u53, u54, u55, u56, u57, u58, u59, u60, u61, u62, u63, u64], defers := [] } → wpAnyH Tryz.prog .any OPS QQ SS 7 l a W) := Lib.hid (by
    intro g1 g2 gA W kW hHeld fg1 fg2 fA fA2 l a hl ha
    subst hO hQQ hSS hl ha
    try dsimp only at hHeld
    refine wpAnyH_ready (rs := [2]) (by kernel_rfl) (by simp) ?_
    refine AllReadyH.cons rfl (fun KQ hKQ => ?_) AllReadyH.nil
    go_simp
    skip
    refine hKQ.out _ _ ?_ (fun hHeld2 => ?_)
    ·(try dsimp only); exact cell_ext (Ext.alloc (Ext.refl W) _) hHeld
    clear hKQ KQ
    exact HD20.out W.heap.size g1 g2 gA _ (kW.trans (Ext.alloc (Ext.refl W) _)) hHeld2 ((newJ_rowX W 8).vxX) (fg1.ext (Ext.alloc (Ext.refl W) _)) (fg2.ext (Ext.alloc (Ext.refl W) _)) (row_ext fA (Ext.alloc (Ext.refl W) _)) (fA2) _ _ (by kernel_rfl) (by kernel_rfl))
   have HD26 : Hid (∀ (g1 : Nat) (g2 : Nat) (W : World), Ext V2 W → SS W → (VX W (some ⟨g1, 0, none⟩) 8 8 (fun _ => 0)) → (VX W (some ⟨g2, 0, none⟩) 8 8 (fun _ => 0)) → ∀ (l : Array Bool) (a : Act), l = #[true, true, false, false, true, true, true, false, true, true, true, false, false, false, false, false] → a = { tmps := #[.bool false, .pointer (some ⟨Pb, 0, none⟩), .pointer (some ⟨v, 0, none⟩), .int .i64 0, .pointer (some ⟨g, 0, none⟩), undef, u6, undef, u8, undef, u10, u11, u12, u13, u14, u15, u16, u17, u18, u19, u20, u21, u22, u23, u24, u25, u26, .pointer (some ⟨Pb, 2, none⟩), .slice (some ⟨Q0, 0, none⟩) 2 2, u29, u30, .pointer (some ⟨Pb, 2, none⟩), .slice (some ⟨Q0, 0, none⟩) 2 2, .slice (some ⟨g1, 0, none⟩) 8 8, u34, .pointer (some ⟨Pb, 2, none⟩), .slice (some ⟨Q0, 0, none⟩) 2 2, .slice (some ⟨g2, 0, none⟩) 8 8, u38, u39, u40, u41, u42, u43, u44, u45, u46, u47, u48, u49, u50, u51, u52, u53, u54, u55, u56, u57, u58, u59, u60, u61, u62, u63, u64], defers := [] } → wpAnyH Tryz.prog .any OPS QQ SS 8 l a W) := Lib.hid (by
    intro g1 g2 W kW hHeld fg1 fg2 l a hl ha
    subst hO hQQ hSS hl ha
    try dsimp only at hHeld
    refine wpAnyH_ready (rs := [2, 14]) (by kernel_rfl) (by simp) ?_
    refine AllReadyH.cons rfl (fun KQ hKQ => ?_) ?_
    ·go_simp
     skip
     refine hKQ.out _ _ ?_ (fun hHeld2 => ?_)
     ·(try dsimp only); exact cell_ext (Ext.alloc (Ext.refl W) _) hHeld
     clear hKQ KQ
     exact HD19.out W.heap.size g1 g2 _ (kW.trans (Ext.alloc (Ext.refl W) _)) hHeld2 ((newJ_rowX W 8).vxX) (fg1.ext (Ext.alloc (Ext.refl W) _)) (fg2.ext (Ext.alloc (Ext.refl W) _)) _ _ (by kernel_rfl) (by kernel_rfl)
    refine AllReadyH.cons rfl (fun KQ hKQ => ?_) AllReadyH.nil
    go_simp
    skip
    refine hKQ.out _ _ ?_ (fun hHeld2 => ?_)
    ·(try dsimp only); exact cell_ext (Ext.alloc (Ext.refl W) _) hHeld
    clear hKQ KQ
    exact HD27.out g1 g2 W.heap.size _ (kW.trans (Ext.alloc (Ext.refl W) _)) hHeld2 (fg1.ext (Ext.alloc (Ext.refl W) _)) (fg2.ext (Ext.alloc (Ext.refl W) _)) (heap_alloc_new W _) (kW.size) _ _ (by kernel_rfl) (by kernel_rfl))
   have HD28 : Hid (∀ (g1 : Nat) (gA : Nat) (W : World), Ext V2 W → SS W → (VX W (some ⟨g1, 0, none⟩) 8 8 (fun _ => 0)) → (W.heap[gA]? = some (.cells #[.slice none 0 0] 28 (0, 0))) → (V2.heap.size ≤ gA) → ∀ (l : Array Bool) (a : Act), l = #[true, true, false, false, true, true, true, false, true, true, false, false, false, false, true, false] → a = { tmps := #[.bool false, .pointer (some ⟨Pb, 0, none⟩), .pointer (some ⟨v, 0, none⟩), .int .i64 0, .pointer (some ⟨g, 0, none⟩), .pointer (some ⟨gA, 0, none⟩), u6, undef, u8, undef, u10, u11, u12, u13, u14, u15, u16, u17, u18, u19, u20, u21, u22, u23, u24, u25, u26, .pointer (some ⟨Pb, 2, none⟩), .slice (some ⟨Q0, 0, none⟩) 2 2, u29, u30, .pointer (some ⟨Pb, 2, none⟩), .slice (some ⟨Q0, 0, none⟩) 2 2, .slice (some ⟨g1, 0, none⟩) 8 8, u34, .pointer (some ⟨Pb, 2, none⟩), .slice (some ⟨Q0, 0, none⟩) 2 2, u37, u38, u39, u40, u41, u42, u43, u44, u45, u46, u47, u48, u49, u50, u51, u52, u53, u54, u55, u56, u57, u58, u59, u60, u61, u62, u63, u64], defers := [] } → wpAnyH Tryz.prog .any OPS QQ SS 8 l a W) := Lib.hid (by
    intro g1 gA W kW hHeld fg1 fA fA2 l a hl ha
    subst hO hQQ hSS hl ha
    try dsimp only at hHeld
    refine wpAnyH_ready (rs := [2, 10]) (by kernel_rfl) (by simp) ?_
    refine AllReadyH.cons rfl (fun KQ hKQ => ?_) ?_
    ·go_simp
     skip
     refine hKQ.out _ _ ?_ (fun hHeld2 => ?_)
     ·(try dsimp only); exact cell_ext (Ext.alloc (Ext.refl W) _) hHeld
     clear hKQ KQ
     exact HD21.out W.heap.size g1 gA _ (kW.trans (Ext.alloc (Ext.refl W) _)) hHeld2 ((newJ_rowX W 8).vxX) (fg1.ext (Ext.alloc (Ext.refl W) _)) (row_ext fA (Ext.alloc (Ext.refl W) _)) (fA2) _ _ (by kernel_rfl) (by kernel_rfl)
    refine AllReadyH.cons rfl (fun KQ hKQ => ?_) AllReadyH.nil
    go_simp
    skip
    refine hKQ.out _ _ ?_ (fun hHeld2 => ?_)
    ·(try dsimp only); exact cell_ext (Ext.alloc (Ext.refl W) _) hHeld
    clear hKQ KQ
    exact HD27.out g1 W.heap.size gA _ (kW.trans (Ext.alloc (Ext.refl W) _)) hHeld2 (fg1.ext (Ext.alloc (Ext.refl W) _)) ((newJ_rowX W 8).vxX) (row_ext fA (Ext.alloc (Ext.refl W) _)) (fA2) _ _ (by kernel_rfl) (by kernel_rfl))
   have HD25 : Hid (∀ (g1 : Nat) (W : World), Ext V2 W → SS W → (VX W (some ⟨g1, 0, none⟩) 8 8 (fun _ => 0)) → ∀ (l : Array Bool) (a : Act), l = #[true, true, false, false, true, true, true, false, true, true, false, false, false, false, false, false] → a = { tmps := #[.bool false, .pointer (some ⟨Pb, 0, none⟩), .pointer (some ⟨v, 0, none⟩), .int .i64 0, .pointer (some ⟨g, 0, none⟩), undef, u6, undef, u8, undef, u10, u11, u12, u13, u14, u15, u16, u17, u18, u19, u20, u21, u22, u23, u24, u25, u26, .pointer (some ⟨Pb, 2, none⟩), .slice (some ⟨Q0, 0, none⟩) 2 2, u29, u30, .pointer (some ⟨Pb, 2, none⟩), .slice (some ⟨Q0, 0, none⟩) 2 2, .slice (some ⟨g1, 0, none⟩) 8 8, u34, .pointer (some ⟨Pb, 2, none⟩), .slice (some ⟨Q0, 0, none⟩) 2 2, u37, u38, u39, u40, u41, u42, u43, u44, u45, u46, u47, u48, u49, u50, u51, u52, u53, u54, u55, u56, u57, u58, u59, u60, u61, u62, u63, u64], defers := [] } → wpAnyH Tryz.prog .any OPS QQ SS 9 l a W) := Lib.hid (by
    intro g1 W kW hHeld fg1 l a hl ha
    subst hO hQQ hSS hl ha
    try dsimp only at hHeld
    refine wpAnyH_ready (rs := [2, 10, 14]) (by kernel_rfl) (by simp) ?_
    refine AllReadyH.cons rfl (fun KQ hKQ => ?_) ?_
    ·go_simp
     skip
     refine hKQ.out _ _ ?_ (fun hHeld2 => ?_)
     ·(try dsimp only); exact cell_ext (Ext.alloc (Ext.refl W) _) hHeld
     clear hKQ KQ
     exact HD18.out W.heap.size g1 _ (kW.trans (Ext.alloc (Ext.refl W) _)) hHeld2 ((newJ_rowX W 8).vxX) (fg1.ext (Ext.alloc (Ext.refl W) _)) _ _ (by kernel_rfl) (by kernel_rfl)
    refine AllReadyH.cons rfl (fun KQ hKQ => ?_) ?_
    ·go_simp
     skip
     refine hKQ.out _ _ ?_ (fun hHeld2 => ?_)
     ·(try dsimp only); exact cell_ext (Ext.alloc (Ext.refl W) _) hHeld
     clear hKQ KQ
     exact HD26.out g1 W.heap.size _ (kW.trans (Ext.alloc (Ext.refl W) _)) hHeld2 (fg1.ext (Ext.alloc (Ext.refl W) _)) ((newJ_rowX W 8).vxX) _ _ (by kernel_rfl) (by kernel_rfl)
    refine AllReadyH.cons rfl (fun KQ hKQ => ?_) AllReadyH.nil
    go_simp
    skip
    refine hKQ.out _ _ ?_ (fun hHeld2 => ?_)
    ·(try dsimp only); exact cell_ext (Ext.alloc (Ext.refl W) _) hHeld
    clear hKQ KQ
    exact HD28.out g1 W.heap.size _ (kW.trans (Ext.alloc (Ext.refl W) _)) hHeld2 (fg1.ext (Ext.alloc (Ext.refl W) _)) (heap_alloc_new W _) (kW.size) _ _ (by kernel_rfl) (by kernel_rfl))
   have HD30 : Hid (∀ (g2 : Nat) (gA : Nat) (W : World), Ext V2 W → SS W → (VX W (some ⟨g2, 0, none⟩) 8 8 (fun _ => 0)) → (W.heap[gA]? = some (.cells #[.slice none 0 0] 28 (0, 0))) → (V2.heap.size ≤ gA) → ∀ (l : Array Bool) (a : Act), l = #[true, true, false, false, true, true, false, false, true, true, true, false, false, false, true, false] → a = { tmps := #[.bool false, .pointer (some ⟨Pb, 0, none⟩), .pointer (some ⟨v, 0, none⟩), .int .i64 0, .pointer (some ⟨g, 0, none⟩), .pointer (some ⟨gA, 0, none⟩), u6, undef, u8, undef, u10, u11, u12, u13, u14, u15, u16, u17, u18, u19, u20, u21, u22, u23, u24, u25, u26, .pointer (some ⟨Pb, 2, none⟩), .slice (some ⟨Q0, 0, none⟩) 2 2, u29, u30, .pointer (some ⟨Pb, 2, none⟩), .slice (some ⟨Q0, 0, none⟩) 2 2, u33, u34, .pointer (some ⟨Pb, 2, none⟩), .slice (some ⟨Q0, 0, none⟩) 2 2, .slice (some ⟨g2, 0, none⟩) 8 8, u38, u39, u40, u41, u42, u43, u44, u45, u46, u47, u48, u49, u50, u51, u52, u53, u54, u55, u56, u57, u58, u59, u60, u61, u62, u63, u64], defers := [] } → wpAnyH Tryz.prog .any OPS QQ SS 8 l a W) := Lib.hid (by
    intro g2 gA W kW hHeld fg2 fA fA2 l a hl ha
    subst hO hQQ hSS hl ha
    try dsimp only at hHeld
    refine wpAnyH_ready (rs := [2, 6]) (by kernel_rfl) (by simp) ?_
    refine AllReadyH.cons rfl (fun KQ hKQ => ?_) ?_
    ·go_simp
     skip
     refine hKQ.out _ _ ?_ (fun hHeld2 => ?_)
     ·(try dsimp only); exact cell_ext (Ext.alloc (Ext.refl W) _) hHeld
     clear hKQ KQ
     exact HD23.out W.heap.size g2 gA _ (kW.trans (Ext.alloc (Ext.refl W) _)) hHeld2 ((newJ_rowX W 8).vxX) (fg2.ext (Ext.alloc (Ext.refl W) _)) (row_ext fA (Ext.alloc (Ext.refl W) _)) (fA2) _ _ (by kernel_rfl) (by kernel_rfl)
    refine AllReadyH.cons rfl (fun KQ hKQ => ?_) AllReadyH.nil
    go_simp
    skip
    refine hKQ.out _ _ ?_ (fun hHeld2 => ?_)
    ·(try dsimp only); exact cell_ext (Ext.alloc (Ext.refl W) _) hHeld
    clear hKQ KQ
    exact HD27.out W.heap.size g2 gA _ (kW.trans (Ext.alloc (Ext.refl W) _)) hHeld2 ((newJ_rowX W 8).vxX) (fg2.ext (Ext.alloc (Ext.refl W) _)) (row_ext fA (Ext.alloc (Ext.refl W) _)) (fA2) _ _ (by kernel_rfl) (by kernel_rfl))
   have HD29 : Hid (∀ (g2 : Nat) (W : World), Ext V2 W → SS W → (VX W (some ⟨g2, 0, none⟩) 8 8 (fun _ => 0)) → ∀ (l : Array Bool) (a : Act), l = #[true, true, false, false, true, true, false, false, true, true, true, false, false, false, false, false] → a = { tmps := #[.bool false, .pointer (some ⟨Pb, 0, none⟩), .pointer (some ⟨v, 0, none⟩), .int .i64 0, .pointer (some ⟨g, 0, none⟩), undef, u6, undef, u8, undef, u10, u11, u12, u13, u14, u15, u16, u17, u18, u19, u20, u21, u22, u23, u24, u25, u26, .pointer (some ⟨Pb, 2, none⟩), .slice (some ⟨Q0, 0, none⟩) 2 2, u29, u30, .pointer (some ⟨Pb, 2, none⟩), .slice (some ⟨Q0, 0, none⟩) 2 2, u33, u34, .pointer (some ⟨Pb, 2, none⟩), .slice (some ⟨Q0, 0, none⟩) 2 2, .slice (some ⟨g2, 0, none⟩) 8 8, u38, u39, u40, u41, u42, u43, u44, u45, u46, u47, u48, u49, u50, u51, u52, u53, u54, u55, u56, u57, u58, u59, u60, u61, u62, u63, u64], defers := [] } → wpAnyH Tryz.prog .any OPS QQ SS 9 l a W) := Lib.hid (by
    intro g2 W kW hHeld fg2 l a hl ha
    subst hO hQQ hSS hl ha
    try dsimp only at hHeld
    refine wpAnyH_ready (rs := [2, 6, 14]) (by kernel_rfl) (by simp) ?_
    refine AllReadyH.cons rfl (fun KQ hKQ => ?_) ?_
    ·go_simp
     skip
     refine hKQ.out _ _ ?_ (fun hHeld2 => ?_)
     ·(try dsimp only); exact cell_ext (Ext.alloc (Ext.refl W) _) hHeld
     clear hKQ KQ
     exact HD22.out W.heap.size g2 _ (kW.trans (Ext.alloc (Ext.refl W) _)) hHeld2 ((newJ_rowX W 8).vxX) (fg2.ext (Ext.alloc (Ext.refl W) _)) _ _ (by kernel_rfl) (by kernel_rfl)
    refine AllReadyH.cons rfl (fun KQ hKQ => ?_) ?_
    ·go_simp
     skip
     refine hKQ.out _ _ ?_ (fun hHeld2 => ?_)
     ·(try dsimp only); exact cell_ext (Ext.alloc (Ext.refl W) _) hHeld
     clear hKQ KQ
     exact HD26.out W.heap.size g2 _ (kW.trans (Ext.alloc (Ext.refl W) _)) hHeld2 ((newJ_rowX W 8).vxX) (fg2.ext (Ext.alloc (Ext.refl W) _)) _ _ (by kernel_rfl) (by kernel_rfl)
    refine AllReadyH.cons rfl (fun KQ hKQ => ?_) AllReadyH.nil
    go_simp
    skip
    refine hKQ.out _ _ ?_ (fun hHeld2 => ?_)
    ·(try dsimp only); exact cell_ext (Ext.alloc (Ext.refl W) _) hHeld
    clear hKQ KQ
    exact HD30.out g2 W.heap.size _ (kW.trans (Ext.alloc (Ext.refl W) _)) hHeld2 (fg2.ext (Ext.alloc (Ext.refl W) _)) (heap_alloc_new W _) (kW.size) _ _ (by kernel_rfl) (by kernel_rfl))
   have HD31 : Hid (∀ (gA : Nat) (W : World), Ext V2 W → SS W → (W.heap[gA]? = some (.cells #[.slice none 0 0] 28 (0, 0))) → (V2.heap.size ≤ gA) → ∀ (l : Array Bool) (a : Act), l = #[true, true, false, false, true, true, false, false, true, true, false, false, false, false, true, false] → a = { tmps := #[.bool false, .pointer (some ⟨Pb, 0, none⟩), .pointer (some ⟨v, 0, none⟩), .int .i64 0, .pointer (some ⟨g, 0, none⟩), .pointer (some ⟨gA, 0, none⟩), u6, undef, u8, undef, u10, u11, u12, u13, u14, u15, u16, u17, u18, u19, u20, u21, u22, u23, u24, u25, u26, .pointer (some ⟨Pb, 2, none⟩), .slice (some ⟨Q0, 0, none⟩) 2 2, u29, u30, .pointer (some ⟨Pb, 2, none⟩), .slice (some ⟨Q0, 0, none⟩) 2 2, u33, u34, .pointer (some ⟨Pb, 2, none⟩), .slice (some ⟨Q0, 0, none⟩) 2 2, u37, u38, u39, u40, u41, u42, u43, u44, u45, u46, u47, u48, u49, u50, u51, u52, u53, u54, u55, u56, u57, u58, u59, u60, u61, u62, u63, u64], defers := [] } → wpAnyH Tryz.prog .any OPS QQ SS 9 l a W) := Lib.hid (by
    intro gA W kW hHeld fA fA2 l a hl ha
    subst hO hQQ hSS hl ha
    try dsimp only at hHeld
    refine wpAnyH_ready (rs := [2, 6, 10]) (by kernel_rfl) (by simp) ?_
    refine AllReadyH.cons rfl (fun KQ hKQ => ?_) ?_
    ·go_simp
     skip
     refine hKQ.out _ _ ?_ (fun hHeld2 => ?_)
     ·(try dsimp only); exact cell_ext (Ext.alloc (Ext.refl W) _) hHeld
     clear hKQ KQ
     exact HD24.out W.heap.size gA _ (kW.trans (Ext.alloc (Ext.refl W) _)) hHeld2 ((newJ_rowX W 8).vxX) (row_ext fA (Ext.alloc (Ext.refl W) _)) (fA2) _ _ (by kernel_rfl) (by kernel_rfl)
    refine AllReadyH.cons rfl (fun KQ hKQ => ?_) ?_
    ·go_simp
     skip
     refine hKQ.out _ _ ?_ (fun hHeld2 => ?_)
     ·(try dsimp only); exact cell_ext (Ext.alloc (Ext.refl W) _) hHeld
     clear hKQ KQ
     exact HD28.out W.heap.size gA _ (kW.trans (Ext.alloc (Ext.refl W) _)) hHeld2 ((newJ_rowX W 8).vxX) (row_ext fA (Ext.alloc (Ext.refl W) _)) (fA2) _ _ (by kernel_rfl) (by kernel_rfl)
    refine AllReadyH.cons rfl (fun KQ hKQ => ?_) AllReadyH.nil
    go_simp
    skip
    refine hKQ.out _ _ ?_ (fun hHeld2 => ?_)
    ·(try dsimp only); exact cell_ext (Ext.alloc (Ext.refl W) _) hHeld
    clear hKQ KQ
    exact HD30.out W.heap.size gA _ (kW.trans (Ext.alloc (Ext.refl W) _)) hHeld2 ((newJ_rowX W 8).vxX) (row_ext fA (Ext.alloc (Ext.refl W) _)) (fA2) _ _ (by kernel_rfl) (by kernel_rfl))
   have HD0 : Hid (∀ (W : World), Ext V2 W → SS W → ∀ (l : Array Bool) (a : Act), l = #[true, true, false, false, true, true, false, false, true, true, false, false, false, false, false, false] → a = { tmps := #[.bool false, .pointer (some ⟨Pb, 0, none⟩), .pointer (some ⟨v, 0, none⟩), .int .i64 0, .pointer (some ⟨g, 0, none⟩), undef, u6, undef, u8, undef, u10, u11, u12, u13, u14, u15, u16, u17, u18, u19, u20, u21, u22, u23, u24, u25, u26, .pointer (some ⟨Pb, 2, none⟩), .slice (some ⟨Q0, 0, none⟩) 2 2, u29, u30, .pointer (some ⟨Pb, 2, none⟩), .slice (some ⟨Q0, 0, none⟩) 2 2, u33, u34, .pointer (some ⟨Pb, 2, none⟩), .slice (some ⟨Q0, 0, none⟩) 2 2, u37, u38, u39, u40, u41, u42, u43, u44, u45, u46, u47, u48, u49, u50, u51, u52, u53, u54, u55, u56, u57, u58, u59, u60, u61, u62, u63, u64], defers := [] } → wpAnyH Tryz.prog .any OPS QQ SS 10 l a W) := Lib.hid (by
    intro W kW hHeld l a hl ha
    subst hO hQQ hSS hl ha
    try dsimp only at hHeld
    refine wpAnyH_ready (rs := [2, 6, 10, 14]) (by kernel_rfl) (by simp) ?_
    refine AllReadyH.cons rfl (fun KQ hKQ => ?_) ?_
    ·go_simp
     skip
     refine hKQ.out _ _ ?_ (fun hHeld2 => ?_)
     ·(try dsimp only); exact cell_ext (Ext.alloc (Ext.refl W) _) hHeld
     clear hKQ KQ
     exact HD1.out W.heap.size _ (kW.trans (Ext.alloc (Ext.refl W) _)) hHeld2 ((newJ_rowX W 8).vxX) _ _ (by kernel_rfl) (by kernel_rfl)
    refine AllReadyH.cons rfl (fun KQ hKQ => ?_) ?_
    ·go_simp
     skip
     refine hKQ.out _ _ ?_ (fun hHeld2 => ?_)
     ·(try dsimp only); exact cell_ext (Ext.alloc (Ext.refl W) _) hHeld
     clear hKQ KQ
     exact HD25.out W.heap.size _ (kW.trans (Ext.alloc (Ext.refl W) _)) hHeld2 ((newJ_rowX W 8).vxX) _ _ (by kernel_rfl) (by kernel_rfl)
    refine AllReadyH.cons rfl (fun KQ hKQ => ?_) ?_
    ·go_simp
     skip
     refine hKQ.out _ _ ?_ (fun hHeld2 => ?_)
     ·(try dsimp only); exact cell_ext (Ext.alloc (Ext.refl W) _) hHeld
     clear hKQ KQ
     exact HD29.out W.heap.size _ (kW.trans (Ext.alloc (Ext.refl W) _)) hHeld2 ((newJ_rowX W 8).vxX) _ _ (by kernel_rfl) (by kernel_rfl)
    refine AllReadyH.cons rfl (fun KQ hKQ => ?_) AllReadyH.nil
    go_simp
    skip
    refine hKQ.out _ _ ?_ (fun hHeld2 => ?_)
    ·(try dsimp only); exact cell_ext (Ext.alloc (Ext.refl W) _) hHeld
    clear hKQ KQ
    exact HD31.out W.heap.size _ (kW.trans (Ext.alloc (Ext.refl W) _)) hHeld2 (heap_alloc_new W _) (kW.size) _ _ (by kernel_rfl) (by kernel_rfl))
   exact HD0.out _ (Ext.drew (Ext.refl _)) (by rw [hSS]; exact hHeld) _ _ (by kernel_rfl) (by kernel_rfl)
  case rest =>
   obtain ⟨g2, gB2, Aj2, cj2, Bs2, cs2, rfl, h42, hq2, kk2⟩ := hcut
   rename World => V3
   have y4 := cell_ext kk2 h4.out
   have y5 := h42.out
   have k13 := kk1.trans kk2
   have HF2 : ∀ j, 0 < fixQ j := fun j => by unfold fixQ; split <;> omega
   have HA1 : Hid (AreP 8 2 fixQ 2 (fun _ => 1) (fun _ _ => 8) (fun _ j i => lif 0 (fixQ j)) (((1 : Nat) : Int) - 1)) := Lib.hid (fun k hk => ⟨⟨by show 0 < 1; omega, by show 1 ≤ 2; omega, fun j hj => ⟨rfl, fun i hi => lif_lt (HF2 j)⟩⟩, rfl⟩)
   have HA2 : Hid (AreP 8 2 fixQ 3 (fun _ => 2) (fun _ _ => 8) (fun _ j i => lif 0 (fixQ j)) (((2 : Nat) : Int) - 1)) := Lib.hid (fun k hk => ⟨⟨by show 0 < 2; omega, by show 2 ≤ 2; omega, fun j hj => ⟨rfl, fun i hi => lif_lt (HF2 j)⟩⟩, rfl⟩)
   have HQ1 := Lib.hid (hq.out.ext kk2)
   have K3 := Lib.hid (kV.trans k13)
   have HE3 := Lib.hid (HEV.out.ext k13)
   clear h4 hq h42 kk1 kk2 k13 x0 x1 x2 x3 HLI hmk kV
   go_wp2_with fail
   refine (evAdd_lvl (some ⟨gB, 0, none⟩) 2 2 1 Aj (fun _ => 1) cj Bs (fun _ _ => 8) cs (fun _ j i => lif 0 (fixQ j)) (some ⟨gB2, 0, none⟩) 3 3 2 Aj2 (fun _ => 2) cj2 Bs2 (fun _ _ => 8) cs2 (fun _ j i => lif 0 (fixQ j)) _ HE3 (by omega) (by omega) (Lib.hid (HT.out.ext K3.out)) (Lib.hid par_fixE) HQ1 (by omega) (by omega) HA1 hq2 (by omega) (by omega) HA2 (by omega)).mono ?_
   rintro e5 w5 ⟨rfl, k5⟩
   have k5a : Ext V3 (w5.alloc (.cells #[.slice none 0 0] 28)) := k5.alloc _
   replace y4 := cell_ext k5a y4
   replace y5 := cell_ext k5a y5
   go_wp2_with fail
   refine (evMul_three (some ⟨gB2, 0, none⟩) 3 3 2 Aj2 (fun _ => 2) cj2 Bs2 (fun _ _ => 8) cs2 (fun _ j i => lif 0 (fixQ j)) (some ⟨gB, 0, none⟩) 2 2 1 Aj (fun _ => 1) cj Bs (fun _ _ => 8) cs (fun _ j i => lif 0 (fixQ j)) _ (Lib.hid (HE3.out.ext k5a)) (by omega) (by omega) (Lib.hid (HT.out.ext (K3.out.trans k5a))) (Lib.hid par_fixE) (Lib.hid (hq2.out.ext k5a)) (by omega) (by omega) HA2 (Lib.hid (HQ1.out.ext k5a)) (by omega) (by omega) HA1 rfl).mono ?_
   rintro e6 w6 ⟨rfl, k6⟩
   have K := Lib.hid ((K3.out.trans (k5a.trans k6)).alloc (.cells #[.slice none 0 0] 28))
   clear k5 k5a k6 y4 y5
   go_wp2
   go_ret
   exact ⟨by first | rfl | simp, K.out⟩
end Go.Proofs.YtjikdbcjabopnaaGreatDoor
