/-
  What the document's Add answers.
-/
import Derived.Test.YtoimbommiheccaaDoorZ30
import Derived.Test.YtoimbommiheccaaDoorZ37
namespace Go.Proofs.YtoimbommiheccaaDoor
open Go.RowKit
set_option linter.unusedVariables false
set_option maxRecDepth 100000

set_option maxHeartbeats 8000000 in
theorem refAdd_any (B : Option Addr) (M bc : Nat) (q : Nat → Nat) (A : Option Addr) (L c n : Nat) (As : Nat → Option Addr) (cs : Nat → Nat) (f : Nat → Nat → Nat) (A' : Option Addr) (c' : Nat) (As' : Nat → Option Addr) (cs' : Nat → Nat) (f' : Nat → Nat → Nat) (w : World) (hQ : FX w B M bc q) (hM : M ≤ 1000) (hq : Hid (∀ j, j < M → 0 < q j ∧ q j < 18446744073709551616)) (hX : PX w A L c As (fun _ => n) cs f) (hX' : PX w A' L c' As' (fun _ => n) cs' f') (hL : L ≤ M) (hL30 : L ≤ 30) (hn : n ≤ 100) (hf : Hid (∀ j, j < L → ∀ i, i < n → f j i < q j)) (hf' : Hid (∀ j, j < L → ∀ i, i < n → f' j i < q j)) :
    Calls Tryd.prog 8 #[.slice B M bc, .agg #[.slice A L c], .agg #[.slice A' L c']] w fun ee w' => ∃ A2 c2 As2 cs2, ee = .returned (.agg #[.slice A2 L c2]) ∧ PX w' A2 L c2 As2 (fun _ => n) cs2 (fun j i => (f j i + f' j i) % q j) ∧ Ext w w' := by
  have HX := Lib.hid hX
  have HX' := Lib.hid hX'
  have HQ := Lib.hid hQ
  clear hX hX' hQ
  obtain ⟨i0, hi, hz0, hz1, hz2⟩ := info_parts info_u64
  obtain ⟨j0, hj, hy0, hy1, hy2⟩ := info_parts info_uss
  have h1 : (((w.alloc (.cells #[.slice A L c] 37)).alloc (.cells #[.slice A' L c'] 37)).alloc (.cells #[.slice none 0 0] 37)).heap.size = w.heap.size + 1 + 1 + 1 := by simp
  have h2 : ((w.alloc (.cells #[.slice A L c] 37)).alloc (.cells #[.slice A' L c'] 37)).heap.size = w.heap.size + 1 + 1 := by simp
  have h3 : (w.alloc (.cells #[.slice A L c] 37)).heap.size = w.heap.size + 1 := by simp
  obtain ⟨V, hV⟩ : ∃ V, V = ((((w.alloc (.cells #[.slice A L c] 37)).alloc (.cells #[.slice A' L c'] 37)).alloc (.cells #[.slice none 0 0] 37)).alloc (.cells #[.slice none 0 0] 37)) := ⟨_, rfl⟩
  have kA : Ext w V := by rw [hV]; exact ((((Ext.refl w).alloc _).alloc _).alloc _).alloc _
  have hr2 : RW V (w.heap.size + 1 + 1) 37 1 (fun _ => .slice none 0 0) := by rw [hV, ← h2]; exact RW.ext (heap_alloc_new _ _) ((Ext.refl _).alloc _)
  have hr3 : RW V (w.heap.size + 1 + 1 + 1) 37 1 (fun _ => .slice none 0 0) := by rw [hV, ← h1]; exact heap_alloc_new _ _
  have x1 : V.cell? ⟨w.heap.size, 0, none⟩ = some (.slice A L c) := by rw [hV]; exact cell_ext ((((Ext.refl _).alloc _).alloc _).alloc _) (one_at w _ _)
  have hsV : V.heap.size = w.heap.size + 1 + 1 + 1 + 1 := by rw [hV]; simp
  have hr1 : RW V w.heap.size 37 1 (fun _ => .slice A L c) := by rw [hV]; exact RW.ext (heap_alloc_new w _) ((((Ext.refl _).alloc _).alloc _).alloc _)
  have hr1b : RW V (w.heap.size + 1) 37 1 (fun _ => .slice A' L c') := by rw [hV, ← h3]; exact RW.ext (heap_alloc_new _ _) (((Ext.refl _).alloc _).alloc _)
  go_enter Tryd.func8, Tryd.ntmps8
  rw [hV] at x1
  go_wp2
  rw [← hV] at x1 ⊢
  clear hV h1 h2 h3
  obtain ⟨y, hyd⟩ : ∃ y, y = w.heap.size + 1 + 1 + 1 := ⟨_, rfl⟩
  obtain ⟨x, hxd⟩ : ∃ x, x = w.heap.size + 1 + 1 := ⟨_, rfl⟩
  rw [← hyd] at hr3 hsV ⊢
  rw [← hxd] at hr2 ⊢
  have hwy : w.heap.size ≤ y := by omega
  have hwyn : w.heap.size < y := by omega
  have hwx : w.heap.size ≤ x := by omega
  have hxy : x ≠ y := by omega
  have hwb : w.heap.size + 1 < y := by omega
  clear hyd hxd
  go_loopw [14] (fun i wr => ∃ (k : Nat) (s : Value), k ≤ L ∧ i = .int .i64 (k : Int) ∧ MkN wr (y + 1) s k (fun _ => n) (fun j i => (f j i + f' j i) % q j) ∧ RW wr y 37 1 (fun _ => s) ∧ RW wr x 37 1 (fun _ => .slice none 0 0) ∧ RW wr w.heap.size 37 1 (fun _ => .slice A L c) ∧ RW wr (w.heap.size + 1) 37 1 (fun _ => .slice A' L c') ∧ Ext w wr ∧ y + 1 ≤ wr.heap.size) (fun i _ => L - (intOf i).toNat)
  case atStart => exact ⟨0, _, by omega, rfl, MkN.nil _ _ _ _, hr3, hr2, hr1, hr1b, kA, by omega⟩
  case round =>
    obtain ⟨k, s, hk, rfl, hmk, h7, h6, h1, h1b, kr, hsz⟩ := hrel
    clear hr2 hr3 hr1 hr1b hsV kA x1
    by_cases hlt : k < L
    · obtain ⟨ad, rfl, hc⟩ := (HX.out.ext kr).cells (by omega)
      obtain ⟨adb, rfl, hcb⟩ := (HX'.out.ext kr).cells (by omega)
      have hcell := hc k hlt
      have hcellb := hcb k hlt
      have HXk := Lib.hid ((HX.out.ext kr).rows k hlt)
      have HXkb := Lib.hid ((HX'.out.ext kr).rows k hlt)
      have HFkb := Lib.hid (hf'.out k hlt)
      obtain ⟨hq0, hq1⟩ := hq.out k (by omega)
      have HFk := Lib.hid (hf.out k hlt)
      clear hc hcb
      have HMK := Lib.hid hmk
      have x1r := h1.cell (i := 0) (by omega)
      have x1b := h1b.cell (i := 0) (by omega)
      clear hmk
      obtain ⟨wo, rfl⟩ : ∃ x, x = wr := ⟨_, rfl⟩
      have i1 : (0 : Int) ≤ (k : Int) := by omega
      have i2 : (k : Int) < (L : Int) := by omega
      have i3 : (k : Int) < (M : Int) := by omega
      go_wp2
      go_loopw [9, 23] (fun s2 i wz => ∃ (m : Nat) (A0 : Option Addr) (c0 : Nat), m ≤ n ∧ i = .int .i64 (m : Int) ∧ s2 = .slice A0 m c0 ∧ LR wo.heap.size wo wz (.slice A0 m c0) m (fun i => (f k i + f' k i) % q k)) (fun _ i _ => n - (intOf i).toNat)
      case atStart => exact ⟨0, none, 0, by omega, rfl, rfl, LR.nil _ _⟩
      case round =>
        obtain ⟨m, A0, c0', hm, rfl, rfl, hlr⟩ := hrel
        have kz : Ext wo wr := hlr.2
        have hzs := hlr.2.size
        by_cases hlt2 : m < n
        · obtain ⟨ad3, e3, hc3⟩ := HXk.out.cells (by omega)
          obtain ⟨ad4, e4, hc4⟩ := HXkb.out.cells (by omega)
          obtain ⟨ad2, rfl, hc2⟩ := (HQ.out.ext kr).cells (by omega)
          have b32 := hc3 m hlt2
          have b42 := hc4 m hlt2
          have b49 := hcellb
          rw [e4] at b49
          have c42 := cell_ext kz b42
          have c49 := cell_ext kz b49
          have c46 := cell_ext kz x1b
          have hflb := HFkb.out m hlt2
          have b36 := hc2 k (by omega)
          have b29 := hcell
          rw [e3] at b29
          have c32 := cell_ext kz b32
          have c36 := cell_ext kz b36
          have c29 := cell_ext kz b29
          have c26 := cell_ext kz x1r
          have hfl := HFk.out m hlt2
          clear hc2
          clear hc3 e3 hc4 e4
          have HLR := Lib.hid hlr
          obtain ⟨yv, hyv⟩ : ∃ yv, yv = (f k m + f' k m) % q k := ⟨_, rfl⟩
          have HYV := Lib.hid hyv
          clear hlr hyv
          have i4 : (0 : Int) ≤ (m : Int) := by omega
          have i5 : (m : Int) < (n : Int) := by omega
          go_wp2_with fail
          go_region_held3 (fun w' => w'.cell? ⟨w.heap.size, 0, none⟩ = some (.slice (some ad) L c) ∧ w'.cell? (ad.add k) = some (.slice (some ad3) n (cs k)) ∧ w'.cell? (ad3.add m) = some (.int .u64 (f k m : Int)) ∧ w'.cell? (ad2.add k) = some (.int .u64 (q k : Int)) ∧ w'.cell? ⟨w.heap.size + 1, 0, none⟩ = some (.slice (some adb) L c') ∧ w'.cell? (adb.add k) = some (.slice (some ad4) n (cs' k)) ∧ w'.cell? (ad4.add m) = some (.int .u64 (f' k m : Int))) (go_keep)
            (first
              | (refine step_append_own rfl (.tmp 26) (.tmp 48) 23 rfl wo.heap.size 22 i0 (.int .u64 0) 1 8 Tryd.underlying23 hi hz0 hz1 hz2 rfl (by decide) (.slice A0 m c0') m _ (by simp [Act.eval]) ((HLR.out.ext k5' (by omega)).alloc _) ⟨w5.heap.size, 0, none⟩ 1 1 [.int .u64 (yv : Int)] (by simp [Act.eval]) rfl one_cell one_int (by unfold maxLen; omega) (by omega) (by have := k5'.size; simp; omega) ?_; intro v6 w6 hown6 hgrow6; obtain ⟨A6, c6, rfl⟩ := own_slice hown6; have hl6 := (HLR.out.ext k5' (by omega)).push (by have := k5'.size; omega) HYV.out hown6 hgrow6; have k6 : Ext wo w6 := hl6.2; have f0 := cell_ext k6 x1r; have f1 := cell_ext k6 b29; have f2 := cell_ext k6 b32; have f3 := cell_ext k6 b36; have f4 := cell_ext k6 x1b; have f5 := cell_ext k6 b49; have f6 := cell_ext k6 b42)
              | (go_at_call 16; refine (raddG (f k m) (f' k m) (q k) _ HYV hq0 (by omega) (by omega) hq1).mono ?_; rintro e2 w5 ⟨rfl, k5⟩; have k5' := (Ext.refl _).drew.trans k5; have d0 := cell_ext k5' c26; have d1 := cell_ext k5' c29; have d2 := cell_ext k5' c32; have d3 := cell_ext k5' c36; have d4 := cell_ext k5' c46; have d5 := cell_ext k5' c49; have d6 := cell_ext k5' c42)
              | fail)
          go_wp2
          exact ⟨⟨m + 1, A6, c6, by omega, by go_num, rfl, hl6⟩, by simp [intOf]; omega⟩
        · obtain rfl : m = n := by omega
          obtain ⟨A3, c3, e33, htx⟩ := hlr.tx (fun i _ => Nat.lt_trans (Nat.mod_lt _ hq0) hq1)
          injection e33 with e331 _ e332
          subst e331 e332
          have hmk2 := HMK.out.ext kz
          have g7 := h7.ext kz
          have g6 := h6.ext kz
          have g1 := h1.ext kz
          have g1b := h1b.ext kz
          obtain ⟨Bs, ds, hsr, hls⟩ := hmk2.ex
          have c0 := g7.cell (i := 0) (by omega)
          have HTX := Lib.hid htx
          have HSR := Lib.hid hsr
          have HLS := Lib.hid hls
          clear htx hls hmk2 hlr hsr
          go_wp2_with (at_builtin; go_loud (refine wpList_append_own _ rfl _ _ 35 rfl (y + 1) 23 j0 (.slice none 0 0) 1 24 Tryd.underlying35 hj hy0 hy1 hy2 rfl (by decide) _ _ _ rfl (SR.ext HSR.out ((Ext.refl wr).alloc _)) ⟨_, 0, none⟩ 1 1 [.slice A0 m c0'] rfl rfl one_cell one_slice (by unfold maxLen; omega) (by omega) (by simp; omega) ?_; intro v3 w3 hown3 hgrow3 _; obtain ⟨A4, c4, rfl⟩ := own_slice hown3; obtain ⟨p7, p6, pm, pk⟩ := mk_store (ns := fun _ => m) (F := fun j i => (f j i + f' j i) % q j) HSR.out HLS.out HTX.out g7 g6 (kr.trans kz) hwy hown3 hgrow3; have p1 := RW.grown (g1.ext ((Ext.refl wr).alloc _)) (HSR.out.ext ((Ext.refl wr).alloc _)) (by decide) hgrow3; have p1b := RW.grown (g1b.ext ((Ext.refl wr).alloc _)) (HSR.out.ext ((Ext.refl wr).alloc _)) (by decide) hgrow3; have c3a := p7.cell (i := 0) (by omega); have z3a := p7.frozen 0; have s3a := p7.lt))
          obtain ⟨qm, q7, q6, qk⟩ := mk_stored hxy p7 p6 pm pk hwy
          have q1 := RW.keep p1 (Below.heap_setCell w3 ⟨y, 0, none⟩ (.slice A4 (k + 1) c4) w.heap.size (fun e' => by simp at e'; omega))
          have q1b := RW.keep p1b (Below.heap_setCell w3 ⟨y, 0, none⟩ (.slice A4 (k + 1) c4) (w.heap.size + 1) (fun e' => by simp at e'; omega))
          have qs : y + 1 ≤ (w3.setCell ⟨y, 0, none⟩ (.slice A4 (k + 1) c4)).heap.size := by
            have h1 : wr.heap.size + 1 ≤ w3.heap.size := by have := hgrow3.size; simpa using this
            have h2 : (w3.setCell ⟨y, 0, none⟩ (.slice A4 (k + 1) c4)).heap.size = w3.heap.size := by simp [World.setCell]
            omega
          exact ⟨⟨k + 1, _, by omega, by go_num, qm, q7, q6, q1, q1b, qk, qs⟩, by simp [intOf]; omega⟩
    · obtain rfl : k = L := by omega
      obtain ⟨A2, c2, As2, cs2, rfl, hpx⟩ := hmk.px
      have c0 := h7.cell (i := 0) (by omega)
      have d0 := h6.cell (i := 0) (by omega)
      have z0 := h6.frozen 0
      have s0 := h6.lt
      have HPX := Lib.hid (hmk.set (o := 0) (u := .slice A2 k c2) h6)
      have HK := Lib.hid (kr.set (p := ⟨x, 0, none⟩) hwx (.slice A2 k c2))
      have HD := Lib.hid (ret_cell h6 (.slice A2 k c2))
      clear hpx hmk
      go_wp2
      have d1 := HD.out
      obtain ⟨A5, c5, As5, cs5, e5, hpx5⟩ := HPX.out.px
      injection e5 with e51 _ e52
      subst e51 e52
      have hk5 := HK.out
      generalize wr.setCell ⟨x, 0, none⟩ (.slice A2 k c2) = w5 at *
      exact bodyPost_ret (v := .agg #[.slice A2 k c2]) (by simp [results, Tryd.results8, go_sem, d1]) rfl ⟨A2, c2, As5, cs5, rfl, hpx5, hk5⟩
end Go.Proofs.YtoimbommiheccaaDoor
