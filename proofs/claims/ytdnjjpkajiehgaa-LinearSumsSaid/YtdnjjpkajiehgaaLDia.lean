/-
  The diagonals of rows: the program's answer.
-/
import Derived.Test.YtdnjjpkajiehgaaLDgI
import Derived.StillTailTactics
import Derived.BigRegion
namespace Go.Proofs.Ytdnjjpkajiehgaa
open Go.RowKit
set_option linter.unusedVariables false
set_option maxRecDepth 100000

/-- What Diagonals answers, in memory. -/
def DgPost (w : World) (r : Except Nat (List (List Int))) (e : Ending) (w' : World) : Prop :=
  (∃ (ds : List (List Int)) (A : Option Addr) (c : Nat), r = .ok ds ∧ e = .returned (.tuple #[.slice A ds.length c, .int .i64 0]) ∧ SX w' A c ds ∧ Ext w w') ∨
    (r = .error 3 ∧ e = .returned (.tuple #[.slice none 0 0, .int .i64 3]) ∧ Ext w w')
theorem diagsR_no {rows : List (List Int)} {fr tt : List Int} {m : Int} (h : dgB rows fr tt m = false) : diagsR rows fr tt m = .error 3 := by
  unfold diagsR; rw [h]; rfl
theorem diagsR_yes {rows : List (List Int)} {fr tt : List Int} {m : Int} (h : dgB rows fr tt m = true) : diagsR rows fr tt m = .ok (Dg.diags ⟨m.toNat, rows, fr, tt⟩) := by
  unfold diagsR; rw [if_pos h]
set_option maxHeartbeats 8000000 in
theorem diag_any (Ah A A' : Option Addr) (ch c c' : Nat) (rows : List (List Int)) (fr tt : List Int) (m : Int) (w : World) (hR : Hid (SX w Ah ch rows)) (hF : Hid (ZX w A fr.length c fr)) (hT : Hid (ZX w A' tt.length c' tt)) (l0 : rows.length ≤ 100000) (l1 : fr.length ≤ 100000) (l2 : tt.length ≤ 100000) :
    Calls Try.prog 38 #[.slice Ah rows.length ch, .slice A fr.length c, .slice A' tt.length c', .int .i64 m] w fun e w' => DgPost w (diagsR rows fr tt m) e w' := by
  have hbx : (w.alloc (.cells #[.slice A fr.length c] 38)).cell? ⟨w.heap.size, 0, none⟩ = some (.slice A fr.length c) := by simp
  have kB : Ext w (w.alloc (.cells #[.slice A fr.length c] 38)) := (Ext.refl w).alloc _
  go_enter Try.func38, Try.ntmps38
  by_cases h1 : m < 1
  · have HE := Lib.hid (diagsR_no (show dgB rows fr tt m = false by unfold dgB; rw [decide_eq_false (show ¬ 1 ≤ m by omega)]; rfl))
    go_wp2
    go_ret2
    exact .inr ⟨HE.out, rfl, kB⟩
  by_cases h2 : 4096 < m
  · have HE := Lib.hid (diagsR_no (show dgB rows fr tt m = false by unfold dgB; rw [decide_eq_false (show ¬ m ≤ 4096 by omega), Bool.and_false]; rfl))
    go_wp2
    go_ret2
    exact .inr ⟨HE.out, rfl, kB⟩
  obtain ⟨N, rfl⟩ := Int.eq_ofNat_of_zero_le (show 0 ≤ m by omega)
  have HD := Lib.hid (show dgB rows fr tt (N : Int) = (decide (rows.length = tt.length) && placesB fr N && placesB tt N && longB rows fr.length) by
    unfold dgB
    rw [decide_eq_true (show 1 ≤ (N : Int) by omega), decide_eq_true (show (N : Int) ≤ 4096 by omega), Int.toNat_natCast]; rfl)
  go_wp2_with fail
  have hRV := Lib.hid (hR.out.ext kB)
  have hFV := Lib.hid (hF.out.ext kB)
  have hTV := Lib.hid (hT.out.ext kB)
  have KB := Lib.hid kB
  clear kB
  generalize w.alloc (.cells #[.slice A fr.length c] 38) = V at *
  obtain ⟨bx, hbe⟩ : ∃ bx : Addr, (⟨w.heap.size, 0, none⟩ : Addr) = bx := ⟨_, rfl⟩
  rw [hbe] at hbx ⊢
  clear hbe
  refine (arePlaces_any A fr.length c N fr V hFV l1 (by omega)).mono ?_
  rintro e1 w1 ⟨rfl, k1⟩
  obtain ⟨b, hb⟩ : ∃ b, placesB fr N = b := ⟨_, rfl⟩
  rw [hb]
  have HB := Lib.hid hb
  clear hb
  replace hbx := cell_ext k1 hbx
  cases b
  · have HE := Lib.hid (diagsR_no (show dgB rows fr tt (N : Int) = false by rw [HD.out, HB.out, Bool.and_false]; rfl))
    go_wp2
    go_ret2
    exact .inr ⟨HE.out, rfl, KB.out.trans k1⟩
  go_wp2_with fail
  refine (arePlaces_any A' tt.length c' N tt w1 (Lib.hid (hTV.out.ext k1)) l2 (by omega)).mono ?_
  rintro e1 w2 ⟨rfl, k2⟩
  obtain ⟨b, hb⟩ : ∃ b, placesB tt N = b := ⟨_, rfl⟩
  rw [hb]
  have HB2 := Lib.hid hb
  clear hb
  replace hbx := cell_ext k2 hbx
  have KB2 := Lib.hid (KB.out.trans (k1.trans k2))
  have hR2 := Lib.hid (hRV.out.ext (k1.trans k2))
  have hF2 := Lib.hid (hFV.out.ext (k1.trans k2))
  have hT2 := Lib.hid (hTV.out.ext (k1.trans k2))
  clear k1 k2 hRV hFV hTV
  cases b
  · have HE := Lib.hid (diagsR_no (show dgB rows fr tt (N : Int) = false by rw [HD.out, HB2.out, Bool.and_false]; rfl))
    go_wp2
    go_ret2
    exact .inr ⟨HE.out, rfl, KB2.out⟩
  by_cases h3 : rows.length = tt.length
  rotate_left
  · have i0 : ¬ (rows.length : Int) = (tt.length : Int) := by omega
    have HE := Lib.hid (diagsR_no (show dgB rows fr tt (N : Int) = false by rw [HD.out, decide_eq_false h3]; rfl))
    go_wp2
    go_ret2
    exact .inr ⟨HE.out, rfl, KB2.out⟩
  have i0 : (rows.length : Int) = (tt.length : Int) := by omega
  have H3 := Lib.hid h3
  clear h3
  go_wp2_with fail
  refine (containsRows_any bx A Ah fr.length c ch rows w2 hR2 hbx l0).mono ?_
  rintro e1 w3 ⟨rfl, rfl⟩
  have HDD := Lib.hid (show dgB rows fr tt (N : Int) = longB rows fr.length by rw [HD.out, HB.out, HB2.out, decide_eq_true H3.out]; rfl)
  obtain ⟨b, hb⟩ : ∃ b, longB rows fr.length = b := ⟨_, rfl⟩
  rw [hb]
  have HB3 := Lib.hid hb
  clear hb
  cases b
  · have HE := Lib.hid (diagsR_no (show dgB rows fr tt (N : Int) = false by rw [HDD.out, HB3.out]))
    go_wp2
    go_ret2
    exact .inr ⟨HE.out, rfl, KB2.out⟩
  have hdg : dgB rows fr tt (N : Int) = true := by rw [HDD.out, HB3.out]
  have HE := Lib.hid (diagsR_yes hdg)
  have ok := Lib.hid (dgB_ok hdg)
  clear hdg
  have hmk := make_rowsL N (by omega) w3
  have kM : Ext w3 (w3.alloc (.cells ((List.range N).map fun _ => Value.slice none 0 0).toArray 38)) := (Ext.refl w3).alloc _
  have hI : DGm (w3.alloc (.cells ((List.range N).map fun _ => Value.slice none 0 0).toArray 38)) w3.heap.size N (fun _ => none) (fun _ _ => 0) := ⟨RL.new w3 38 N _, fun d g _ h => (by cases h), fun d d' g _ _ h => (by cases h)⟩
  clear i0
  go_wp2_with fail
  clear hmk
  have KM := Lib.hid kM
  clear kM
  generalize w3.alloc (.cells ((List.range N).map fun _ => Value.slice none 0 0).toArray 38) = V3 at *
  obtain ⟨gd, hg⟩ : ∃ gd, w3.heap.size = gd := ⟨_, rfl⟩
  rw [hg] at hI ⊢
  have HGD := Lib.hid (show w3.heap.size ≤ gd by omega)
  have HI := Lib.hid hI
  have HBX := Lib.hid hbx
  clear hg hI hbx
  go_loopw [50] (fun i wr => ∃ (o : Nat) (mk : Nat → Option Nat) (F : Nat → Nat → Int), o ≤ rows.length ∧ i = .int .i64 (o : Int) ∧ Hid (DGm wr gd N mk F) ∧ Hid (DgInv ⟨N, rows, fr, tt⟩ o 0 mk F) ∧ Hid (Ext w3 wr)) (fun i _ => rows.length - (intOf i).toNat)
  case atStart => exact ⟨0, _, _, by omega, rfl, HI, Lib.hid (DgInv.start _), KM⟩
  case round =>
    obtain ⟨o, mk, F, ho, rfl, hM, hI, hE⟩ := hrel
    by_cases hlo : o < rows.length
    · obtain ⟨s, hs⟩ : ∃ s, rows[o]? = some s := ⟨_, List.getElem?_eq_getElem hlo⟩
      have hsl := ok.out.len s (List.mem_of_getElem? hs)
      replace hsl : s.length = fr.length := hsl
      obtain ⟨ar, rfl, hrc⟩ := hR2.out.cells (by omega)
      obtain ⟨B, d, rc0, hzs⟩ := hrc o s hs
      rw [hsl] at rc0 hzs
      replace rc0 := cell_ext hE.out rc0
      have HZS := Lib.hid hzs
      have HS := Lib.hid hs
      have r0 : (0 : Int) ≤ (o : Int) := by omega
      have r1 : (o : Int) < (rows.length : Int) := by omega
      have HSL := Lib.hid hsl
      clear hrc hzs hs hsl
      go_wp2_with fail
      go_loopw [57] (fun i wz => ∃ (k : Nat) (mk : Nat → Option Nat) (F : Nat → Nat → Int), k ≤ fr.length ∧ i = .int .i64 (k : Int) ∧ Hid (DGm wz gd N mk F) ∧ Hid (DgInv ⟨N, rows, fr, tt⟩ o k mk F) ∧ Hid (Ext w3 wz) ) (fun i _ => fr.length - (intOf i).toNat)
      case atStart => exact ⟨0, _, _, by omega, rfl, hM, hI, hE⟩
      case round =>
        clear hM hI hE rc0 mk F
        obtain ⟨k, mk, F, hk, rfl, hM, hI, hE⟩ := hrel
        by_cases hlk : k < fr.length
        · obtain ⟨az, z, rfl, hz, cz⟩ := (HZS.out.ext hE.out).at_ hlk
          have HWt := Lib.hid (wt_at (D := ⟨N, rows, fr, tt⟩) HS.out hz)
          clear hz
          by_cases hz0 : z = 0
          · subst hz0
            have HI2 := Lib.hid (hI.out.skip HWt.out)
            go_wp2
            go_roundw
            case rel => exact ⟨k + 1, mk, F, by omega, by go_num, hM, HI2, hE⟩
            case measure => simp [intOf]; omega
          · obtain ⟨af, f, rfl, hf, cf3⟩ := hF2.out.at_ hlk
            have hlt : o < tt.length := by have := H3.out; omega
            obtain ⟨at_, t, rfl, ht, ct3⟩ := hT2.out.at_ hlt
            have cf := cell_ext hE.out cf3
            have ct := cell_ext hE.out ct3
            have CT3 := Lib.hid ct3
            clear cf3 ct3
            obtain ⟨f0, f1⟩ := ok.out.fr.1 k f hf
            obtain ⟨t0, t1⟩ := ok.out.tt.1 o t ht
            replace f1 : f < (N : Int) := f1
            replace t1 : t < (N : Int) := t1
            obtain ⟨s0, rfl⟩ := Int.eq_ofNat_of_zero_le t0
            obtain ⟨d0, hd0⟩ : ∃ d0 : Nat, (f - (s0 : Int) + (N : Int)) % (N : Int) = (d0 : Int) := ⟨((f - (s0 : Int) + (N : Int)) % (N : Int)).toNat, by have := Int.emod_nonneg (f - (s0 : Int) + (N : Int)) (show (N : Int) ≠ 0 by omega); omega⟩
            have hd0l : d0 < N := by have := Int.emod_lt_of_pos (f - (s0 : Int) + (N : Int)) (show (0 : Int) < (N : Int) by omega); omega
            have hs0l : s0 < N := by omega
            have HHit := Lib.hid (show Dg.hit ⟨N, rows, fr, tt⟩ d0 s0 o k from (hit_iff (D := ⟨N, rows, fr, tt⟩) (show 0 < N by omega) hd0l hs0l ht hf t0 t1 f0 f1).2 ⟨hd0.symm, rfl⟩)
            have htm : (f - (s0 : Int) + (N : Int)).tmod (N : Int) = (d0 : Int) := by rw [Int.tmod_eq_emod_of_nonneg (by omega)]; exact hd0
            have cb := cell_ext hE.out HBX.out
            have q0 : ¬ N = 0 := by omega
            have q1 : ¬ (N : Int) = 0 := by omega
            have j0 : (0 : Int) ≤ (k : Int) := by omega
            have j1 : (k : Int) < (fr.length : Int) := by omega
            have j2 : (o : Int) < (tt.length : Int) := by omega
            have HF := Lib.hid hf
            have HT := Lib.hid ht
            clear hf ht hd0
            go_wp2_with fail
            go_quiet (fail)
            have kq : Ext wr (wr.drewN nq) := (Ext.refl wr).drewN nq
            have HM4 := Lib.hid (hM.out.ext kq)
            have HE4 := Lib.hid (hE.out.trans kq)
            clear kq hM hE cf ct cz cb
            generalize wr.drewN nq = w4 at *
            have s0a : (0 : Int) ≤ (s0 : Int) := by omega
            have s0b : (s0 : Int) < (N : Int) := by omega
            have d0a : (0 : Int) ≤ (d0 : Int) := by omega
            have d0b : (d0 : Int) < (N : Int) := by omega
            have co := RL.cell HM4.out.out hd0l
            have fo := RL.frozen HM4.out.out d0
            clear htm f0 f1 t0 t1
            cases hmk0 : mk d0 with
            | none =>
              rw [hmk0, dgV] at co
              have hmk2 := make_intL N (by omega) w4
              have ka : Ext w4 (w4.alloc (.cells ((List.range N).map fun _ => Value.int .i64 0).toArray 3)) := (Ext.refl w4).alloc _
              have co2 := cell_ext ka co
              have fo2 := RL.frozen (HM4.out.out.ext ka) d0
              have HM5 := Lib.hid (HM4.out.make hd0l hmk0 (hI.out.no d0 hd0l hmk0))
              have HE5 := Lib.hid ((HE4.out.trans ka).set (p := ⟨gd, d0, none⟩) HGD.out (.slice (some ⟨w4.heap.size, 0, none⟩) N N))
              clear fo ka
              go_wp2_with fail
              clear hmk2 co co2 fo2
              generalize (w4.alloc (.cells ((List.range N).map fun _ => Value.int .i64 0).toArray 3)).setCell ⟨gd, d0, none⟩ (.slice (some ⟨w4.heap.size, 0, none⟩) N N) = w5 at *
              obtain ⟨G, hG⟩ : ∃ G, w4.heap.size = G := ⟨_, rfl⟩
              rw [hG] at HM5 ⊢
              obtain ⟨MK, hMK⟩ : ∃ MK : Nat → Option Nat, (fun d => if d = d0 then some G else mk d) = MK := ⟨_, rfl⟩
              rw [hMK] at HM5
              have hmk : MK d0 = some G := by rw [← hMK]; simp
              have HMK0 : ∀ d, d ≠ d0 → MK d = mk d := fun d hd => by rw [← hMK]; simp [hd]
              have HMKH := Lib.hid HMK0
              clear hMK hG
              have cl5 := RL.cell HM5.out.out hd0l
              rw [hmk, dgV] at cl5
              have ct5 := cell_ext HE5.out CT3.out
              have HMK := Lib.hid hmk
              clear HMK0 hmk HM4 HE4
              go_still_tail 10, (by kernel_rfl)
              change wpList _ _ _ _ _ w5.drew
              have kd : Ext w5 w5.drew := (Ext.refl w5).drew
              have HM6 := Lib.hid (HM5.out.ext kd)
              have HE6 := Lib.hid (HE5.out.trans kd)
              replace cl5 := cell_ext kd cl5
              replace ct5 := cell_ext kd ct5
              clear HM5 HE5 kd
              generalize w5.drew = w6 at *
              obtain ⟨hgg, hIL⟩ := HM6.out.inn d0 G hd0l HMK.out
              have cs6 := RL.cell (show RL w6 G 3 N _ from hIL) hs0l
              have fs6 := RL.frozen (show RL w6 G 3 N _ from hIL) s0
              have HIL := Lib.hid hIL
              clear hIL
              go_wp2_with fail
              go_roundw
              case rel =>
                refine ⟨k + 1, MK, fun d s => if d = d0 ∧ s = s0 then z else F d s, by omega, by go_num, Lib.hid (HM6.out.store hd0l hs0l HMK.out z), Lib.hid ?_, Lib.hid (HE6.out.set (p := ⟨G, s0, none⟩) (by show w3.heap.size ≤ G; have := HGD.out; omega) _)⟩
                have := hI.out.lay (mk' := MK) ok.out hd0l hs0l HHit.out (by rw [HWt.out]; exact hz0) HMKH.out (by rw [HMK.out]; simp)
                rw [HWt.out] at this
                exact this
              case measure => simp [intOf]; omega
            | some G =>
              rw [hmk0, dgV] at co
              have HM5 := Lib.hid HM4.out
              have HE5 := Lib.hid HE4.out
              have ct5 := cell_ext HE5.out CT3.out
              have cl5 := co
              have HMK := Lib.hid hmk0
              clear fo co hmk0 HM4 HE4
              go_wp2_with fail
              go_still_tail 10, (by kernel_rfl)
              change wpList _ _ _ _ _ w4.drew
              have kd : Ext w4 w4.drew := (Ext.refl w4).drew
              have HM6 := Lib.hid (HM5.out.ext kd)
              have HE6 := Lib.hid (HE5.out.trans kd)
              replace cl5 := cell_ext kd cl5
              replace ct5 := cell_ext kd ct5
              clear HM5 HE5 kd
              generalize w4.drew = w6 at *
              obtain ⟨hgg, hIL⟩ := HM6.out.inn d0 G hd0l HMK.out
              have cs6 := RL.cell (show RL w6 G 3 N _ from hIL) hs0l
              have fs6 := RL.frozen (show RL w6 G 3 N _ from hIL) s0
              have HIL := Lib.hid hIL
              clear hIL
              go_wp2_with fail
              go_roundw
              case rel =>
                refine ⟨k + 1, mk, fun d s => if d = d0 ∧ s = s0 then z else F d s, by omega, by go_num, Lib.hid (HM6.out.store hd0l hs0l HMK.out z), Lib.hid ?_, Lib.hid (HE6.out.set (p := ⟨G, s0, none⟩) (by show w3.heap.size ≤ G; have := HGD.out; omega) _)⟩
                have := hI.out.lay (mk' := mk) ok.out hd0l hs0l HHit.out (by rw [HWt.out]; exact hz0) (fun _ _ => rfl) (by rw [HMK.out]; simp)
                rw [HWt.out] at this
                exact this
              case measure => simp [intOf]; omega
        · have hkf : k = fr.length := by omega
          have HI2 := Lib.hid (DgInv.row (D := ⟨N, rows, fr, tt⟩) (show DgInv ⟨N, rows, fr, tt⟩ o fr.length mk F by rw [← hkf]; exact hI.out))
          go_wp2
          go_roundw
          case rel => exact ⟨o + 1, mk, F, by omega, by go_num, hM, HI2, hE⟩
          case measure => simp [intOf]; omega
    · have hko : o = tt.length := by have := H3.out; omega
      have HSX := Lib.hid (DGm.sx (D := ⟨N, rows, fr, tt⟩) hM.out (by show DgInv _ tt.length 0 mk F; rw [← hko]; exact hI.out))
      have HEE := Lib.hid (KB2.out.trans hE.out)
      go_wp2
      go_ret2
      refine .inl ⟨_, some ⟨gd, 0, none⟩, N, HE.out, ?_, ?_, HEE.out⟩
      · rw [show (Dg.diags ⟨(N : Int).toNat, rows, fr, tt⟩).length = N by unfold Dg.diags; simp]; rfl
      · exact HSX.out
end Go.Proofs.Ytdnjjpkajiehgaa
