/-
  The diagonals of rows: the document's answer.
-/
import Derived.Test.YtdnjjpkajiehgaaLDia
import Derived.Test.YtdnjjpkajiehgaaLGro
namespace Go.Proofs.Ytdnjjpkajiehgaa
open Go.RowKit
set_option linter.unusedVariables false
set_option maxRecDepth 100000

/-- What holds of one diagonal when the entries ahead of o, i are laid. -/
structure RInv (D : Dg) (d o i : Nat) (b : Bool) (F : Nat → Int) : Prop where
  val : ∀ s, s < D.n → F s = D.allS d s o + D.rowS d s o i
  no : b = false → ∀ s, s < D.n → F s = 0
  yes : b = true → ∃ s, s < D.n ∧ F s ≠ 0
theorem RInv.start (D : Dg) (d : Nat) : RInv D d 0 0 false (fun _ => 0) := ⟨fun _ _ => rfl, fun _ _ _ => rfl, fun h => by cases h⟩
theorem RInv.skip {D : Dg} {d o i : Nat} {b : Bool} {F : Nat → Int} (h : RInv D d o i b F) (hn : ∀ s, s < D.n → ¬ D.hit d s o i) : RInv D d o (i + 1) b F :=
  ⟨fun s hs => by rw [h.val s hs, next_off (hn s hs)], h.no, h.yes⟩
theorem RInv.row {D : Dg} {d o : Nat} {b : Bool} {F : Nat → Int} (h : RInv D d o D.fr.length b F) : RInv D d (o + 1) 0 b F :=
  ⟨fun s hs => by rw [h.val s hs, Dg.allS, Dg.rowS]; omega, h.no, h.yes⟩
theorem RInv.lay {D : Dg} (ok : D.Ok) {d o i s0 : Nat} {b : Bool} {F : Nat → Int} (h : RInv D d o i b F) (hs0 : s0 < D.n) (hh : D.hit d s0 o i) (hd : d < D.n) :
    RInv D d o (i + 1) (b || decide (D.wt o i ≠ 0)) (fun s => if s = s0 then D.wt o i else F s) := by
  have hun : ∀ s, s < D.n → D.hit d s o i → s = s0 := fun s hs hx => by
    have e1 := hx.1
    rw [hh.1] at e1
    injection e1 with e1
    omega
  have h0 : F s0 = 0 := by rw [h.val s0 hs0, was_zero ok hh]
  refine ⟨fun s hs => ?_, fun hb s hs => ?_, fun hb => ?_⟩
  · by_cases e : s = s0
    · subst e
      rw [if_pos rfl, next_at ok hh]
    · rw [if_neg e, h.val s hs, next_off (fun hx => e (hun s hs hx))]
  · simp only [Bool.or_eq_false_iff, decide_eq_false_iff_not, ne_eq, Classical.not_not] at hb
    by_cases e : s = s0
    · rw [if_pos e, hb.2]
    · rw [if_neg e]; exact h.no hb.1 s hs
  · by_cases hz : D.wt o i = 0
    · rw [hz] at hb ⊢
      simp at hb
      obtain ⟨s, hs, hne⟩ := h.yes hb
      refine ⟨s, hs, ?_⟩
      rw [if_neg (fun e => hne (by rw [e]; exact h0))]
      exact hne
    · exact ⟨s0, hs0, by rw [if_pos rfl]; exact hz⟩
set_option maxHeartbeats 8000000 in
theorem rdiag_any (Ah A A' : Option Addr) (ch c c' : Nat) (rows : List (List Int)) (fr tt : List Int) (m : Int) (w : World) (hR : Hid (SX w Ah ch rows)) (hF : Hid (ZX w A fr.length c fr)) (hT : Hid (ZX w A' tt.length c' tt)) (l0 : rows.length ≤ 100000) (l1 : fr.length ≤ 100000) (l2 : tt.length ≤ 100000) :
    Calls Try.prog 39 #[.slice Ah rows.length ch, .slice A fr.length c, .slice A' tt.length c', .int .i64 m] w fun e w' => DgPost w (diagsR rows fr tt m) e w' := by
  obtain ⟨zI, hi, hz0, hz1, hz2⟩ := info_partsJ info_rowsL
  go_enter Try.func39, Try.ntmps39
  go_wp2_with fail
  refine (checkDg_any Ah A A' ch c c' rows fr tt m w hR hF hT l0 l1 l2).mono ?_
  rintro e1 w1 ⟨rfl, rfl⟩
  obtain ⟨b, hb⟩ : ∃ b, dgB rows fr tt m = b := ⟨_, rfl⟩
  rw [hb]
  have HB := Lib.hid hb
  clear hb
  cases b
  · have HE := Lib.hid (diagsR_no HB.out)
    rw [show ckN false = 3 from rfl]
    go_wp2
    go_ret2
    exact .inr ⟨HE.out, rfl, Ext.refl _⟩
  rw [show ckN true = 0 from rfl]
  have HE := Lib.hid (diagsR_yes HB.out)
  have hm1 : 1 ≤ m ∧ m ≤ 4096 := by
    have h := HB.out
    unfold dgB at h
    simp only [Bool.and_eq_true, decide_eq_true_eq] at h
    exact ⟨h.1.1.1.1.1, h.1.1.1.1.2⟩
  obtain ⟨N, rfl⟩ := Int.eq_ofNat_of_zero_le (show 0 ≤ m by omega)
  have ok := Lib.hid (dgB_ok HB.out)
  obtain ⟨m1, m2⟩ := hm1
  have hrl := Lib.hid (show rows.length = tt.length from ok.out.rows)
  go_wp2_with fail
  go_loopw [11, 12] (fun ov i wr => ∃ (d : Nat) (ds : List (List Int)), d ≤ N ∧ i = .int .i64 (d : Int) ∧ Hid (ds = (List.range d).map (Dg.diag ⟨N, rows, fr, tt⟩)) ∧ Hid (GL w1.heap.size wr ov ds) ∧ Hid (Ext w1 wr)) (fun _ i _ => N - (intOf i).toNat)
  case atStart => exact ⟨0, [], by omega, rfl, Lib.hid rfl, Lib.hid (GL.nil _ _), Lib.hid (Ext.refl _)⟩
  case round =>
    obtain ⟨d, ds, hd, rfl, hds, hG, hE⟩ := hrel
    obtain ⟨w4, rfl⟩ : ∃ w4, w4 = wr := ⟨_, rfl⟩
    by_cases hlt : d < N
    · have hmk := make_intL N (by omega) w4
      have kM : Ext w4 (w4.alloc (.cells ((List.range N).map fun _ => Value.int .i64 0).toArray 3)) := (Ext.refl w4).alloc _
      have hIL : IL (w4.alloc (.cells ((List.range N).map fun _ => Value.int .i64 0).toArray 3)) w4.heap.size N (fun _ => 0) := RL.new w4 3 N _
      go_wp2_with fail
      clear hmk
      have KM := Lib.hid kM
      clear kM
      generalize w4.alloc (.cells ((List.range N).map fun _ => Value.int .i64 0).toArray 3) = V at *
      obtain ⟨gl, hgl⟩ : ∃ gl, w4.heap.size = gl := ⟨_, rfl⟩
      rw [hgl] at hIL ⊢
      have HGLE := Lib.hid hgl
      have HEV := Lib.hid (hE.out.trans KM.out)
      have HW0 := Lib.hid (show w1.heap.size ≤ gl by have := hE.out.size; omega)
      have HIL := Lib.hid hIL
      clear hgl hIL
      go_loopw [14, 36] (fun bv i wz => ∃ (o : Nat) (b : Bool) (F : Nat → Int), o ≤ tt.length ∧ i = .int .i64 (o : Int) ∧ bv = .bool b ∧ Hid (IL wz gl N F) ∧ Hid (RInv ⟨N, rows, fr, tt⟩ d o 0 b F) ∧ Hid (On gl V wz)) (fun _ i _ => tt.length - (intOf i).toNat)
      case atStart => exact ⟨0, false, _, by omega, rfl, rfl, HIL, Lib.hid (RInv.start _ _), Lib.hid (On.refl _ _)⟩
      case round =>
        clear HIL
        obtain ⟨o, b, F, ho, rfl, rfl, hI, hV, hO⟩ := hrel
        by_cases hlo : o < tt.length
        · obtain ⟨at_, t, rfl, ht, ct3⟩ := hT.out.at_ hlo
          have HT := Lib.hid ht
          have CT := Lib.hid ct3
          obtain ⟨t0, t1⟩ := ok.out.tt.1 o t ht
          replace t1 : t < (N : Int) := t1
          obtain ⟨s0, rfl⟩ := Int.eq_ofNat_of_zero_le t0
          obtain ⟨s, hs⟩ : ∃ s, rows[o]? = some s := ⟨_, List.getElem?_eq_getElem (by have := hrl.out; omega)⟩
          have hsl := ok.out.len s (List.mem_of_getElem? hs)
          replace hsl : s.length = fr.length := hsl
          obtain ⟨ar, rfl, hrc⟩ := hR.out.cells (by have := hrl.out; omega)
          obtain ⟨B, dd, rc0, hzs⟩ := hrc o s hs
          rw [hsl] at rc0 hzs
          have RC := Lib.hid rc0
          have HZS := Lib.hid hzs
          have HS := Lib.hid hs
          have HSL := Lib.hid hsl
          clear hrc hzs hs hsl rc0 ct3 ht t0
          have HEZ := Lib.hid (show Ext w1 wr from below_only HEV.out hO.out HEV.out.size HW0.out)
          have ct := cell_ext HEZ.out CT.out
          have q0 : ¬ N = 0 := by omega
          have q1 : ¬ (N : Int) = 0 := by omega
          have j2 : (o : Int) < (tt.length : Int) := by omega
          have j3 : (0 : Int) ≤ (o : Int) := by omega
          go_wp2_with fail
          obtain ⟨w5, rfl⟩ : ∃ w5, w5 = wr := ⟨_, rfl⟩
          clear ct HEZ
          go_loopw [14, 43] (fun bv i wz => ∃ (k : Nat) (b : Bool) (F : Nat → Int), k ≤ fr.length ∧ i = .int .i64 (k : Int) ∧ bv = .bool b ∧ Hid (IL wz gl N F) ∧ Hid (RInv ⟨N, rows, fr, tt⟩ d o k b F) ∧ Hid (On gl V wz)) (fun _ i _ => fr.length - (intOf i).toNat)
          case atStart => exact ⟨0, b, F, by omega, rfl, rfl, hI, hV, hO⟩
          case round =>
            clear hI hV hO
            obtain ⟨k, b, F, hk, rfl, rfl, hI, hV, hO⟩ := hrel
            have HEZ := Lib.hid (show Ext w1 wr from below_only HEV.out hO.out HEV.out.size HW0.out)
            by_cases hlk : k < fr.length
            · obtain ⟨af, f, rfl, hf, cf3⟩ := hF.out.at_ hlk
              obtain ⟨az, z, rfl, hz, cz3⟩ := HZS.out.at_ hlk
              have HWt := Lib.hid (wt_at (D := ⟨N, rows, fr, tt⟩) HS.out hz)
              have CZ := Lib.hid cz3
              have cf := cell_ext HEZ.out cf3
              obtain ⟨f0, f1⟩ := ok.out.fr.1 k f hf
              replace f1 : f < (N : Int) := f1
              have HF := Lib.hid hf
              clear cf3 cz3 hz hf
              have k1 : (k : Int) < (fr.length : Int) := by omega
              have k0 : (0 : Int) ≤ (k : Int) := by omega
              have htm : ((s0 : Int) + (d : Int)).tmod (N : Int) = ((s0 : Int) + (d : Int)) % (N : Int) := Int.tmod_eq_emod_of_nonneg (by omega)
              have hcast : ((s0 : Int) + (d : Int)) % (N : Int) = (((s0 + d) % N : Nat) : Int) := by rw [Int.natCast_emod]; simp
              have HCA := Lib.hid hcast
              have hs0l : s0 < N := by omega
              clear hcast
              by_cases hfe : ((s0 : Int) + (d : Int)) % (N : Int) = f
              · have HHit := Lib.hid (show Dg.hit ⟨N, rows, fr, tt⟩ d s0 o k from ⟨HT.out, by rw [HF.out, ← hfe, HCA.out]⟩)
                have rc := cell_ext HEZ.out RC.out
                have cz := cell_ext HEZ.out CZ.out
                have s0a : (0 : Int) ≤ (s0 : Int) := by omega
                have s0b : (s0 : Int) < (N : Int) := by omega
                have cl := RL.cell (show RL wr gl 3 N _ from hI.out) hs0l
                have fz := RL.frozen (show RL wr gl 3 N _ from hI.out) s0
                have HI2 := Lib.hid (IL.set hI.out hs0l z)
                have HO2 := Lib.hid (hO.out.set s0 (.int .i64 z))
                have HEZ2 := Lib.hid (show Ext w1 (wr.setCell ⟨gl, s0, none⟩ (.int .i64 z)) from below_only HEV.out HO2.out HEV.out.size HW0.out)
                have rc2 := cell_ext HEZ2.out RC.out
                have cz2 := cell_ext HEZ2.out CZ.out
                have HV2 := hV.out.lay (s0 := s0) ok.out hs0l HHit.out hlt
                rw [HWt.out] at HV2
                have jr : (o : Int) < (rows.length : Int) := by have := hrl.out; omega
                cases b
                · by_cases hz0 : z = 0
                  · rw [decide_eq_false (by rw [hz0]; simp)] at HV2
                    have HV3 := Lib.hid HV2
                    clear HV2
                    subst hz0
                    go_wp2_with fail
                    go_roundw
                    case rel => exact ⟨k + 1, false, _, by omega, by go_num, rfl, HI2, HV3, HO2⟩
                    case measure => simp [intOf]; omega
                  · rw [decide_eq_true hz0] at HV2
                    have HV3 := Lib.hid HV2
                    have hzb : (z != 0) = true := by simp; exact hz0
                    clear HV2
                    go_wp2_with fail
                    go_roundw
                    case rel => exact ⟨k + 1, true, _, by omega, by go_num, rfl, HI2, HV3, HO2⟩
                    case measure => simp [intOf]; omega
                · have HV3 := Lib.hid (show RInv ⟨N, rows, fr, tt⟩ d o (k + 1) true (fun s => if s = s0 then z else F s) from HV2)
                  clear HV2
                  go_wp2_with fail
                  go_roundw
                  case rel => exact ⟨k + 1, true, _, by omega, by go_num, rfl, HI2, HV3, HO2⟩
                  case measure => simp [intOf]; omega
              · have HV2 := Lib.hid (hV.out.skip (fun s' hs' hh => hfe (by
                  have e1 := hh.1
                  have e2 := hh.2
                  replace e1 : tt[o]? = some (s' : Int) := e1
                  replace e2 : fr[k]? = some (((s' + d) % N : Nat) : Int) := e2
                  rw [HT.out] at e1
                  rw [HF.out] at e2
                  injection e1 with e1
                  injection e2 with e2
                  have : s' = s0 := by omega
                  subst this
                  rw [HCA.out, e2])))
                go_wp2_with fail
                go_roundw
                case rel => exact ⟨k + 1, b, F, by omega, by go_num, rfl, hI, HV2, hO⟩
                case measure => simp [intOf]; omega
            · have hkf : k = fr.length := by omega
              have HI2 := Lib.hid (RInv.row (D := ⟨N, rows, fr, tt⟩) (show RInv ⟨N, rows, fr, tt⟩ d o fr.length b F by rw [← hkf]; exact hV.out))
              go_wp2
              go_roundw
              case rel => exact ⟨o + 1, b, F, by omega, by go_num, rfl, hI, HI2, hO⟩
              case measure => simp [intOf]; omega
        · have hot : o = tt.length := by omega
          have HRI := Lib.hid (show RInv ⟨N, rows, fr, tt⟩ d tt.length 0 b F by rw [← hot]; exact hV.out)
          have hvv := Lib.hid (show ∀ s, s < N → F s = Dg.val ⟨N, rows, fr, tt⟩ d s from fun s hs => by rw [HRI.out.val s hs, Dg.val, Dg.rowS]; simp)
          have HDIAG := Lib.hid (diag_of (D := ⟨N, rows, fr, tt⟩) (mk := b) hvv.out HRI.out.yes HRI.out.no)
          have HEZ := Lib.hid (show Ext w1 wr from below_only HEV.out hO.out HEV.out.size HW0.out)
          have k4 : Ext w4 wr := below_only KM.out hO.out KM.out.size (by rw [HGLE.out]; exact Nat.le_refl _)
          have hGw := hG.out.ext k4
          have hdl : ds.length = d := by rw [hds.out]; simp
          obtain ⟨us, ho2, hu2⟩ := hGw
          have HO := Lib.hid ho2
          have HU := Lib.hid hu2
          have HHO := Lib.hid hO.out
          rw [hdl] at HO
          have HDL := Lib.hid hdl
          have hsz := HEZ.out.size
          clear k4 ho2 hu2 hdl hO
          have HTY := Lib.hid (show TyL wr (some ⟨gl, 0, none⟩) from fun ad e => by injection e with e; subst e; exact ⟨_, _, hI.out⟩)
          have HZX := Lib.hid hI.out.zx
          cases b
          · rw [show (if (false = true) then (List.range N).map F else []) = ([] : List Int) from rfl] at HDIAG
            go_wp2_with (at_builtin; go_loud (refine wpList_append_own _ rfl _ _ 31 rfl w1.heap.size 38 zI (.slice none 0 0) 1 24 Try.underlying31 hi hz0 hz1 hz2 rfl (by decide) _ _ _ rfl (HO.out.alloc _) ⟨_, 0, none⟩ 1 1 [.slice none 0 0] rfl rfl (one_atL (by simp)) one_sliceL (by unfold maxLen; omega) (by omega) (by simp; omega) ?_; intro v3 w6 hown3 hgrow3 _))
            go_roundw
            case rel =>
              have ke : Ext wr (wr.alloc (.cells #[.slice none 0 0] 38)) := (Ext.refl wr).alloc _
              refine ⟨d + 1, ds ++ [Dg.diag ⟨N, rows, fr, tt⟩ d], by omega, by go_num, Lib.hid ?_, Lib.hid ?_, Lib.hid ?_⟩
              · rw [hds.out, List.range_succ, List.map_append]; rfl
              · rw [HDIAG.out]
                exact GL.push (c := 0) HDL.out (HO.out.alloc _) (fun j s hj => by
                  obtain ⟨A9, d9, e1, e2, e3⟩ := HU.out j s hj
                  exact ⟨A9, d9, e1, e2.ext ke, e3.ext ke⟩) (ZX.none_ _ _ _) (TyL.nil _) hgrow3 (hown3)
              · exact ext_grownL (HEZ.out.alloc _) (HO.out.alloc _) (Nat.le_refl _) hgrow3
            case measure => simp [intOf]; omega
          · rw [show (if (true = true) then (List.range N).map F else []) = (List.range N).map F from rfl] at HDIAG
            go_wp2_with (at_builtin; go_loud (refine wpList_append_own _ rfl _ _ 31 rfl w1.heap.size 38 zI (.slice none 0 0) 1 24 Try.underlying31 hi hz0 hz1 hz2 rfl (by decide) _ _ _ rfl (HO.out.alloc _) ⟨_, 0, none⟩ 1 1 [.slice (some ⟨gl, 0, none⟩) N N] rfl rfl (one_atL (by simp)) one_sliceL (by unfold maxLen; omega) (by omega) (by simp; omega) ?_; intro v3 w6 hown3 hgrow3 _))
            go_roundw
            case rel =>
              have ke : Ext wr (wr.alloc (.cells #[.slice (some ⟨gl, 0, none⟩) N N] 38)) := (Ext.refl wr).alloc _
              refine ⟨d + 1, ds ++ [Dg.diag ⟨N, rows, fr, tt⟩ d], by omega, by go_num, Lib.hid ?_, Lib.hid ?_, Lib.hid ?_⟩
              · rw [hds.out, List.range_succ, List.map_append]; rfl
              · rw [HDIAG.out]
                exact GL.push (c := N) HDL.out (HO.out.alloc _) (fun j s hj => by
                  obtain ⟨A9, d9, e1, e2, e3⟩ := HU.out j s hj
                  exact ⟨A9, d9, e1, e2.ext ke, e3.ext ke⟩) (by rw [List.length_map, List.length_range]; exact HZX.out.ext ke) (HTY.out.ext ke) hgrow3 (by rw [List.length_map, List.length_range]; exact hown3)
              · exact ext_grownL (HEZ.out.alloc _) (HO.out.alloc _) (Nat.le_refl _) hgrow3
            case measure => simp [intOf]; omega
    · have hdn : d = N := by omega
      obtain ⟨Ag, cg, hov, hsx⟩ := hG.out.sx
      have hdd : ds = Dg.diags ⟨N, rows, fr, tt⟩ := by rw [hds.out, hdn]; rfl
      have HDD := Lib.hid hdd
      have HSX := Lib.hid hsx
      have hdl := Lib.hid (show ds.length = N by rw [hds.out, hdn]; simp)
      subst hov
      clear hdd hsx
      go_wp2
      go_ret2
      refine .inl ⟨ds, Ag, cg, ?_, rfl, HSX.out, hE.out⟩
      rw [HE.out, HDD.out, Int.toNat_natCast]
end Go.Proofs.Ytdnjjpkajiehgaa
