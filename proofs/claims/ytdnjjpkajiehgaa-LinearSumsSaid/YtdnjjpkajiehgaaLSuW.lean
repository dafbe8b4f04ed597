/-
  The law LinearSums walked.
-/
import Derived.Test.YtdnjjpkajiehgaaLLaw
import Derived.Test.YtdnjjpkajiehgaaLSuM
namespace Go.Proofs.Ytdnjjpkajiehgaa
open Go.RowKit
set_option linter.unusedVariables false
set_option maxRecDepth 100000

theorem wrap_sum (a b : Int) : wrap64 (wrap64 a + wrap64 b) = wrap64 (a + b) := by unfold wrap64; omega
theorem wrap_sum' (a b : Int) : wrap64 (wrap64 a + b) = wrap64 (a + b) := by unfold wrap64; omega
theorem wrap_zero : wrap64 0 = 0 := by unfold wrap64; omega
/-- The slots of a row, as the law makes them. -/
def xvL (v : List Int) (j : Nat) : Int := if j < v.length then (v.getD j 0).tmod 1000 else 0
theorem gat_succ (D : Dg) (X : Nat → Int) (s k : Nat) : D.gat X s (k + 1) = D.gat X s k + D.val k s * X ((s + k) % D.n) := rfl
theorem gat_none {D : Dg} {k : Nat} (hk : D.diag k = []) (hn : 0 < D.n) (X : Nat → Int) {s : Nat} (hs : s < D.n) : D.gat X s (k + 1) = D.gat X s k := by
  rw [gat_succ]
  have hv : D.val k s = 0 := by
    unfold Dg.diag at hk
    split at hk
    · rename_i h
      rw [List.all_eq_true] at h
      simpa using h s (List.mem_range.2 hs)
    · have := congrArg List.length hk
      simp at this
      omega
  rw [hv, Int.zero_mul, Int.add_zero]
theorem diag_cases (D : Dg) (k : Nat) : D.diag k = [] ∨ D.diag k = (List.range D.n).map (D.val k) := by
  unfold Dg.diag
  split
  · exact .inl rfl
  · exact .inr rfl
theorem diagsR_at {rows : List (List Int)} {fr tt : List Int} {m : Int} {ds : List (List Int)} (h : diagsR rows fr tt m = .ok ds) : dgB rows fr tt m = true ∧ ds = Dg.diags ⟨m.toNat, rows, fr, tt⟩ := by
  unfold diagsR at h
  split at h
  · rename_i hb
    injection h with h
    exact ⟨hb, h.symm⟩
  · cases h
set_option maxHeartbeats 8000000 in
theorem linearSums_walk (Ah A A' Av : Option Addr) (ch c c' cv nf nt nv : Nat) (rows : List (List Int)) (fr tt v : List Int) (m : Int) (w : World) (hR : Hid (SX w Ah ch rows)) (hF : Hid (ZX w A nf c fr)) (hT : Hid (ZX w A' nt c' tt)) (hV : Hid (ZX w Av nv cv v)) :
    Calls Try.prog 13 #[.slice Ah rows.length ch, .slice A nf c, .slice A' nt c', .int .i64 m, .slice Av nv cv] w fun e w' => e = .returned (.bool true) ∧ Ext w w' := by
  obtain rfl : fr.length = nf := hF.out.len
  obtain rfl : tt.length = nt := hT.out.len
  obtain rfl : v.length = nv := hV.out.len
  go_enter Try.func13, Try.ntmps13
  go_wp2_with fail
  refine (fixed19_any w).mono ?_
  rintro e1 w1 ⟨rfl, k1⟩
  have HR1 := Lib.hid (hR.out.ext k1)
  go_wp2_with fail
  refine (short_any Ah A A' ch c c' fr.length tt.length rows m w1 HR1).mono ?_
  rintro e2 w2 ⟨b, rfl, hb, rfl⟩
  cases b
  · clear hb
    go_wp2
    go_ret
    exact ⟨rfl, k1⟩
  obtain ⟨b1, b2, b3, b4, b5⟩ := hb rfl
  have HF1 := Lib.hid (hF.out.ext k1)
  have HT1 := Lib.hid (hT.out.ext k1)
  have HV1 := Lib.hid (hV.out.ext k1)
  have K1 := Lib.hid k1
  clear hb k1 b5
  by_cases hv200 : (200 : Int) < (v.length : Int)
  · go_wp2
    go_ret
    exact ⟨rfl, K1.out⟩
  go_wp2_with fail
  refine (diag_any Ah A A' ch c c' rows fr tt m w2 HR1 HF1 HT1 (by omega) (by omega) (by omega)).mono ?_
  rintro e2 w3 (⟨ds, A1, c1, h1, rfl, h3, k2⟩ | ⟨h1, rfl, k2⟩)
  rotate_left
  · have K2 := Lib.hid (K1.out.trans k2)
    clear h1 k2
    go_wp2
    go_ret
    exact ⟨rfl, K2.out⟩
  obtain ⟨hdg, hds⟩ := diagsR_at h1
  have hm1 : 1 ≤ m := by
    have h := hdg
    unfold dgB at h
    simp only [Bool.and_eq_true, decide_eq_true_eq] at h
    exact h.1.1.1.1.1
  obtain ⟨N, rfl⟩ := Int.eq_ofNat_of_zero_le (show 0 ≤ m by omega)
  have ok := Lib.hid (dgB_ok hdg)
  rw [Int.toNat_natCast] at hds
  have hdl : ds.length = N := by rw [hds, diags_len]
  have HDS := Lib.hid hds
  have HDL := Lib.hid hdl
  have H3 := Lib.hid h3
  have K2 := Lib.hid (K1.out.trans k2)
  have HR3 := Lib.hid (HR1.out.ext k2)
  have HF3 := Lib.hid (HF1.out.ext k2)
  have HT3 := Lib.hid (HT1.out.ext k2)
  have HV3 := Lib.hid (HV1.out.ext k2)
  clear hds hdg h1 h3 k2 HR1 HF1 HT1 HV1 K1
  have idl : (ds.length : Int) = (N : Int) := by omega
  clear hdl
  -- x
  have hmk := make_intL N (by omega) w3
  have kM : Ext w3 (w3.alloc (.cells ((List.range N).map fun _ => Value.int .i64 0).toArray 3)) := (Ext.refl w3).alloc _
  have hI : IL (w3.alloc (.cells ((List.range N).map fun _ => Value.int .i64 0).toArray 3)) w3.heap.size N (fun _ => 0) := RL.new w3 3 N _
  go_wp2_with fail
  clear hmk
  generalize w3.alloc (.cells ((List.range N).map fun _ => Value.int .i64 0).toArray 3) = VA at *
  obtain ⟨gx, hg⟩ : ∃ g, w3.heap.size = g := ⟨_, rfl⟩
  rw [hg] at hI ⊢
  have KM := Lib.hid kM
  have HGX := Lib.hid (show w3.heap.size ≤ gx by omega)
  have HI := Lib.hid hI
  clear hg kM hI
  go_loopw [54] (fun i wr => ∃ k : Nat, k ≤ N ∧ i = .int .i64 (k : Int) ∧ Hid (IL wr gx N (fun j => if j < k then xvL v j else 0)) ∧ Hid (On gx VA wr)) (fun i _ => N - (intOf i).toNat)
  case atStart => exact ⟨0, by omega, rfl, Lib.hid (HI.out.congr fun j _ => by rw [if_neg (by omega)]), Lib.hid (On.refl _ _)⟩
  case round =>
    clear HI
    obtain ⟨k, hk, rfl, hI, hO⟩ := hrel
    have HE := Lib.hid (show Ext w3 wr from below_only KM.out hO.out KM.out.size HGX.out)
    by_cases hlt : k < N
    · have hstep : ∀ z : Int, z = xvL v k → IL (wr.setCell ⟨gx, k, none⟩ (.int .i64 z)) gx N (fun j => if j < k + 1 then xvL v j else 0) := fun z hz => (IL.set hI.out hlt z).congr fun j _ => by
        by_cases e : j = k
        · subst e; rw [if_pos rfl, if_pos (by omega), hz]
        · rw [if_neg e]
          by_cases e2 : j < k
          · rw [if_pos e2, if_pos (by omega)]
          · rw [if_neg e2, if_neg (by omega)]
      have HST := Lib.hid hstep
      clear hstep
      have i0 : (0 : Int) ≤ (k : Int) := by omega
      have i1 : (k : Int) < (N : Int) := by omega
      by_cases hkv : k < v.length
      · obtain ⟨av, z, rfl, hz, cz⟩ := (HV3.out.ext HE.out).at_ hkv
        have i2 : (k : Int) < (v.length : Int) := by omega
        have HXV := Lib.hid (show z.tmod 1000 = xvL v k by unfold xvL; rw [if_pos hkv]; simp [List.getD, hz])
        have cl := RL.cell (show RL wr gx 3 N _ from hI.out) hlt
        have fz := RL.frozen (show RL wr gx 3 N _ from hI.out) k
        clear hz
        go_wp2_with fail
        go_roundw
        case rel => exact ⟨k + 1, by omega, by go_num, Lib.hid (HST.out _ HXV.out), Lib.hid (hO.out.set k _)⟩
        case measure => simp [intOf]; omega
      · have i2 : ¬ (k : Int) < (v.length : Int) := by omega
        have HXV := Lib.hid (show IL wr gx N (fun j => if j < k + 1 then xvL v j else 0) from hI.out.congr fun j _ => by
          by_cases e : j = k
          · subst e
            rw [if_neg (by omega), if_pos (by omega)]
            unfold xvL
            rw [if_neg hkv]
          · by_cases e2 : j < k
            · rw [if_pos e2, if_pos (by omega)]
            · rw [if_neg e2, if_neg (by omega)])
        go_wp2_with fail
        go_roundw
        case rel => exact ⟨k + 1, by omega, by go_num, HXV, hO⟩
        case measure => simp [intOf]; omega
    · obtain rfl : N = k := by omega
      have HIX := Lib.hid (show IL wr gx N (xvL v) from hI.out.congr fun j hj => by rw [if_pos hj])
      clear hI hO
      obtain ⟨wa, rfl⟩ : ∃ wa, wa = wr := ⟨_, rfl⟩
      have HGA := Lib.hid (RL.lt HIX.out)
      -- sum
      have hmk := make_intL N (by omega) wa
      have kM : Ext wa (wa.alloc (.cells ((List.range N).map fun _ => Value.int .i64 0).toArray 3)) := (Ext.refl wa).alloc _
      have hI : IL (wa.alloc (.cells ((List.range N).map fun _ => Value.int .i64 0).toArray 3)) wa.heap.size N (fun _ => 0) := RL.new wa 3 N _
      go_wp2_with fail
      clear hmk
      generalize wa.alloc (.cells ((List.range N).map fun _ => Value.int .i64 0).toArray 3) = VB at *
      obtain ⟨gs, hg⟩ : ∃ g, wa.heap.size = g := ⟨_, rfl⟩
      rw [hg] at hI HGA ⊢
      have KMB := Lib.hid kM
      have HGS := Lib.hid (show wa.heap.size ≤ gs by omega)
      have HI := Lib.hid hI
      clear hg kM hI
      go_loopw [74] (fun i wr => ∃ k : Nat, k ≤ N ∧ i = .int .i64 (k : Int) ∧ Hid (IL wr gs N (fun s => wrap64 (Dg.gat ⟨N, rows, fr, tt⟩ (xvL v) s k))) ∧ Hid (On gs VB wr)) (fun i _ => N - (intOf i).toNat)
      case atStart => exact ⟨0, by omega, rfl, Lib.hid (HI.out.congr fun j _ => wrap_zero.symm), Lib.hid (On.refl _ _)⟩
      case round =>
        clear HI
        obtain ⟨k, hk, rfl, hI, hO⟩ := hrel
        have HEA := Lib.hid (show Ext wa wr from below_only KMB.out hO.out KMB.out.size HGS.out)
        by_cases hlt : k < N
        · obtain ⟨ad, rfl, hc⟩ := (H3.out.ext HE.out).cells (by have := HDL.out; omega)
          obtain ⟨B, d, c0, hz⟩ := hc k (Dg.diag ⟨N, rows, fr, tt⟩ k) (by rw [HDS.out]; unfold Dg.diags; rw [List.getElem?_map, List.getElem?_range hlt]; rfl)
          have HZ := Lib.hid hz
          replace c0 := cell_ext HEA.out c0
          have i0 : (0 : Int) ≤ (k : Int) := by omega
          have i1 : (k : Int) < (ds.length : Int) := by omega
          clear hc hz
          rcases diag_cases ⟨N, rows, fr, tt⟩ k with hdk | hdk
          · have HN := Lib.hid (show IL wr gs N (fun s => wrap64 (Dg.gat ⟨N, rows, fr, tt⟩ (xvL v) s (k + 1))) from hI.out.congr fun s hs => by rw [gat_none hdk (show 0 < N by omega) _ hs])
            rw [hdk] at c0
            rw [show ([] : List Int).length = 0 from rfl] at c0
            clear hdk
            go_wp2_with fail
            obtain ⟨w5, rfl⟩ : ∃ w5, w5 = wr := ⟨_, rfl⟩
            go_loopw [81] (fun i wz => i = .int .i64 0 ∧ Hid (Ext w5 wz) ∧ Hid (On gs VB wz) ∧ Hid (IL wz gs N (fun s => wrap64 (Dg.gat ⟨N, rows, fr, tt⟩ (xvL v) s (k + 1))))) (fun i _ => 0)
            case atStart => exact ⟨rfl, Lib.hid (Ext.refl _), hO, HN⟩
            case round =>
              obtain ⟨rfl, h5, h6, h7⟩ := hrel
              go_wp2
              exact ⟨⟨k + 1, by omega, by go_num, h7, h6⟩, by simp [intOf]; omega⟩
          · rw [hdk] at c0 HZ
            rw [List.length_map, List.length_range] at c0 HZ
            clear hdk
            go_wp2_with fail
            clear HEA c0
            go_loopw [81] (fun i wz => ∃ j : Nat, j ≤ N ∧ i = .int .i64 (j : Int) ∧ Hid (IL wz gs N (fun s => wrap64 (Dg.gat ⟨N, rows, fr, tt⟩ (xvL v) s (if s < j then k + 1 else k)))) ∧ Hid (On gs VB wz)) (fun i _ => N - (intOf i).toNat)
            case atStart => exact ⟨0, by omega, rfl, Lib.hid (hI.out.congr fun s _ => by rw [if_neg (by omega)]), hO⟩
            case round =>
              clear hI hO
              obtain ⟨j, hj, rfl, hI, hO⟩ := hrel
              have HEA := Lib.hid (show Ext wa wr from below_only KMB.out hO.out KMB.out.size HGS.out)
              by_cases hjl : j < N
              · obtain ⟨al, zl, rfl, hzl, czl⟩ := (HZ.out.ext HEA.out).at_ hjl
                have hzv : zl = Dg.val ⟨N, rows, fr, tt⟩ k j := by
                  rw [List.getElem?_map, List.getElem?_range hjl] at hzl
                  injection hzl with hzl
                  exact hzl.symm
                obtain ⟨q, hq⟩ : ∃ q : Nat, (j + k) % N = q := ⟨_, rfl⟩
                have hql : q < N := by rw [← hq]; exact Nat.mod_lt _ (by omega)
                have hgne : gx ≠ gs := by have := HGA.out; omega
                have cx := RL.cell (RL.on (RL.ext (show RL wa gx 3 N _ from HIX.out) KMB.out) hO.out hgne) hql
                have cs := RL.cell (show RL wr gs 3 N _ from hI.out) hjl
                have fz := RL.frozen (show RL wr gs 3 N _ from hI.out) j
                simp only [Nat.lt_irrefl, if_false] at cs
                have htm : ((j : Int) + (k : Int)).tmod (N : Int) = (q : Int) := by
                  rw [Int.tmod_eq_emod_of_nonneg (by omega), ← hq, Int.natCast_emod]
                  simp
                have hwr : IntKind.i64.wrap ((j : Int) + (k : Int)) = (j : Int) + (k : Int) := by rw [IntKind.wrap_i64]; omega
                have hem : ((j : Int) + (k : Int)) % (N : Int) = (q : Int) := by
                  rw [← hq, Int.natCast_emod]
                  simp
                have HST := Lib.hid (show ∀ z : Int, z = wrap64 (Dg.gat ⟨N, rows, fr, tt⟩ (xvL v) j k + zl * xvL v q) → IL (wr.drew.setCell ⟨gs, j, none⟩ (.int .i64 z)) gs N (fun s => wrap64 (Dg.gat ⟨N, rows, fr, tt⟩ (xvL v) s (if s < j + 1 then k + 1 else k))) from fun z hz => (IL.set (RL.ext hI.out ((Ext.refl wr).drew)) hjl z).congr fun s _ => by
                  by_cases e : s = j
                  · subst e
                    rw [if_pos rfl, if_pos (by omega), hz, gat_succ, hzv]
                    show _ = wrap64 (_ + _ * xvL v ((s + k) % N))
                    rw [hq]
                  · rw [if_neg e]
                    by_cases e2 : s < j
                    · rw [if_pos e2, if_pos (by omega)]
                    · rw [if_neg e2, if_neg (by omega)])
                generalize xvL v q = xq at *
                generalize Dg.gat ⟨N, rows, fr, tt⟩ (xvL v) j k = gq at *
                have j0 : (0 : Int) ≤ (j : Int) := by omega
                have j1 : (j : Int) < (N : Int) := by omega
                have q0 : (0 : Int) ≤ (q : Int) := by omega
                have q1 : (q : Int) < (N : Int) := by omega
                have n0 : ¬ N = 0 := by omega
                have HO2 := Lib.hid (show On gs VB wr.drew from hO.out.trans (On.of ((Ext.refl wr).drew)))
                clear hzl hzv hq hI hO HZ
                go_wp2_with fail
                go_still_tail 19, (by kernel_rfl)
                change wpList _ _ _ _ _ wr.drew
                have fz : wr.drew.frozen? ⟨gs, j, none⟩ = false := fz
                have cs : wr.drew.cell? ⟨gs, j, none⟩ = _ := cs
                generalize wr.drew = W at *
                go_wp2_with fail
                exact ⟨⟨j + 1, by omega, by go_num, Lib.hid (HST.out _ (wrap_sum _ _)), Lib.hid (HO2.out.set j _)⟩, by simp [intOf]; omega⟩
              · obtain rfl : N = j := by omega
                have HN := Lib.hid (show IL wr gs N (fun s => wrap64 (Dg.gat ⟨N, rows, fr, tt⟩ (xvL v) s (k + 1))) from hI.out.congr fun s hs => by rw [if_pos hs])
                go_wp2
                go_roundw
                case rel => exact ⟨k + 1, by omega, by go_num, HN, hO⟩
                case measure => simp [intOf]; omega
        · obtain rfl : N = k := by omega
          have HIS := Lib.hid hI.out
          have HIX2 := Lib.hid (show IL wr gx N (xvL v) from RL.on (RL.ext (show RL wa gx 3 N _ from HIX.out) KMB.out) hO.out (by have := HGA.out; omega))
          have HEB := Lib.hid (HE.out.trans HEA.out)
          clear hI hO
          obtain ⟨wb, rfl⟩ : ∃ wb, wb = wr := ⟨_, rfl⟩
          have HGB := Lib.hid (RL.lt HIS.out)
          have HGB2 := Lib.hid (RL.lt HIX2.out)
          -- want
          have hmk := make_intL N (by omega) wb
          have kM : Ext wb (wb.alloc (.cells ((List.range N).map fun _ => Value.int .i64 0).toArray 3)) := (Ext.refl wb).alloc _
          have hI : IL (wb.alloc (.cells ((List.range N).map fun _ => Value.int .i64 0).toArray 3)) wb.heap.size N (fun _ => 0) := RL.new wb 3 N _
          go_wp2_with fail
          clear hmk
          generalize wb.alloc (.cells ((List.range N).map fun _ => Value.int .i64 0).toArray 3) = VC at *
          obtain ⟨gw, hg⟩ : ∃ g, wb.heap.size = g := ⟨_, rfl⟩
          rw [hg] at hI HGB HGB2 ⊢
          have KMC := Lib.hid kM
          have HGW := Lib.hid (show wb.heap.size ≤ gw by omega)
          have HI := Lib.hid hI
          clear hg kM hI
          go_loopw [109] (fun i wr => ∃ o : Nat, o ≤ tt.length ∧ i = .int .i64 (o : Int) ∧ Hid (IL wr gw N (fun s => wrap64 (Dg.wan ⟨N, rows, fr, tt⟩ (xvL v) s o))) ∧ Hid (On gw VC wr)) (fun i _ => tt.length - (intOf i).toNat)
          case atStart => exact ⟨0, by omega, rfl, Lib.hid (HI.out.congr fun j _ => wrap_zero.symm), Lib.hid (On.refl _ _)⟩
          case round =>
            clear HI
            obtain ⟨o, ho, rfl, hI, hO⟩ := hrel
            have HEC := Lib.hid (show Ext wb wr from below_only KMC.out hO.out KMC.out.size HGW.out)
            by_cases hlo : o < tt.length
            · obtain ⟨at_, t, rfl, ht, ct⟩ := (HT3.out.ext (HEB.out.trans HEC.out)).at_ hlo
              obtain ⟨t0, t1⟩ := ok.out.tt.1 o t ht
              replace t1 : t < (N : Int) := t1
              obtain ⟨s0, rfl⟩ := Int.eq_ofNat_of_zero_le t0
              have HT := Lib.hid ht
              obtain ⟨s, hs⟩ : ∃ s, rows[o]? = some s := ⟨_, List.getElem?_eq_getElem (by have := ok.out.rows; replace this : rows.length = tt.length := this; omega)⟩
              have hrl : rows.length = tt.length := ok.out.rows
              have hsl : s.length = fr.length := ok.out.len s (List.mem_of_getElem? hs)
              obtain ⟨ar, rfl, hrc⟩ := (HR3.out.ext HEB.out).cells (by omega)
              obtain ⟨B, dd, rc0, hzs⟩ := hrc o s hs
              rw [hsl] at rc0 hzs
              have RC := Lib.hid rc0
              have HZS := Lib.hid hzs
              have HS := Lib.hid hs
              have j2 : (o : Int) < (tt.length : Int) := by omega
              have j3 : (0 : Int) ≤ (o : Int) := by omega
              have j4 : (o : Int) < (rows.length : Int) := by omega
              clear hrc hzs hs hsl hrl rc0 ht t0
              go_wp2_with fail
              clear ct HEC
              go_loopw [116] (fun i wz => ∃ k : Nat, k ≤ fr.length ∧ i = .int .i64 (k : Int) ∧ Hid (IL wz gw N (fun s => wrap64 (Dg.wan ⟨N, rows, fr, tt⟩ (xvL v) s o + if tt[o]? = some (s : Int) then Dg.mak ⟨N, rows, fr, tt⟩ (xvL v) o k else 0))) ∧ Hid (On gw VC wz)) (fun i _ => fr.length - (intOf i).toNat)
              case atStart => exact ⟨0, by omega, rfl, Lib.hid (hI.out.congr fun s _ => by rw [show Dg.mak ⟨N, rows, fr, tt⟩ (xvL v) o 0 = 0 from rfl]; simp), hO⟩
              case round =>
                clear hI hO
                obtain ⟨k, hk, rfl, hI, hO⟩ := hrel
                have HEC := Lib.hid (show Ext wb wr from below_only KMC.out hO.out KMC.out.size HGW.out)
                by_cases hlk : k < fr.length
                · obtain ⟨af, f, rfl, hf, cf⟩ := (HF3.out.ext (HEB.out.trans HEC.out)).at_ hlk
                  obtain ⟨f0, f1⟩ := ok.out.fr.1 k f hf
                  replace f1 : f < (N : Int) := f1
                  obtain ⟨q, rfl⟩ := Int.eq_ofNat_of_zero_le f0
                  obtain ⟨az, z, rfl, hz, cz⟩ := (HZS.out.ext HEC.out).at_ hlk
                  have hwt : Dg.wt ⟨N, rows, fr, tt⟩ o k = z := wt_at (D := ⟨N, rows, fr, tt⟩) HS.out hz
                  have rc := cell_ext HEC.out RC.out
                  have hs0l : s0 < N := by omega
                  have hql : q < N := by omega
                  have cx := RL.cell (RL.on (RL.ext (show RL wb gx 3 N _ from HIX2.out) KMC.out) hO.out (by have := HGB2.out; omega)) hql
                  have cs := RL.cell (show RL wr gw 3 N _ from hI.out) hs0l
                  have fz := RL.frozen (show RL wr gw 3 N _ from hI.out) s0
                  simp only [HT.out, if_true] at cs
                  have HST := Lib.hid (show ∀ y : Int, y = wrap64 (Dg.wan ⟨N, rows, fr, tt⟩ (xvL v) s0 o + Dg.mak ⟨N, rows, fr, tt⟩ (xvL v) o k + z * xvL v q) → IL (wr.drew.setCell ⟨gw, s0, none⟩ (.int .i64 y)) gw N (fun s => wrap64 (Dg.wan ⟨N, rows, fr, tt⟩ (xvL v) s o + if tt[o]? = some (s : Int) then Dg.mak ⟨N, rows, fr, tt⟩ (xvL v) o (k + 1) else 0)) from fun y hy => (IL.set (RL.ext hI.out ((Ext.refl wr).drew)) hs0l y).congr fun s _ => by
                    by_cases e : s = s0
                    · subst e
                      rw [if_pos rfl, if_pos HT.out, hy, show Dg.mak ⟨N, rows, fr, tt⟩ (xvL v) o (k + 1) = Dg.mak ⟨N, rows, fr, tt⟩ (xvL v) o k + Dg.wt ⟨N, rows, fr, tt⟩ o k * xvL v (fr.getD k 0).toNat from rfl, hwt, show fr.getD k 0 = (q : Int) by simp [List.getD, hf], Int.toNat_natCast]
                      congr 1
                      omega
                    · rw [if_neg e]
                      have hne : ¬ tt[o]? = some (s : Int) := fun h => e (by rw [HT.out] at h; injection h with h; omega)
                      rw [if_neg hne, if_neg hne])
                  generalize xvL v q = xq at *
                  generalize Dg.wan ⟨N, rows, fr, tt⟩ (xvL v) s0 o + Dg.mak ⟨N, rows, fr, tt⟩ (xvL v) o k = gq at *
                  have k0 : (0 : Int) ≤ (k : Int) := by omega
                  have k1 : (k : Int) < (fr.length : Int) := by omega
                  have q0 : (0 : Int) ≤ (q : Int) := by omega
                  have q1 : (q : Int) < (N : Int) := by omega
                  have s0a : (0 : Int) ≤ (s0 : Int) := by omega
                  have s0b : (s0 : Int) < (N : Int) := by omega
                  have HO2 := Lib.hid (show On gw VC wr.drew from hO.out.trans (On.of ((Ext.refl wr).drew)))
                  clear hz hwt hf hI hO f0 f1 t1
                  go_wp2_with fail
                  go_still_tail 18, (by kernel_rfl)
                  change wpList _ _ _ _ _ wr.drew
                  have fz : wr.drew.frozen? ⟨gw, s0, none⟩ = false := fz
                  have cs : wr.drew.cell? ⟨gw, s0, none⟩ = _ := cs
                  generalize wr.drew = W at *
                  go_wp2_with fail
                  exact ⟨⟨k + 1, by omega, by go_num, Lib.hid (HST.out _ (wrap_sum _ _)), Lib.hid (HO2.out.set s0 _)⟩, by simp [intOf]; omega⟩
                · have hkf : k = fr.length := by omega
                  have HN := Lib.hid (show IL wr gw N (fun s => wrap64 (Dg.wan ⟨N, rows, fr, tt⟩ (xvL v) s (o + 1))) from hI.out.congr fun s hs => by rw [hkf]; rfl)
                  go_wp2
                  go_roundw
                  case rel => exact ⟨o + 1, by omega, by go_num, HN, hO⟩
                  case measure => simp [intOf]; omega
            · have hot : o = tt.length := by omega
              have HZ1 := Lib.hid (show ZX wr (some ⟨gs, 0, none⟩) N N _ from IL.zx (show IL wr gs N _ from RL.on (RL.ext (show RL wb gs 3 N _ from HIS.out) KMC.out) hO.out (by have := HGB.out; omega)))
              have HZ2 := Lib.hid (show ZX wr (some ⟨gw, 0, none⟩) N N _ from IL.zx hI.out)
              have HEQ := Lib.hid (show (List.range N).map (fun s => wrap64 (Dg.gat ⟨N, rows, fr, tt⟩ (xvL v) s N)) = (List.range N).map (fun s => wrap64 (Dg.wan ⟨N, rows, fr, tt⟩ (xvL v) s o)) from List.map_congr_left fun s hs => by
                have := gat_wan ok.out (xvL v) (show s < (Dg.mk N rows fr tt).n from List.mem_range.1 hs)
                replace this : Dg.gat ⟨N, rows, fr, tt⟩ (xvL v) s N = Dg.wan ⟨N, rows, fr, tt⟩ (xvL v) s tt.length := this
                rw [this, hot])
              have HEW := Lib.hid (K2.out.trans (HEB.out.trans HEC.out))
              clear hI hO
              go_wp2_with fail
              refine (same_any (some ⟨gs, 0, none⟩) (some ⟨gw, 0, none⟩) N N N N _ _ wr HZ1 HZ2 (by omega) (by omega)).mono ?_
              rintro e4 w4 ⟨rfl, k4⟩
              rw [decide_eq_true HEQ.out]
              go_wp2
              go_ret
              exact ⟨rfl, HEW.out.trans k4⟩
end Go.Proofs.Ytdnjjpkajiehgaa
