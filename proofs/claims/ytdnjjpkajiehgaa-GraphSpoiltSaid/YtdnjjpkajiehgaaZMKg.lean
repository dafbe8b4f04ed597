/-
  Graph of arrasmake: one that may be.
-/
import Derived.Test.YtdnjjpkajiehgaaZ22
import Derived.Deep.DeepCutAuto
namespace Go.Proofs.Ytdnjjpkajiehgaa
open Go.RowKit
set_option linter.unusedVariables false
set_option maxRecDepth 100000

theorem info_nodeM : (Try.prog.info? 40).map (fun i => (i.zero, i.size, i.bytes)) = some (some (.agg #[.int .i64 0, .int .i64 0, .int .i64 0, .slice none 0 0, .int .i64 0, .int .i64 0, .int .i64 0, .slice none 0 0, .slice none 0 0]), 9, 120) := by kernel_rfl
/-- What Graph answers: its shapes are few. -/
def MgPost (w : World) (g : Nat) (e : Ending) (w' : World) : Prop :=
  ∃ (v : Value) (nodes : List Nd) (out : Nat) (shs : List (List Int)), e = .returned (.agg #[v, .int .i64 (out : Int)]) ∧ NsY w.heap.size w' v nodes ∧ 0 < nodes.length ∧ nodes.length ≤ 9 ∧ out < nodes.length ∧ chkR nodes [] = .ok shs ∧ (∀ s ∈ shs, GoodS s) ∧ TM w' g ∧ On g w w'
theorem two_store {w : World} {p : Nat} {a b : Value} {t : TypeId} (h : w.heap[p]? = some (.cells #[a, b] t (0, 0))) (u : Value) : (w.setCell ⟨p, 0, none⟩ u).heap[p]? = some (.cells #[u, b] t (0, 0)) := by
  simp [World.setCell, Array.getElem?_modify, h]
set_option maxHeartbeats 8000000 in
theorem mkGraph_any (g : Nat) (w : World) (hT : Hid (TM w g)) :
    Calls Try.prog 16 #[.pointer (some ⟨g, 0, none⟩)] w fun e w' => MgPost w g e w' := by
  have hgl := hT.out.lt
  obtain ⟨i0', hii, hz0, hz1, hz2⟩ := info_partsJ info_nodeM
  have kV : Ext w (w.alloc (.cells #[.slice none 0 0, .int .i64 0] 26)) := (Ext.refl w).alloc _
  have HH2 := Lib.hid (heap_alloc_new w (.cells #[.slice none 0 0, .int .i64 0] 26))
  have hsV : (w.alloc (.cells #[.slice none 0 0, .int .i64 0] 26)).heap.size = w.heap.size + 1 := by simp
  go_enter Try.func16, Try.ntmps16
  go_wp2_with fail
  generalize w.alloc (.cells #[.slice none 0 0, .int .i64 0] 26) = V at *
  have HTV := Lib.hid (hT.out.keep kV)
  have KV := Lib.hid kV
  clear kV
  refine (mkInput_any g V HTV).mono ?_
  rintro e1 w1 ⟨A0, c0, sh0, lo0, hi0, rfl, hsh0, hz0', hf0, ⟨lo1, lo2, lo3, lo4⟩, ht1, ho1, hy0⟩
  have HY0 := Lib.hid (And.intro hz0' hy0)
  have HT1 := Lib.hid ht1
  have HO1 := Lib.hid ho1
  have HSH := Lib.hid hsh0
  have s1 := ho1.size
  clear hz0' hy0 ht1 ho1 hsh0 hf0
  have sa : (w1.alloc (.cells #[.int .i64 1, .int .i64 0, .int .i64 0, .slice A0 sh0.length c0, .int .i64 lo0, .int .i64 hi0, .int .i64 0, .slice none 0 0, .slice none 0 0] 40)).heap.size = w1.heap.size + 1 := by simp
  have h3 := heap_alloc_new (w1.alloc (.cells #[.int .i64 1, .int .i64 0, .int .i64 0, .slice A0 sh0.length c0, .int .i64 lo0, .int .i64 hi0, .int .i64 0, .slice none 0 0, .slice none 0 0] 40)) (.cells #[.slice none 0 0, .int .i64 0] 26)
  rw [sa] at h3
  have da := cell_of_heap h3 (j := 0) rfl
  have db := cell_of_heap h3 (j := 1) rfl
  have fa := frozen_of_heap (j := 0) h3
  have fb := frozen_of_heap (j := 1) h3
  go_wp2_with fail
  have h4 := heap_alloc_new (w1.alloc (.cells #[.int .i64 1, .int .i64 0, .int .i64 0, .slice A0 sh0.length c0, .int .i64 lo0, .int .i64 hi0, .int .i64 0, .slice none 0 0, .slice none 0 0] 40)) (.cells #[.slice (some ⟨w1.heap.size, 0, none⟩) 1 1, .int .i64 0] 26)
  rw [sa] at h4
  have ke : Ext (w1.alloc (.cells #[.int .i64 1, .int .i64 0, .int .i64 0, .slice A0 sh0.length c0, .int .i64 lo0, .int .i64 hi0, .int .i64 0, .slice none 0 0, .slice none 0 0] 40)) ((w1.alloc (.cells #[.int .i64 1, .int .i64 0, .int .i64 0, .slice A0 sh0.length c0, .int .i64 lo0, .int .i64 hi0, .int .i64 0, .slice none 0 0, .slice none 0 0] 40)).alloc (.cells #[.slice (some ⟨w1.heap.size, 0, none⟩) 1 1, .int .i64 0] 26)) := (Ext.refl _).alloc _
  have kz : Ext w1 ((w1.alloc (.cells #[.int .i64 1, .int .i64 0, .int .i64 0, .slice A0 sh0.length c0, .int .i64 lo0, .int .i64 hi0, .int .i64 0, .slice none 0 0, .slice none 0 0] 40)).alloc (.cells #[.slice (some ⟨w1.heap.size, 0, none⟩) 1 1, .int .i64 0] 26)) := ((Ext.refl w1).alloc _).trans ke
  have hN : NsY w.heap.size ((w1.alloc (.cells #[.int .i64 1, .int .i64 0, .int .i64 0, .slice A0 sh0.length c0, .int .i64 lo0, .int .i64 hi0, .int .i64 0, .slice none 0 0, .slice none 0 0] 40)).alloc (.cells #[.slice (some ⟨w1.heap.size, 0, none⟩) 1 1, .int .i64 0] 26)) (.slice (some ⟨w1.heap.size, 0, none⟩) 1 1) [⟨1, 0, 0, sh0, lo0, hi0, 0, [], []⟩] := by
    refine ⟨[.int .i64 1, .int .i64 0, .int .i64 0, .slice A0 sh0.length c0, .int .i64 lo0, .int .i64 hi0, .int .i64 0, .slice none 0 0, .slice none 0 0], own_extJ (own_lowJ (own_newJ w1 40 9 1 [.int .i64 1, .int .i64 0, .int .i64 0, .slice A0 sh0.length c0, .int .i64 lo0, .int .i64 hi0, .int .i64 0, .slice none 0 0, .slice none 0 0] rfl (by unfold maxLen; omega)) (by omega)) ke, fun j x hx => ?_⟩
    rcases j with _ | j
    · simp at hx
      subst hx
      refine ⟨A0, none, none, c0, 0, 0, ⟨⟨ZY.ext HY0.out kz, ZY.none_ _, ZY.none_ _⟩, ?_, by simp, by simp⟩, fun f u hf => by rw [Nat.zero_mul, Nat.zero_add]; exact hf⟩
      have := (entN_len (by have := (good_ent (good_shapes8 HSH.out)).1; omega : 0 < entN sh0)).2
      show sh0.length ≤ 1000
      omega
    · simp at hx
  have HN := Lib.hid hN
  have H4 := Lib.hid h4
  have HTW := Lib.hid (HT1.out.keep kz)
  have HOW := Lib.hid ((On.of KV.out).trans (HO1.out.trans (On.of kz)))
  have HH2W := Lib.hid (heap_on HH2.out (HO1.out.trans (On.of kz)) (by omega))
  clear da db fa fb h3 h4 ke kz hN sa
  generalize (w1.alloc (.cells #[.int .i64 1, .int .i64 0, .int .i64 0, .slice A0 sh0.length c0, .int .i64 lo0, .int .i64 hi0, .int .i64 0, .slice none 0 0, .slice none 0 0] 40)).alloc (.cells #[.slice (some ⟨w1.heap.size, 0, none⟩) 1 1, .int .i64 0] 26) = W at *
  obtain ⟨p3, hp3⟩ : ∃ p3, w1.heap.size + 1 = p3 := ⟨_, rfl⟩
  rw [hp3] at H4 ⊢
  have hp32 : w.heap.size < p3 := by omega
  obtain ⟨v, hv⟩ : ∃ v, (Value.slice (some ⟨w1.heap.size, 0, none⟩) 1 1) = v := ⟨_, rfl⟩
  rw [hv] at H4 HN
  have HCK := Lib.hid (show chkR [⟨1, 0, 0, sh0, lo0, hi0, 0, [], []⟩] [] = .ok [sh0] by
    have := mk_input (shs := []) HSH.out lo1 lo2 lo3 lo4
    simp [chkR, this])
  have HGS := Lib.hid (show ∀ s ∈ [sh0], GoodS s from fun s hs => by simp at hs; subst hs; exact good_shapes8 HSH.out)
  refine (mkNext_any g 8 W HTW (by omega) (by omega)).mono ?_
  rintro e2 w2 ⟨d, rfl, d0, d1, h2, h3⟩
  obtain ⟨k0, rfl⟩ := Int.eq_ofNat_of_zero_le d0
  have hk0 : k0 ≤ 7 := by omega
  have H42 := Lib.hid (heap_on H4.out h3 (by omega))
  have HN2 := Lib.hid (HN.out.onT HTW.out h3)
  have HT2 := Lib.hid h2
  have HO2 := Lib.hid (HOW.out.trans h3)
  have HH22 := Lib.hid (heap_on HH2W.out h3 (by omega))
  obtain ⟨nodes, hnodes⟩ : ∃ nodes : List Nd, [(⟨1, 0, 0, sh0, lo0, hi0, 0, [], []⟩ : Nd)] = nodes := ⟨_, rfl⟩
  have hnl : nodes.length = 1 := by rw [← hnodes]; rfl
  rw [hnodes] at HN2 HCK
  clear h2 h3 d0 d1 hv HN H4 HTW HOW HH2W hnodes HY0 HT1 HO1
  go_wp2_with fail
  go_loopw [4] (fun i wr => ∃ (d : Nat) (v : Value) (nodes : List Nd) (shs : List (List Int)), i = .int .i64 (d : Int) ∧ d ≤ 7 ∧ nodes.length + d ≤ 8 ∧ 0 < nodes.length ∧ Hid (TM wr g) ∧ Hid (wr.heap[p3]? = some (.cells #[v, .int .i64 ((nodes.length : Int) - 1)] 26 (0, 0))) ∧ Hid (NsY w.heap.size wr v nodes) ∧ Hid (chkR nodes [] = .ok shs) ∧ Hid (∀ s ∈ shs, GoodS s) ∧ Hid (On g w wr) ∧ Hid (wr.heap[w.heap.size]? = some (.cells #[.slice none 0 0, .int .i64 0] 26 (0, 0)))) (fun i _ => (intOf i).toNat)
  case atStart => exact ⟨k0, v, nodes, [sh0], rfl, hk0, by omega, by omega, HT2, (by rw [hnl]; exact H42), HN2, HCK, HGS, HO2, HH22⟩
  case round =>
    clear HT2 H42 HN2 HCK HGS HO2 HH22 hnl
    obtain ⟨d, v, nodes, shs, rfl, hd7, hnd, hn0, hT2, hP3, hN, hC, hG, hO, hP2⟩ := hrel
    by_cases hlt : 0 < d
    · obtain ⟨A, c, rfl, hgx⟩ := hN.out.gx
      have q0 := cell_of_heap hP3.out (j := 0) rfl
      have q1 := cell_of_heap hP3.out (j := 1) rfl
      have HGX := Lib.hid hgx
      have HR := Lib.hid (show checkR nodes ((nodes.length : Int) - 1) = .ok shs by unfold checkR; rw [if_neg (by omega)]; exact hC.out)
      have hdp : (0 : Int) < (d : Int) := by omega
      clear hgx
      go_wp2_with fail
      refine (rcheckG_any nodes A c ((nodes.length : Int) - 1) wr HGX (by omega)).mono ?_
      rintro e3 w3 (⟨shs', Ah, ch, h1, rfl, hgs, _, hsl, k1⟩ | ⟨m, h1, _⟩)
      rotate_left
      · rw [HR.out] at h1
        cases h1
      rw [HR.out] at h1
      injection h1 with h1
      subst h1
      have HT3 := Lib.hid (hT2.out.keep k1)
      have HP33 := Lib.hid ((k1.block p3 (Array.getElem?_eq_some_iff.1 hP3.out).1).trans hP3.out)
      have HP23 := Lib.hid ((k1.block w.heap.size (Array.getElem?_eq_some_iff.1 hP2.out).1).trans hP2.out)
      have HN3 := Lib.hid (hN.out.ext k1)
      have HO3 := Lib.hid (hO.out.trans (On.of k1))
      have HGS3 := Lib.hid hgs
      have HSL := Lib.hid hsl
      clear q0 q1 hgs k1 hT2 hP3 hP2 hN hO HGX hsl
      go_wp2_with fail
      refine (mkInput_any g w3 HT3).mono ?_
      rintro e4 w4 ⟨A5, c5, sh5, lo5, hi5, rfl, hsh5, hz5, hf5, ⟨l51, l52, l53, l54⟩, ht4, ho4, hy4⟩
      have HT4 := Lib.hid ht4
      have HO4 := Lib.hid ho4
      have HY4 := Lib.hid (And.intro hz5 hy4)
      have HSH5 := Lib.hid hsh5
      have HN4 := Lib.hid (HN3.out.onT HT3.out ho4)
      have HP34 := Lib.hid (heap_on HP33.out ho4 (by omega))
      have HP24 := Lib.hid (heap_on HP23.out ho4 (by omega))
      clear hz5 hy4 ht4 ho4 hsh5 hf5
      go_wp2_with fail
      have hob : ∀ b, (Value.slice A nodes.length c).ownBlock = some b → b < w4.heap.size := HN4.out.own_lt
      have hp37 : p3 < w4.heap.size := (Array.getElem?_eq_some_iff.1 HP34.out).1
      have k5 : Ext w4 (w4.alloc (.cells #[.int .i64 1, .int .i64 0, .int .i64 0, .slice A5 sh5.length c5, .int .i64 lo5, .int .i64 hi5, .int .i64 0, .slice none 0 0, .slice none 0 0] 40)) := (Ext.refl w4).alloc _
      have h7 := heap_alloc_new w4 (.cells #[.int .i64 1, .int .i64 0, .int .i64 0, .slice A5 sh5.length c5, .int .i64 lo5, .int .i64 hi5, .int .i64 0, .slice none 0 0, .slice none 0 0] 40)
      have s4 := (HO3.out.trans HO4.out).size
      have hT5 := HT4.out.keep k5
      have hN5 := HN4.out.ext k5
      have hP35 := (k5.block p3 (Array.getElem?_eq_some_iff.1 HP34.out).1).trans HP34.out
      have hP25 := (k5.block w.heap.size (Array.getElem?_eq_some_iff.1 HP24.out).1).trans HP24.out
      have hY5 := ZY.ext HY4.out k5
      have hO5 : On g w _ := (HO3.out.trans HO4.out).trans (On.of k5)
      have hO35 : On g w3 _ := HO4.out.trans (On.of k5)
      generalize w4.alloc (.cells #[.int .i64 1, .int .i64 0, .int .i64 0, .slice A5 sh5.length c5, .int .i64 lo5, .int .i64 hi5, .int .i64 0, .slice none 0 0, .slice none 0 0] 40) = W5 at *
      obtain ⟨p7, hp7⟩ : ∃ p7, w4.heap.size = p7 := ⟨_, rfl⟩
      rw [hp7] at h7 hob hp37 ⊢
      have hg7 : g < p7 := by omega
      have hw7 : w.heap.size ≤ p7 := by omega
      have H75 := Lib.hid h7
      have HT5 := Lib.hid hT5
      have HN5 := Lib.hid hN5
      have HP35 := Lib.hid hP35
      have HP25 := Lib.hid hP25
      have HY5 := Lib.hid hY5
      have HO5 := Lib.hid hO5
      have HO35 := Lib.hid hO35
      clear h7 hT5 hN5 hP35 hP25 hY5 hO5 hO35 k5 hp7 HT4 HN4 HP34 HP24 HY4 HO4 HP33 HP23 HN3
      refine (mkNext_any g 6 W5 HT5 (by omega) (by omega)).mono ?_
      rintro e6 w6 ⟨v6, rfl, v60, v61, ht6, ho6⟩
      have HT6 := Lib.hid ht6
      have HN6 := Lib.hid (HN5.out.onT HT5.out ho6)
      have HP36 := Lib.hid (heap_on HP35.out ho6 (by omega))
      have HP26 := Lib.hid (heap_on HP25.out ho6 (by omega))
      have HY6 := Lib.hid (ZY.onT HY5.out HT5.out ho6)
      have HO6 := Lib.hid (HO5.out.trans ho6)
      have HO36 := Lib.hid (HO35.out.trans ho6)
      have H76 := Lib.hid (heap_on H75.out ho6 (by omega))
      clear ht6 ho6 v61 HT5 HN5 HP35 HP25 HY5 HO5 HO35 H75
      go_upto_if 27 with fail
      go_cut [] (fun wx => ∃ (y : Nd) (As Ad Ab : Option Addr) (cs cd cb : Nat) (sy : List Int), Hid (NdY wx y As Ad Ab cs cd cb) ∧ Hid (wx.heap[p7]? = some (.cells (nodeC y As Ad Ab cs cd cb).toArray 40 (0, 0))) ∧ Hid (nodeR y shs = .ok sy) ∧ Hid (GoodS sy) ∧ Hid (TM wx g) ∧ Hid (NsY w.heap.size wx (.slice A nodes.length c) nodes) ∧ Hid (wx.heap[p3]? = some (.cells #[.slice A nodes.length c, .int .i64 ((nodes.length : Int) - 1)] 26 (0, 0))) ∧ Hid (wx.heap[w.heap.size]? = some (.cells #[.slice none 0 0, .int .i64 0] 26 (0, 0))) ∧ Hid (On g w wx))
      case first =>
        by_cases hv6 : 0 < v6
        · have SG6 := Lib.hid (sg_of HGS3.out HT3.out HO36.out)
          go_wp2_with fail
          refine (mkNode_any g Ah ch shs w6 HT6 (Lib.hid SG6.out.1) (by have := HSL.out; omega) (by have := HSL.out; omega) hG).mono ?_
          rintro e7 w7 ⟨y, As, Ad, Ab, cs, cd, cb, sy, rfl, hnd, hny, hgy, ht7, ho7, hla, had, hab⟩
          have hyA : TyM w7 As := by
            rcases hla with h | ⟨ah, j, s, dd, ea, hs, hc⟩
            · exact h
            · exact (SG6.out.2 ah j s dd As ea hs hc).onT HT6.out ho7
          have HND7 := Lib.hid (show NdY w7 y As Ad Ab cs cd cb from ⟨⟨⟨hnd.1.1.zx, hyA⟩, ⟨hnd.1.2.1.zx, had⟩, ⟨hnd.1.2.2.zx, hab⟩⟩, hnd.2⟩)
          have h77 := heap_on H76.out ho7 (by omega)
          have z0 := cell_of_heap h77 (j := 0) rfl
          have y0 := frozen_of_heap (j := 0) h77
          have z1 := cell_of_heap h77 (j := 1) rfl
          have y1 := frozen_of_heap (j := 1) h77
          have z2 := cell_of_heap h77 (j := 2) rfl
          have y2 := frozen_of_heap (j := 2) h77
          have z3 := cell_of_heap h77 (j := 3) rfl
          have y3 := frozen_of_heap (j := 3) h77
          have z4 := cell_of_heap h77 (j := 4) rfl
          have y4 := frozen_of_heap (j := 4) h77
          have z5 := cell_of_heap h77 (j := 5) rfl
          have y5 := frozen_of_heap (j := 5) h77
          have z6 := cell_of_heap h77 (j := 6) rfl
          have y6 := frozen_of_heap (j := 6) h77
          have z7 := cell_of_heap h77 (j := 7) rfl
          have y7 := frozen_of_heap (j := 7) h77
          have z8 := cell_of_heap h77 (j := 8) rfl
          have y8 := frozen_of_heap (j := 8) h77
          have HN7 := Lib.hid (HN6.out.onT HT6.out ho7)
          have HP37 := Lib.hid (heap_on HP36.out ho7 (by omega))
          have HP27 := Lib.hid (heap_on HP26.out ho7 (by omega))
          have HT7 := Lib.hid ht7
          have HO7 := Lib.hid (HO6.out.trans ho7)
          have H77 := Lib.hid h77
          have HNY := Lib.hid hny
          have HGY := Lib.hid hgy
          clear hnd hny hgy ht7 ho7 hla had hab hyA h77 HT6 HN6 HP36 HP26 HY6 HO6 H76 HO36

          go_wp2_with fail
          go_meet
          refine ⟨y, As, Ad, Ab, cs, cd, cb, sy, Lib.hid (HND7.out.map fun _ _ _ _ h => h.onp H77.out (by decide) (onp_cells (nodeC y As Ad Ab cs cd cb) w7 0)), Lib.hid (heap_set9 (l := nodeC y As Ad Ab cs cd cb) H77.out rfl), HNY, HGY, Lib.hid (tm_cells (nodeC y As Ad Ab cs cd cb) w7 0 HT7.out hg7), Lib.hid ?_, Lib.hid (heap_on HP37.out (onp_cells (nodeC y As Ad Ab cs cd cb) w7 0) ?_), Lib.hid (heap_on HP27.out (onp_cells (nodeC y As Ad Ab cs cd cb) w7 0) (by omega)), Lib.hid (on_cells HO7.out hw7 (nodeC y As Ad Ab cs cd cb) 0)⟩
          · exact HN7.out.onq H77.out (by decide) (fun b e e2 => by have := hob b e; omega) (onp_cells (nodeC y As Ad Ab cs cd cb) w7 0)
          · omega
        · go_wp2_with fail
          go_meet
          refine ⟨⟨1, 0, 0, sh5, lo5, hi5, 0, [], []⟩, A5, none, none, c5, 0, 0, sh5, Lib.hid ⟨⟨HY6.out, ZY.none_ _, ZY.none_ _⟩, ?_, by simp, by simp⟩, Lib.hid H76.out, Lib.hid (mk_input HSH5.out l51 l52 l53 l54), Lib.hid (good_shapes8 HSH5.out), HT6, HN6, HP36, HP26, HO6⟩
          have := (entN_len (by have := (good_ent (good_shapes8 HSH5.out)).1; omega : 0 < entN sh5)).2
          show sh5.length ≤ 1000
          omega
      case rest =>
        obtain ⟨y, As, Ad, Ab, cs, cd, cb, sy, HND, HY7, HNY, HGY, HTW, HNW, HP3W, HP2W, HOW⟩ := hcut
        have q0 := cell_of_heap HP3W.out (j := 0) rfl
        have q1 := cell_of_heap HP3W.out (j := 1) rfl
        have e0 := cell_of_heap HY7.out (j := 0) rfl
        have e1 := cell_of_heap HY7.out (j := 1) rfl
        have e2 := cell_of_heap HY7.out (j := 2) rfl
        have e3 := cell_of_heap HY7.out (j := 3) rfl
        have e4 := cell_of_heap HY7.out (j := 4) rfl
        have e5 := cell_of_heap HY7.out (j := 5) rfl
        have e6 := cell_of_heap HY7.out (j := 6) rfl
        have e7 := cell_of_heap HY7.out (j := 7) rfl
        have e8 := cell_of_heap HY7.out (j := 8) rfl
        obtain ⟨us, ho, hu⟩ := HNW.out
        have HOR := Lib.hid ho
        have HU := Lib.hid hu
        have hws := HOW.out.size
        clear ho hu
        go_wp2_with (at_builtin; go_loud (refine wpList_append_own _ rfl _ _ 24 rfl w.heap.size 40 i0' (.agg #[.int .i64 0, .int .i64 0, .int .i64 0, .slice none 0 0, .int .i64 0, .int .i64 0, .int .i64 0, .slice none 0 0, .slice none 0 0]) 9 120 Try.underlying24 hii hz0 hz1 hz2 rfl (by decide) _ _ _ rfl (HOR.out.alloc _) ⟨_, 0, none⟩ 1 1 (nodeC y As Ad Ab cs cd cb) rfl rfl (nine_cellM rfl) nine_one (by unfold maxLen; omega) (by omega) (by simp; omega) ?_; intro v3 w9 hown3 hgrow3 _; obtain ⟨A3, c3, rfl⟩ := own_slice hown3; have ka : Ext wc (wc.alloc (.cells (nodeC y As Ad Ab cs cd cb).toArray 40)) := (Ext.refl _).alloc _; have g3 := heap_grown ((ka.block p3 (Array.getElem?_eq_some_iff.1 HP3W.out).1).trans HP3W.out) (by decide) (HOR.out.alloc _) hgrow3; have g4 := two_store g3 (.slice A3 (nodes.length + 1) c3); have x0 := cell_of_heap g3 (j := 0) rfl; have x1 := frozen_of_heap (j := 0) g3; have x2 := cell_of_heap g4 (j := 0) rfl; have x3 := cell_of_heap g4 (j := 1) rfl; have x4 := frozen_of_heap (j := 1) g4))
        have kb : Ext wc (wc.alloc (.cells (nodeC y As Ad Ab cs cd cb).toArray 40)) := (Ext.refl _).alloc _
        have ho9 := HOR.out.alloc (.cells (nodeC y As Ad Ab cs cd cb).toArray 40)
        have k3 : On p3 w9 ((w9.setCell ⟨p3, 0, none⟩ (.slice A3 (nodes.length + 1) c3)).setCell ⟨p3, 1, none⟩ (.int .i64 (nodes.length : Int))) := ((On.refl p3 w9).set 0 _).set 1 _
        have hn9 : NsY w.heap.size w9 (.slice A3 (nodes.length + 1) c3) (nodes ++ [y]) := NsY.push rfl ho9 (fun j x hx => by
          obtain ⟨As', Ad', Ab', cs', cd', cb', h1, h2⟩ := HU.out j x hx
          exact ⟨As', Ad', Ab', cs', cd', cb', h1.map fun _ _ _ _ h => h.ext kb, h2⟩) (HND.out.map fun _ _ _ _ h => h.ext kb) hgrow3 hown3
        have ht9 : TM w9 g := tm_grown (HTW.out.keep kb) ho9 hgrow3 hgl
        have ho9w : On g w w9 := on_grown (HOW.out.trans (On.of kb)) ho9 (Nat.le_refl _) hgrow3
        have hp29 := heap_grown ((kb.block w.heap.size (Array.getElem?_eq_some_iff.1 HP2W.out).1).trans HP2W.out) (by decide) ho9 hgrow3
        refine ⟨⟨d - 1, _, nodes ++ [y], shs ++ [sy], ?_, by omega, by simp; omega, by simp, Lib.hid (ht9.on k3 (by omega)), Lib.hid ?_, Lib.hid (hn9.onp g3 (by decide) (by decide) k3), Lib.hid (chk_push nodes [] shs y sy hC.out HNY.out), Lib.hid ?_, Lib.hid (on_cells ho9w (by omega) [.slice A3 (nodes.length + 1) c3, .int .i64 (nodes.length : Int)] 0), Lib.hid (heap_on hp29 k3 (by omega))⟩, by simp [intOf]; omega⟩
        · rw [show ((d - 1 : Nat) : Int) = (d : Int) - 1 by omega]
        · have := setCell_heap_two g4 (.int .i64 (nodes.length : Int))
          rw [this]
          simp
        · intro s hs
          rcases List.mem_append.1 hs with h | h
          · exact hG.out s h
          · simp at h
            subst h
            exact HGY.out
    · obtain rfl : d = 0 := by omega
      obtain ⟨A, c, rfl, hgx⟩ := hN.out.gx
      clear hgx
      go_wp2_with fail
      refine (mkNext_any g 6 wr hT2 (by omega) (by omega)).mono ?_
      rintro e3 w3 ⟨v3, rfl, v30, v31, ht3, ho3⟩
      have HT3 := Lib.hid ht3
      have HN3 := Lib.hid (hN.out.onT hT2.out ho3)
      have HP33 := Lib.hid (heap_on hP3.out ho3 (by omega))
      have HPQ2 := Lib.hid (heap_on hP2.out ho3 (by omega))
      have HO3 := Lib.hid (hO.out.trans ho3)
      have q0 := cell_of_heap HP33.out (j := 0) rfl
      have q1 := cell_of_heap HP33.out (j := 1) rfl
      clear ht3 ho3 v31
      by_cases hv1 : v3 = 1
      · have hvb : (v3 == 1) = true := by rw [hv1]; rfl
        clear hv1
        go_wp2_with fail
        refine (mkNext_any g (nodes.length : Int) w3 HT3 (by omega) (by omega)).mono ?_
        rintro e4 w4 ⟨v4, rfl, v40, v41, ht4, ho4⟩
        obtain ⟨o4, rfl⟩ := Int.eq_ofNat_of_zero_le v40
        have ho4l : o4 < nodes.length := by omega
        have HT4 := Lib.hid ht4
        have HN4 := Lib.hid (HN3.out.onT HT3.out ho4)
        have hp4 := heap_on HP33.out ho4 (by omega)
        have hq4 := heap_on HPQ2.out ho4 (by omega)
        have HO4 := Lib.hid (HO3.out.trans ho4)
        have r0 := cell_of_heap hp4 (j := 0) rfl
        have r1 := cell_of_heap hp4 (j := 1) rfl
        have r2 := frozen_of_heap (j := 1) hp4
        have hp5 := setCell_heap_two hp4 (.int .i64 (o4 : Int))
        have r3 := cell_of_heap hp5 (j := 0) rfl
        have r4 := cell_of_heap hp5 (j := 1) rfl
        have k5 : On p3 w4 (w4.setCell ⟨p3, 1, none⟩ (.int .i64 (o4 : Int))) := (On.refl p3 w4).set 1 _
        have HPQ2 := Lib.hid (heap_on hq4 k5 (by omega))
        have HNQ := Lib.hid (HN4.out.onp hp4 (by decide) (by decide) k5)
        have HTQ := Lib.hid (HT4.out.on k5 (by omega))
        have HOQ := Lib.hid (on_cells HO4.out (by omega : w.heap.size ≤ p3) [.int .i64 (o4 : Int)] 1)
        clear ht4 ho4 v40 v41 q0 q1 hq4
        have dz0 := cell_of_heap HPQ2.out (j := 0) rfl
        have dz1 := cell_of_heap HPQ2.out (j := 1) rfl
        have fz0 := frozen_of_heap (j := 0) HPQ2.out
        have fz1 := frozen_of_heap (j := 1) HPQ2.out
        go_wp2
        refine bodyPost_ret (v := .agg #[.slice A nodes.length c, .int .i64 (o4 : Int)]) (by simp [results, Try.results16, go_sem, dz0, dz1]) rfl ⟨.slice A nodes.length c, nodes, o4, shs, rfl, HNQ.out.onp HPQ2.out (by decide) (by decide) (onp_cells [.slice A nodes.length c, .int .i64 (o4 : Int)] (w4.setCell ⟨p3, 1, none⟩ (.int .i64 (o4 : Int))) 0), hn0, by omega, by omega, hC.out, hG.out, tm_cells [.slice A nodes.length c, .int .i64 (o4 : Int)] (w4.setCell ⟨p3, 1, none⟩ (.int .i64 (o4 : Int))) 0 HTQ.out hgl, on_cells HOQ.out (Nat.le_refl _) [.slice A nodes.length c, .int .i64 (o4 : Int)] 0⟩
      · have hvb : (v3 == 1) = false := by simp; exact hv1
        clear hv1
        have HNQ := HN3
        have HTQ := HT3
        have HOQ := HO3
        have dz0 := cell_of_heap HPQ2.out (j := 0) rfl
        have dz1 := cell_of_heap HPQ2.out (j := 1) rfl
        have fz0 := frozen_of_heap (j := 0) HPQ2.out
        have fz1 := frozen_of_heap (j := 1) HPQ2.out
        go_wp2
        refine bodyPost_ret (v := .agg #[.slice A nodes.length c, .int .i64 ((nodes.length : Int) - 1)]) (by simp [results, Try.results16, go_sem, dz0, dz1]) rfl ⟨.slice A nodes.length c, nodes, nodes.length - 1, shs, by rw [show ((nodes.length - 1 : Nat) : Int) = (nodes.length : Int) - 1 by omega], HNQ.out.onp HPQ2.out (by decide) (by decide) (onp_cells [.slice A nodes.length c, .int .i64 ((nodes.length : Int) - 1)] w3 0), hn0, by omega, by omega, hC.out, hG.out, tm_cells [.slice A nodes.length c, .int .i64 ((nodes.length : Int) - 1)] w3 0 HTQ.out hgl, on_cells HOQ.out (Nat.le_refl _) [.slice A nodes.length c, .int .i64 ((nodes.length : Int) - 1)] 0⟩
end Go.Proofs.Ytdnjjpkajiehgaa
