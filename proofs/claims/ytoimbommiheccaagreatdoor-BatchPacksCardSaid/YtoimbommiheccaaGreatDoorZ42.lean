/-
  What the document's Pack answers.
-/
import Derived.Test.YtoimbommiheccaaGreatDoorZ41
import Derived.Test.YtoimbommiheccaaGreatDoorZ30
namespace Go.Proofs.YtoimbommiheccaaGreatDoor
open Go.RowKit
set_option linter.unusedVariables false
set_option maxRecDepth 100000

theorem lif_eq {z : Int} {y q : Nat} (hy : y < q) (h : M (q : Int) (y : Int) z) : y = lif z q := by
  unfold M at h
  rw [Int.emod_eq_of_lt (by omega) (by omega)] at h
  unfold lif
  omega
theorem lif_M {z : Int} {q : Nat} (hq : 0 < q) : M (q : Int) (lif z q : Int) z := by
  unfold lif M
  rw [Int.toNat_of_nonneg (Int.emod_nonneg _ (by omega)), Int.emod_emod]
/-- The document's coefficient. -/
def packS (n T r part m : Nat) (z : Nat → Int) (k : Nat) : Nat := lif (S m (bringS n T r z k) * (part : Int)) T
theorem bring_step {n T r k i u x aa bb s1 s2 s3 : Nat} {z : Nat → Int} (hT : 0 < T) (hu : u = lif (S i (bringS n T r z k)) T) (hx : x = lif (z i) T) (ha : aa = r ^ (2 * n - expB n i k) % T) (hb : bb = r ^ expB n i k % T) (h1 : s1 = (aa + bb) % T) (h2 : s2 = x * s1 % T) (h3 : s3 = (u + s2) % T) :
    s3 = lif (S (i + 1) (bringS n T r z k)) T := by
  refine lif_eq (by rw [h3]; exact Nat.mod_lt _ hT) ?_
  rw [h3]
  refine (M.nat _).trans ?_
  rw [Int.natCast_add, S]
  refine M.add (by rw [hu]; exact lif_M hT) ?_
  rw [h2]
  refine (M.nat _).trans ?_
  rw [Int.natCast_mul]
  unfold bringS
  rw [hx]
  refine M.rfl.mul ?_
  rw [h1]
  refine (M.nat _).trans ?_
  rw [Int.natCast_add, ha, hb]
  refine M.add ((M.nat _).trans (M.of (Int.natCast_pow _ _))) ((M.nat _).trans (M.of (Int.natCast_pow _ _)))
set_option maxHeartbeats 8000000 in
theorem refPack_any {n T x m cv part : Nat} {Wd : Int} {A : Option Addr} {L c : Nat} {Av : Option Addr} {z : Nat → Int} {w : World} (hR : Rt n T x) (hV : VX w Av m cv z) (hm : m ≤ n / 2) (hz : Hid (∀ i, i < m → -9223372036854775808 ≤ z i ∧ z i < 9223372036854775808)) (hpt : Hid (part = n ^ (T - 2) % T)) (hr : rootS T (2 * n) x < T) :
    Calls Tryz.prog 17 #[.agg #[.int .i64 (n : Int), .int .u64 (T : Int), .slice A L c, .int .i64 Wd], .slice Av m cv] w fun ee w' => ∃ A2 c2, ee = .returned (.slice A2 n c2) ∧ FX w' A2 n c2 (packS n T (rootS T (2 * n) x) part m z) ∧ Ext w w' := by
  have HV := Lib.hid hV
  have HR := Lib.hid hR
  obtain ⟨hle0, hle1, hle2⟩ := sml_le hR.sml
  have hT3 := hR.t3
  have hT30 := hR.t30
  have hptl : part < T := by rw [hpt.out]; exact Nat.mod_lt _ (by omega)
  clear hV hR
  obtain ⟨i0, hi, hz0, hz1, hz2⟩ := info_parts info_u64
  have kV : Ext w (w.alloc (.cells #[.int .i64 (n : Int), .int .u64 (T : Int), .slice A L c, .int .i64 Wd] 25)) := (Ext.refl w).alloc _
  obtain ⟨x0, x1, x2, x3⟩ := four_at w (.int .i64 (n : Int)) (.int .u64 (T : Int)) (.slice A L c) (.int .i64 Wd) 25
  go_enter Tryz.func17, Tryz.ntmps17
  go_wp2_with fail
  generalize w.alloc (.cells #[.int .i64 (n : Int), .int .u64 (T : Int), .slice A L c, .int .i64 Wd] 25) = V0 at *
  refine (rootW HR.out V0).mono ?_
  rintro e V1 ⟨rfl, k1⟩
  replace x0 := cell_ext k1 x0
  replace x1 := cell_ext k1 x1
  replace kV := kV.trans k1
  obtain ⟨r, hrd⟩ : ∃ r, r = rootS T (2 * n) x := ⟨_, rfl⟩
  rw [← hrd] at hr ⊢
  have HRD := Lib.hid hrd
  clear x2 x3 k1 hrd
  have hpow := powW (a := n) (d := T - 2) (n := T) hpt V1 (by omega) (by omega) (by omega) (by omega)
  rw [show ((T - 2 : Nat) : Int) = (T : Int) - 2 by omega] at hpow
  have HPW := Lib.hid hpow
  clear hpow
  go_wp2_with fail
  refine HPW.out.mono ?_
  rintro e V ⟨rfl, k1⟩
  replace x0 := cell_ext k1 x0
  replace x1 := cell_ext k1 x1
  replace kV := kV.trans k1
  clear HPW k1
  go_wp2
  go_loopw [8, 9] (fun s iv wr => ∃ (k : Nat) (A0 : Option Addr) (c0 : Nat), k ≤ n ∧ iv = .int .i64 (k : Int) ∧ s = .slice A0 k c0 ∧ LR V.heap.size V wr (.slice A0 k c0) k (packS n T r part m z)) (fun _ iv _ => n - (intOf iv).toNat)
  case atStart => exact ⟨0, none, 0, by omega, rfl, rfl, LR.nil _ _⟩
  case round =>
    obtain ⟨k, A0, c0, hk, rfl, rfl, hlr⟩ := hrel
    have kz : Ext V wr := hlr.2
    have hzs := hlr.2.size
    have y0 := cell_ext kz x0
    have y1 := cell_ext kz x1
    by_cases hlt : k < n
    · have e1 : decide ((k : Int) < (n : Int)) = true := decide_eq_true (by omega)
      have HLR := Lib.hid hlr
      clear hlr
      obtain ⟨wo, rfl⟩ : ∃ x, x = wr := ⟨_, rfl⟩
      go_wp2
      go_loopw [10, 11] (fun sv iv wz => ∃ (i u : Nat), i ≤ m ∧ iv = .int .i64 (i : Int) ∧ sv = .int .u64 (u : Int) ∧ u < T ∧ Hid (u = lif (S i (bringS n T r z k)) T) ∧ Ext wo wz) (fun _ iv _ => m - (intOf iv).toNat)
      case atStart => exact ⟨0, 0, by omega, rfl, rfl, by omega, Lib.hid (by simp [S, lif]), Ext.refl _⟩
      case round =>
        obtain ⟨i, u, him, rfl, rfl, hul, hu, kw⟩ := hrel
        have c0' := cell_ext kw y0
        have c1' := cell_ext kw y1
        by_cases hil : i < m
        · have e2 : decide ((i : Int) < (n : Int) / 2) = true := decide_eq_true (by omega)
          have e3 : decide ((i : Int) < (m : Int)) = true := decide_eq_true (by omega)
          obtain ⟨ad, rfl, hc⟩ := (HV.out.ext ((kV.trans kz).trans kw)).cells (by omega)
          have hcell := hc i hil
          obtain ⟨v0, v1⟩ := hz.out i hil
          clear hc
          obtain ⟨P, hP⟩ : ∃ P, P = pw3 n i := ⟨_, rfl⟩
          have hPl : P < 2 * n := by rw [hP]; exact Nat.mod_lt _ (by omega)
          obtain ⟨PK, hPK⟩ : ∃ PK, PK = P * k := ⟨_, rfl⟩
          have hPKl : PK ≤ 128 * 64 := by rw [hPK]; exact Nat.mul_le_mul (by omega) (by omega)
          have hPKz : (P : Int) * (k : Int) = (PK : Int) := by rw [hPK, Int.natCast_mul]
          obtain ⟨E, hE⟩ : ∃ E, E = expB n i k := ⟨_, rfl⟩
          have hEl : E < 2 * n := by rw [hE]; exact Nat.mod_lt _ (by omega)
          have hEP : E = PK % (2 * n) := by rw [hE, hPK, hP]; rfl
          have m1 : (PK : Int).tmod (2 * (n : Int)) = (E : Int) := by
            rw [Int.tmod_eq_emod_of_nonneg (by omega), show 2 * (n : Int) = ((2 * n : Nat) : Int) by omega, ← Int.natCast_emod, ← hEP]
          have m2 : (PK : Int) % (2 * (n : Int)) = (E : Int) := by
            rw [show 2 * (n : Int) = ((2 * n : Nat) : Int) by omega, ← Int.natCast_emod, ← hEP]
          have hnz : ((2 * (n : Int)) == 0) = false := by simp; omega
          have hnz2 : ¬ (2 * (n : Int)) = 0 := by omega
          have w1 : IntKind.i64.wrap (PK : Int) = (PK : Int) := by rw [IntKind.wrap_i64]; omega
          have w2 : IntKind.i64.wrap (2 * (n : Int)) = 2 * (n : Int) := by rw [IntKind.wrap_i64]; omega
          have w3 : IntKind.i64.wrap (E : Int) = (E : Int) := by rw [IntKind.wrap_i64]; omega
          obtain ⟨xv, hxv⟩ : ∃ xv, xv = lif (z i) T := ⟨_, rfl⟩
          have hxl : xv < T := by rw [hxv]; exact lif_lt (by omega)
          obtain ⟨aa, haa⟩ : ∃ aa, aa = r ^ (2 * n - E) % T := ⟨_, rfl⟩
          have hal : aa < T := by rw [haa]; exact Nat.mod_lt _ (by omega)
          obtain ⟨bb, hbb⟩ : ∃ bb, bb = r ^ E % T := ⟨_, rfl⟩
          have hbl : bb < T := by rw [hbb]; exact Nat.mod_lt _ (by omega)
          obtain ⟨s1, hs1⟩ : ∃ s1, s1 = (aa + bb) % T := ⟨_, rfl⟩
          have hsl1 : s1 < T := by rw [hs1]; exact Nat.mod_lt _ (by omega)
          obtain ⟨s2, hs2⟩ : ∃ s2, s2 = xv * s1 % T := ⟨_, rfl⟩
          have hsl2 : s2 < T := by rw [hs2]; exact Nat.mod_lt _ (by omega)
          obtain ⟨s3, hs3⟩ : ∃ s3, s3 = (u + s2) % T := ⟨_, rfl⟩
          have hsl3 : s3 < T := by rw [hs3]; exact Nat.mod_lt _ (by omega)
          have HST := Lib.hid (bring_step (show 0 < T by omega) hu.out hxv (by rw [haa, hE]) (by rw [hbb, hE]) hs1 hs2 hs3)
          have HP := Lib.hid hP
          have HXV := Lib.hid hxv
          have HA := Lib.hid haa
          have HB := Lib.hid hbb
          have HS1 := Lib.hid hs1
          have HS2 := Lib.hid hs2
          have HS3 := Lib.hid hs3
          have hpA := powW (a := r) (d := 2 * n - E) (n := T) HA
          rw [show ((2 * n - E : Nat) : Int) = 2 * (n : Int) - (E : Int) by omega] at hpA
          have HPA := Lib.hid hpA
          have hpB := powW (a := r) (d := E) (n := T) HB
          have HPB := Lib.hid hpB
          clear hP hPK hE hEP hxv haa hbb hs1 hs2 hs3 hpA hpB hu
          generalize z i = zi at *
          have j0 : (0 : Int) ≤ (i : Int) := by omega
          have j1 : (i : Int) < (m : Int) := by omega
          have kk : Ext wr wr := Ext.refl wr
          go_wp2_with fail
          go_region_held3 (fun w' => w'.cell? ⟨w.heap.size, 1, none⟩ = some (.int .u64 (T : Int)) ∧ w'.cell? (ad.add i) = some (.int .i64 zi)) (go_keep)
            (first
              | (go_at_call 54; refine (rliftY zi T xv _ HXV (by omega) v0 v1 (by omega)).mono ?_; rintro e5 w5 ⟨rfl, k5⟩; replace kk : Ext wr w5 := (by first | exact Ext.trans kk k5 | exact Ext.trans (Ext.drew kk) k5); have d0 := cell_ext kk c1'; have d1 := cell_ext kk hcell)
              | fail)
          all_goals
            replace c0' := cell_ext kk c0'
            replace c1' := cell_ext kk c1'
            replace kw := kw.trans kk
            clear hcell
            replace kk : Ext w5 w5 := Ext.refl w5
            go_wp2_with fail
            go_region_held3 (fun w' => w'.cell? ⟨w.heap.size, 0, none⟩ = some (.int .i64 (n : Int))) (go_keep)
              (first
                | (go_at_call 55; refine (powerW HR.out.sml (by omega) HP _).mono ?_; rintro e6 w6 ⟨rfl, k6⟩; replace kk : Ext w5 w6 := (by first | exact Ext.trans kk k6 | exact Ext.trans (Ext.drew kk) k6); have d0 := cell_ext kk c0')
                | fail)
            all_goals
              replace c0' := cell_ext kk c0'
              replace c1' := cell_ext kk c1'
              replace kw := kw.trans kk
              go_wp2_with fail
              refine (HPA.out _ (by omega) (by omega) (by omega) (by omega)).mono ?_
              rintro e7 w7 ⟨rfl, k7⟩
              replace c0' := cell_ext k7 c0'
              replace c1' := cell_ext k7 c1'
              replace kw := kw.trans k7
              go_wp2_with fail
              refine (HPB.out _ (by omega) (by omega) (by omega) (by omega)).mono ?_
              rintro e8 w8 ⟨rfl, k8⟩
              replace c0' := cell_ext k8 c0'
              replace c1' := cell_ext k8 c1'
              replace kw := kw.trans k8
              have kn : Ext w8 w8 := Ext.refl w8
              go_wp2_with fail
              go_region_held3 (fun w' => w'.cell? ⟨w.heap.size, 1, none⟩ = some (.int .u64 (T : Int))) (go_keep)
                (first
                  | (go_at_call_of 56 s2; refine (raddG u s2 T _ HS3 (by omega) (by omega) (by omega) (by omega)).mono ?_; rintro e9 w9 ⟨rfl, k9⟩; replace kn : Ext w8 w9 := (by first | exact Ext.trans kn k9 | exact Ext.trans (Ext.drew kn) k9); have d0 := cell_ext kn c1')
                  | (go_at_call 57; refine (rmulG xv s1 T _ HS2 (by omega) (by omega) (by omega) (by omega)).mono ?_; rintro e9 w9 ⟨rfl, k9⟩; replace kn : Ext w8 w9 := (by first | exact Ext.trans kn k9 | exact Ext.trans (Ext.drew kn) k9); have d0 := cell_ext kn c1')
                  | (go_at_call_of 56 aa; refine (raddG aa bb T _ HS1 (by omega) (by omega) (by omega) (by omega)).mono ?_; rintro e9 w9 ⟨rfl, k9⟩; replace kn : Ext w8 w9 := (by first | exact Ext.trans kn k9 | exact Ext.trans (Ext.drew kn) k9); have d0 := cell_ext kn c1')
                  | fail)
              all_goals
                have kf := kw.trans kn
                go_wp2
                exact ⟨⟨i + 1, s3, by omega, by go_num, rfl, hsl3, HST, kf⟩, by simp [intOf]; omega⟩
        · obtain rfl : i = m := by omega
          obtain ⟨y, hy⟩ : ∃ y, y = u * part % T := ⟨_, rfl⟩
          have hyl : y < T := by rw [hy]; exact Nat.mod_lt _ (by omega)
          have HYP := Lib.hid (show y = packS n T r part i z k by
            unfold packS
            refine lif_eq hyl ?_
            rw [hy]
            refine (M.nat _).trans ?_
            rw [Int.natCast_mul, hu.out]
            exact (lif_M (by omega)).mul M.rfl)
          have HY := Lib.hid hy
          have e3 : decide ((i : Int) < (i : Int)) = false := decide_eq_false (by omega)
          clear hy
          have hlr2 := HLR.out.ext kw (by omega)
          have hs2 := kw.size
          by_cases hih : i < n / 2
          · have e2 : decide ((i : Int) < (n : Int) / 2) = true := decide_eq_true (by omega)
            go_wp2_with fail
            refine (rmulG u part T wr HY (by omega) (by omega) (by omega) (by omega)).mono ?_
            rintro e5 w5 ⟨rfl, k5⟩
            have hlr3 := hlr2.ext k5 (by omega)
            have hs5 := k5.size
            go_wp2_with (at_builtin; go_loud (refine wpList_append_own _ rfl _ _ 23 rfl V.heap.size 22 i0 (.int .u64 0) 1 8 Tryz.underlying23 hi hz0 hz1 hz2 rfl (by decide) _ _ _ rfl (hlr3.alloc _) ⟨_, 0, none⟩ 1 1 [.int .u64 (y : Int)] rfl rfl one_cell one_int (by unfold maxLen; omega) (by omega) (by simp; omega) ?_; intro v3 w3 hown3 hgrow3 _; obtain ⟨A6, c6, rfl⟩ := own_slice hown3))
            exact ⟨⟨k + 1, A6, c6, by omega, by go_num, rfl, hlr3.push (by omega) HYP.out hown3 hgrow3⟩, by simp [intOf]; omega⟩
          · have e2 : decide ((i : Int) < (n : Int) / 2) = false := decide_eq_false (by omega)
            go_wp2_with fail
            refine (rmulG u part T wr HY (by omega) (by omega) (by omega) (by omega)).mono ?_
            rintro e5 w5 ⟨rfl, k5⟩
            have hlr3 := hlr2.ext k5 (by omega)
            have hs5 := k5.size
            go_wp2_with (at_builtin; go_loud (refine wpList_append_own _ rfl _ _ 23 rfl V.heap.size 22 i0 (.int .u64 0) 1 8 Tryz.underlying23 hi hz0 hz1 hz2 rfl (by decide) _ _ _ rfl (hlr3.alloc _) ⟨_, 0, none⟩ 1 1 [.int .u64 (y : Int)] rfl rfl one_cell one_int (by unfold maxLen; omega) (by omega) (by simp; omega) ?_; intro v3 w3 hown3 hgrow3 _; obtain ⟨A6, c6, rfl⟩ := own_slice hown3))
            exact ⟨⟨k + 1, A6, c6, by omega, by go_num, rfl, hlr3.push (by omega) HYP.out hown3 hgrow3⟩, by simp [intOf]; omega⟩
    · obtain rfl : k = n := by omega
      have e1 : decide ((k : Int) < (k : Int)) = false := decide_eq_false (by omega)
      obtain ⟨A3, c3, e3, htx⟩ := hlr.tx (fun i _ => by have : packS k T r part m z i < T := lif_lt (by omega); omega)
      injection e3 with e31 _ e32
      subst e31 e32
      have HTX := Lib.hid htx.fx
      clear htx hlr
      go_wp2
      go_ret
      exact ⟨_, _, rfl, by rw [← HRD.out]; exact HTX.out, kV.trans kz⟩
end Go.Proofs.YtoimbommiheccaaGreatDoor

/-
  The law BatchPacks walked: any row of any parameters is packed as the document says, or refused; it stays.
-/
namespace Go.Proofs.YtoimbommiheccaaGreatDoor
open Go.RowKit
set_option linter.unusedVariables false
set_option maxRecDepth 100000

theorem smallF_all {n : Nat} : ∀ (l : List Nat) (r : Bool), smallF n l r = true → n ∈ l ∨ r = true
  | [], r, h => .inr h
  | b :: bs, r, h => by
    rw [smallF] at h
    cases e : Nat.beq (n % b) 0 with
    | true =>
      rw [e, cond_true] at h
      exact .inl (by rw [Nat.eq_of_beq_eq_true h]; exact List.mem_cons_self)
    | false =>
      rw [e, cond_false] at h
      rcases smallF_all bs r h with g | g
      · exact .inl (List.mem_cons_of_mem _ g)
      · exact .inr g
theorem in_l12 : ∀ a ∈ L12, a % 16 = 1 → strongS a 2 = true := by decide +kernel
theorem plain_two {n T : Nat} (hn : Sml n) (hT : PlainP n T) : T % 2 = 1 ∧ ¬ 2 ∣ T ∧ strongS T 2 = true := by
  have h16 : T % 16 = 1 := by
    have h1 := hT.2.1
    have h2 := Nat.mod_mul_right_mod T 16 (n / 8)
    have h3 : 16 * (n / 8) = 2 * n := by rcases hn with rfl | rfl | rfl | rfl <;> omega
    rw [h3, h1] at h2
    rw [← h2]
  refine ⟨by omega, fun h => by omega, ?_⟩
  have hs := hT.2.2
  have hg := isS_ge hs
  unfold isS at hs
  rw [blt_iff, decide_eq_false (by omega), cond_false] at hs
  rcases smallF_all _ _ hs with g | g
  · exact in_l12 T g h16
  · exact List.all_eq_true.1 g 2 (by decide)
theorem i64R_len (n : Nat) (z : Nat → Int) : (i64R n z).length = n := by simp [i64R]
theorem i64R_one {n : Nat} {z : Nat → Int} : ∀ u ∈ i64R n z, u.oneCell' = true := by
  intro u hu
  obtain ⟨_, _, rfl⟩ := List.mem_map.1 hu
  rfl
theorem own_emptyI (w0 : World) : (w0.alloc (.cells #[] 3)).ownsRow w0.heap.size 3 1 (.slice (some ⟨w0.heap.size, 0, none⟩) 0 0) 0 [] :=
  ⟨rfl, .inr ⟨w0.heap.size, 0, #[], rfl, Nat.le_refl _, (show (w0.heap.push (.cells #[] 3))[w0.heap.size]? = _ by simp), Nat.le_refl _, Nat.zero_le _, rfl, rfl⟩⟩
theorem wpList_copyI {w0 : World} {ops : Array Oper} {rest : List Oper} {o : Oper} {a : Act} {Q : Exit → Act → World → Prop} (hgd : o.guard = none) (s x : Operand)
    (ho : o.op = .call { callee := .builtin .append, args := #[s, x], argTypes := #[26, 26] })
    (g : Nat) (hg : g = w0.heap.size) (A : Option Addr) (n c : Nat) (z : Nat → Int) (hs : a.eval s = .slice (some ⟨g, 0, none⟩) 0 0) (hx : a.eval x = .slice A n c) (hX : VX w0 A n c z) (hn : n ≤ 1000)
    (h : ∀ A2 c2 w', VX w' A2 n c2 z → Ext w0 w' → wpList Tryz.prog ops Q rest (a.put o.dst (.slice A2 n c2)) w') : wpList Tryz.prog ops Q (o :: rest) a (w0.alloc (.cells #[] 3)) := by
  obtain ⟨i0, hi, hz0, hz1, hz2⟩ := info_parts info_intB
  subst hg
  have hX' : VX (w0.alloc (.cells #[] 3)) A n c z := hX.ext ((Ext.refl w0).alloc _)
  rcases A with _ | ad
  · have hn0 : n = 0 := by
      rcases Nat.eq_zero_or_pos n with h0 | h0
      · exact h0
      · obtain ⟨ad, e, _⟩ := hX.cells h0
        cases e
    subst hn0
    refine wpList_plain hgd fun K hK => ?_
    have hrun := run_append_nothing (P := Tryz.prog) (w0.alloc (.cells #[] 3)) 26 26 o.type 3 i0 Tryz.underlying26 hi (some ⟨w0.heap.size, 0, none⟩) 0 0 (Nat.le_refl _) (.slice none 0 c) (Src.ofNil _ Tryz.underlying26 c)
    unfold Oper.wp
    simp [execOp, ho, resolve, invoke, builtin, hs, hx, hrun, Result.andThen]
    exact hK _ _ (h _ _ _ ⟨Nat.zero_le _, fun h => absurd h (by omega)⟩ ((Ext.refl w0).alloc _))
  · refine wpList_append_own _ hgd s x 26 ho w0.heap.size 3 i0 (.int .i64 0) 1 8 Tryz.underlying26 hi hz0 hz1 hz2 rfl (by decide) _ _ _ hs (own_emptyI w0) ad n c (i64R n z) hx (by rw [i64R_len]; simp) (fun j u hu => ?_) i64R_one (by unfold maxLen; omega) (by omega) (by simp) ?_
    · unfold i64R at hu
      rw [List.getElem?_map] at hu
      by_cases hj : j < n
      · rw [List.getElem?_range hj] at hu
        simp only [Option.map_some, Option.some.injEq] at hu
        obtain ⟨ad', e, hc⟩ := hX'.cells (by omega)
        injection e with e
        subst e
        rw [← hu]
        exact hc j hj
      · rw [List.getElem?_eq_none (by simp; omega)] at hu
        cases hu
    · intro v2 w2 hown2 hgrow2 _
      have hir : IR w0.heap.size w0 w2 v2 n z := ⟨by simpa using hown2, by
        refine Below.grown ((Ext.refl w0).alloc _) hgrow2 (by simp) (fun k e => ?_)
        simp [Value.ownBlock] at e
        omega⟩
      obtain ⟨A2, c2, rfl, hv⟩ := hir.vx
      exact h A2 c2 w2 hv hir.2
set_option maxHeartbeats 8000000 in
theorem batchPacks_walk {N : Int} {T : Nat} {Wd : Int} {A : Option Addr} {L c : Nat} {f : Nat → Nat} {Av : Option Addr} {m cv : Nat} {z : Nat → Int} (w : World) (hP : Hid (PA w N T A L c Wd f)) (hV : VX w Av m cv z) (hm : m ≤ maxLen) (hz : Hid (∀ i, i < m → -9223372036854775808 ≤ z i ∧ z i < 9223372036854775808)) (hT : Tabs w) :
    Calls Tryz.prog 3 #[.agg #[.int .i64 N, .int .u64 (T : Int), .slice A L c, .int .i64 Wd], .slice Av m cv] w fun e w' => e = .returned (.bool true) ∧ Ext w w' := by
  have HT := Lib.hid hT
  have HV := Lib.hid hV
  clear hT hV
  have kV : Ext w (w.alloc (.cells #[.int .i64 N, .int .u64 (T : Int), .slice A L c, .int .i64 Wd] 25)) := (Ext.refl w).alloc _
  obtain ⟨x0, x1, x2, x3⟩ := four_at w (.int .i64 N) (.int .u64 (T : Int)) (.slice A L c) (.int .i64 Wd) 25
  have hL := hP.out.len
  have hml : m ≤ 9223372036854775807 := hm
  clear hm
  go_enter Tryz.func3, Tryz.ntmps3
  go_wp2_with fail
  generalize w.alloc (.cells #[.int .i64 N, .int .u64 (T : Int), .slice A L c, .int .i64 Wd] 25) = V0 at *
  refine (fixed9_any V0 (HT.out.ext kV)).mono ?_
  rintro e V ⟨rfl, k1⟩
  replace x0 := cell_ext k1 x0
  replace x1 := cell_ext k1 x1
  replace x2 := cell_ext k1 x2
  replace x3 := cell_ext k1 x3
  replace kV := kV.trans k1
  clear k1
  go_wp2_with fail
  refine (small_any N (T : Int) Wd A L c V hL).mono ?_
  rintro e w1 (⟨hy, rfl, k1⟩ | ⟨hy, rfl, k1⟩)
  case inr =>
    clear hy
    go_wp2
    go_ret
    exact ⟨rfl, kV.trans k1⟩
  have hN64 := hy.1
  have hL20 := hy.2
  have hN0 := hP.out.n0
  clear hy hL
  replace x0 := cell_ext k1 x0
  replace x1 := cell_ext k1 x1
  replace x2 := cell_ext k1 x2
  replace x3 := cell_ext k1 x3
  replace kV := kV.trans k1
  clear k1
  by_cases hmn : m ≤ 100
  case neg =>
    have e1 : decide (100 < (m : Int)) = true := decide_eq_true (by omega)
    go_wp2
    go_ret
    exact ⟨rfl, kV⟩
  have e1 : decide (100 < (m : Int)) = false := decide_eq_false (by omega)
  go_wp2_with fail
  refine (bnew_any (hP.out.ext kV) (by omega) hN64 (HT.out.ext kV)).mono ?_
  rintro e w2 (⟨hy, rfl, k2⟩ | ⟨hy, p, k, r, v, x, hfx, hrx, rfl, hb, k2⟩)
  · have HN := Lib.hid hy
    clear hy
    replace x0 := cell_ext k2 x0
    replace x1 := cell_ext k2 x1
    replace x2 := cell_ext k2 x2
    replace x3 := cell_ext k2 x3
    replace kV := kV.trans k2
    go_wp2_with fail
    refine (rcheckZ (z := 8) (hP.out.ext kV) (by omega) (Lib.hid (.inr ⟨HN.out, rfl⟩))).mono ?_
    rintro e w3 ⟨rfl, k3⟩
    go_wp2
    go_ret
    exact ⟨rfl, kV.trans k3⟩
  have HPar := Lib.hid hy
  obtain ⟨n, rfl, hn0, hn1⟩ := size_nat (hy 0 (by omega))
  have hs : Sml n := sml_all n (by omega) hn0 (hy 0 (by omega)).2.2
  have hpl : PlainP n T := hy 2 (by omega)
  have hR := rt_of hs hpl hfx
  have hT2 := hy.T2
  have hT30 : T < 1073741824 := hpl.1
  have HB := Lib.hid (show Bt w2 p n T k r v from hb)
  have HS := Lib.hid hs
  have HR := Lib.hid hR
  have HRX := Lib.hid (show r = rootS T (2 * n) x from hrx.out)
  have HRL := Lib.hid (show rootS T (2 * n) x < T from rootS_lt (by omega))
  obtain ⟨part, hpt⟩ : ∃ part, part = n ^ (T - 2) % T := ⟨_, rfl⟩
  have HPU := Lib.hid (show M (T : Int) ((n : Int) * (part : Int)) 1 by
    rw [hpt]
    obtain ⟨q1, q2, q3⟩ := plain_two hs hpl
    exact part_unit hs hR.t3 q1 (by omega) hpl.2.2 q2 q3)
  have HPT := Lib.hid hpt
  clear hy hb hs hpl hR hfx hrx e1 hpt
  replace x0 := cell_ext k2 x0
  replace x1 := cell_ext k2 x1
  replace x2 := cell_ext k2 x2
  replace x3 := cell_ext k2 x3
  replace kV := kV.trans k2
  go_wp2_with fail
  refine (rcheckZ (z := 0) (hP.out.ext kV) (by omega) (Lib.hid (.inl ⟨HPar.out, rfl⟩))).mono ?_
  rintro e w3 ⟨rfl, k3⟩
  have HB3 := Lib.hid (HB.out.ext k3)
  replace x0 := cell_ext k3 x0
  replace x1 := cell_ext k3 x1
  replace x2 := cell_ext k3 x2
  replace x3 := cell_ext k3 x3
  replace kV := kV.trans k3
  clear HPar k2 k3 HB
  go_wp2_with (at_builtin; go_loud (refine wpList_copyI rfl _ _ rfl w3.heap.size rfl Av m cv z rfl rfl (HV.out.ext kV) (by omega) ?_; intro A4 c4 w4 hv4 k4))
  have HV4 := Lib.hid hv4
  clear hv4
  replace x0 := cell_ext k4 x0
  replace x1 := cell_ext k4 x1
  replace x2 := cell_ext k4 x2
  replace x3 := cell_ext k4 x3
  replace kV := kV.trans k4
  have ht2 : (n : Int).tdiv 2 = ((n / 2 : Nat) : Int) := by rw [Int.tdiv_eq_ediv_of_nonneg (by omega)]; omega
  by_cases hlong : n / 2 < m
  · have e2 : decide ((n : Int) / 2 < (m : Int)) = true := decide_eq_true (by omega)
    clear ht2
    go_wp2_with fail
    refine (packLong_any p n T k r v m c4 A4 w4 (HB3.out.ext k4) HS.out hlong (by omega)).mono ?_
    rintro e w5 ⟨rfl, k5⟩
    replace x0 := cell_ext k5 x0
    replace kV := kV.trans k5
    go_wp2_with fail
    refine (sameRow_any A4 Av m m c4 cv z z w5 (HV4.out.ext k5) (HV.out.ext kV) (by omega) (by omega)).mono ?_
    rintro e w6 h6
    obtain ⟨rfl, k6⟩ := tells_yes h6 ⟨rfl, fun _ _ => rfl⟩
    clear h6
    replace x0 := cell_ext k6 x0
    go_wp2
    go_ret
    exact ⟨rfl, kV.trans k6⟩
  have HM := Lib.hid (show m ≤ n / 2 by omega)
  have e2 : decide ((n : Int) / 2 < (m : Int)) = false := decide_eq_false (by omega)
  clear ht2
  go_wp2_with fail
  refine (pack_any p n T k r v m c4 A4 z w4 (HB3.out.ext k4) HS.out HV4.out hz HM.out hT2 hT30).mono ?_
  rintro e w5 ⟨g5, F, rfl, hu5, hF, k5⟩
  have HU := Lib.hid hu5
  have HF := Lib.hid (show Pkd n T v m z F from hF.out)
  clear hu5 hF
  replace x0 := cell_ext k5 x0
  replace x1 := cell_ext k5 x1
  replace x2 := cell_ext k5 x2
  replace x3 := cell_ext k5 x3
  replace kV := kV.trans k5
  go_wp2_with fail
  refine (sameRow_any A4 Av m m c4 cv z z w5 (HV4.out.ext k5) (HV.out.ext kV) (by omega) (by omega)).mono ?_
  rintro e w6 h6
  obtain ⟨rfl, k6⟩ := tells_yes h6 ⟨rfl, fun _ _ => rfl⟩
  clear h6
  replace x0 := cell_ext k6 x0
  replace x1 := cell_ext k6 x1
  replace x2 := cell_ext k6 x2
  replace x3 := cell_ext k6 x3
  replace kV := kV.trans k6
  go_wp2_with fail
  refine (refPack_any (n := n) (T := T) (x := x) (part := part) (z := z) HR.out (HV.out.ext kV) HM.out hz HPT HRL.out).mono ?_
  rintro e w7 ⟨A7, c7, rfl, hx7, k7⟩
  have HS7 := Lib.hid (show SameW n n F (packS n T (rootS T (2 * n) x) part m z) from ⟨rfl, fun i hi => pack_same HB3.out HS.out HM.out HF.out hi HPU.out (lif_lt (by omega)) (by
    rw [HRX.out]
    exact lif_M (by omega))⟩)
  have HX7 := Lib.hid hx7
  clear hx7
  go_wp2_with fail
  refine (sameW_any _ _ n n n c7 F _ w7 ((UW.fx HU.out).ext (k6.trans k7)) HX7.out (by omega) (by omega)).mono ?_
  rintro e w8 h8
  obtain ⟨rfl, k8⟩ := tells_yes h8 HS7.out
  clear h8
  go_wp2
  go_ret
  exact ⟨rfl, kV.trans (k7.trans k8)⟩
end Go.Proofs.YtoimbommiheccaaGreatDoor
