/-
  What Div of package nat answers for all naturals: quotient and rest, or that the divisor is 0.
-/
import Derived.Test.YtcfbemjnkiepdaaNDivP
import Derived.Test.YtcfbemjnkiepdaaNMath4
import Derived.Laws.AppendOwnNone
namespace Go.Proofs.Ytcfbemjnkiepdaa
open Go.RowKit
set_option linter.unusedVariables false

/-- What Div answers. -/
def DivPost (w : World) (N X Y : Nat) (e : Ending) (w' : World) : Prop :=
  (Y = 0 ∧ e = .returned (.tuple #[.slice none 0 0, .slice none 0 0, .int .i64 1]) ∧ Below w.heap.size w w') ∨
  (0 < Y ∧ ∃ A n c A' n' c', e = .returned (.tuple #[.slice A n c, .slice A' n' c', .int .i64 0]) ∧ n ≤ N ∧ n' ≤ N ∧ NR w' w'.heap.size A n c (nw (X / Y)) ∧ NR w' w'.heap.size A' n' c' (nw (X % Y)) ∧ Below w.heap.size w w')

set_option maxHeartbeats 2000000 in
theorem div_any (A A' : Option Addr) (n n' c c' : Nat) (xs ys : List Nat) (w : World) (h : NR w w.heap.size A n c xs) (h' : NR w w.heap.size A' n' c' ys) (hn : n ≤ 100000) (hn' : n' ≤ 100000) :
    Calls Try.prog 40 #[.slice A n c, .slice A' n' c'] w (DivPost w (n + 1) (nv xs) (nv ys)) := by
  obtain ⟨i0, hi, hz0, hz1, hz2⟩ := info_parts info_u64
  go_enter Try.func40, Try.ntmps40
  go_wp2_with fail
  refine (trimmed_any _ _ _ _ xs _ h (by omega)).mono ?_
  rintro e w' ⟨m, hm, rfl, rfl, hr⟩
  go_wp2_with fail
  refine (trimmed_any _ _ _ _ ys _ h' (by omega)).mono ?_
  rintro e w' ⟨m', hm', rfl, rfl, hr'⟩
  by_cases hm0 : m' = 0
  · subst hm0
    have hY := dg_nil W64_two (hr'.eq_nil rfl)
    have HY := Lib.hid hY
    clear hY
    go_wp2
    go_ret3
    exact .inl ⟨HY.out, rfl, Below.refl _ _⟩
  · have hmb : ((m' : Int) == 0) = false := by simpa using hm0
    have hY0 : 0 < nv ys := by
      rcases Nat.eq_zero_or_pos (nv ys) with h0 | h0
      · exfalso
        rw [h0] at hr'
        exact hm0 hr'.len.symm
      · exact h0
    by_cases hlt : m < m'
    · have hXY : nv xs < nv ys := dg_len_lt W64_two (by rw [hr.len, hr'.len]; exact hlt)
      have D1 := Lib.hid (Nat.div_eq_of_lt hXY)
      have D2 := Lib.hid (Nat.mod_eq_of_lt hXY)
      rcases A with _ | ad
      · have hm00 : m = 0 := by
          rcases Nat.eq_zero_or_pos m with h0 | h0
          · exact h0
          · obtain ⟨ad, e, _⟩ := hr.cells h0
            cases e
        subst hm00
        have hX0 := hr.eq_nil rfl
        have HX := Lib.hid hX0
        clear hX0
        go_wp2_with (at_builtin; refine wpList_append_own_none rfl _ _ 37 rfl w.heap.size 22 i0 1 Try.underlying37 hi _ 0 [] rfl (World.ownsRow_nil _ _ _ _) rfl ?_)
        go_ret3
        refine .inr ⟨hY0, none, 0, 0, none, 0, 0, rfl, by omega, by omega, ?_, ?_, Below.refl _ _⟩
        · rw [D1.out]; exact Rd.none_ _ _ _ _ _ _
        · rw [D2.out, HX.out]; exact Rd.none_ _ _ _ _ _ _
      · have hcs : ∀ (j : Nat) (u : Value), (u64s (nw (nv xs)))[j]? = some u → w.cell? (ad.add j) = some u := by
          intro j u hu
          have hl := (List.getElem?_eq_some_iff.1 hu).1
          rw [u64s_length, hr.len] at hl
          obtain ⟨ad', x, e, _, _, hx, hc⟩ := hr.at_ hl
          injection e with e
          subst e
          simp only [u64s, List.getElem?_map, hx, Option.map_some] at hu
          rw [hc]; exact hu
        have HL := Lib.hid (show (u64s (nw (nv xs))).length = m * 1 by rw [u64s_length, hr.len, Nat.mul_one])
        have HC := Lib.hid hcs
        clear hcs
        go_wp2_with (at_builtin; refine wpList_append_own _ rfl _ _ 37 rfl w.heap.size 22 i0 (.int .u64 0) 1 8 Try.underlying37 hi hz0 hz1 hz2 rfl (by decide) _ 0 [] rfl (World.ownsRow_nil _ _ _ _) ad m m (u64s (nw (nv xs))) rfl HL.out HC.out u64s_one (by unfold maxLen; omega) (by omega) (Nat.le_refl _) ?_; intro v1 w1 hown1 hgrow1 _)
        simp only [Nat.zero_add, List.nil_append] at hown1
        obtain ⟨A2, c2, rfl, hr2⟩ := rd_of_own hown1 hr.lt
        go_wp2
        go_ret3
        refine .inr ⟨hY0, none, 0, 0, A2, m, c2, rfl, by omega, by omega, ?_, ?_, (Below.refl _ _).grown hgrow1 (Nat.le_refl _) (fun k e => by cases e)⟩
        · rw [D1.out]; exact Rd.none_ _ _ _ _ _ _
        · rw [D2.out]; exact hr2
    · have hd : decide ((m : Int) < m') = false := by simp; omega
      obtain ⟨ad', t, rfl, hbt, htb, ht, hct⟩ := hr'.at_ (show m' - 1 < m' by omega)
      rw [W64_eq] at htb
      have hlen' := hr'.len
      have hlen := hr.len
      have hX := dg_bound (nv xs)
      rw [hlen] at hX
      have ht2 : (nw (nv ys))[(nw (nv ys)).length - 1]? = some t := by rw [hlen']; exact ht
      obtain ⟨_, _, ht0⟩ := top_bounds ht2
      obtain ⟨s, hs, s64, t0, t1⟩ := shift_of (t : Int) (by omega) (by omega)
      rw [two_pow_cast, ← Int.natCast_mul] at t0 t1
      obtain ⟨y1, y2, y3⟩ := norm_up ht2 s64 (by omega) (by omega)
      rw [hlen'] at y1 y2 y3
      have HS := Lib.hid hs
      have HX := Lib.hid hX
      have Y1 := Lib.hid y1
      have Y2 := Lib.hid y2
      have Y3 := Lib.hid y3
      have HL' := Lib.hid hlen'
      have E1 := Lib.hid (nv_nw (nv xs))
      have E2 := Lib.hid (nv_nw (nv ys))
      clear hs hX y1 y2 y3 t0 t1 ht ht2 hlen hlen'
      go_wp2_with fail
      refine (zeros_any _ _ (by omega) (by omega)).mono ?_
      rintro e w' ⟨rfl, rfl⟩
      rw [HS.out]
      go_wp2_with fail
      refine (shiftedUp_any A m m s (nw (nv xs)) w hr (by omega) s64).mono ?_
      rw [E1.out]
      rintro e w1 ⟨zs, rfl, hrow1, hzs, hzv⟩
      have ZV := Lib.hid hzv
      clear hzv
      have hr1 := (hr'.below hrow1.2).more hrow1.2.size
      go_wp2_with fail
      refine (shiftedUp_any (some ad') m' m' s (nw (nv ys)) w1 hr1 (by omega) s64).mono ?_
      rw [E2.out]
      rintro e w2 ⟨ds0, rfl, hrow2, hds0, hdv⟩
      have DV := Lib.hid hdv
      clear hdv
      go_wp2_with fail
      refine (trimmed_any _ _ _ _ ds0 _ (hrow2.rd hds0) (by omega)).mono ?_
      rintro e w' ⟨md, hmd, rfl, rfl, hrd⟩
      rw [DV.out] at hrd
      obtain rfl : m' = md := by rw [← hrd.len]; exact Y1.out.symm
      obtain ⟨sp1, hsp1, hbk1⟩ := Bk.of_row hrow1
      have g12 := hrow1.base
      have hbk1' : Bk w2 w.heap.size zs sp1 := hbk1.below hrow2.2 g12.2
      have hb02 : Below w.heap.size w w2 := hrow1.2.trans (hrow2.2.mono (by omega))
      have hsz2 := hrow2.base
      have hP : ((m : Int) - m' + 1) = ((m - m' + 1 : Nat) : Int) := by omega
      have HP := Lib.hid hP
      clear hP
      go_wp2_with (at_make; rw [HP.out]; refine wpList_make_full _ rfl _ _ 37 rfl w.heap.size 22 i0 (.int .u64 0) 1 Try.underlying37 hi hz0 hz1 _ _ _ _ (m - m' + 1) rfl rfl rfl rfl (by rw [hz2]; omega) (by unfold maxLen; omega) (by omega) ?_; intro w3 hown3 hgrow3)
      have hD0 : 0 < nv ys * 2 ^ s := Nat.mul_pos hY0 (Nat.two_pow_pos s)
      obtain ⟨sp3, hsp3, hbk3⟩ := bk_made hown3
      have hbk13 : Bk w3 w.heap.size zs sp1 := hbk1'.keep (hgrow3.block _ hbk1'.lt (fun e => by cases e))
      have hrd3 : NR w3 w2.heap.size (some ⟨w1.heap.size, 0, none⟩) m' m' (nw (nv ys * 2 ^ s)) := hrd.grown hgrow3 (Nat.le_refl _) (fun _ e => by cases e)
      have hb03 : Below w.heap.size w w3 := hb02.grown hgrow3 (by omega) (fun _ e => by cases e)
      have hst := Lib.hid (divInv_start HX.out s64 Y2.out (by omega) rfl (by omega) hrow1.len hzs ZV.out)
      have hsz3 := hbk3.lt
      clear hown3 hgrow3
      go_loopw [12] (fun i wr => ∃ (k : Nat) (zs qs : List Nat), k ≤ m - m' + 1 ∧ i = .int .i64 ((k : Int) - 1) ∧ Bk wr w.heap.size zs sp1 ∧ Bk wr w2.heap.size qs sp3 ∧ NR wr w2.heap.size (some ⟨w1.heap.size, 0, none⟩) m' m' (nw (nv ys * 2 ^ s)) ∧ Below w.heap.size w wr ∧ DivInv (nv xs * 2 ^ s) (nv ys * 2 ^ s) m (m - m' + 1) k zs qs) (fun i _ => (intOf i + 1).toNat)
      case atStart => exact ⟨m - m' + 1, zs, _, Nat.le_refl _, by go_num, hbk13, hbk3, hrd3, hb03, hst.out⟩
      case round =>
        obtain ⟨k, rs, qs, hk, rfl, hb1, hb3, hdr, hbl, hinv⟩ := hrel
        have hs1 := hb1.lt
        have hs3 := hb3.lt
        by_cases hk0 : k = 0
        · subst hk0
          obtain ⟨v1, v2⟩ := hinv.done hY0
          have V1 := Lib.hid v1
          have V2 := Lib.hid v2
          have hrl := hinv.1
          have hql := hinv.2.1
          have hrdq := hb3.rd hinv.2.2.2.1 hql (Nat.le_refl _)
          have hrdr := hb1.rd hinv.2.2.1 hrl (Nat.le_refl _)
          have R1 := Lib.hid hrl
          have R2 := Lib.hid hql
          clear v1 v2 hrl hql
          go_wp2_with fail
          refine (own_any _ _ _ _ qs _ hrdq (by omega)).mono ?_
          rintro e w' ⟨A2, m2, c2, hm2, rfl, rfl, hr2⟩
          go_wp2_with fail
          refine (shiftedDown_any _ _ _ s rs _ hrdr (by omega) s64).mono ?_
          rintro e w5 ⟨A3, m3, c3, rfl, hm3, hr3, hb5⟩
          go_wp2
          go_ret3
          refine .inr ⟨hY0, A2, m2, c2, A3, m3, c3, rfl, by omega, by omega, ?_, ?_, hbl.trans (hb5.mono (by omega))⟩
          · rw [← V1.out]; exact (hr2.below hb5).more hb5.size
          · rw [← V2.out]; exact hr3
        · obtain ⟨j, rfl⟩ : ∃ j, k = j + 1 := ⟨k - 1, by omega⟩
          rw [show (((j + 1 : Nat) : Int) - 1) = (j : Int) by omega]
          obtain ⟨l1, l2, l3, l4, l5, l6⟩ := hinv.part Y3.out (by omega)
          have hb1' : Bk wr w.heap.size (rs.take j ++ (rs.drop j).take (m' + 1) ++ rs.drop (j + (m' + 1))) sp1 := by rw [← seg_split]; exact hb1
          obtain ⟨u, hu⟩ : ∃ u, (nw (nv ys * 2 ^ s))[m' - 1]? = some u := ⟨_, List.getElem?_eq_getElem (by rw [hdr.len]; omega)⟩
          have hu0 : 0 < u := (top_bounds (Y := nv ys * 2 ^ s) (by rw [hdr.len]; exact hu)).2.2
          have L1 := Lib.hid l1
          have L2 := Lib.hid l2
          have L4 := Lib.hid l4
          have HU := Lib.hid hu
          clear l1 l2 l4 l5 l6 hu
          go_wp2_with fail
          rw [show j + m' + 1 - j = m' + 1 by omega]
          refine (divPlace_any w.heap.size j (m + 1 - j) (some ⟨w1.heap.size, 0, none⟩) m' m' w2.heap.size u (rs.take j) ((rs.drop j).take (m' + 1)) (rs.drop (j + (m' + 1))) (nw (nv ys * 2 ^ s)) sp1 wr hb1' L2.out L1.out l3 hdr (by omega) (fun _ ad e => by injection e with e; subst e; show w1.heap.size ≠ w.heap.size; omega) (by omega) (by omega) (by omega) HU.out hu0 (by rw [nv_nw]; exact L4.out)).mono ?_
          rw [nv_nw]
          rintro e w4 ⟨ns, q, rfl, nl, nlt, hqW, ⟨eq, er⟩, hk4, hg4⟩
          have HN := Lib.hid (hinv.step Y3.out (by omega) (by omega) hD0 nl nlt hqW eq er)
          have hb34 : Bk w4 w2.heap.size qs sp3 := hb3.other hg4 (by omega)
          have hql := hinv.2.1
          have hcell := hb34.cell (i := j) (x := qs[j]'(by omega)) (List.getElem?_eq_getElem (by omega))
          have hfz := hb34.frozen j
          have hset := Lib.hid (hb34.set_ (i := j) (by omega) q)
          have hk5 := Lib.hid (hk4.other (only_set (w := w4) (g := w2.heap.size) (i := j) (.int .u64 (q : Int))) (by omega))
          have hd5 := Lib.hid ((hdr.only hg4 (by omega) (fun _ ad e => by injection e with e; subst e; show w1.heap.size ≠ w.heap.size; omega)).only (only_set (w := w4) (g := w2.heap.size) (i := j) (.int .u64 (q : Int))) (by have := hg4.size; omega) (fun _ ad e => by injection e with e; subst e; show w1.heap.size ≠ w2.heap.size; omega))
          have hbl5 := Lib.hid ((below_only hbl hg4 (by omega) (Nat.le_refl _)).setCell (p := ⟨w2.heap.size, j, none⟩) (show w.heap.size ≤ w2.heap.size by omega) (.int .u64 (q : Int)))
          rw [W64_eq] at hqW
          have EQ := Lib.hid eq
          have ER := Lib.hid er
          have NL := Lib.hid nl
          have QL := Lib.hid hql
          obtain ⟨z, hz⟩ : ∃ z, qs[j]'(by omega) = z := ⟨_, rfl⟩
          rw [hz] at hcell
          clear eq er nl hql hz
          go_wp2
          exact ⟨⟨j, _, _, by omega, by go_num, hk5.out, hset.out, hd5.out, hbl5.out, HN.out⟩, by simp [intOf]⟩
end Go.Proofs.Ytcfbemjnkiepdaa
