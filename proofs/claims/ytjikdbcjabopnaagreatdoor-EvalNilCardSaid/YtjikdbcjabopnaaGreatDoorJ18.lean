import Derived.Test.YtjikdbcjabopnaaGreatDoorJ17
import Derived.Test.YtjikdbcjabopnaaGreatDoorJ16
import Derived.Laws.AppendOwnNone
namespace Go.Proofs.YtjikdbcjabopnaaGreatDoor
open Go.RowKit
set_option linter.unusedVariables false
set_option maxRecDepth 100000
def DivPostN (w : World) (N X Y : Nat) (e : Ending) (w' : World) : Prop :=
 (Y = 0 ∧ e = .returned (.tuple #[.slice none 0 0, .slice none 0 0, .int .i64 1]) ∧ Below w.heap.size w w') ∨
 (0 < Y ∧ ∃ A n c A' n' c', e = .returned (.tuple #[.slice A n c, .slice A' n' c', .int .i64 0]) ∧ n ≤ N ∧ n' ≤ N ∧ NR w' w'.heap.size A n c (nw (X / Y)) ∧ NR w' w'.heap.size A' n' c' (nw (X % Y)) ∧ Below w.heap.size w w')
set_option maxHeartbeats 2000000 in
theorem div_any (A A' : Option Addr) (n n' c c' : Nat) (xs ys : List Nat) (w : World) (h : NR w w.heap.size A n c xs) (h' : NR w w.heap.size A' n' c' ys) (hn : n ≤ 100000) (hn' : n' ≤ 100000) :
    Calls Tryz.prog 158 #[.slice A n c, .slice A' n' c'] w (DivPostN w (n + 1) (nv xs) (nv ys)) := by
 obtain ⟨i0, hi, hz0, hz1, hz2⟩ := info_parts info_u64N
 go_enter Tryz.func158, Tryz.ntmps158
 go_wp2_with fail
 refine (trimmed_any _ _ _ _ xs _ h (by omega)).mono ?_
 rintro e w' ⟨m, hm, rfl, rfl, hr⟩
 go_wp2_with fail
 refine (trimmed_any _ _ _ _ ys _ h' (by omega)).mono ?_
 rintro e w' ⟨m', hm', rfl, rfl, hr'⟩
 by_cases hm0 : m' = 0
 ·subst hm0
  have hY := dg_nil W64_two (hr'.eq_nil rfl)
  have HY := Lib.hid hY
  clear hY
  go_wp2
  go_ret3
  exact .inl ⟨HY.out, rfl, Below.refl _ _⟩
 ·have hmb : ((m' : Int) == 0) = false := by simpa using hm0
  have hY0 : 0 < nv ys := by
   rcases Nat.eq_zero_or_pos (nv ys) with h0 | h0
   ·exfalso
    rw [h0] at hr'
    exact hm0 hr'.len.symm
   ·exact h0
  by_cases hlt : m < m'
  ·have hXY : nv xs < nv ys := dg_len_lt W64_two (by rw [hr.len, hr'.len]; exact hlt)
   have D1 := Lib.hid (Nat.div_eq_of_lt hXY)
   have D2 := Lib.hid (Nat.mod_eq_of_lt hXY)
   rcases A with _ | ad
   ·have hm00 : m = 0 := by
       rcases Nat.eq_zero_or_pos m with h0 | h0
       ·exact h0
       ·obtain ⟨ad, e, _⟩ := hr.cells h0
        cases e
    subst hm00
    have hX0 := hr.eq_nil rfl
    have HX := Lib.hid hX0
    clear hX0
    go_wp2_with (at_builtin; refine wpList_append_own_none rfl _ _ 50 rfl w.heap.size 22 i0 1 Tryz.underlying50 hi _ 0 [] rfl (World.ownsRow_nil _ _ _ _) rfl ?_)
    go_ret3
    refine .inr ⟨hY0, none, 0, 0, none, 0, 0, rfl, by omega, by omega, ?_, ?_, Below.refl _ _⟩
    ·rw [D1.out]; exact Rd.none_ _ _ _ _ _ _
    ·rw [D2.out, HX.out]; exact Rd.none_ _ _ _ _ _ _
   ·have hcs : ∀ (j : Nat) (u : Value), (u64s (nw (nv xs)))[j]? = some u → w.cell? (ad.add j) = some u := by
       intro j u hu
       have hl := (List.getElem?_eq_some_iff.1 hu).1
       rw [u64s_length, hr.len] at hl
       obtain ⟨ad', x, e, _, _, hx, hc⟩ := hr.at_ hl
       injection e with e
       subst e
       simp only [u64s, List.getElem?_map, hx, Option.map_some] at hu
       rw [hc]; exact hu
    have HL := Lib.hid (show (u64s (nw (nv xs))).length = m * 1 by rw [u64s_length, hr.len, Nat.mul_one])
    have HC := Lib.hid hcs
    clear hcs
    go_wp2_with (at_builtin; refine wpList_append_own _ rfl _ _ 50 rfl w.heap.size 22 i0 (.int .u64 0) 1 8 Tryz.underlying50 hi hz0 hz1 hz2 rfl (by decide) _ 0 [] rfl (World.ownsRow_nil _ _ _ _) ad m m (u64s (nw (nv xs))) rfl HL.out HC.out u64s_one (by unfold maxLen; omega) (by omega) (Nat.le_refl _) ?_; intro v1 w1 hown1 hgrow1 _)
    simp only [Nat.zero_add, List.nil_append] at hown1
    obtain ⟨A2, c2, rfl, hr2⟩ := rd_of_own hown1 hr.lt
    go_wp2
    go_ret3
    refine .inr ⟨hY0, none, 0, 0, A2, m, c2, rfl, by omega, by omega, ?_, ?_, (Below.refl _ _).grown hgrow1 (Nat.le_refl _) (fun k e => by cases e)⟩
    ·rw [D1.out]; exact Rd.none_ _ _ _ _ _ _
    ·rw [D2.out]; exact hr2
  ·have hd : decide ((m : Int) < m') = false := by simp; omega
   obtain ⟨ad', t, rfl, hbt, htb, ht, hct⟩ := hr'.at_ (show m' - 1 < m' by omega)
   rw [W64_eq] at htb
   have hlen' := hr'.len
   have hlen := hr.len
   have hX := dg_bound (nv xs)
   rw [hlen] at hX
   have ht2 : (nw (nv ys))[(nw (nv ys)).length - 1]? = some t := by rw [hlen']; exact ht
   obtain ⟨_, _, ht0⟩ := top_bounds ht2
   obtain ⟨s, hs, s64, t0, t1⟩ := shift_of (t : Int) (by omega) (by omega)
   rw [two_pow_cast, ← Int.natCast_mul] at t0 t1
   obtain ⟨y1, y2, y3⟩ := norm_up ht2 s64 (by omega) (by omega)
   rw [hlen'] at y1 y2 y3
   have HS := Lib.hid hs
   have HX := Lib.hid hX
   have Y1 := Lib.hid y1
   have Y2 := Lib.hid y2
   have Y3 := Lib.hid y3
   have HL' := Lib.hid hlen'
   have E1 := Lib.hid (nv_nw (nv xs))
   have E2 := Lib.hid (nv_nw (nv ys))
   clear hs hX y1 y2 y3 t0 t1 ht ht2 hlen hlen'
   go_wp2_with fail
   refine (zeros_any _ _ (by omega) (by omega)).mono ?_
   rintro e w' ⟨rfl, rfl⟩
   rw [HS.out]
   go_wp2_with fail
   refine (shiftedUp_any A m m s (nw (nv xs)) w hr (by omega) s64).mono ?_
   rw [E1.out]
   rintro e w1 ⟨zs, rfl, hrow1, hzs, hzv⟩
   have ZV := Lib.hid hzv
   clear hzv
   have hr1 := (hr'.below hrow1.2).more hrow1.2.size
   go_wp2_with fail
   refine (shiftedUp_any (some ad') m' m' s (nw (nv ys)) w1 hr1 (by omega) s64).mono ?_
   rw [E2.out]
   rintro e w2 ⟨ds0, rfl, hrow2, hds0, hdv⟩
   have DV := Lib.hid hdv
   clear hdv
   go_wp2_with fail
   refine (trimmed_any _ _ _ _ ds0 _ (hrow2.rd hds0) (by omega)).mono ?_
   rintro e w' ⟨md, hmd, rfl, rfl, hrd⟩
   rw [DV.out] at hrd
   obtain rfl : m' = md := by rw [← hrd.len]; exact Y1.out.symm
   obtain ⟨sp1, hsp1, hbk1⟩ := Bk.of_row hrow1
   have g12 := hrow1.base
   have hbk1' : Bk w2 w.heap.size zs sp1 := hbk1.below hrow2.2 g12.2
   have hb02 : Below w.heap.size w w2 := hrow1.2.trans (hrow2.2.mono (by omega))
   have hsz2 := hrow2.base
   have hP : ((m : Int) - m' + 1) = ((m - m' + 1 : Nat) : Int) := by omega
   have HP := Lib.hid hP
   clear hP
   go_wp2_with (at_make; rw [HP.out]; refine wpList_make_full _ rfl _ _ 50 rfl w.heap.size 22 i0 (.int .u64 0) 1 Tryz.underlying50 hi hz0 hz1 _ _ _ _ (m - m' + 1) rfl rfl rfl rfl (by rw [hz2]; omega) (by unfold maxLen; omega) (by omega) ?_; intro w3 hown3 hgrow3)
   have hD0 : 0 < nv ys * 2 ^ s := Nat.mul_pos hY0 (Nat.two_pow_pos s)
   obtain ⟨sp3, hsp3, hbk3⟩ := bk_made hown3
   have hbk13 : Bk w3 w.heap.size zs sp1 := hbk1'.keep (hgrow3.block _ hbk1'.lt (fun e => by cases e))
   have hrd3 : NR w3 w2.heap.size (some ⟨w1.heap.size, 0, none⟩) m' m' (nw (nv ys * 2 ^ s)) := hrd.grown hgrow3 (Nat.le_refl _) (fun _ e => by cases e)
   have hb03 : Below w.heap.size w w3 := hb02.grown hgrow3 (by omega) (fun _ e => by cases e)
   have hst := Lib.hid (divInv_start HX.out s64 Y2.out (by omega) rfl (by omega) hrow1.len hzs ZV.out)
   have hsz3 := hbk3.lt
   clear hown3 hgrow3
   go_loopw [12] (fun i wr => ∃ (k : Nat) (zs qs : List Nat), k ≤ m - m' + 1 ∧ i = .int .i64 ((k : Int) - 1) ∧ Bk wr w.heap.size zs sp1 ∧ Bk wr w2.heap.size qs sp3 ∧ NR wr w2.heap.size (some ⟨w1.heap.size, 0, none⟩) m' m' (nw (nv ys * 2 ^ s)) ∧ Below w.heap.size w wr ∧ DivInv (nv xs * 2 ^ s) (nv ys * 2 ^ s) m (m - m' + 1) k zs qs) (fun i _ => (intOf i + 1).toNat)
   case atStart => exact ⟨m - m' + 1, zs, _, Nat.le_refl _, by go_num, hbk13, hbk3, hrd3, hb03, hst.out⟩
   case round =>
    obtain ⟨k, rs, qs, hk, rfl, hb1, hb3, hdr, hbl, hinv⟩ := hrel
    have hs1 := hb1.lt
    have hs3 := hb3.lt
    by_cases hk0 : k = 0
    ·subst hk0
     obtain ⟨v1, v2⟩ := hinv.done hY0
     have V1 := Lib.hid v1
     have V2 := Lib.hid v2
     have hrl := hinv.1
     have hql := hinv.2.1
     have hrdq := hb3.rd hinv.2.2.2.1 hql (Nat.le_refl _)
     have hrdr := hb1.rd hinv.2.2.1 hrl (Nat.le_refl _)
     have R1 := Lib.hid hrl
     have R2 := Lib.hid hql
     clear v1 v2 hrl hql
     go_wp2_with fail
     refine (own_any _ _ _ _ qs _ hrdq (by omega)).mono ?_
     rintro e w' ⟨A2, m2, c2, hm2, rfl, rfl, hr2⟩
     go_wp2_with fail
     refine (shiftedDown_any _ _ _ s rs _ hrdr (by omega) s64).mono ?_
     rintro e w5 ⟨A3, m3, c3, rfl, hm3, hr3, hb5⟩
     go_wp2
     go_ret3
     refine .inr ⟨hY0, A2, m2, c2, A3, m3, c3, rfl, by omega, by omega, ?_, ?_, hbl.trans (hb5.mono (by omega))⟩
     ·rw [← V1.out]; exact (hr2.below hb5).more hb5.size
     ·rw [← V2.out]; exact hr3
    ·obtain ⟨j, rfl⟩ : ∃ j, k = j + 1 := ⟨k - 1, by omega⟩
     rw [show (((j + 1 : Nat) : Int) - 1) = (j : Int) by omega]
     obtain ⟨l1, l2, l3, l4, l5, l6⟩ := hinv.part Y3.out (by omega)
     have hb1' : Bk wr w.heap.size (rs.take j ++ (rs.drop j).take (m' + 1) ++ rs.drop (j + (m' + 1))) sp1 := by rw [← seg_split]; exact hb1
     obtain ⟨u, hu⟩ : ∃ u, (nw (nv ys * 2 ^ s))[m' - 1]? = some u := ⟨_, List.getElem?_eq_getElem (by rw [hdr.len]; omega)⟩
     have hu0 : 0 < u := (top_bounds (Y := nv ys * 2 ^ s) (by rw [hdr.len]; exact hu)).2.2
     have L1 := Lib.hid l1
     have L2 := Lib.hid l2
     have L4 := Lib.hid l4
     have HU := Lib.hid hu
     clear l1 l2 l4 l5 l6 hu
     go_wp2_with fail
     rw [show j + m' + 1 - j = m' + 1 by omega]
     refine (divPlace_any w.heap.size j (m + 1 - j) (some ⟨w1.heap.size, 0, none⟩) m' m' w2.heap.size u (rs.take j) ((rs.drop j).take (m' + 1)) (rs.drop (j + (m' + 1))) (nw (nv ys * 2 ^ s)) sp1 wr hb1' L2.out L1.out l3 hdr (by omega) (fun _ ad e => by injection e with e; subst e; show w1.heap.size ≠ w.heap.size; omega) (by omega) (by omega) (by omega) HU.out hu0 (by rw [nv_nw]; exact L4.out)).mono ?_
     rw [nv_nw]
     rintro e w4 ⟨ns, q, rfl, nl, nlt, hqW, ⟨eq, er⟩, hk4, hg4⟩
     have HN := Lib.hid (hinv.step Y3.out (by omega) (by omega) hD0 nl nlt hqW eq er)
     have hb34 : Bk w4 w2.heap.size qs sp3 := hb3.other hg4 (by omega)
     have hql := hinv.2.1
     have hcell := hb34.cell (i := j) (x := qs[j]'(by omega)) (List.getElem?_eq_getElem (by omega))
     have hfz := hb34.frozen j
     have hset := Lib.hid (hb34.set_ (i := j) (by omega) q)
     have hk5 := Lib.hid (hk4.other (only_set (w := w4) (g := w2.heap.size) (i := j) (.int .u64 (q : Int))) (by omega))
     have hd5 := Lib.hid ((hdr.only hg4 (by omega) (fun _ ad e => by injection e with e; subst e; show w1.heap.size ≠ w.heap.size; omega)).only (only_set (w := w4) (g := w2.heap.size) (i := j) (.int .u64 (q : Int))) (by have := hg4.size; omega) (fun _ ad e => by injection e with e; subst e; show w1.heap.size ≠ w2.heap.size; omega))
     have hbl5 := Lib.hid ((below_only hbl hg4 (by omega) (Nat.le_refl _)).setCell (p := ⟨w2.heap.size, j, none⟩) (show w.heap.size ≤ w2.heap.size by omega) (.int .u64 (q : Int)))
     rw [W64_eq] at hqW
     have EQ := Lib.hid eq
     have ER := Lib.hid er
     have NL := Lib.hid nl
     have QL := Lib.hid hql
     obtain ⟨z, hz⟩ : ∃ z, qs[j]'(by omega) = z := ⟨_, rfl⟩
     rw [hz] at hcell
     clear eq er nl hql hz
     go_wp2
     exact ⟨⟨j, _, _, by omega, by go_num, hk5.out, hset.out, hd5.out, hbl5.out, HN.out⟩, by simp [intOf]⟩
def MulInv (xs : List Nat) (Y lb k : Nat) (ps : List Nat) : Prop := ps.length = lb + k ∧ (∀ x ∈ ps, x < W64) ∧ nv ps = nv (xs.take k) * Y
theorem mulInv_zero {xs : List Nat} {Y lb : Nat} : MulInv xs Y lb 0 (List.replicate lb 0) := by
 refine ⟨by simp, fun x hx => by rw [List.eq_of_mem_replicate hx, W64_eq]; omega, ?_⟩
 have : vl W64 (List.replicate lb 0) = 0 := vl_zeros fun j x hx => by
  by_cases hj : j < lb
  ·have e : (List.replicate lb 0)[j]? = some 0 := by simp [hj]
   rw [e] at hx
   exact (Option.some.inj hx).symm
  ·rw [List.getElem?_eq_none (by simp; omega)] at hx
   cases hx
 show vl W64 _ = vl W64 (xs.take 0) * Y
 rw [this, List.take_zero, vl_nil, Nat.zero_mul]
theorem MulInv.step {xs ps ns ds : List Nat} {Y lb k x C : Nat} (h : MulInv xs Y lb k ps) (hx : xs[k]? = some x) (hn : ns.length = lb) (hns : ∀ x ∈ ns, x < W64) (hC : C < W64) (e : nv ns + W64 ^ lb * C = nv (ps.drop k) + x * Y) :
    MulInv xs Y lb (k + 1) (ps.take k ++ ns ++ [C]) := by
 obtain ⟨h1, h2, h3⟩ := h
 have l : (ps.take k).length = k := by rw [List.length_take]; omega
 refine ⟨by simp [l, hn]; omega, ?_, ?_⟩
 ·refine snoc_lt (fun z hz => ?_) hC
  rcases List.mem_append.1 hz with hz | hz
  ·exact h2 z (List.mem_of_mem_take hz)
  ·exact hns z hz
 ·have e0 : nv ps = nv (ps.take k) + W64 ^ k * nv (ps.drop k) := by
     show vl W64 ps = _
     conv => lhs; rw [← List.take_append_drop k ps, vl_append, l]
  have e1 : nv (ps.take k ++ ns ++ [C]) = nv (ps.take k) + W64 ^ k * (nv ns + W64 ^ lb * C) := by
   show vl W64 _ = _
   rw [List.append_assoc, vl_append, l, vl_append, hn, vl_cons, vl_nil]
   simp
  rw [e1, e, Nat.mul_add, ← Nat.add_assoc, ← e0, h3]
  show _ = vl W64 (xs.take (k + 1)) * Y
  rw [vl_take_next, hx, Option.getD_some, Nat.add_mul, Nat.mul_assoc]
def newRow (n c : Nat) : Array Value := (u64s (List.replicate n 0) ++ List.replicate (c - n) (Value.int .u64 0)).toArray
theorem newRow_bk (w : World) (n c : Nat) : Bk (w.alloc (.cells (newRow n c) 22)) w.heap.size (List.replicate n 0) (List.replicate (c - n) (Value.int .u64 0)) := heap_alloc_new w _
theorem make_words (n c : Nat) (hnc : n ≤ c) (hc : c ≤ 1000000) (w : World) :
    (Instr.makeSlice 50 (.int .i64 (n : Int)) (.int .i64 (c : Int))).run Tryz.prog w = .ok (.slice (some ⟨w.heap.size, 0, none⟩) n c) (w.alloc (.cells (newRow n c) 22)) := by
 obtain ⟨i0, hi, hz0, hz1, hz2⟩ := info_parts info_u64N
 have hr := run_make (P := Tryz.prog) w 50 22 i0 (.int .u64 0) Tryz.underlying50 hi hz0 .i64 .i64 (n : Int) (c : Int) (by omega) (by omega) (by rw [hz2]; omega) (by omega)
 rw [hz1] at hr
 simp only [Int.toNat_natCast] at hr
 rw [hr]
 have e : madeCells (Value.int .u64 0).cells (c * 1) = newRow n c := by
  apply Array.toList_inj.1
  rw [made_u64]
  unfold newRow
  rw [show u64s (List.replicate n 0) = List.replicate n (Value.int .u64 0) by simp [u64s], show u64s (List.replicate c 0) = List.replicate c (Value.int .u64 0) by simp [u64s], List.replicate_append_replicate, show n + (c - n) = c by omega]
 rw [e]
set_option maxHeartbeats 1000000 in
theorem natMul_any (A A' : Option Addr) (n n' c c' : Nat) (xs ys : List Nat) (w : World) (h : NR w w.heap.size A n c xs) (h' : NR w w.heap.size A' n' c' ys) (hn : n ≤ 100000) (hn' : n' ≤ 100000) :
    Calls Tryz.prog 160 #[.slice A n c, .slice A' n' c'] w (NatPost w (n + n') (nw (nv xs * nv ys))) := by
 obtain ⟨i0, hi, hz0, hz1, hz2⟩ := info_parts info_u64N
 go_enter Tryz.func160, Tryz.ntmps160
 go_wp2_with fail
 refine (trimmed_any _ _ _ _ xs _ h (by omega)).mono ?_
 rintro e w' ⟨m, hm, rfl, rfl, hr⟩
 go_wp2_with fail
 refine (trimmed_any _ _ _ _ ys _ h' (by omega)).mono ?_
 rintro e w' ⟨m', hm', rfl, rfl, hr'⟩
 have E1 := Lib.hid (nv_nw (nv xs))
 have E2 := Lib.hid (nv_nw (nv ys))
 have hmk := make_words m' (m + m') (by omega) (by omega)
 rw [show ((m + m' : Nat) : Int) = (m : Int) + m' by omega] at hmk
 go_wp2
 go_loopw [5, 22] (fun s i wr => ∃ (k : Nat) (ps : List Nat) (sp : List Value), k ≤ m ∧ i = .int .i64 k ∧ s = .slice (some ⟨w.heap.size, 0, none⟩) (m' + k) (m + m') ∧ sp.length + (m' + k) = m + m' ∧ Bk wr w.heap.size ps sp ∧ Below w.heap.size w wr ∧ MulInv (nw (nv xs)) (nv ys) m' k ps) (fun _ i _ => m - (intOf i).toNat)
 case atStart => exact ⟨0, _, _, by omega, rfl, rfl, by simp, newRow_bk _ _ _, (Below.refl _ _).alloc (Nat.le_refl _) _, mulInv_zero⟩
 case round =>
  obtain ⟨k, ps, sp, hk, rfl, rfl, hsp, hb, hbl, hinv⟩ := hrel
  have hs1 := hb.lt
  have hpl := hinv.1
  have hplt := hinv.2.1
  by_cases hlt : k < m
  ·obtain ⟨ad, x, rfl, hbk, hxb, hx, hc⟩ := (hr.below hbl).at_ hlt
   rw [W64_eq] at hxb
   have hb' : Bk wr w.heap.size (ps.take k ++ ps.drop k ++ []) sp := by rw [List.append_nil, List.take_append_drop]; exact hb
   have hdl : (ps.drop k).length = m' := by rw [List.length_drop]; omega
   have htl : (ps.take k).length = k := by rw [List.length_take]; omega
   have HD := Lib.hid hdl
   have HT := Lib.hid htl
   have HX := Lib.hid hx
   have HP := Lib.hid hpl
   have SP := Lib.hid hsp
   have hr2 := hr'.below hbl
   clear hdl htl hx hpl hsp
   go_wp2_with fail
   refine (addTimes_any w.heap.size k (m + m' - k) A' m' m' w.heap.size x (ps.take k) (ps.drop k) [] (nw (nv ys)) sp wr hb' HT.out HD.out (fun z hz => hplt z (List.mem_of_mem_drop hz)) hr2 (by omega) (fun h0 ad e => by obtain ⟨ad2, e2, hlt2, _⟩ := hr'.cells h0; rw [e2] at e; injection e with e; subst e; omega) (by omega) (by omega) hxb).mono ?_
   rintro e w4 ⟨ns, C, rfl, nl, nlt, hCW, er, hk4, hg4⟩
   rw [nv_nw] at er
   rw [List.append_nil] at hk4
   have HN := Lib.hid (hinv.step (ds := []) HX.out nl nlt hCW er)
   have hbl4 := below_only hbl hg4 (by omega) (Nat.le_refl _)
   have hrow := hk4.row (cap := m + m') (k := m' + k) hbl4 (Nat.le_refl _) (by simp [HT.out, nl]; omega) SP.out (by unfold maxLen; omega)
   have hs4 := hk4.lt
   rw [W64_eq] at hCW
   have NL := Lib.hid nl
   have ER := Lib.hid er
   clear er nl
   go_wp2_with (at_builtin; refine wpList_append_fits _ rfl _ _ 50 rfl w.heap.size 22 i0 1 Tryz.underlying50 hi hz1 w.heap.size (m' + k) (m + m') (u64s (ps.take k ++ ns)) rfl (hrow.1.alloc _) ⟨_, 0, none⟩ 1 1 [.int .u64 (C : Int)] rfl rfl one_cell one_int (by omega) ?_; intro w5 hown5 hgrow5)
   have hrow5 := hrow.push (Nat.le_of_lt hs4) hown5 hgrow5
   obtain ⟨sp5, hsp5, hbk5⟩ := Bk.of_row hrow5
   exact ⟨⟨k + 1, _, sp5, by omega, by go_num, rfl, by omega, hbk5, hrow5.2, HN.out⟩, by simp [intOf]; omega⟩
  ·obtain rfl : k = m := by omega
   have hv := hinv.2.2
   rw [List.take_of_length_le (by rw [hr.len]; exact Nat.le_refl _), nv_nw] at hv
   have HV := Lib.hid hv
   have HP := Lib.hid hpl
   have hrd := hb.rd (c := k + m') hplt hpl (by omega)
   clear hv hpl hsp
   go_wp2_with fail
   refine (own_any _ _ _ _ ps _ hrd (by omega)).mono ?_
   rintro e w' ⟨A2, m2, c2, hm2, rfl, rfl, hr2⟩
   go_wp2
   go_ret
   refine ⟨A2, m2, c2, rfl, by omega, ?_, hbl⟩
   rw [← HV.out]
   exact hr2
theorem bits_unique {n k : Nat} (h1 : 2 ^ (k - 1) ≤ n) (h2 : n < 2 ^ k) (hk : 0 < k) : k = Go.bitLen n := by
 obtain ⟨a, b⟩ := Go.bitLen_spec n
 have p := Nat.two_pow_pos (k - 1)
 have c := b (by omega)
 have d1 : 2 ^ (k - 1) < 2 ^ Go.bitLen n := by omega
 have d2 : 2 ^ (Go.bitLen n - 1) < 2 ^ k := by omega
 have e1 := (Nat.pow_lt_pow_iff_right (show 1 < 2 by omega)).1 d1
 have e2 := (Nat.pow_lt_pow_iff_right (show 1 < 2 by omega)).1 d2
 omega
theorem bits_words {Y t m : Nat} (hm : (nw Y).length = m) (ht : (nw Y)[m - 1]? = some t) (htb : t < 18446744073709551616) : ((m : Int) - 1) * 64 + (Lib.bitLen t : Nat) = (Go.bitLen Y : Nat) := by
 subst hm
 obtain ⟨h1, h2, h3⟩ := top_bounds ht
 have hl := (List.getElem?_eq_some_iff.1 ht).1
 obtain ⟨b0, b1, b2⟩ := bitLen_two t (by omega) (by omega)
 generalize (nw Y).length = m at *
 generalize Lib.bitLen t = L at *
 have e : W64 ^ (m - 1) = 2 ^ (64 * (m - 1)) := by rw [Nat.pow_mul]; rfl
 rw [e] at h1 h2
 have := bits_unique (n := Y) (k := 64 * (m - 1) + L) (by
  rw [show 64 * (m - 1) + L - 1 = 64 * (m - 1) + (L - 1) by omega, Nat.pow_add, Nat.mul_comm]
  exact Nat.le_trans (Nat.mul_le_mul_right _ b1) h1) (by
  rw [Nat.pow_add, Nat.mul_comm]
  exact Nat.lt_of_lt_of_le h2 (Nat.mul_le_mul_right _ b2)) (by omega)
 omega
theorem natBits_any (A : Option Addr) (n c B : Nat) (xs : List Nat) (w : World) (h : NR w B A n c xs) (hn : n ≤ 100000) :
    Calls Tryz.prog 159 #[.slice A n c] w fun e w' => e = .returned (.int .i64 (Go.bitLen (nv xs) : Nat)) ∧ w = w' := by
 go_enter Tryz.func159, Tryz.ntmps159
 go_wp2_with fail
 refine (trimmed_any _ _ _ _ xs _ h (by omega)).mono ?_
 rintro e w' ⟨m, hm, rfl, rfl, hr⟩
 by_cases hm0 : m = 0
 ·subst hm0
  have H := Lib.hid (dg_nil W64_two (hr.eq_nil rfl))
  go_wp2
  go_ret
  refine ⟨congrArg Ending.returned (i64_eq ?_), rfl⟩
  rw [H.out]; rfl
 ·have hmb : ((m : Int) == 0) = false := by simpa using hm0
  obtain ⟨ad, t, rfl, hb, htb, ht, hc⟩ := hr.at_ (show m - 1 < m by omega)
  rw [W64_eq] at htb
  have H := Lib.hid (bits_words hr.len ht htb)
  have hbl := bitLen64 (t : Int) (by omega) (by omega)
  rw [Int.toNat_natCast] at hbl
  clear ht
  go_wp2_with fail
  refine (len64_any _ _ (by omega) (by omega)).mono ?_
  rw [Int.toNat_natCast]
  rintro e w' ⟨rfl, rfl⟩
  go_wp2
  go_ret
  exact ⟨congrArg Ending.returned (i64_eq H.out), rfl⟩
end Go.Proofs.YtjikdbcjabopnaaGreatDoor
