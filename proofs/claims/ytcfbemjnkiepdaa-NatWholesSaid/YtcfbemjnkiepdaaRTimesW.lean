/-
  The reference's times walked.
-/
import Derived.Test.YtcfbemjnkiepdaaRTimes
import Derived.Deep.QuietTactic
import Derived.BigQuiet
namespace Go.Proofs.Ytcfbemjnkiepdaa
open Go.RowKit
set_option linter.unusedVariables false

theorem Rd.cell_ {k : IntKind} {b : Nat} {w : World} {B : Nat} {ad : Addr} {n c : Nat} {xs : List Nat} (h : Rd k b w B (some ad) n c xs) {i x : Nat} (hx : xs[i]? = some x) : w.cell? (ad.add i) = some (.int k (x : Int)) := by
  have hl := (List.getElem?_eq_some_iff.1 hx).1
  obtain ⟨ad', e, _, hc⟩ := h.cells (by have := h.len; omega)
  injection e with e
  subst e
  exact hc i x hx
theorem below_set {B : Nat} {w0 w : World} {g i : Nat} (h : Below B w0 w) (hg : B ≤ g) (hB : B ≤ w.heap.size) (v : Value) : Below B w0 (w.setCell ⟨g, i, none⟩ v) := below_only h (only_set v) hB hg

set_option maxHeartbeats 4000000 in
theorem times_dg_any (A A' : Option Addr) (n n' c c' : Nat) (xs ys : List Nat) (w : World) (h : DR w w.heap.size A n c xs) (h' : DR w w.heap.size A' n' c' ys) (hn : n ≤ 10000) (hn' : n' ≤ 10000) :
    Calls Try.prog 77 #[.slice A n c, .slice A' n' c'] w (DigPost w (n + n' + 1) (dg 65536 (vl 65536 xs * vl 65536 ys))) := by
  have hmk := make_digits (n + n' + 1) ((n : Int) + n' + 1) (by omega) (by omega)
  go_enter Try.func77, Try.ntmps77
  go_wp2
  go_loopw [18] (fun i wr => ∃ (k : Nat) (ps : List Nat), k ≤ n ∧ i = .int .i64 k ∧ Dk wr w.heap.size (ps ++ List.replicate (n - k + 1) 0) ∧ Below w.heap.size w wr ∧ MulD xs (vl 65536 ys) n' k ps) (fun i _ => n - (intOf i).toNat)
  case atStart =>
    refine ⟨0, List.replicate n' 0, by omega, rfl, ?_, (Below.refl _ _).alloc (Nat.le_refl _) _, mulD_zero⟩
    rw [List.replicate_append_replicate, show n' + (n - 0 + 1) = n + n' + 1 by omega]
    exact heap_alloc_new w _
  case round =>
    obtain ⟨k, ps, hk, rfl, hb, hbl, hinv⟩ := hrel
    by_cases hlt : k < n
    · obtain ⟨ad, x, rfl, hbk, hxb, hx, hc⟩ := (h.below hbl).at_ hlt
      have HX := Lib.hid hx
      have HP := Lib.hid hinv.1
      have HPL := Lib.hid hinv.2.1
      obtain ⟨qs, hqs⟩ : ∃ qs, qs = ps.drop k ++ [0] := ⟨_, rfl⟩
      have hql : qs.length = n' + 1 := by rw [hqs]; simp; have := HP.out; omega
      have hqb : ∀ z ∈ qs, z < 65536 := by rw [hqs]; exact snoc_lt (fun z hz => HPL.out z (List.mem_of_mem_drop hz)) (by omega)
      have hb0 : Dk wr w.heap.size (ps.take k ++ [] ++ qs.drop 0 ++ List.replicate (n - k) 0) := by
        have : ps ++ List.replicate (n - k + 1) 0 = ps.take k ++ [] ++ qs.drop 0 ++ List.replicate (n - k) 0 := by
          rw [hqs, List.drop_zero, List.append_nil, ← List.append_assoc, List.take_append_drop, List.append_assoc, List.replicate_succ]
          rfl
        rw [← this]; exact hb
      have HQ := Lib.hid hqs
      have HQL := Lib.hid hql
      have HTL := Lib.hid (show (ps.take k).length = k by rw [List.length_take]; have := HP.out; omega)
      clear hqs hql hx hb hc
      go_wp2
      go_loopw [7, 8] (fun q i wr => ∃ (j Q : Nat) (ns : List Nat), (j ≤ n' ∨ (j = n' + 1 ∧ Q = 0)) ∧ i = .int .i64 j ∧ q = .int .i64 (Q : Int) ∧ Dk wr w.heap.size (ps.take k ++ ns ++ qs.drop j ++ List.replicate (n - k) 0) ∧ Below w.heap.size w wr ∧ TimesInv 65536 qs ys x j ns Q) (fun _ i _ => n' + 1 - (intOf i).toNat)
      case atStart => exact ⟨0, 0, [], .inl (by omega), rfl, rfl, hb0, hbl, timesInv_zero (by omega)⟩
      case round =>
        obtain ⟨j, Q, ns, hj, rfl, rfl, hb, hbl, hti⟩ := hrel
        have hQ := hti.2.2.1
        by_cases hgo : j < n' ∨ 0 < Q
        · have hj2 : j ≤ n' := by omega
          have hc := (h.below hbl).cell_ HX.out
          have hr' := h'.below hbl
          obtain ⟨p, hp1, hp2⟩ := drop_next (show j < qs.length by rw [HQL.out]; omega)
          have hpb := hqb p (List.mem_of_getElem? hp1)
          rw [hp2] at hb
          have hb' : Dk wr w.heap.size (ps.take k ++ ns ++ p :: (qs.drop (j + 1) ++ List.replicate (n - k) 0)) := by simpa using hb
          have hlen : k + j = (ps.take k).length + ns.length := by rw [HTL.out, hti.1]
          have hcell := hb'.cell (get_mid (p := p) (post := qs.drop (j + 1) ++ List.replicate (n - k) 0) hlen)
          have hfz := hb'.frozen (k + j)
          have hset : ∀ (v : Nat) (m : Nat), Dk ((wr.drewN m).setCell ⟨w.heap.size, k + j, none⟩ (.int .i64 (v : Int))) w.heap.size (ps.take k ++ (ns ++ [v]) ++ qs.drop (j + 1) ++ List.replicate (n - k) 0) := fun v m => by
            have := Dk.set_ (w := wr.drewN m) hb' (i := k + j) (by simp only [List.length_append, List.length_cons]; omega) v
            rw [set_mid hlen] at this
            simpa using this
          have hgs : ∀ (m : Nat) (v : Value), Below w.heap.size w ((wr.drewN m).setCell ⟨w.heap.size, k + j, none⟩ v) := fun m v => below_set (below_drewN hbl m) (Nat.le_refl _) hbl.size v
          have HS := Lib.hid hset
          have HG := Lib.hid hgs
          clear hlen hset hgs hb hb' hp2
          have hy := getD_lt (b := 65536) (by omega) h'.lt j
          have hxy : x * ys[j]?.getD 0 ≤ 65535 * 65535 := Nat.mul_le_mul (by omega) (by omega)
          have z2 : j < n' ∨ ys[j]?.getD 0 = 0 := by
            by_cases g : j < n'
            · exact .inl g
            · exact .inr (by rw [List.getElem?_eq_none (by rw [h'.len]; omega)]; rfl)
          have z3 : j < n' ∨ p = 0 := by
            by_cases g : j < n'
            · exact .inl g
            · refine .inr ?_
              have hjn : j = n' := by omega
              rw [HQ.out, List.getElem?_append_right (by rw [List.length_drop, HP.out]; omega), List.length_drop, HP.out, show j - (n' + k - k) = 0 by omega] at hp1
              exact (Option.some.inj hp1).symm
          have HN := Lib.hid (fun z Q' => hti.step (z := z) (Q' := Q'))
          have P1 := Lib.hid hp1
          clear hp1
          have hn2 : n' ≤ 1000000 := by omega
          have hk2 : j ≤ 1000001 := by omega
          have hP : ys[j]?.getD 0 * x = x * ys[j]?.getD 0 := Nat.mul_comm _ _
          have HY := Lib.hid (show ∀ z Q' : Nat, z + 65536 * Q' = Q + p + x * ys[j]?.getD 0 → z < 65536 → Q' < 65536 → TimesInv 65536 qs ys x (j + 1) (ns ++ [z]) Q' from fun z Q' e1 e2 e3 => HN.out z Q' (by rw [P1.out, Option.getD_some, hP]; omega) e2 e3)
          have hm : ((x : Int) * ((ys[j]?.getD 0 : Nat) : Int)) = ((x * ys[j]?.getD 0 : Nat) : Int) := (Int.natCast_mul _ _).symm
          have hm0 : (0 : Int) ≤ (x : Int) * ((ys[j]?.getD 0 : Nat) : Int) := by rw [hm]; omega
          have hm1 : (x : Int) * ((ys[j]?.getD 0 : Nat) : Int) ≤ 4294836225 := by rw [hm]; omega
          have HM := Lib.hid hm
          have z4 : j < n' ∨ x * ys[j]?.getD 0 = 0 := by
            rcases z2 with g | g
            · exact .inl g
            · exact .inr (by rw [g, Nat.mul_zero])
          clear hm hP HN P1 z2
          have e1 : (0 : Int) ≤ (k : Int) + j := by omega
          have e2 : (k : Int) + j < (n : Int) + n' + 1 := by omega
          have e3 : (0 : Int) ≤ k := by omega
          have e4 : (k : Int) < n := by omega
          rcases (show j < n' ∨ (¬ j < n' ∧ 0 < Q) by omega) with g | ⟨g, g2⟩
          all_goals
            go_wp2_with fail
            go_quiet ((go_at_call 85; exact at_q _ _ _ _ j ys _ _ hr' hn2 hk2))
            rw [HM.out]
            clear hm0 hm1 HM
            generalize x * ys[j]?.getD 0 = t at *
            obtain ⟨s, hs⟩ : ∃ s, s = Q + p + t := ⟨_, rfl⟩
            rw [show ((Q : Int) + p + (t : Nat)) = (s : Int) by omega]
            have HF := Lib.hid (HY.out (s % 65536) (s / 65536) (by omega) (by omega) (by omega))
            have hfin : j + 1 ≤ n' ∨ (j + 1 = n' + 1 ∧ s / 65536 = 0) := by omega
            have hsb : s ≤ 5000000000 := by omega
            have HFIN := Lib.hid hfin
            clear hs hfin
            go_wp2
            exact ⟨⟨j + 1, s / 65536, _, HFIN.out, by go_num, by go_num, HS.out _ _, HG.out _ _, HF.out⟩, by simp [intOf] <;> omega⟩
        · have hQ0 : Q = 0 := by omega
          subst hQ0
          have hdj : n' ≤ j := by omega
          have HI := Lib.hid (hinv.step HX.out h'.len (by rw [← HQ.out]; exact hti) hdj (by omega))
          have hbe : Dk wr w.heap.size (ps.take k ++ (ns ++ (ps.drop k ++ [0]).drop j) ++ List.replicate (n - (k + 1) + 1) 0) := by
            rw [show n - (k + 1) + 1 = n - k by omega, ← HQ.out]
            simpa using hb
          go_wp2
          exact ⟨⟨k + 1, _, by omega, by go_num, hbe, hbl, HI.out⟩, by simp [intOf] <;> omega⟩
    · obtain rfl : k = n := by omega
      have hv := hinv.2.2
      rw [List.take_of_length_le (by rw [h.len]; exact Nat.le_refl _)] at hv
      have hz : vl 65536 (ps ++ List.replicate (k - k + 1) 0) = vl 65536 xs * vl 65536 ys := by rw [vl_append, vl_rep, Nat.mul_zero, Nat.add_zero, hv]
      have HZ := Lib.hid hz
      have hl2 : (ps ++ List.replicate (k - k + 1) 0).length = k + n' + 1 := by simp [hinv.1]; omega
      have hrd := hb.rd (n := k + n' + 1) (fun z hz => by
        rcases List.mem_append.1 hz with hz | hz
        · exact hinv.2.1 z hz
        · rw [List.eq_of_mem_replicate hz]; omega) hl2
      clear hv hz hl2
      go_wp2_with fail
      refine (trim_any _ _ _ _ _ _ hrd (by omega)).mono ?_
      rintro e w' ⟨m, c3, hm, rfl, rfl, hr3⟩
      rw [HZ.out] at hr3
      go_wp2
      go_ret
      exact ⟨_, m, c3, rfl, by omega, hr3, hbl, fun ad e => by injection e with e; subst e; exact Nat.le_refl _⟩
end Go.Proofs.Ytcfbemjnkiepdaa
