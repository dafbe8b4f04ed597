/-
  What From of the reference of layer 2 answers: digits as words.
-/
import Derived.Test.YtcfbemjnkiepdaaRMake
namespace Go.Proofs.Ytcfbemjnkiepdaa
open Go.RowKit
set_option linter.unusedVariables false

/-- A row of words that a call is making, from nothing on. -/
def URow (B : Nat) (w0 w : World) (v : Value) (n : Nat) (zs : List Nat) : Prop := w.ownsRow B 22 1 v n (u64s zs) ∧ Below B w0 w ∧ (∀ x ∈ zs, x < W64)
theorem URow.nil (w : World) : URow w.heap.size w w (.slice none 0 0) 0 [] := ⟨World.ownsRow_nil _ _ _ _, Below.refl _ _, by simp⟩
theorem URow.push {B : Nat} {w0 w w1 : World} {v v' : Value} {n : Nat} {zs : List Nat} {z : Nat} {o : Obj} (h : URow B w0 w v n zs) (hB : B ≤ w.heap.size) (hz : z < W64)
    (h1 : w1.ownsRow B 22 1 v' (n + 1) (u64s zs ++ [Value.int .u64 (z : Int)])) (hg : (w.alloc o).grownBy w1 v.ownBlock) : URow B w0 w1 v' (n + 1) (zs ++ [z]) := by
  rw [u64s_snoc] at h1
  exact ⟨h1, (h.2.1.alloc hB o).grown hg (by simp; omega) (fun k e => (h.1.lt k e).1), snoc_lt h.2.2 hz⟩

/-- The digits from j on, of the four that make word k. -/
def seg (ds : List Nat) (k j : Nat) : Nat := vl 65536 ((ds.drop (4 * k + j)).take (4 - j))
theorem seg_four (ds : List Nat) (k : Nat) : seg ds k 4 = 0 := by simp [seg, vl_nil]
theorem seg_step (ds : List Nat) {k j : Nat} (hj : j < 4) : seg ds k j = ds[4 * k + j]?.getD 0 + 65536 * seg ds k (j + 1) := by
  unfold seg
  rw [show 4 - j = (4 - (j + 1)) + 1 by omega, vl_seg]
  rfl
theorem seg_bound {ds : List Nat} (h : ∀ x ∈ ds, x < 65536) {k j : Nat} (hj : j < 4) : seg ds k (j + 1) < 281474976710656 := by
  have h2 : 65536 ^ (4 - (j + 1)) ≤ 65536 ^ 3 := Nat.pow_le_pow_right (by omega) (by omega)
  have h1 := seg_lt h (4 * k + (j + 1)) (4 - (j + 1))
  have h3 : 65536 ^ 3 = 281474976710656 := by decide
  unfold seg
  omega
theorem seg_zero (ds : List Nat) (k : Nat) : seg ds k 0 = vl 65536 ((ds.drop (4 * k)).take 4) := rfl

set_option maxHeartbeats 1000000 in
theorem from_any (A : Option Addr) (n c : Nat) (zs : List Nat) (w : World) (h : DR w w.heap.size A n c zs) (hn : n ≤ 100000) :
    Calls Try.prog 62 #[.slice A n c] w (NatPost w n (nw (vl 65536 zs))) := by
  obtain ⟨i0, hi, hz0, hz1, hz2⟩ := info_parts info_u64
  go_enter Try.func62, Try.ntmps62
  go_wp2_with fail
  refine (trim_any _ _ _ _ zs _ h (by omega)).mono ?_
  rintro e w' ⟨m, c3, hm, rfl, rfl, hr⟩
  generalize hV : vl 65536 zs = V at *
  generalize hds : dg 65536 V = ds at *
  have HDS := Lib.hid hds
  clear hds hV
  go_wp2
  go_loopw [3, 4] (fun s i wr => ∃ (k : Nat) (ws : List Nat), (k = 0 ∨ 4 * (k - 1) < m) ∧ i = .int .i64 (4 * k : Nat) ∧ URow w.heap.size w wr s k ws ∧ FromInv ds k ws) (fun _ i _ => (m + 4) - (intOf i).toNat)
  case atStart => exact ⟨0, [], .inl rfl, rfl, URow.nil w, fromInv_zero⟩
  case round =>
    obtain ⟨k, ws, hk, rfl, hrow, hinv⟩ := hrel
    have hsz := hrow.2.1.size
    by_cases hlt : 4 * k < m
    · have hr1 := hr.below hrow.2.1
      go_wp2
      go_loop [5, 6] (fun s i => ∃ (j : Nat), j ≤ 4 ∧ i = .int .i64 ((j : Int) - 1) ∧ s = .int .u64 ((seg ds k j : Nat) : Int)) (fun _ i => (intOf i + 1).toNat)
      case atStart => exact ⟨4, by omega, rfl, by rw [seg_four]; rfl⟩
      case round =>
        obtain ⟨j, hj, rfl, rfl⟩ := hrel
        by_cases hj0 : j = 0
        · subst hj0
          have HS := Lib.hid (seg_zero ds k)
          have hb := seg_lt hr.lt (4 * k) 4
          rw [← W64_pow, ← seg_zero] at hb
          go_wp2_with (at_builtin; go_loud (refine wpList_append_own _ rfl _ _ 37 rfl w.heap.size 22 i0 (.int .u64 0) 1 8 Try.underlying37 hi hz0 hz1 hz2 rfl (by decide) _ _ _ rfl (hrow.1.alloc _) ⟨_, 0, none⟩ 1 1 [.int .u64 (seg ds k 0 : Nat)] rfl rfl one_cell one_int (by unfold maxLen; omega) (by omega) (by simp; omega) ?_; intro v2 w2 hown2 hgrow2 _))
          refine ⟨⟨k + 1, _, .inr (by omega), by go_num, hrow.push hsz hb hown2 hgrow2, ?_⟩, by simp [intOf]; omega⟩
          rw [HS.out]
          exact hinv.step (by rw [hr.len]; exact hlt) hr.lt
        · obtain ⟨i, rfl⟩ : ∃ i, j = i + 1 := ⟨j - 1, by omega⟩
          rw [show (((i + 1 : Nat) : Int) - 1) = (i : Int) by omega]
          have HS := Lib.hid (seg_step ds (k := k) (j := i) (by omega))
          have hb := seg_bound hr.lt (k := k) (j := i) (by omega)
          generalize seg ds k (i + 1) = q at *
          by_cases hin : 4 * k + i < m
          · obtain ⟨ad, x, rfl, hb2, hxb, hx, hc⟩ := hr1.at_ hin
            have e : seg ds k i = q * 65536 + x := by rw [HS.out, hx, Option.getD_some]; omega
            have E := Lib.hid e
            clear hx e
            go_wp2
            exact ⟨⟨i, by omega, by go_num, by rw [E.out]; go_num⟩, by simp [intOf] <;> omega⟩
          · have e : seg ds k i = q * 65536 := by rw [HS.out, List.getElem?_eq_none (by rw [hr.len]; omega), Option.getD_none]; omega
            have E := Lib.hid e
            clear e
            go_wp2
            exact ⟨⟨i, by omega, by go_num, by rw [E.out]; go_num⟩, by simp [intOf] <;> omega⟩
    · have V := Lib.hid (hinv.done (by rw [hr.len]; omega) (by rw [hr.len]; exact hk) HDS.out.symm)
      obtain ⟨A2, c2, rfl, hr2⟩ := rd_of_own hrow.1 hrow.2.2
      rw [V.out] at hr2
      go_wp2
      go_ret
      exact ⟨A2, k, c2, rfl, by omega, hr2, hrow.2.1⟩
end Go.Proofs.Ytcfbemjnkiepdaa
