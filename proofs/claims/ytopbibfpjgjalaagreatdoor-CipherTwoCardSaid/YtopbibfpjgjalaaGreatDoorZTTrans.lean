import Derived.Test.YtopbibfpjgjalaaGreatDoorZTJoin
import Derived.Test.YtopbibfpjgjalaaGreatDoorZTScat
namespace Go.Proofs.YtopbibfpjgjalaaGreatDoor
open Go.RowKit
set_option linter.unusedVariables false
set_option maxRecDepth 100000
theorem zja {n k s : Nat} (h : n = 2 ^ k) (hs : s < k) : n = 2 ^ (k - s - 1) * (2 * 2 ^ s) := by
 rw [h, ← Nat.pow_succ', ← Nat.pow_add]; congr 1; omega
structure Good (n q k : Nat) (r v : Nat) (a : Nat → Nat) : Prop where
 nk : n = 2 ^ k
 k0 : 1 ≤ k
 k9 : k ≤ 9
 q0 : 2 ≤ q
 q1 : q ≤ 2305843009213693952
 hr : M (q : Int) ((r : Int) ^ n) (-1)
 hv : M (q : Int) ((v : Int) ^ n) (-1)
 rv : M (q : Int) ((r : Int) * (v : Int)) 1
 pw : ∀ i, i < 2 * n → a i = r ^ i % q
theorem Good.lt {n q k r v : Nat} {a : Nat → Nat} (h : Good n q k r v a) (i : Nat) (hi : i < 2 * n) : a i < q := by
 rw [h.pw i hi]; exact Nat.mod_lt _ (by have := h.q0; omega)
theorem zwb {q x y z : Int} (h1 : M q (x * z) 1) (h2 : M q (y * z) 1) : M q x y := by
 have e1 : M q (x * (y * z)) x := by have := (M.rfl (q := q) (a := x)).mul h2; rwa [Int.mul_one] at this
 have e2 : M q (x * (y * z)) y := by
  have := (M.rfl (q := q) (a := y)).mul h1
  rw [Int.mul_one] at this
  refine (M.of ?_).trans this
  rw [← Int.mul_assoc, ← Int.mul_assoc, Int.mul_comm x y]
 exact e1.symm.trans e2
theorem Good.on {n q k r v : Nat} {a : Nat → Nat} (h : Good n q k r v a) {K p hh : Nat} (hn : n = K * (2 * hh)) (hp : p < hh) : M (q : Int) (a ((2 * p + 1) * K) : Int) (pt (r : Int) (r : Int) K p) := by
 rw [h.pw _ (by
  rw [hn, show 2 * (K * (2 * hh)) = (2 * (2 * hh)) * K by rw [Nat.mul_comm K, ← Nat.mul_assoc]]
  refine Nat.mul_lt_mul_of_pos_right (by omega) ?_
  rcases Nat.eq_zero_or_pos K with h1 | h1
  ·rw [h1, Nat.zero_mul] at hn; have := h.nk; have := Nat.two_pow_pos k; omega
  ·exact h1)]
 refine (M.pow_nat _ _).trans (M.of ?_)
 unfold pt
 rw [← Int.pow_add]; congr 1
 rw [Nat.add_mul, Nat.one_mul, Nat.add_comm, Nat.mul_right_comm]
theorem Good.back {n q k r v : Nat} {a : Nat → Nat} (h : Good n q k r v a) {K p hh : Nat} (hn : n = K * (2 * hh)) (hp : p < hh) : M (q : Int) (a ((2 * n - 2 * p * K) % (2 * n)) : Int) (pt 1 (v : Int) K p) := by
 have hn0 : 0 < n := by rw [h.nk]; exact Nat.two_pow_pos k
 have hle : 2 * p * K ≤ 2 * n := by
  rw [hn, show 2 * (K * (2 * hh)) = (2 * (2 * hh)) * K by rw [Nat.mul_comm K, ← Nat.mul_assoc]]
  exact Nat.mul_le_mul_right K (by omega)
 rw [h.pw _ (Nat.mod_lt _ (by omega))]
 refine (M.pow_nat _ _).trans ?_
 have hone : M (q : Int) ((r : Int) ^ (2 * n)) 1 := by
  rw [Nat.mul_comm, Int.pow_mul]
  exact (h.hr.pow 2).trans (M.of rfl)
 have e1 : pt 1 (v : Int) K p = (v : Int) ^ (2 * p * K) := by
  unfold pt; rw [Int.one_pow, Int.one_mul, Nat.mul_right_comm]
 rw [e1]
 refine zwb (z := (r : Int) ^ (2 * p * K)) ?_ ?_
 ·rw [← Int.pow_add]
  rcases Nat.eq_zero_or_pos (2 * p * K) with h0 | h0
  ·rw [h0, Nat.sub_zero, Nat.mod_self]; exact M.of rfl
  ·rw [Nat.mod_eq_of_lt (by omega), show 2 * n - 2 * p * K + 2 * p * K = 2 * n by omega]
   exact hone
 ·rw [Int.mul_comm]; exact zr9 h.rv _
set_option maxHeartbeats 2000000 in
theorem zi0 (p n q k r v : Nat) (a e : Nat → Nat) (gp ge : Nat) (A : Option Addr) (cp : Nat) (f : Nat → Nat) (w : World) (hT : Tb w w.heap.size p n q a e gp ge) (hG : Hid (Good n q k r v a)) (hX : FX w A n cp f) (hf : Hid (∀ i, i < n → f i < q)) :
    Calls Tryz.prog 256 #[.pointer (some ⟨p, 0, none⟩), .slice A n cp, .func (.func 257) #[.pointer (some ⟨p, 0, none⟩)] #[]] w fun ee w' => ∃ F : Nat → Nat, ee = .returned (.slice (some ⟨w.heap.size, 0, none⟩) n n) ∧ UW w' w.heap.size n F ∧ Hid (∀ i, i < n → F i < q ∧ M (q : Int) (F i : Int) (S n (fun j => (f j : Int) * ((r : Int) * (r : Int) ^ (2 * i)) ^ j))) ∧ Ext w w' := by
 have HT := Lib.hid hT
 have hp := hT.hp
 have t0 := hT.size
 have hk0 := hG.out.k0
 have hk9 := hG.out.k9
 have hq0 := hG.out.q0
 have hq1 := hG.out.q1
 have HN := Lib.hid hG.out.nk
 have hn2 := zez hk0 hk9
 rw [← HN.out] at hn2
 obtain ⟨hn0, hn1⟩ := hn2
 clear hT
 go_enter Tryz.func256, Tryz.ntmps256
 go_wp2_with fail
 refine (zd4 A n cp k f w hX HN hk0 hk9).mono ?_
 rintro ee w1 ⟨rfl, hu, k1⟩
 have hst : Joined q ((r : Int) : Int) ((r : Int) : Int) (fun i => (f i : Int)) k 1 (fun i => f (rev k i)) := Joined.start fun b _ => rfl
 have hlt0 : ∀ i, i < n → f (rev k i) < q := fun i hi => by
  have := (zem hk0 hk9 (show i < 2 ^ k by rw [← HN.out]; exact hi)).2
  rw [← HN.out] at this
  exact hf.out _ this
 have HST := Lib.hid hst
 have HLT := Lib.hid hlt0
 clear hst hlt0
 go_wp2_with fail
 go_loopw [8] (fun i wr => ∃ (s : Nat) (F : Nat → Nat), s ≤ k ∧ i = .int .i64 ((2 ^ s : Nat) : Int) ∧ UW wr w.heap.size n F ∧ Hid (∀ i, i < n → F i < q) ∧ Hid (Joined q ((r : Int) : Int) ((r : Int) : Int) (fun i => (f i : Int)) (k - s) (2 ^ s) F) ∧ Ext w wr) (fun i _ => n - (intOf i).toNat)
 case atStart => exact ⟨0, _, by omega, rfl, hu, HLT, HST, k1⟩
 case round =>
  obtain ⟨s, F, hs, rfl, hu2, hl2, hj2, kr⟩ := hrel
  clear hu HST HLT k1
  have p0 := cE kr t0
  have hsz := RW.lt hu2
  have hh0 := Nat.two_pow_pos s
  by_cases hlt : s < k
  ·have HK := Lib.hid (zja HN.out hlt)
   have hhn : 2 ^ s < n := by rw [HN.out]; exact Nat.pow_lt_pow_right (by omega) hlt
   have hnx := Joined.next (q := q) (c := ((r : Int) : Int)) (g := ((r : Int) : Int)) (a := fun i => (f i : Int)) (k := k - s - 1) (h := 2 ^ s) (f := F) (b := fun P => a ((2 * P + 1) * 2 ^ (k - s - 1))) (by omega) (by
    rw [show 2 * 2 ^ (k - s - 1) * 2 ^ s = n by rw [HK.out, Nat.mul_comm 2 (2 ^ (k - s - 1)), Nat.mul_assoc]]
    exact hG.out.hr) (fun p hp => hG.out.on HK.out hp) (by rw [show k - s - 1 + 1 = k - s by omega]; exact hj2.out)
   rw [show k - s - 1 = k - (s + 1) by omega, show 2 * 2 ^ s = 2 ^ (s + 1) by rw [Nat.pow_succ, Nat.mul_comm]] at hnx
   have HNX := Lib.hid hnx
   have HL := Lib.hid (fun i (_ : i < n) => znb (q := q) (h := 2 ^ s) (b := fun P => a ((2 * P + 1) * 2 ^ (k - (s + 1)))) (f := F) (by omega) i)
   have HP := Lib.hid (show 2 ^ (s + 1) = 2 ^ s * 2 by rw [Nat.pow_succ])
   clear hnx
   have e1 : k - s - 1 = k - (s + 1) := by omega
   rw [e1] at HK
   clear e1
   generalize 2 ^ (k - (s + 1)) = K at *
   generalize 2 ^ s = hf2 at *
   go_wp2_with fail
   refine (zyd w.heap.size p n q hf2 K a e gp ge w.heap.size F wr (HT.out.below kr) hu2 (by omega) (Nat.le_refl _) HK hh0 (by omega) (by omega) (by omega) hq1 hl2 (Lib.hid hG.out.lt)).mono ?_
   rintro ee w2 ⟨rfl, hu3, k3⟩
   go_wp2
   refine ⟨⟨s + 1, _, by omega, ?_, hu3, HL, HNX, Below.trans kr k3⟩, ?_⟩
   ·rw [HP.out]; go_num
   ·simp [intOf]; omega
  ·obtain rfl : s = k := by omega
   have hfin : ∀ i, i < n → F i < q ∧ M (q : Int) (F i : Int) (S n (fun j => (f j : Int) * ((r : Int) * (r : Int) ^ (2 * i)) ^ j)) := fun i hi => ⟨hl2.out i hi, by
    have h1 := hj2.out
    rw [Nat.sub_self, ← HN.out] at h1
    exact h1.done hi⟩
   have HF := Lib.hid hfin
   have hge : ((2 ^ s : Nat) : Int) = (n : Int) := by rw [HN.out]
   rw [hge]
   clear hge hfin
   go_wp2
   go_ret
   exact ⟨F, rfl, hu2, HF, kr⟩
set_option maxHeartbeats 2000000 in
theorem zgn (p n q k r v : Nat) (a e : Nat → Nat) (gp ge : Nat) (A : Option Addr) (cp : Nat) (f : Nat → Nat) (w : World) (hT : Tb w w.heap.size p n q a e gp ge) (hG : Hid (Good n q k r v a)) (hX : FX w A n cp f) (hf : Hid (∀ i, i < n → f i < q)) :
    Calls Tryz.prog 256 #[.pointer (some ⟨p, 0, none⟩), .slice A n cp, .func (.func 258) #[.pointer (some ⟨p, 0, none⟩)] #[]] w fun ee w' => ∃ F : Nat → Nat, ee = .returned (.slice (some ⟨w.heap.size, 0, none⟩) n n) ∧ UW w' w.heap.size n F ∧ Hid (∀ i, i < n → F i < q ∧ M (q : Int) (F i : Int) (S n (fun j => (f j : Int) * ((1 : Int) * (v : Int) ^ (2 * i)) ^ j))) ∧ Ext w w' := by
 have HT := Lib.hid hT
 have hp := hT.hp
 have t0 := hT.size
 have hk0 := hG.out.k0
 have hk9 := hG.out.k9
 have hq0 := hG.out.q0
 have hq1 := hG.out.q1
 have HN := Lib.hid hG.out.nk
 have hn2 := zez hk0 hk9
 rw [← HN.out] at hn2
 obtain ⟨hn0, hn1⟩ := hn2
 clear hT
 go_enter Tryz.func256, Tryz.ntmps256
 go_wp2_with fail
 refine (zd4 A n cp k f w hX HN hk0 hk9).mono ?_
 rintro ee w1 ⟨rfl, hu, k1⟩
 have hst : Joined q ((1 : Int) : Int) ((v : Int) : Int) (fun i => (f i : Int)) k 1 (fun i => f (rev k i)) := Joined.start fun b _ => rfl
 have hlt0 : ∀ i, i < n → f (rev k i) < q := fun i hi => by
  have := (zem hk0 hk9 (show i < 2 ^ k by rw [← HN.out]; exact hi)).2
  rw [← HN.out] at this
  exact hf.out _ this
 have HST := Lib.hid hst
 have HLT := Lib.hid hlt0
 clear hst hlt0
 go_wp2_with fail
 go_loopw [8] (fun i wr => ∃ (s : Nat) (F : Nat → Nat), s ≤ k ∧ i = .int .i64 ((2 ^ s : Nat) : Int) ∧ UW wr w.heap.size n F ∧ Hid (∀ i, i < n → F i < q) ∧ Hid (Joined q ((1 : Int) : Int) ((v : Int) : Int) (fun i => (f i : Int)) (k - s) (2 ^ s) F) ∧ Ext w wr) (fun i _ => n - (intOf i).toNat)
 case atStart => exact ⟨0, _, by omega, rfl, hu, HLT, HST, k1⟩
 case round =>
  obtain ⟨s, F, hs, rfl, hu2, hl2, hj2, kr⟩ := hrel
  clear hu HST HLT k1
  have p0 := cE kr t0
  have hsz := RW.lt hu2
  have hh0 := Nat.two_pow_pos s
  by_cases hlt : s < k
  ·have HK := Lib.hid (zja HN.out hlt)
   have hhn : 2 ^ s < n := by rw [HN.out]; exact Nat.pow_lt_pow_right (by omega) hlt
   have hnx := Joined.next (q := q) (c := ((1 : Int) : Int)) (g := ((v : Int) : Int)) (a := fun i => (f i : Int)) (k := k - s - 1) (h := 2 ^ s) (f := F) (b := fun P => a ((2 * n - 2 * P * 2 ^ (k - s - 1)) % (2 * n))) (by omega) (by
    rw [show 2 * 2 ^ (k - s - 1) * 2 ^ s = n by rw [HK.out, Nat.mul_comm 2 (2 ^ (k - s - 1)), Nat.mul_assoc]]
    exact hG.out.hv) (fun p hp => hG.out.back HK.out hp) (by rw [show k - s - 1 + 1 = k - s by omega]; exact hj2.out)
   rw [show k - s - 1 = k - (s + 1) by omega, show 2 * 2 ^ s = 2 ^ (s + 1) by rw [Nat.pow_succ, Nat.mul_comm]] at hnx
   have HNX := Lib.hid hnx
   have HL := Lib.hid (fun i (_ : i < n) => znb (q := q) (h := 2 ^ s) (b := fun P => a ((2 * n - 2 * P * 2 ^ (k - (s + 1))) % (2 * n))) (f := F) (by omega) i)
   have HP := Lib.hid (show 2 ^ (s + 1) = 2 ^ s * 2 by rw [Nat.pow_succ])
   clear hnx
   have e1 : k - s - 1 = k - (s + 1) := by omega
   rw [e1] at HK
   clear e1
   generalize 2 ^ (k - (s + 1)) = K at *
   generalize 2 ^ s = hf2 at *
   go_wp2_with fail
   refine (zq7 w.heap.size p n q hf2 K a e gp ge w.heap.size F wr (HT.out.below kr) hu2 (by omega) (Nat.le_refl _) HK hh0 (by omega) (by omega) (by omega) hq1 hl2 (Lib.hid hG.out.lt)).mono ?_
   rintro ee w2 ⟨rfl, hu3, k3⟩
   go_wp2
   refine ⟨⟨s + 1, _, by omega, ?_, hu3, HL, HNX, Below.trans kr k3⟩, ?_⟩
   ·rw [HP.out]; go_num
   ·simp [intOf]; omega
  ·obtain rfl : s = k := by omega
   have hfin : ∀ i, i < n → F i < q ∧ M (q : Int) (F i : Int) (S n (fun j => (f j : Int) * ((1 : Int) * (v : Int) ^ (2 * i)) ^ j)) := fun i hi => ⟨hl2.out i hi, by
    have h1 := hj2.out
    rw [Nat.sub_self, ← HN.out] at h1
    exact h1.done hi⟩
   have HF := Lib.hid hfin
   have hge : ((2 ^ s : Nat) : Int) = (n : Int) := by rw [HN.out]
   rw [hge]
   clear hge hfin
   go_wp2
   go_ret
   exact ⟨F, rfl, hu2, HF, kr⟩
end Go.Proofs.YtopbibfpjgjalaaGreatDoor
