import Derived.Test.YtjikdbcjabopnaaGreatDoorJ14
import Derived.Test.YtjikdbcjabopnaaGreatDoorJNPlace
import Derived.Test.YtjikdbcjabopnaaGreatDoorJ16
namespace Go.Proofs.YtjikdbcjabopnaaGreatDoor
open Go.RowKit
set_option linter.unusedVariables false
set_option maxRecDepth 100000
def UpPost (w : World) (n V : Nat) (e : Ending) (w' : World) : Prop :=
 ∃ zs, e = .returned (.slice (some ⟨w.heap.size, 0, none⟩) (n + 1) (n + 1)) ∧ Row w.heap.size w w' w.heap.size (n + 1) (n + 1) zs ∧ (∀ x ∈ zs, x < W64) ∧ nv zs = V
theorem shiftedUp_any (A : Option Addr) (n c s : Nat) (xs : List Nat) (w : World) (h : NR w w.heap.size A n c xs) (hn : n ≤ 1000000) (hs : s < 64) :
    Calls Tryz.prog 217 #[.slice A n c, .int .u64 (s : Int)] w (UpPost w n (nv xs * 2 ^ s)) := by
 obtain ⟨i0, hi, hz0, hz1, hz2⟩ := info_parts info_u64N
 go_enter Tryz.func217, Tryz.ntmps217
 go_wp2_with (at_make; refine wpList_make_own _ rfl _ _ 50 rfl w.heap.size 22 i0 (.int .u64 0) 1 Tryz.underlying50 hi hz0 hz1 _ _ _ (n + 1) rfl rfl (by omega) (by rw [hz2]; omega) (by unfold maxLen; omega) (Nat.le_refl _) ?_; intro w1 hown1 hgrow1)
 go_loopw [5, 6, 15] (fun s' b i wr => ∃ (k : Nat) (zs : List Nat) (C : Nat), k ≤ n ∧ i = .int .i64 k ∧ s' = .slice (some ⟨w.heap.size, 0, none⟩) k (n + 1) ∧ b = .int .u64 (C : Int) ∧ Row w.heap.size w wr w.heap.size (n + 1) k zs ∧ ShInv s xs k zs C) (fun _ _ i _ => n - (intOf i).toNat)
 case atStart => exact ⟨0, [], 0, by omega, rfl, rfl, rfl, Row.start hown1 (Below.refl _ _) hgrow1 (Nat.le_refl _), shInv_zero⟩
 case round =>
  obtain ⟨k, zs, C, hk, rfl, rfl, rfl, hrow, hinv⟩ := hrel
  have hC := hinv.2.2.1
  have hC2 : C < 18446744073709551616 := Nat.lt_of_lt_of_le hC (by
   rw [← pow_splitN s (by omega)]; exact Nat.le_mul_of_pos_left _ (Nat.two_pow_pos _))
  have hsz := hrow.2.size
  by_cases hlt : k < n
  ·obtain ⟨ad, x, rfl, hb, hxb, hx, hc⟩ := (h.below hrow.2).at_ hlt
   rw [W64_eq] at hxb
   have HI := Lib.hid (sh_int hs hxb hC)
   have HN := Lib.hid (hinv.step hx hs hxb)
   clear hx
   have HC := Lib.hid hC
   clear hC
   go_wp2_with (at_builtin; rw [HI.out.1]; refine wpList_append_fits _ rfl _ _ 50 rfl w.heap.size 22 i0 1 Tryz.underlying50 hi hz1 w.heap.size k (n + 1) (u64s zs) rfl (hrow.1.alloc _) ⟨_, 0, none⟩ 1 1 [.int .u64 (shW s x C : Nat)] rfl rfl one_cell one_int (by omega) ?_; intro w2 hown2 hgrow2)
   rw [HI.out.2]
   exact ⟨⟨k + 1, _, _, by omega, by go_num, rfl, rfl, hrow.push hsz hown2 hgrow2, HN.out⟩, by simp [intOf]; omega⟩
  ·obtain rfl : k = n := by omega
   obtain ⟨v1, v2⟩ := hinv.done hs h.len
   have V1 := Lib.hid v1
   clear v1
   go_wp2_with (at_builtin; refine wpList_append_fits _ rfl _ _ 50 rfl w.heap.size 22 i0 1 Tryz.underlying50 hi hz1 w.heap.size k (k + 1) (u64s zs) rfl (hrow.1.alloc _) ⟨_, 0, none⟩ 1 1 [.int .u64 (C : Int)] rfl rfl one_cell one_int (by omega) ?_; intro w2 hown2 hgrow2)
   go_ret
   exact ⟨_, rfl, hrow.push hsz hown2 hgrow2, v2, V1.out⟩
theorem shiftedDown_any (A : Option Addr) (n c s : Nat) (xs : List Nat) (w : World) (h : NR w w.heap.size A n c xs) (hn : n ≤ 1000000) (hs : s < 64) :
    Calls Tryz.prog 219 #[.slice A n c, .int .u64 (s : Int)] w (NatPost w n (nw (nv xs / 2 ^ s))) := by
 obtain ⟨i0, hi, hz0, hz1, hz2⟩ := info_parts info_u64N
 go_enter Tryz.func219, Tryz.ntmps219
 go_wp2_with (at_make; refine wpList_make_own _ rfl _ _ 50 rfl w.heap.size 22 i0 (.int .u64 0) 1 Tryz.underlying50 hi hz0 hz1 _ _ _ n rfl rfl rfl (by rw [hz2]; omega) (by unfold maxLen; omega) (Nat.le_refl _) ?_; intro w1 hown1 hgrow1)
 go_loopw [5, 13] (fun s' i wr => ∃ (k : Nat) (zs : List Nat), k ≤ n ∧ i = .int .i64 k ∧ s' = .slice (some ⟨w.heap.size, 0, none⟩) k n ∧ Row w.heap.size w wr w.heap.size n k zs ∧ SdInv s xs k zs) (fun _ i _ => n - (intOf i).toNat)
 case atStart => exact ⟨0, [], by omega, rfl, rfl, Row.start hown1 (Below.refl _ _) hgrow1 (Nat.le_refl _), sdInv_zero⟩
 case round =>
  obtain ⟨k, zs, hk, rfl, rfl, hrow, hinv⟩ := hrel
  have hsz := hrow.2.size
  by_cases hlt : k < n
  ·have hr := h.below hrow.2
   obtain ⟨ad, x, rfl, hb, hxb, hx, hc⟩ := hr.at_ hlt
   have hy := getD_lt (Nat.lt_of_lt_of_le (by decide) W64_two) h.lt (k + 1)
   rw [W64_eq] at hxb hy
   have HI := Lib.hid (sd_int (y := xs[k + 1]?.getD 0) hs hxb)
   have HN := Lib.hid (hinv.step hx hs hxb)
   clear hx
   go_wp2_with fail
   rw [show ((k : Int) + 1) = ((k + 1 : Nat) : Int) by omega]
   refine (wordAt_any _ _ _ _ (k + 1) xs _ hr (by omega) (by omega)).mono ?_
   rintro e w' ⟨rfl, rfl⟩
   go_wp2_with (at_builtin; rw [HI.out]; refine wpList_append_fits _ rfl _ _ 50 rfl w.heap.size 22 i0 1 Tryz.underlying50 hi hz1 w.heap.size k n (u64s zs) rfl (hrow.1.alloc _) ⟨_, 0, none⟩ 1 1 [.int .u64 (sdW s x (xs[k + 1]?.getD 0) : Nat)] rfl rfl one_cell one_int (by omega) ?_; intro w2 hown2 hgrow2)
   exact ⟨⟨k + 1, _, by omega, by go_num, rfl, hrow.push hsz hown2 hgrow2, HN.out⟩, by simp [intOf]; omega⟩
  ·obtain rfl : k = n := by omega
   obtain ⟨v1, v2⟩ := hinv.done h.len
   have V1 := Lib.hid v1
   clear v1
   go_wp2_with fail
   refine (own_any _ _ _ _ zs _ (hrow.rd v2) hn).mono ?_
   rintro e w' ⟨A2, m2, c2, hm2, rfl, rfl, hr2⟩
   go_wp2
   go_ret
   refine ⟨A2, m2, c2, rfl, hm2, ?_, hrow.2⟩
   rw [← V1.out]
   exact hr2
theorem quiet_first {P : Program} {f : FuncId} {args : Array Value} {w : World} {n : Nat} {v : Value} (h : Calls P f args (w.drewN n) (Qt v (w.drewN n))) : Calls P f args (w.drewN n) fun e w'' => e = .returned v ∧ ∃ m, w'' = w.drewN m :=
 h.mono fun _ _ ⟨he, m, hm⟩ => ⟨he, n + m, by rw [hm, World.drewN_drewN]⟩
theorem quo_int (a b t : Nat) : ((a : Int) * 18446744073709551616 + b) / t = ((a * W64 + b) / t : Nat) := by
 rw [W64_eq, Int.natCast_ediv, Int.natCast_add, Int.natCast_mul]; rfl
def GuessPost (P D : Nat) (w : World) (e : Ending) (w' : World) : Prop := ∃ (G q : Nat), e = .returned (.int .u64 (G : Int)) ∧ G < 18446744073709551616 ∧ P < (G + 1) * D ∧ w' = w.drewN q
set_option maxHeartbeats 1000000 in
theorem guessWord_any (g o cp : Nat) (A : Option Addr) (n c B t : Nat) (pre ps post ds : List Nat) (sp : List Value) (w : World) (hk : Bk w g (pre ++ ps ++ post) sp) (ho : pre.length = o) (hp : ps.length = n + 1) (hps : ∀ x ∈ ps, x < W64)
    (h : NR w B A n c ds) (hn0 : 0 < n) (hn : n ≤ 1000000) (hcp : n + 1 ≤ cp) (ht : ds[n - 1]? = some t) (ht0 : 0 < t) (hv : nv ps < W64 * nv ds) :
    Calls Tryz.prog 264 #[.slice (some ⟨g, o, none⟩) (n + 1) cp, .slice A n c] w (GuessPost (nv ps) (nv ds) w) := by
 obtain ⟨ad, t', rfl, hb, htb, ht', hc⟩ := h.at_ (show n - 1 < n by omega)
 obtain rfl : t' = t := by rw [ht] at ht'; exact (Option.some.inj ht').symm
 obtain ⟨p1, hp1⟩ : ∃ p, ps[n]? = some p := ⟨ps[n], List.getElem?_eq_getElem (by omega)⟩
 obtain ⟨p0, hp0⟩ : ∃ p, ps[n - 1]? = some p := ⟨ps[n - 1], List.getElem?_eq_getElem (by omega)⟩
 have c1 : w.cell? ⟨g, o + n, none⟩ = some (.int .u64 (p1 : Int)) := hk.cell (by rw [List.append_assoc, List.getElem?_append_right (by omega), List.getElem?_append_left (by omega), show o + n - pre.length = n by omega, hp1])
 have c0 : w.cell? ⟨g, o + (n - 1), none⟩ = some (.int .u64 (p0 : Int)) := hk.cell (by rw [List.append_assoc, List.getElem?_append_right (by omega), List.getElem?_append_left (by omega), show o + (n - 1) - pre.length = n - 1 by omega, hp0])
 have b1 := hps p1 (List.mem_of_getElem? hp1)
 have b0 := hps p0 (List.mem_of_getElem? hp0)
 rw [W64_eq] at b1 b0 htb
 have HB := Lib.hid (guess_big hn0 hp hps hp0 hp1 ht ht0)
 have HV := Lib.hid hv
 clear hv hp0 hp1 ht ht'
 have e0 : (0 : Int) ≤ (n : Int) - 1 := by omega
 by_cases hlt : t' ≤ p1
 ·go_enter Tryz.func264, Tryz.ntmps264
  go_wp2
  go_ret
  exact ⟨18446744073709551615, 0, rfl, by omega, HV.out, rfl⟩
 ·have hd : decide ((t' : Int) ≤ p1) = false := by simp; omega
  have HQ := Lib.hid (quo_int p1 p0 t')
  have q0 : (p1 * W64 + p0) / t' < 18446744073709551616 := Nat.div_lt_of_lt_mul (by
   rw [W64_eq]
   have := Nat.mul_le_mul_right 18446744073709551616 (show p1 + 1 ≤ t' by omega)
   omega)
  go_enter Tryz.func264, Tryz.ntmps264
  go_wp2
  have e1 : IntKind.i64.wrap ((n : Int) - 1 + 1) = n := by rw [IntWalk.i64_in _ (by omega)]; omega
  have e2 : ((n : Int) - 1).toNat = n - 1 := by omega
  have e3 : (n : Int) - 1 < n + 1 := by omega
  have e4 : (n : Int) < n + 1 := by omega
  go_quiet ((go_at_call 191; exact quiet_first (divWord_any _ _ _ _ (by omega) (by omega) (by omega) (by omega) (by omega) (by omega))))
  clear e1 e2 e3 e4
  go_wp2
  go_ret
  exact ⟨(p1 * W64 + p0) / t', _, congrArg Ending.returned (u64_eq HQ.out), q0, HB.out, rfl⟩
def PlaceInv (P D N b n : Nat) (Wd Bl : Nat) (ns : List Nat) : Prop :=
 ns.length = n ∧ (∀ x ∈ ns, x < b) ∧ Bl ≤ 1 ∧ Wd < b ∧ vl b ns + Wd * D = P + N * Bl ∧ (Bl = 0 → P < (Wd + 1) * D)
theorem PlaceInv.back {P D N b n Wd Bl C : Nat} {ns ns' : List Nat} (h : PlaceInv P D N b n Wd Bl ns) (hN : N = b ^ n) (hB : 0 < Bl) (h1 : ns'.length = n) (h2 : ∀ x ∈ ns', x < b) (hC : C ≤ 1) (h3 : vl b ns' + b ^ n * C = vl b ns + D) :
    1 ≤ Wd ∧ C ≤ Bl ∧ PlaceInv P D N b n (Wd - 1) (Bl - C) ns' := by
 obtain ⟨g1, g2, g3, g4, g5, g6⟩ := h
 obtain rfl : Bl = 1 := by omega
 have hl := vl_lt g2
 rw [g1, ← hN] at hl
 rw [← hN] at h3
 have hw : 1 ≤ Wd := by
  rcases Nat.eq_zero_or_pos Wd with h0 | h0
  ·subst h0; rw [Nat.zero_mul] at g5; omega
  ·exact h0
 obtain ⟨V, rfl⟩ : ∃ V, Wd = V + 1 := ⟨Wd - 1, by omega⟩
 rw [Nat.add_mul, Nat.one_mul] at g5
 refine ⟨hw, hC, h1, h2, by omega, by omega, ?_, fun h0 => ?_⟩
 ·rw [Nat.add_sub_cancel, Nat.mul_sub, Nat.mul_one]
  have : N * C ≤ N := by
   rcases Nat.eq_zero_or_pos C with h0 | h0
   ·subst h0; omega
   ·obtain rfl : C = 1 := by omega
    omega
  omega
 ·rw [Nat.add_sub_cancel, Nat.add_mul, Nat.one_mul]
  omega
theorem PlaceInv.done {P D N b n Wd Bl : Nat} {ns : List Nat} (h : PlaceInv P D N b n Wd Bl ns) (h0 : Bl = 0) (hD : 0 < D) : Wd = P / D ∧ vl b ns = P % D := by
 obtain ⟨g1, g2, g3, g4, g5, g6⟩ := h
 subst h0
 have h1 := g6 rfl
 rw [Nat.add_mul, Nat.one_mul] at h1
 rw [Nat.mul_zero, Nat.add_zero] at g5
 have hlt : vl b ns < D := by omega
 have e : P = vl b ns + D * Wd := by rw [Nat.mul_comm D]; exact g5.symm
 constructor
 ·rw [e, Nat.add_mul_div_left _ _ hD, Nat.div_eq_of_lt hlt, Nat.zero_add]
 ·rw [e, Nat.add_mul_mod_self_left, Nat.mod_eq_of_lt hlt]
set_option maxHeartbeats 1000000 in
theorem divPlace_any (g o cp : Nat) (A : Option Addr) (n c B t : Nat) (pre ps post ds : List Nat) (sp : List Value) (w : World) (hk : Bk w g (pre ++ ps ++ post) sp) (ho : pre.length = o) (hp : ps.length = n + 1) (hps : ∀ x ∈ ps, x < W64)
    (h : NR w B A n c ds) (hB : B ≤ w.heap.size) (hne : 0 < n → ∀ ad, A = some ad → ad.block ≠ g) (hn0 : 0 < n) (hn : n ≤ 1000000) (hcp : n + 1 ≤ cp) (ht : ds[n - 1]? = some t) (ht0 : 0 < t) (hv : nv ps < W64 * nv ds) :
    Calls Tryz.prog 218 #[.slice (some ⟨g, o, none⟩) (n + 1) cp, .slice A n c] w (InPlace g pre post sp (n + 1) (fun ns C => C = nv ps / nv ds ∧ nv ns = nv ps % nv ds) w) := by
 have hD : 0 < nv ds := by
  rcases Nat.eq_zero_or_pos (nv ds) with h0 | h0
  ·rw [h0] at hv; omega
  ·exact h0
 go_enter Tryz.func218, Tryz.ntmps218
 go_wp2_with fail
 refine (guessWord_any g o cp A n c B t pre ps post ds sp w hk ho hp hps h hn0 hn hcp ht ht0 hv).mono ?_
 rintro e w' ⟨G, q, rfl, hG, hGv, rfl⟩
 have HG := Lib.hid hGv
 have HV := Lib.hid hv
 have HT := Lib.hid ht
 have HP := Lib.hid hp
 clear hGv hv ht hp
 go_wp2_with fail
 refine (takeTimes_any g o cp A n c B G pre ps post ds sp (w.drewN q) (hk.drewN q) ho HP.out hps (h.drewN q) hB hne hn hcp hG).mono ?_
 rintro e w1 ⟨ns1, C1, rfl, l1, b1, _, ⟨hC1, r1⟩, hk1, hg1⟩
 have R1 := Lib.hid r1
 have L1 := Lib.hid l1
 clear r1 l1
 go_wp2
 go_loopw [5, 6] (fun wd bl wr => ∃ (Wd Bl : Nat) (ns : List Nat), wd = .int .u64 (Wd : Int) ∧ bl = .int .u64 (Bl : Int) ∧ Bk wr g (pre ++ ns ++ post) sp ∧ w.grownBy wr (some g) ∧ PlaceInv (nv ps) (nv ds) (W64 ^ (n + 1)) W64 (n + 1) Wd Bl ns) (fun wd _ _ => (intOf wd).toNat)
 case atStart => exact ⟨G, C1, ns1, rfl, rfl, hk1, only_trans (only_drewN (World.grownBy.refl _ _) q) hg1, L1.out, b1, hC1, by rw [W64_eq]; exact hG, R1.out, fun _ => HG.out⟩
 case round =>
  obtain ⟨Wd, Bl, ns, rfl, rfl, hkr, hgr, hinv⟩ := hrel
  have hBl := hinv.2.2.1
  have hWd := hinv.2.2.2.1
  have hl := Lib.hid hinv.1
  have hlt := hinv.2.1
  rw [W64_eq] at hWd
  by_cases hb : 0 < Bl
  ·have hszr : B ≤ wr.heap.size := Nat.le_trans hB hgr.size
   go_wp2_with fail
   refine (giveBack_any g o cp A n c B pre ns post ds sp wr hkr ho hl.out hlt (h.only hgr hB hne) hszr hne hn hcp).mono ?_
   rintro e w2 ⟨ns2, C2, rfl, l2, b2, _, ⟨hC2, r2⟩, hk2, hg2⟩
   obtain ⟨z1, z2, z3⟩ := hinv.back rfl hb l2 b2 hC2 r2
   have Z3 := Lib.hid z3
   have R2 := Lib.hid r2
   have L2 := Lib.hid l2
   clear z3 r2 l2
   go_wp2
   exact ⟨⟨Wd - 1, Bl - C2, ns2, by go_num, by go_num, hk2, only_trans hgr hg2, Z3.out⟩, by simp [intOf]; omega⟩
  ·obtain ⟨z1, z2⟩ := hinv.done (by omega) hD
   have Z1 := Lib.hid z1
   have Z2 := Lib.hid z2
   clear z1 z2
   go_wp2
   go_ret
   exact ⟨ns, Wd, rfl, hl.out, hlt, by rw [W64_eq]; exact hWd, ⟨Z1.out, Z2.out⟩, hkr, hgr⟩
end Go.Proofs.YtjikdbcjabopnaaGreatDoor
