import Derived.Test.YtopbibfpjgjalaaGreatDoorZ15
import Derived.Test.YtopbibfpjgjalaaGreatDoorZNRow
import Derived.Test.YtopbibfpjgjalaaGreatDoorZ3
namespace Go.Proofs.YtopbibfpjgjalaaGreatDoor
open Go.RowKit
set_option linter.unusedVariables false
set_option maxRecDepth 100000
def zhw (g : Nat) (pre post : List Nat) (sp : List Value) (n : Nat) (R : List Nat → Nat → Prop) (w : World) (e : Ending) (w' : World) : Prop :=
 ∃ (ns : List Nat) (C : Nat), e = .returned (.int .u64 (C : Int)) ∧ ns.length = n ∧ (∀ x ∈ ns, x < W64) ∧ C < W64 ∧ R ns C ∧ Bk w' g (pre ++ ns ++ post) sp ∧ w.grownBy w' (some g)
set_option maxHeartbeats 1000000 in
theorem zir (g o cp : Nat) (A : Option Addr) (n c B : Nat) (pre ps post ds : List Nat) (sp : List Value) (w : World) (hk : Bk w g (pre ++ ps ++ post) sp) (ho : pre.length = o) (hp : ps.length = n + 1) (hps : ∀ x ∈ ps, x < W64)
    (h : NR w B A n c ds) (hB : B ≤ w.heap.size) (hne : 0 < n → ∀ ad, A = some ad → ad.block ≠ g) (hn : n ≤ 1000000) (hcp : n + 1 ≤ cp) :
    Calls Tryz.prog 270 #[.slice (some ⟨g, o, none⟩) (n + 1) cp, .slice A n c] w (zhw g pre post sp (n + 1) (fun ns C => C ≤ 1 ∧ nv ns + W64 ^ (n + 1) * C = nv ps + nv ds) w) := by
 have HD := Lib.hid h.len
 go_enter Tryz.func270, Tryz.ntmps270
 go_wp2
 go_loopw [5, 11] (fun b i wr => ∃ (k C : Nat) (ns : List Nat), k ≤ n ∧ i = .int .i64 k ∧ b = .int .u64 (C : Int) ∧ Bk wr g (pre ++ ns ++ ps.drop k ++ post) sp ∧ w.grownBy wr (some g) ∧ AddInv W64 ps ds k ns C) (fun _ i _ => n - (intOf i).toNat)
 case atStart => exact ⟨0, 0, [], by omega, rfl, rfl, by simpa using hk, World.grownBy.refl _ _, zdo⟩
 case round =>
  obtain ⟨k, C, ns, hkn, rfl, rfl, hb, hg, hinv⟩ := hrel
  have hC := hinv.2.2.1
  obtain ⟨p, hp1, hp2⟩ := zf7 (show k < ps.length by omega)
  have hpb := hps p (List.mem_of_getElem? hp1)
  rw [hp2] at hb
  have hb' : Bk wr g (pre ++ ns ++ p :: (ps.drop (k + 1) ++ post)) sp := by simpa using hb
  have hlen : o + k = pre.length + ns.length := by rw [ho, hinv.1]
  have hcell := hb'.cell (zk6 (p := p) (post := ps.drop (k + 1) ++ post) hlen)
  have hfz := hb'.frozen (o + k)
  have hset : ∀ v : Nat, Bk (wr.setCell ⟨g, o + k, none⟩ (.int .u64 (v : Int))) g (pre ++ (ns ++ [v]) ++ ps.drop (k + 1) ++ post) sp := fun v => by
   have := hb'.set_ (i := o + k) (by simp; omega) v
   rw [zk2 hlen] at this
   simpa using this
  have hgs : ∀ v : Value, w.grownBy (wr.setCell ⟨g, o + k, none⟩ v) (some g) := fun v => zbb hg (zct v)
  have HS := Lib.hid hset
  have HG := Lib.hid hgs
  clear hlen hset hgs hb hb' hp2
  rw [zad] at hpb
  by_cases hlt : k < n
  ·obtain ⟨ad, x, rfl, hbl, hxb, hx, hc⟩ := (h.only hg hB hne).at_ hlt
   rw [zad] at hxb
   obtain ⟨q1, q2, q3⟩ := ad_eq hpb hxb hC
   have HI := Lib.hid (zp2 p x C)
   have HN := Lib.hid (hinv.step (z := adW p x C) (C' := adC p x C) (by rw [hx, hp1, zad, Option.getD_some, Option.getD_some]; exact q1) (by rw [zad]; exact q2) q3)
   clear hx hp1 q1
   go_wp2_with fail
   refine (zcl _ _ _ _ (by omega) (by omega) (by omega) (by omega) (by omega) (by omega)).mono ?_
   rw [HI.out.1, HI.out.2]
   rintro e w' ⟨rfl, rfl⟩
   go_wp2
   exact ⟨⟨k + 1, _, _, by omega, by go_num, rfl, HS.out _, HG.out _, HN.out⟩, by simp [intOf]; omega⟩
  ·obtain rfl : k = n := by omega
   obtain ⟨q1, q2, q3⟩ := ad_eq hpb (show 0 < 18446744073709551616 by omega) hC
   have HI := Lib.hid (zp2 p 0 C)
   have HN := Lib.hid (hinv.step (z := adW p 0 C) (C' := adC p 0 C) (by rw [List.getElem?_eq_none (l := ds) (by rw [HD.out]; exact Nat.le_refl _), hp1, zad, Option.getD_some, Option.getD_none]; exact q1) (by rw [zad]; exact q2) q3)
   clear hp1 q1
   go_wp2_with fail
   refine (zcl (p : Int) ((0 : Nat) : Int) (C : Int) _ (by omega) (by omega) (by omega) (by omega) (by omega) (by omega)).mono ?_
   rw [HI.out.1, HI.out.2]
   rintro e w' ⟨rfl, rfl⟩
   go_wp2
   go_ret
   refine ⟨_, _, rfl, HN.out.1, HN.out.2.1, by rw [zad]; omega, ⟨q3, HN.out.full (by omega) (by rw [HD.out]; omega)⟩, ?_, HG.out _⟩
   have := HS.out (adW p 0 C)
   rwa [List.drop_of_length_le (by omega), List.append_nil] at this
set_option maxHeartbeats 1000000 in
theorem zib (g o cp : Nat) (A : Option Addr) (n c B q : Nat) (pre ps post ds : List Nat) (sp : List Value) (w : World) (hk : Bk w g (pre ++ ps ++ post) sp) (ho : pre.length = o) (hp : ps.length = n + 1) (hps : ∀ x ∈ ps, x < W64)
    (h : NR w B A n c ds) (hB : B ≤ w.heap.size) (hne : 0 < n → ∀ ad, A = some ad → ad.block ≠ g) (hn : n ≤ 1000000) (hcp : n + 1 ≤ cp) (hq : q < 18446744073709551616) :
    Calls Tryz.prog 269 #[.slice (some ⟨g, o, none⟩) (n + 1) cp, .slice A n c, .int .u64 (q : Int)] w (zhw g pre post sp (n + 1) (fun ns C => C ≤ 1 ∧ nv ns + q * nv ds = nv ps + W64 ^ (n + 1) * C) w) := by
 have HD := Lib.hid h.len
 have W0 : 0 < W64 := by rw [zad]; omega
 go_enter Tryz.func269, Tryz.ntmps269
 go_wp2
 go_loopw [8, 9, 15] (fun q' b i wr => ∃ (k Q C : Nat) (ns : List Nat), k ≤ n ∧ i = .int .i64 k ∧ q' = .int .u64 (Q : Int) ∧ b = .int .u64 (C : Int) ∧ Bk wr g (pre ++ ns ++ ps.drop k ++ post) sp ∧ w.grownBy wr (some g) ∧ TakeInv W64 ps ds q k ns Q C) (fun _ _ i _ => n - (intOf i).toNat)
 case atStart => exact ⟨0, 0, 0, [], by omega, rfl, rfl, rfl, by simpa using hk, World.grownBy.refl _ _, zik W0⟩
 case round =>
  obtain ⟨k, Q, C, ns, hkn, rfl, rfl, rfl, hb, hg, hinv⟩ := hrel
  have hC := hinv.2.2.1
  have hQ := hinv.2.2.2.1
  obtain ⟨p, hp1, hp2⟩ := zf7 (show k < ps.length by omega)
  have hpb := hps p (List.mem_of_getElem? hp1)
  rw [hp2] at hb
  have hb' : Bk wr g (pre ++ ns ++ p :: (ps.drop (k + 1) ++ post)) sp := by simpa using hb
  have hlen : o + k = pre.length + ns.length := by rw [ho, hinv.1]
  have hcell := hb'.cell (zk6 (p := p) (post := ps.drop (k + 1) ++ post) hlen)
  have hfz := hb'.frozen (o + k)
  have hset : ∀ v : Nat, Bk (wr.setCell ⟨g, o + k, none⟩ (.int .u64 (v : Int))) g (pre ++ (ns ++ [v]) ++ ps.drop (k + 1) ++ post) sp := fun v => by
   have := hb'.set_ (i := o + k) (by simp; omega) v
   rw [zk2 hlen] at this
   simpa using this
  have hgs : ∀ v : Value, w.grownBy (wr.setCell ⟨g, o + k, none⟩ v) (some g) := fun v => zbb hg (zct v)
  have HS := Lib.hid hset
  have HG := Lib.hid hgs
  clear hlen hset hgs hb hb' hp2
  rw [zad] at hpb
  rw [zad] at hQ
  by_cases hlt : k < n
  ·obtain ⟨ad, x, rfl, hbl, hxb, hx, hc⟩ := (h.only hg hB hne).at_ hlt
   rw [zad] at hxb
   obtain ⟨t1, t2, t3⟩ := mu_eq hxb hq (show 0 < 18446744073709551616 by omega) hQ
   have HJ := Lib.hid (zp3 x q 0 Q)
   obtain ⟨q1, q2, q3⟩ := sb_eq hpb t2 hC
   have HI := Lib.hid (zqz hpb t2 hC)
   have HN := Lib.hid (hinv.step (t := muW x q 0 Q) (Q' := muC x q 0 Q) (z := sbW p (muW x q 0 Q) C) (C' := sbC p (muW x q 0 Q) C) (by rw [hx, zad, Option.getD_some]; omega) (by rw [hp1, zad, Option.getD_some]; exact q1) (by rw [zad]; exact q2) (by rw [zad]; exact t3) q3)
   clear hx hp1 q1 t1
   go_wp2_with fail
   refine (zfz (x : Int) (q : Int) ((0 : Nat) : Int) (Q : Int) _ (by omega) (by omega) (by omega) (by omega) (by omega) (by omega) (by omega) (by omega)).mono ?_
   rw [HJ.out.1, HJ.out.2]
   rintro e w' ⟨rfl, rfl⟩
   go_wp2_with fail
   refine (zdn _ _ _ _ (by omega) (by omega) (by omega) (by omega) (by omega) (by omega)).mono ?_
   rw [HI.out.1, HI.out.2]
   rintro e w' ⟨rfl, rfl⟩
   go_wp2
   exact ⟨⟨k + 1, _, _, _, by omega, by go_num, rfl, rfl, HS.out _, HG.out _, HN.out⟩, by simp [intOf]; omega⟩
  ·obtain rfl : k = n := by omega
   obtain ⟨q1, q2, q3⟩ := sb_eq hpb hQ hC
   have HI := Lib.hid (zqz hpb hQ hC)
   have HN := Lib.hid (hinv.step (t := Q) (Q' := 0) (z := sbW p Q C) (C' := sbC p Q C) (by rw [List.getElem?_eq_none (l := ds) (by rw [HD.out]; exact Nat.le_refl _), zad, Option.getD_none]; omega) (by rw [hp1, zad, Option.getD_some]; exact q1) (by rw [zad]; exact q2) W0 q3)
   clear hp1 q1
   go_wp2_with fail
   refine (zdn _ _ _ _ (by omega) (by omega) (by omega) (by omega) (by omega) (by omega)).mono ?_
   rw [HI.out.1, HI.out.2]
   rintro e w' ⟨rfl, rfl⟩
   go_wp2
   go_ret
   obtain ⟨f1, f2, f3, f4, f5⟩ := HN.out
   rw [List.take_of_length_le (by rw [HD.out]; omega), List.take_of_length_le (by omega), Nat.zero_add] at f5
   refine ⟨_, _, rfl, f1, f2, by rw [zad]; omega, ⟨q3, f5⟩, ?_, HG.out _⟩
   have := HS.out (sbW p Q C)
   rwa [List.drop_of_length_le (by omega), List.append_nil] at this
set_option maxHeartbeats 1000000 in
theorem ze1 (g o cp : Nat) (A : Option Addr) (n c B q : Nat) (pre ps post ds : List Nat) (sp : List Value) (w : World) (hk : Bk w g (pre ++ ps ++ post) sp) (ho : pre.length = o) (hp : ps.length = n) (hps : ∀ x ∈ ps, x < W64)
    (h : NR w B A n c ds) (hB : B ≤ w.heap.size) (hne : 0 < n → ∀ ad, A = some ad → ad.block ≠ g) (hn : n ≤ 1000000) (hcp : n ≤ cp) (hq : q < 18446744073709551616) :
    Calls Tryz.prog 244 #[.slice (some ⟨g, o, none⟩) n cp, .slice A n c, .int .u64 (q : Int)] w (zhw g pre post sp n (fun ns C => nv ns + W64 ^ n * C = nv ps + q * nv ds) w) := by
 have HD := Lib.hid h.len
 have W0 : 0 < W64 := by rw [zad]; omega
 go_enter Tryz.func244, Tryz.ntmps244
 go_wp2
 go_loopw [7, 12] (fun q' i wr => ∃ (k Q : Nat) (ns : List Nat), k ≤ n ∧ i = .int .i64 k ∧ q' = .int .u64 (Q : Int) ∧ Bk wr g (pre ++ ns ++ ps.drop k ++ post) sp ∧ w.grownBy wr (some g) ∧ TimesInv W64 ps ds q k ns Q) (fun _ i _ => n - (intOf i).toNat)
 case atStart => exact ⟨0, 0, [], by omega, rfl, rfl, by simpa using hk, World.grownBy.refl _ _, zid W0⟩
 case round =>
  obtain ⟨k, Q, ns, hkn, rfl, rfl, hb, hg, hinv⟩ := hrel
  have hQ := hinv.2.2.1
  rw [zad] at hQ
  by_cases hlt : k < n
  ·obtain ⟨ad, x, rfl, hbl, hxb, hx, hc⟩ := (h.only hg hB hne).at_ hlt
   rw [zad] at hxb
   obtain ⟨p, hp1, hp2⟩ := zf7 (show k < ps.length by omega)
   have hpb := hps p (List.mem_of_getElem? hp1)
   rw [hp2] at hb
   have hb' : Bk wr g (pre ++ ns ++ p :: (ps.drop (k + 1) ++ post)) sp := by simpa using hb
   have hlen : o + k = pre.length + ns.length := by rw [ho, hinv.1]
   have hcell := hb'.cell (zk6 (p := p) (post := ps.drop (k + 1) ++ post) hlen)
   have hfz := hb'.frozen (o + k)
   have hset : ∀ v : Nat, Bk (wr.setCell ⟨g, o + k, none⟩ (.int .u64 (v : Int))) g (pre ++ (ns ++ [v]) ++ ps.drop (k + 1) ++ post) sp := fun v => by
    have := hb'.set_ (i := o + k) (by simp; omega) v
    rw [zk2 hlen] at this
    simpa using this
   have hgs : ∀ v : Value, w.grownBy (wr.setCell ⟨g, o + k, none⟩ v) (some g) := fun v => zbb hg (zct v)
   have HS := Lib.hid hset
   have HG := Lib.hid hgs
   clear hlen hset hgs hb hb' hp2
   rw [zad] at hpb
   obtain ⟨t1, t2, t3⟩ := mu_eq hxb hq hpb hQ
   have HJ := Lib.hid (zp3 x q p Q)
   have HN := Lib.hid (hinv.step (z := muW x q p Q) (Q' := muC x q p Q) (by rw [hx, hp1, zad, Option.getD_some, Option.getD_some]; exact t1) (by rw [zad]; exact t2) (by rw [zad]; exact t3))
   clear hx hp1 t1
   go_wp2_with fail
   refine (zfz (x : Int) (q : Int) (p : Int) (Q : Int) _ (by omega) (by omega) (by omega) (by omega) (by omega) (by omega) (by omega) (by omega)).mono ?_
   rw [HJ.out.1, HJ.out.2]
   rintro e w' ⟨rfl, rfl⟩
   go_wp2
   exact ⟨⟨k + 1, _, _, by omega, by go_num, rfl, HS.out _, HG.out _, HN.out⟩, by simp [intOf]; omega⟩
  ·obtain rfl : k = n := by omega
   obtain ⟨f1, f2, f4, f5⟩ := hinv
   rw [List.take_of_length_le (l := ps) (by omega), List.take_of_length_le (l := ds) (by rw [HD.out]; omega)] at f5
   rw [List.drop_of_length_le (by omega), List.append_nil] at hb
   have F5 := Lib.hid f5
   have F1 := Lib.hid f1
   clear f5 f1
   go_wp2
   go_ret
   exact ⟨_, _, rfl, F1.out, f2, f4, F5.out, hb, hg⟩
def z16 (w : World) (n V : Nat) (e : Ending) (w' : World) : Prop :=
 ∃ zs, e = .returned (.slice (some ⟨w.heap.size, 0, none⟩) (n + 1) (n + 1)) ∧ Row w.heap.size w w' w.heap.size (n + 1) (n + 1) zs ∧ (∀ x ∈ zs, x < W64) ∧ nv zs = V
theorem zed (A : Option Addr) (n c s : Nat) (xs : List Nat) (w : World) (h : NR w w.heap.size A n c xs) (hn : n ≤ 1000000) (hs : s < 64) :
    Calls Tryz.prog 239 #[.slice A n c, .int .u64 (s : Int)] w (z16 w n (nv xs * 2 ^ s)) := by
 obtain ⟨i0, hi, hz0, hz1, hz2⟩ := info_parts zbs
 go_enter Tryz.func239, Tryz.ntmps239
 go_wp2_with (at_make; refine wpList_make_own _ rfl _ _ 65 rfl w.heap.size 26 i0 (.int .u64 0) 1 Tryz.underlying65 hi hz0 hz1 _ _ _ (n + 1) rfl rfl (by omega) (by rw [hz2]; omega) (by unfold maxLen; omega) (Nat.le_refl _) ?_; intro w1 hown1 hgrow1)
 go_loopw [5, 6, 15] (fun s' b i wr => ∃ (k : Nat) (zs : List Nat) (C : Nat), k ≤ n ∧ i = .int .i64 k ∧ s' = .slice (some ⟨w.heap.size, 0, none⟩) k (n + 1) ∧ b = .int .u64 (C : Int) ∧ Row w.heap.size w wr w.heap.size (n + 1) k zs ∧ ShInv s xs k zs C) (fun _ _ i _ => n - (intOf i).toNat)
 case atStart => exact ⟨0, [], 0, by omega, rfl, rfl, rfl, Row.start hown1 (Below.refl _ _) hgrow1 (Nat.le_refl _), zn2⟩
 case round =>
  obtain ⟨k, zs, C, hk, rfl, rfl, rfl, hrow, hinv⟩ := hrel
  have hC := hinv.2.2.1
  have hC2 : C < 18446744073709551616 := Nat.lt_of_lt_of_le hC (by
   rw [← zbj s (by omega)]; exact Nat.le_mul_of_pos_left _ (Nat.two_pow_pos _))
  have hsz := hrow.2.size
  by_cases hlt : k < n
  ·obtain ⟨ad, x, rfl, hb, hxb, hx, hc⟩ := (h.below hrow.2).at_ hlt
   rw [zad] at hxb
   have HI := Lib.hid (z1b hs hxb hC)
   have HN := Lib.hid (hinv.step hx hs hxb)
   clear hx
   have HC := Lib.hid hC
   clear hC
   go_wp2_with (at_builtin; rw [HI.out.1]; refine wpList_append_fits _ rfl _ _ 65 rfl w.heap.size 26 i0 1 Tryz.underlying65 hi hz1 w.heap.size k (n + 1) (u64s zs) rfl (hrow.1.alloc _) ⟨_, 0, none⟩ 1 1 [.int .u64 (shW s x C : Nat)] rfl rfl zaz zba (by omega) ?_; intro w2 hown2 hgrow2)
   rw [HI.out.2]
   exact ⟨⟨k + 1, _, _, by omega, by go_num, rfl, rfl, hrow.push hsz hown2 hgrow2, HN.out⟩, by simp [intOf]; omega⟩
  ·obtain rfl : k = n := by omega
   obtain ⟨v1, v2⟩ := hinv.done hs h.len
   have V1 := Lib.hid v1
   clear v1
   go_wp2_with (at_builtin; refine wpList_append_fits _ rfl _ _ 65 rfl w.heap.size 26 i0 1 Tryz.underlying65 hi hz1 w.heap.size k (k + 1) (u64s zs) rfl (hrow.1.alloc _) ⟨_, 0, none⟩ 1 1 [.int .u64 (C : Int)] rfl rfl zaz zba (by omega) ?_; intro w2 hown2 hgrow2)
   go_ret
   exact ⟨_, rfl, hrow.push hsz hown2 hgrow2, v2, V1.out⟩
theorem zfy (A : Option Addr) (n c s : Nat) (xs : List Nat) (w : World) (h : NR w w.heap.size A n c xs) (hn : n ≤ 1000000) (hs : s < 64) :
    Calls Tryz.prog 241 #[.slice A n c, .int .u64 (s : Int)] w (zgi w n (nw (nv xs / 2 ^ s))) := by
 obtain ⟨i0, hi, hz0, hz1, hz2⟩ := info_parts zbs
 go_enter Tryz.func241, Tryz.ntmps241
 go_wp2_with (at_make; refine wpList_make_own _ rfl _ _ 65 rfl w.heap.size 26 i0 (.int .u64 0) 1 Tryz.underlying65 hi hz0 hz1 _ _ _ n rfl rfl rfl (by rw [hz2]; omega) (by unfold maxLen; omega) (Nat.le_refl _) ?_; intro w1 hown1 hgrow1)
 go_loopw [5, 13] (fun s' i wr => ∃ (k : Nat) (zs : List Nat), k ≤ n ∧ i = .int .i64 k ∧ s' = .slice (some ⟨w.heap.size, 0, none⟩) k n ∧ Row w.heap.size w wr w.heap.size n k zs ∧ SdInv s xs k zs) (fun _ i _ => n - (intOf i).toNat)
 case atStart => exact ⟨0, [], by omega, rfl, rfl, Row.start hown1 (Below.refl _ _) hgrow1 (Nat.le_refl _), zo3⟩
 case round =>
  obtain ⟨k, zs, hk, rfl, rfl, hrow, hinv⟩ := hrel
  have hsz := hrow.2.size
  by_cases hlt : k < n
  ·have hr := h.below hrow.2
   obtain ⟨ad, x, rfl, hb, hxb, hx, hc⟩ := hr.at_ hlt
   have hy := zh1 (Nat.lt_of_lt_of_le (by decide) za1) h.lt (k + 1)
   rw [zad] at hxb hy
   have HI := Lib.hid (z0x (y := xs[k + 1]?.getD 0) hs hxb)
   have HN := Lib.hid (hinv.step hx hs hxb)
   clear hx
   go_wp2_with fail
   rw [show ((k : Int) + 1) = ((k + 1 : Nat) : Int) by omega]
   refine (zc8 _ _ _ _ (k + 1) xs _ hr (by omega) (by omega)).mono ?_
   rintro e w' ⟨rfl, rfl⟩
   go_wp2_with (at_builtin; rw [HI.out]; refine wpList_append_fits _ rfl _ _ 65 rfl w.heap.size 26 i0 1 Tryz.underlying65 hi hz1 w.heap.size k n (u64s zs) rfl (hrow.1.alloc _) ⟨_, 0, none⟩ 1 1 [.int .u64 (sdW s x (xs[k + 1]?.getD 0) : Nat)] rfl rfl zaz zba (by omega) ?_; intro w2 hown2 hgrow2)
   exact ⟨⟨k + 1, _, by omega, by go_num, rfl, hrow.push hsz hown2 hgrow2, HN.out⟩, by simp [intOf]; omega⟩
  ·obtain rfl : k = n := by omega
   obtain ⟨v1, v2⟩ := hinv.done h.len
   have V1 := Lib.hid v1
   clear v1
   go_wp2_with fail
   refine (zdr _ _ _ _ zs _ (hrow.rd v2) hn).mono ?_
   rintro e w' ⟨A2, m2, c2, hm2, rfl, rfl, hr2⟩
   go_wp2
   go_ret
   refine ⟨A2, m2, c2, rfl, hm2, ?_, hrow.2⟩
   rw [← V1.out]
   exact hr2
theorem zkh {P : Program} {f : FuncId} {args : Array Value} {w : World} {n : Nat} {v : Value} (h : Calls P f args (w.drewN n) (Qt v (w.drewN n))) : Calls P f args (w.drewN n) fun e w'' => e = .returned v ∧ ∃ m, w'' = w.drewN m :=
 h.mono fun _ _ ⟨he, m, hm⟩ => ⟨he, n + m, by rw [hm, World.drewN_drewN]⟩
theorem zxj (a b t : Nat) : ((a : Int) * 18446744073709551616 + b) / t = ((a * W64 + b) / t : Nat) := by
 rw [zad, Int.natCast_ediv, Int.natCast_add, Int.natCast_mul]; rfl
def zre (P D : Nat) (w : World) (e : Ending) (w' : World) : Prop := ∃ (G q : Nat), e = .returned (.int .u64 (G : Int)) ∧ G < 18446744073709551616 ∧ P < (G + 1) * D ∧ w' = w.drewN q
set_option maxHeartbeats 1000000 in
theorem zhh (g o cp : Nat) (A : Option Addr) (n c B t : Nat) (pre ps post ds : List Nat) (sp : List Value) (w : World) (hk : Bk w g (pre ++ ps ++ post) sp) (ho : pre.length = o) (hp : ps.length = n + 1) (hps : ∀ x ∈ ps, x < W64)
    (h : NR w B A n c ds) (hn0 : 0 < n) (hn : n ≤ 1000000) (hcp : n + 1 ≤ cp) (ht : ds[n - 1]? = some t) (ht0 : 0 < t) (hv : nv ps < W64 * nv ds) :
    Calls Tryz.prog 268 #[.slice (some ⟨g, o, none⟩) (n + 1) cp, .slice A n c] w (zre (nv ps) (nv ds) w) := by
 obtain ⟨ad, t', rfl, hb, htb, ht', hc⟩ := h.at_ (show n - 1 < n by omega)
 obtain rfl : t' = t := by rw [ht] at ht'; exact (Option.some.inj ht').symm
 obtain ⟨p1, hp1⟩ : ∃ p, ps[n]? = some p := ⟨ps[n], List.getElem?_eq_getElem (by omega)⟩
 obtain ⟨p0, hp0⟩ : ∃ p, ps[n - 1]? = some p := ⟨ps[n - 1], List.getElem?_eq_getElem (by omega)⟩
 have c1 : w.cell? ⟨g, o + n, none⟩ = some (.int .u64 (p1 : Int)) := hk.cell (by rw [List.append_assoc, List.getElem?_append_right (by omega), List.getElem?_append_left (by omega), show o + n - pre.length = n by omega, hp1])
 have c0 : w.cell? ⟨g, o + (n - 1), none⟩ = some (.int .u64 (p0 : Int)) := hk.cell (by rw [List.append_assoc, List.getElem?_append_right (by omega), List.getElem?_append_left (by omega), show o + (n - 1) - pre.length = n - 1 by omega, hp0])
 have b1 := hps p1 (List.mem_of_getElem? hp1)
 have b0 := hps p0 (List.mem_of_getElem? hp0)
 rw [zad] at b1 b0 htb
 have HB := Lib.hid (zqv hn0 hp hps hp0 hp1 ht ht0)
 have HV := Lib.hid hv
 clear hv hp0 hp1 ht ht'
 have e0 : (0 : Int) ≤ (n : Int) - 1 := by omega
 by_cases hlt : t' ≤ p1
 ·go_enter Tryz.func268, Tryz.ntmps268
  go_wp2
  go_ret
  exact ⟨18446744073709551615, 0, rfl, by omega, HV.out, rfl⟩
 ·have hd : decide ((t' : Int) ≤ p1) = false := by simp; omega
  have HQ := Lib.hid (zxj p1 p0 t')
  have q0 : (p1 * W64 + p0) / t' < 18446744073709551616 := Nat.div_lt_of_lt_mul (by
   rw [zad]
   have := Nat.mul_le_mul_right 18446744073709551616 (show p1 + 1 ≤ t' by omega)
   omega)
  go_enter Tryz.func268, Tryz.ntmps268
  go_wp2
  have e1 : IntKind.i64.wrap ((n : Int) - 1 + 1) = n := by rw [IntWalk.i64_in _ (by omega)]; omega
  have e2 : ((n : Int) - 1).toNat = n - 1 := by omega
  have e3 : (n : Int) - 1 < n + 1 := by omega
  have e4 : (n : Int) < n + 1 := by omega
  go_quiet ((go_at_call 263; exact zkh (zfm _ _ _ _ (by omega) (by omega) (by omega) (by omega) (by omega) (by omega))))
  clear e1 e2 e3 e4
  go_wp2
  go_ret
  exact ⟨(p1 * W64 + p0) / t', _, congrArg Ending.returned (zar HQ.out), q0, HB.out, rfl⟩
def PlaceInv (P D N b n : Nat) (Wd Bl : Nat) (ns : List Nat) : Prop :=
 ns.length = n ∧ (∀ x ∈ ns, x < b) ∧ Bl ≤ 1 ∧ Wd < b ∧ vl b ns + Wd * D = P + N * Bl ∧ (Bl = 0 → P < (Wd + 1) * D)
theorem PlaceInv.back {P D N b n Wd Bl C : Nat} {ns ns' : List Nat} (h : PlaceInv P D N b n Wd Bl ns) (hN : N = b ^ n) (hB : 0 < Bl) (h1 : ns'.length = n) (h2 : ∀ x ∈ ns', x < b) (hC : C ≤ 1) (h3 : vl b ns' + b ^ n * C = vl b ns + D) :
    1 ≤ Wd ∧ C ≤ Bl ∧ PlaceInv P D N b n (Wd - 1) (Bl - C) ns' := by
 obtain ⟨g1, g2, g3, g4, g5, g6⟩ := h
 obtain rfl : Bl = 1 := by omega
 have hl := vl_lt g2
 rw [g1, ← hN] at hl
 rw [← hN] at h3
 have hw : 1 ≤ Wd := by
  rcases Nat.eq_zero_or_pos Wd with h0 | h0
  ·subst h0; rw [Nat.zero_mul] at g5; omega
  ·exact h0
 obtain ⟨V, rfl⟩ : ∃ V, Wd = V + 1 := ⟨Wd - 1, by omega⟩
 rw [Nat.add_mul, Nat.one_mul] at g5
 refine ⟨hw, hC, h1, h2, by omega, by omega, ?_, fun h0 => ?_⟩
 ·rw [Nat.add_sub_cancel, Nat.mul_sub, Nat.mul_one]
  have : N * C ≤ N := by
   rcases Nat.eq_zero_or_pos C with h0 | h0
   ·subst h0; omega
   ·obtain rfl : C = 1 := by omega
    omega
  omega
 ·rw [Nat.add_sub_cancel, Nat.add_mul, Nat.one_mul]
  omega
theorem PlaceInv.done {P D N b n Wd Bl : Nat} {ns : List Nat} (h : PlaceInv P D N b n Wd Bl ns) (h0 : Bl = 0) (hD : 0 < D) : Wd = P / D ∧ vl b ns = P % D := by
 obtain ⟨g1, g2, g3, g4, g5, g6⟩ := h
 subst h0
 have h1 := g6 rfl
 rw [Nat.add_mul, Nat.one_mul] at h1
 rw [Nat.mul_zero, Nat.add_zero] at g5
 have hlt : vl b ns < D := by omega
 have e : P = vl b ns + D * Wd := by rw [Nat.mul_comm D]; exact g5.symm
 constructor
 ·rw [e, Nat.add_mul_div_left _ _ hD, Nat.div_eq_of_lt hlt, Nat.zero_add]
 ·rw [e, Nat.add_mul_mod_self_left, Nat.mod_eq_of_lt hlt]
set_option maxHeartbeats 1000000 in
theorem zjx (g o cp : Nat) (A : Option Addr) (n c B t : Nat) (pre ps post ds : List Nat) (sp : List Value) (w : World) (hk : Bk w g (pre ++ ps ++ post) sp) (ho : pre.length = o) (hp : ps.length = n + 1) (hps : ∀ x ∈ ps, x < W64)
    (h : NR w B A n c ds) (hB : B ≤ w.heap.size) (hne : 0 < n → ∀ ad, A = some ad → ad.block ≠ g) (hn0 : 0 < n) (hn : n ≤ 1000000) (hcp : n + 1 ≤ cp) (ht : ds[n - 1]? = some t) (ht0 : 0 < t) (hv : nv ps < W64 * nv ds) :
    Calls Tryz.prog 240 #[.slice (some ⟨g, o, none⟩) (n + 1) cp, .slice A n c] w (zhw g pre post sp (n + 1) (fun ns C => C = nv ps / nv ds ∧ nv ns = nv ps % nv ds) w) := by
 have hD : 0 < nv ds := by
  rcases Nat.eq_zero_or_pos (nv ds) with h0 | h0
  ·rw [h0] at hv; omega
  ·exact h0
 go_enter Tryz.func240, Tryz.ntmps240
 go_wp2_with fail
 refine (zhh g o cp A n c B t pre ps post ds sp w hk ho hp hps h hn0 hn hcp ht ht0 hv).mono ?_
 rintro e w' ⟨G, q, rfl, hG, hGv, rfl⟩
 have HG := Lib.hid hGv
 have HV := Lib.hid hv
 have HT := Lib.hid ht
 have HP := Lib.hid hp
 clear hGv hv ht hp
 go_wp2_with fail
 refine (zib g o cp A n c B G pre ps post ds sp (w.drewN q) (hk.drewN q) ho HP.out hps (h.drewN q) hB hne hn hcp hG).mono ?_
 rintro e w1 ⟨ns1, C1, rfl, l1, b1, _, ⟨hC1, r1⟩, hk1, hg1⟩
 have R1 := Lib.hid r1
 have L1 := Lib.hid l1
 clear r1 l1
 go_wp2
 go_loopw [5, 6] (fun wd bl wr => ∃ (Wd Bl : Nat) (ns : List Nat), wd = .int .u64 (Wd : Int) ∧ bl = .int .u64 (Bl : Int) ∧ Bk wr g (pre ++ ns ++ post) sp ∧ w.grownBy wr (some g) ∧ PlaceInv (nv ps) (nv ds) (W64 ^ (n + 1)) W64 (n + 1) Wd Bl ns) (fun wd _ _ => (intOf wd).toNat)
 case atStart => exact ⟨G, C1, ns1, rfl, rfl, hk1, zbb (zhe (World.grownBy.refl _ _) q) hg1, L1.out, b1, hC1, by rw [zad]; exact hG, R1.out, fun _ => HG.out⟩
 case round =>
  obtain ⟨Wd, Bl, ns, rfl, rfl, hkr, hgr, hinv⟩ := hrel
  have hBl := hinv.2.2.1
  have hWd := hinv.2.2.2.1
  have hl := Lib.hid hinv.1
  have hlt := hinv.2.1
  rw [zad] at hWd
  by_cases hb : 0 < Bl
  ·have hszr : B ≤ wr.heap.size := Nat.le_trans hB hgr.size
   go_wp2_with fail
   refine (zir g o cp A n c B pre ns post ds sp wr hkr ho hl.out hlt (h.only hgr hB hne) hszr hne hn hcp).mono ?_
   rintro e w2 ⟨ns2, C2, rfl, l2, b2, _, ⟨hC2, r2⟩, hk2, hg2⟩
   obtain ⟨z1, z2, z3⟩ := hinv.back rfl hb l2 b2 hC2 r2
   have Z3 := Lib.hid z3
   have R2 := Lib.hid r2
   have L2 := Lib.hid l2
   clear z3 r2 l2
   go_wp2
   exact ⟨⟨Wd - 1, Bl - C2, ns2, by go_num, by go_num, hk2, zbb hgr hg2, Z3.out⟩, by simp [intOf]; omega⟩
  ·obtain ⟨z1, z2⟩ := hinv.done (by omega) hD
   have Z1 := Lib.hid z1
   have Z2 := Lib.hid z2
   clear z1 z2
   go_wp2
   go_ret
   exact ⟨ns, Wd, rfl, hl.out, hlt, by rw [zad]; exact hWd, ⟨Z1.out, Z2.out⟩, hkr, hgr⟩
end Go.Proofs.YtopbibfpjgjalaaGreatDoor
