import Derived.Test.YtjikdbcjabopnaaDoorZ17
import Derived.Deep.RegionHeld3
import Derived.Test.YtjikdbcjabopnaaDoorZ15
import Derived.Deep.QuietTactic
import Derived.BigQuiet
namespace Go.Proofs.YtjikdbcjabopnaaDoor
open Go.RowKit
set_option linter.unusedVariables false
set_option maxRecDepth 100000
def ExtN (a b : World) : Prop := Below a.heap.size a b
theorem ExtN.refl (a : World) : ExtN a a := Below.refl _ _
theorem ExtN.trans {a b c : World} (h : ExtN a b) (k : ExtN b c) : ExtN a c := Below.trans h (Below.mono k h.size)
theorem ExtN.drewN {a b : World} (h : ExtN a b) (n : Nat) : ExtN a (b.drewN n) := below_drewNN h n
def NXN (w : World) (A : Option Addr) (n c : Nat) (xs : List Nat) : Prop := NR w w.heap.size A n c xs
theorem NXN.ext {a b : World} {A : Option Addr} {n c : Nat} {xs : List Nat} (h : NXN a A n c xs) (k : ExtN a b) : NXN b A n c xs := (Rd.below h k).more k.size
theorem NXN.one (w : World) (g : Nat) (hg : g = w.heap.size) (z : Int) (x : Nat) (hz : z = x) (hx : x < 18446744073709551616) : NXN (w.alloc (.cells #[.int .u64 z] 22)) (some ⟨g, 0, none⟩) 1 1 [x] := by
 subst hz hg
 refine ⟨rfl, Nat.le_refl _, fun z hz => by rw [List.mem_singleton.1 hz, W64_eq]; exact hx, fun _ => ⟨_, rfl, by simp, fun j z hz => ?_⟩⟩
 match j, hz with
 | 0, hz => simp at hz; subst hz; simp [Addr.add]
theorem nv_one (x : Nat) : nv [x] = x := by show vl W64 [x] = x; simp [vl]
theorem nw_one {x : Nat} (h0 : 0 < x) (hx : x < 18446744073709551616) : nw x = [x] := by
 have := dg_unique W64_two [x] (fun z hz => by rw [List.mem_singleton.1 hz, W64_eq]; exact hx) (.inr (by simp; omega))
 rw [show vl W64 [x] = x from nv_one x] at this
 exact this.symm
theorem addX {A A' : Option Addr} {n n' c c' : Nat} {xs ys : List Nat} {w : World} (h : NXN w A n c xs) (h' : NXN w A' n' c' ys) (hn : n ≤ 1000) (hn' : n' ≤ 1000) :
    Calls Tryd.prog 22 #[.slice A n c, .slice A' n' c'] w fun e w' => ∃ A2 n2 c2, e = .returned (.slice A2 n2 c2) ∧ n2 ≤ n + n' + 1 ∧ NXN w' A2 n2 c2 (nw (nv xs + nv ys)) ∧ ExtN w w' := natAdd_any A A' n n' c c' xs ys w h h' (by omega) (by omega)
theorem mulX {A A' : Option Addr} {n n' c c' : Nat} {xs ys : List Nat} {w : World} (h : NXN w A n c xs) (h' : NXN w A' n' c' ys) (hn : n ≤ 1000) (hn' : n' ≤ 1000) :
    Calls Tryd.prog 45 #[.slice A n c, .slice A' n' c'] w fun e w' => ∃ A2 n2 c2, e = .returned (.slice A2 n2 c2) ∧ n2 ≤ n + n' ∧ NXN w' A2 n2 c2 (nw (nv xs * nv ys)) ∧ ExtN w w' := natMul_any A A' n n' c c' xs ys w h h' (by omega) (by omega)
theorem divX {A A' : Option Addr} {n n' c c' : Nat} {xs ys : List Nat} {w : World} (h : NXN w A n c xs) (h' : NXN w A' n' c' ys) (hn : n ≤ 1000) (hn' : n' ≤ 1000) :
    Calls Tryd.prog 43 #[.slice A n c, .slice A' n' c'] w (DivPostN w (n + 1) (nv xs) (nv ys)) := div_any A A' n n' c c' xs ys w h h' (by omega) (by omega)
theorem cmpX {A A' : Option Addr} {n n' c c' : Nat} {xs ys : List Nat} {w : World} (h : NXN w A n c xs) (h' : NXN w A' n' c' ys) (hn : n ≤ 100000) (hn' : n' ≤ 100000) :
    Calls Tryd.prog 31 #[.slice A n c, .slice A' n' c'] w fun e w' => e = .returned (.int .i64 (cmpS (nv xs) (nv ys))) ∧ ExtN w w' := (cmp_any A A' n n' c c' _ xs ys w h h' (by omega) (by omega)).mono fun e w' ⟨he, q, hw⟩ => ⟨he, by rw [hw]; exact (ExtN.refl w).drewN q⟩
theorem sameX {A A' : Option Addr} {n n' c c' : Nat} {xs ys : List Nat} {w : World} (h : NXN w A n c xs) (h' : NXN w A' n' c' ys) (hn : n ≤ 100000) (hn' : n' ≤ 100000) :
    Calls Tryd.prog 14 #[.slice A n c, .slice A' n' c'] w fun e w' => e = .returned (.bool (decide (xs = ys))) ∧ ExtN w w' := (same_anyN A A' n n' c c' _ xs ys w h h' (by omega) (by omega)).mono fun e w' ⟨he, q, hw⟩ => ⟨he, by rw [hw]; exact (ExtN.refl w).drewN q⟩
def i64s (zs : List Nat) : List Value := zs.map fun (z : Nat) => Value.int .i64 (z : Int)
theorem i64s_snoc (zs : List Nat) (z : Nat) : i64s zs ++ [Value.int .i64 (z : Int)] = i64s (zs ++ [z]) := by simp [i64s]
theorem info_int : (Tryd.prog.info? 3).map (fun i => (i.zero, i.size, i.bytes)) = some (some (.int .i64 0), 1, 8) := by kernel_rfl
def IRow (B : Nat) (w0 w : World) (v : Value) (n : Nat) (zs : List Nat) : Prop := w.ownsRow B 3 1 v n (i64s zs) ∧ Below B w0 w ∧ (∀ x ∈ zs, x < 65536)
theorem IRow.nil (w : World) : IRow w.heap.size w w (.slice none 0 0) 0 [] := ⟨World.ownsRow_nil _ _ _ _, Below.refl _ _, by simp⟩
theorem IRow.len {B : Nat} {w0 w : World} {v : Value} {n : Nat} {zs : List Nat} (h : IRow B w0 w v n zs) : zs.length = n := by
 have := h.1.1
 simpa [i64s] using this
theorem IRow.push {B : Nat} {w0 w w1 : World} {v v' : Value} {n : Nat} {zs : List Nat} {z : Nat} {o : Obj} (h : IRow B w0 w v n zs) (hB : B ≤ w.heap.size) (hz : z < 65536)
    (h1 : w1.ownsRow B 3 1 v' (n + 1) (i64s zs ++ [Value.int .i64 (z : Int)])) (hg : (w.alloc o).grownBy w1 v.ownBlock) : IRow B w0 w1 v' (n + 1) (zs ++ [z]) := by
 rw [i64s_snoc] at h1
 exact ⟨h1, (h.2.1.alloc hB o).grown hg (by simp; omega) (fun k e => (h.1.lt k e).1), snoc_lt h.2.2 hz⟩
theorem IRow.rd {B : Nat} {w0 w : World} {v : Value} {n : Nat} {zs : List Nat} (h : IRow B w0 w v n zs) : ∃ A c, v = .slice A n c ∧ DR w w.heap.size A n c zs ∧ (∀ ad, A = some ad → B ≤ ad.block) := by
 have hlen := h.len
 rcases h.1.2 with ⟨rfl, rfl⟩ | ⟨g, cap, cur, rfl, hg, hh, hle, _⟩
 ·exact ⟨none, 0, rfl, ⟨hlen, Nat.le_refl _, h.2.2, fun h => absurd h (by omega)⟩, fun ad e => by cases e⟩
 ·refine ⟨_, cap, rfl, ⟨hlen, hle, h.2.2, fun _ => ⟨⟨g, 0, none⟩, rfl, (Array.getElem?_eq_some_iff.1 hh).1, fun j x hx => ?_⟩⟩, fun ad e => ?_⟩
  ·exact h.1.cells (g := g) rfl j _ (by simp [i64s, hx])
  ·injection e with e; subst e; exact hg
theorem d_two : 2 ≤ 65536 := by omega
def DigPost (w : World) (N : Nat) (ys : List Nat) (e : Ending) (w' : World) : Prop :=
 ∃ A n c, e = .returned (.slice A n c) ∧ n ≤ N ∧ DR w' w'.heap.size A n c ys ∧ Below w.heap.size w w' ∧ (∀ ad, A = some ad → w.heap.size ≤ ad.block)
def DTrimPost (A : Option Addr) (n B : Nat) (xs : List Nat) (w : World) (e : Ending) (w' : World) : Prop := ∃ m c, m ≤ n ∧ e = .returned (.slice A m c) ∧ w = w' ∧ DR w B A m c (dg 65536 (vl 65536 xs))
theorem dtrim_is {A : Option Addr} {n c B m : Nat} {xs : List Nat} {w : World} (h : DR w B A n c xs) (hm : m ≤ n) (hz : ∀ (j x : Nat), m ≤ j → xs[j]? = some x → x = 0) (hl : m = 0 ∨ xs[m - 1]? ≠ some 0) : DR w B A m c (dg 65536 (vl 65536 xs)) := by
 have e := take_dg d_two xs m h.lt (by rw [h.len]; exact hm) hz hl
 rw [← e]
 have := h.take_ hm
 exact ⟨this.len, Nat.le_trans hm h.room, this.lt, this.cells⟩
def lenOf : Value → Nat | .slice _ m _ => m | _ => 0
theorem trim_any (A : Option Addr) (n c B : Nat) (xs : List Nat) (w : World) (h : DR w B A n c xs) (hn : n ≤ 1000000) :
    Calls Tryd.prog 35 #[.slice A n c] w (DTrimPost A n B xs w) := by
 have hroom := h.room
 go_enter Tryd.func35, Tryd.ntmps35
 go_wp2
 go_loop [0] (fun s => ∃ m : Nat, m ≤ n ∧ s = .slice A m c ∧ Hid (∀ (j x : Nat), m ≤ j → xs[j]? = some x → x = 0)) (fun s => lenOf s)
 case atStart => exact ⟨n, Nat.le_refl _, rfl, Lib.hid (fun j x hj hx => by have := (List.getElem?_eq_some_iff.1 hx).1; have := h.len; omega)⟩
 case round =>
  obtain ⟨m, hm, rfl, hz⟩ := hrel
  by_cases hm0 : m = 0
  ·subst hm0
   go_wp2
   go_ret
   exact ⟨0, c, hm, rfl, rfl, dtrim_is h hm hz.out (.inl rfl)⟩
  ·obtain ⟨ad, x, rfl, hb, hxb, hx, hc⟩ := h.at_ (show m - 1 < n by omega)
   have HX := Lib.hid hx
   clear hx
   by_cases hx0 : x = 0
   ·subst hx0
    go_wp2
    refine ⟨⟨m - 1, by omega, by go_num, Lib.hid fun j x hj hx => ?_⟩, by simp [lenOf]; omega⟩
    by_cases hjm : j = m - 1
    ·subst hjm; rw [HX.out] at hx; exact (Option.some.inj hx).symm
    ·exact hz.out j x (by omega) hx
   ·have hxb : ((x : Int) == 0) = false := by simpa using hx0
    go_wp2
    go_ret
    exact ⟨m, c, hm, rfl, rfl, dtrim_is h hm hz.out (.inr (by rw [HX.out]; simpa using hx0))⟩
theorem at_any (A : Option Addr) (n c B i : Nat) (xs : List Nat) (w : World) (h : DR w B A n c xs) (hn : n ≤ 1000000) (hi : i ≤ 1000001) :
    Calls Tryd.prog 36 #[.slice A n c, .int .i64 (i : Int)] w fun e w' => e = .returned (.int .i64 ((xs[i]?.getD 0 : Nat) : Int)) ∧ w = w' := by
 by_cases hlt : i < n
 ·obtain ⟨ad, x, rfl, hb, hxb, hx, hc⟩ := h.at_ hlt
  have HX := Lib.hid hx
  clear hx
  go_enter Tryd.func36, Tryd.ntmps36
  go_wp2
  go_ret
  exact ⟨congrArg Ending.returned (i64_eq (by rw [HX.out]; rfl)), rfl⟩
 ·have H := Lib.hid (List.getElem?_eq_none (l := xs) (i := i) (by rw [h.len]; omega))
  go_enter Tryd.func36, Tryd.ntmps36
  go_wp2
  go_ret
  exact ⟨congrArg Ending.returned (i64_eq (by rw [H.out]; rfl)), rfl⟩
set_option maxHeartbeats 1000000 in
theorem compare_any (A A' : Option Addr) (n n' c c' B X Y : Nat) (w : World) (h : DR w B A n c (dg 65536 X)) (h' : DR w B A' n' c' (dg 65536 Y)) (hn : n ≤ 1000000) (hn' : n' ≤ 1000000) :
    Calls Tryd.prog 29 #[.slice A n c, .slice A' n' c'] w (Qt (.int .i64 (cmpS X Y)) w) := by
 have hl := h.len
 have hl' := h'.len
 by_cases hs : n = n'
 ·subst hs
  have HL := Lib.hid hl
  have HL' := Lib.hid hl'
  clear hl hl'
  go_enter Tryd.func29, Tryd.ntmps29
  go_wp2
  go_loopw [5] (fun i wr => ∃ k q : Nat, k ≤ n ∧ i = .int .i64 ((k : Int) - 1) ∧ wr = w.drewN q ∧ Hid (∀ i, k ≤ i → (dg 65536 X)[i]? = (dg 65536 Y)[i]?)) (fun i _ => (intOf i + 1).toNat)
  case atStart => exact ⟨n, 0, Nat.le_refl _, rfl, rfl, Lib.hid fun i hi => by rw [List.getElem?_eq_none (by rw [HL.out]; exact hi), List.getElem?_eq_none (by rw [HL'.out]; exact hi)]⟩
  case round =>
   obtain ⟨k, q, hk, rfl, rfl, hup⟩ := hrel
   by_cases hk0 : k = 0
   ·subst hk0
    have HE := Lib.hid (cmpS_eq (m := X) (n := Y) (by rw [← vl_dg d_two X, ← vl_dg d_two Y, eq_of_up hup.out]))
    go_wp2
    go_ret
    exact Qt.eqN (i64_eq HE.out.symm)
   ·obtain ⟨j, rfl⟩ : ∃ j, k = j + 1 := ⟨k - 1, by omega⟩
    obtain ⟨ad, x, rfl, hb, hxb, hx, hc⟩ := h.at_ (show j < n by omega)
    obtain ⟨ad', y, rfl, hb', hyb, hy, hc'⟩ := h'.at_ (show j < n by omega)
    rw [show (((j + 1 : Nat) : Int) - 1) = (j : Int) by omega]
    have HX := Lib.hid hx
    have HY := Lib.hid hy
    have lt1 := Lib.hid h.lt
    have lt2 := Lib.hid h'.lt
    clear hx hy
    have e1 : (0 : Int) ≤ j := by omega
    have e2 : (j : Int) < n := by omega
    rcases Nat.lt_trichotomy x y with hlt | hxy | hlt
    ·have hd : decide ((x : Int) < y) = true := by simp; omega
     have HE := Lib.hid (cmpS_lt (m := X) (n := Y) (by rw [← vl_dg d_two X, ← vl_dg d_two Y]; exact cmp_at HX.out HY.out lt1.out (fun i hi => hup.out i hi) hlt))
     go_wp2
     go_quiet (fail)
     go_wp2
     go_ret
     first | exact Qt.eqN (i64_eq HE.out.symm) | (rw [HE.out]; exact Qt.mk2 _ _ _ _)
    ·subst hxy
     go_wp2
     go_quiet (fail)
     go_wp2
     go_quiet (fail)
     go_wp2
     refine ⟨⟨j, _, by omega, rfl, rfl, Lib.hid fun i hi => ?_⟩, by simp [intOf]⟩
     by_cases hij : i = j
     ·subst hij; rw [HX.out, HY.out]
     ·exact hup.out i (by omega)
    ·have hd : decide ((x : Int) < y) = false := by simp; omega
     have hd2 : decide ((y : Int) < x) = true := by simp; omega
     have HE := Lib.hid (cmpS_gt (m := X) (n := Y) (by rw [← vl_dg d_two X, ← vl_dg d_two Y]; exact cmp_at HY.out HX.out lt2.out (fun i hi => (hup.out i hi).symm) hlt))
     go_wp2
     go_quiet (fail)
     go_wp2
     go_quiet (fail)
     go_wp2
     go_ret
     first | exact Qt.eqN (i64_eq HE.out.symm) | exact Qt.eqN3 (i64_eq HE.out.symm)
 ·have hne : ((n : Int) != n') = true := by simp; omega
  by_cases hlt : n < n'
  ·have hd : decide ((n : Int) < n') = true := by simp; omega
   have HE := Lib.hid (cmpS_lt (m := X) (n := Y) (dg_len_lt d_two (by rw [hl, hl']; exact hlt)))
   clear hl hl'
   go_enter Tryd.func29, Tryd.ntmps29
   go_wp2
   go_ret
   exact Qt.eq0 (i64_eq HE.out.symm)
  ·have hd : decide ((n : Int) < n') = false := by simp; omega
   have HE := Lib.hid (cmpS_gt (m := X) (n := Y) (dg_len_lt d_two (by rw [hl, hl']; omega)))
   clear hl hl'
   go_enter Tryd.func29, Tryd.ntmps29
   go_wp2
   go_ret
   exact Qt.eq0 (i64_eq HE.out.symm)
theorem dig_int {x i : Nat} : wrap64 (((x : Int) / 2 ^ (16 * i)).tmod 65536) = ((x / 65536 ^ i % 65536 : Nat) : Int) := by
 rw [two_pow_cast, pow_16, ← Int.natCast_ediv, Int.tmod_eq_emod_of_nonneg (Int.natCast_nonneg _)]
 have : x / 65536 ^ i % 65536 < 65536 := Nat.mod_lt _ (by omega)
 rw [show ((x / 65536 ^ i : Nat) : Int) % 65536 = ((x / 65536 ^ i % 65536 : Nat) : Int) from (Int.natCast_emod _ _).symm]
 generalize x / 65536 ^ i % 65536 = q at *
 unfold wrap64
 omega
set_option maxHeartbeats 2000000 in
theorem digits_any (A : Option Addr) (n c : Nat) (xs : List Nat) (w : World) (h : NR w w.heap.size A n c xs) (hn : n ≤ 10000) :
    Calls Tryd.prog 17 #[.slice A n c] w (DigPost w (4 * n) (dg 65536 (nv xs))) := by
 obtain ⟨i0, hi, hz0, hz1, hz2⟩ := info_parts info_int
 go_enter Tryd.func17, Tryd.ntmps17
 go_wp2
 go_loopw [3, 9] (fun s i wr => ∃ (k : Nat) (zs : List Nat), k ≤ n ∧ i = .int .i64 k ∧ IRow w.heap.size w wr s (4 * k) zs ∧ DigInv xs k 0 0 zs) (fun _ i _ => n - (intOf i).toNat)
 case atStart => exact ⟨0, [], by omega, rfl, IRow.nil w, digInv_zero 0⟩
 case round =>
  obtain ⟨k, zs, hk, rfl, hrow, hinv⟩ := hrel
  by_cases hlt : k < n
  ·obtain ⟨ad, x, rfl, hb, hxb, hx, hc⟩ := (h.below hrow.2.1).at_ hlt
   rw [W64_eq] at hxb
   have HX := Lib.hid hx
   clear hx
   have hinv0 : DigInv xs k 0 x zs := ⟨hinv.1, by rw [hinv.2]; simp [Nat.mod_one]⟩
   go_wp2
   go_loopw [3, 6] (fun s i wr => ∃ (j : Nat) (zs : List Nat), j ≤ 4 ∧ i = .int .i64 j ∧ IRow w.heap.size w wr s (4 * k + j) zs ∧ DigInv xs k j x zs) (fun _ i _ => 4 - (intOf i).toNat)
   case atStart => exact ⟨0, zs, by omega, rfl, hrow, hinv0⟩
   case round =>
    obtain ⟨j, zs, hj, rfl, hrow, hinv⟩ := hrel
    have hsz := hrow.2.1.size
    by_cases hj4 : j < 4
    ·have HI := Lib.hid (dig_int (x := x) (i := j))
     have hdl : x / 65536 ^ j % 65536 < 65536 := Nat.mod_lt _ (by omega)
     go_wp2_with (at_builtin; go_loud (rw [HI.out]; refine wpList_append_own _ rfl _ _ 42 rfl w.heap.size 3 i0 (.int .i64 0) 1 8 Tryd.underlying42 hi hz0 hz1 hz2 rfl (by decide) _ _ _ rfl (hrow.1.alloc _) ⟨_, 0, none⟩ 1 1 [.int .i64 (x / 65536 ^ j % 65536 : Nat)] rfl rfl one_cell one_int (by unfold maxLen; omega) (by omega) (by simp; omega) ?_; intro v2 w2 hown2 hgrow2 _))
     exact ⟨⟨j + 1, _, by omega, by go_num, hrow.push hsz hdl hown2 hgrow2, hinv.step⟩, by simp [intOf]; omega⟩
    ·obtain rfl : j = 4 := by omega
     go_wp2
     exact ⟨⟨k + 1, zs, by omega, by go_num, hrow, hinv.word HX.out hxb 0⟩, by simp [intOf]; omega⟩
  ·obtain rfl : k = n := by omega
   have V := Lib.hid (hinv.done (by rw [h.len]; exact Nat.le_refl _))
   obtain ⟨A2, c2, rfl, hr2, hfr⟩ := hrow.rd
   go_wp2_with fail
   refine (trim_any _ _ _ _ zs _ hr2 (by omega)).mono ?_
   rintro e w' ⟨m, c3, hm, rfl, rfl, hr3⟩
   rw [V.out] at hr3
   go_wp2
   go_ret
   exact ⟨A2, m, c3, rfl, hm, hr3, hrow.2.1, hfr⟩
def URowN (B : Nat) (w0 w : World) (v : Value) (n : Nat) (zs : List Nat) : Prop := w.ownsRow B 22 1 v n (u64s zs) ∧ Below B w0 w ∧ (∀ x ∈ zs, x < W64)
theorem URowN.nil (w : World) : URowN w.heap.size w w (.slice none 0 0) 0 [] := ⟨World.ownsRow_nil _ _ _ _, Below.refl _ _, by simp⟩
theorem URowN.push {B : Nat} {w0 w w1 : World} {v v' : Value} {n : Nat} {zs : List Nat} {z : Nat} {o : Obj} (h : URowN B w0 w v n zs) (hB : B ≤ w.heap.size) (hz : z < W64)
    (h1 : w1.ownsRow B 22 1 v' (n + 1) (u64s zs ++ [Value.int .u64 (z : Int)])) (hg : (w.alloc o).grownBy w1 v.ownBlock) : URowN B w0 w1 v' (n + 1) (zs ++ [z]) := by
 rw [u64s_snoc] at h1
 exact ⟨h1, (h.2.1.alloc hB o).grown hg (by simp; omega) (fun k e => (h.1.lt k e).1), snoc_lt h.2.2 hz⟩
def seg (ds : List Nat) (k j : Nat) : Nat := vl 65536 ((ds.drop (4 * k + j)).take (4 - j))
theorem seg_four (ds : List Nat) (k : Nat) : seg ds k 4 = 0 := by simp [seg, vl_nil]
theorem seg_step (ds : List Nat) {k j : Nat} (hj : j < 4) : seg ds k j = ds[4 * k + j]?.getD 0 + 65536 * seg ds k (j + 1) := by
 unfold seg
 rw [show 4 - j = (4 - (j + 1)) + 1 by omega, vl_seg]
 rfl
theorem seg_bound {ds : List Nat} (h : ∀ x ∈ ds, x < 65536) {k j : Nat} (hj : j < 4) : seg ds k (j + 1) < 281474976710656 := by
 have h2 : 65536 ^ (4 - (j + 1)) ≤ 65536 ^ 3 := Nat.pow_le_pow_right (by omega) (by omega)
 have h1 := seg_lt h (4 * k + (j + 1)) (4 - (j + 1))
 have h3 : 65536 ^ 3 = 281474976710656 := by decide
 unfold seg
 omega
theorem seg_zero (ds : List Nat) (k : Nat) : seg ds k 0 = vl 65536 ((ds.drop (4 * k)).take 4) := rfl
set_option maxHeartbeats 1000000 in
theorem from_any (A : Option Addr) (n c : Nat) (zs : List Nat) (w : World) (h : DR w w.heap.size A n c zs) (hn : n ≤ 100000) :
    Calls Tryd.prog 15 #[.slice A n c] w (NatPost w n (nw (vl 65536 zs))) := by
 obtain ⟨i0, hi, hz0, hz1, hz2⟩ := info_parts info_u64N
 go_enter Tryd.func15, Tryd.ntmps15
 go_wp2_with fail
 refine (trim_any _ _ _ _ zs _ h (by omega)).mono ?_
 rintro e w' ⟨m, c3, hm, rfl, rfl, hr⟩
 generalize hV : vl 65536 zs = V at *
 generalize hds : dg 65536 V = ds at *
 have HDS := Lib.hid hds
 clear hds hV
 go_wp2
 go_loopw [3, 4] (fun s i wr => ∃ (k : Nat) (ws : List Nat), (k = 0 ∨ 4 * (k - 1) < m) ∧ i = .int .i64 (4 * k : Nat) ∧ URowN w.heap.size w wr s k ws ∧ FromInv ds k ws) (fun _ i _ => (m + 4) - (intOf i).toNat)
 case atStart => exact ⟨0, [], .inl rfl, rfl, URowN.nil w, fromInv_zero⟩
 case round =>
  obtain ⟨k, ws, hk, rfl, hrow, hinv⟩ := hrel
  have hsz := hrow.2.1.size
  by_cases hlt : 4 * k < m
  ·have hr1 := hr.below hrow.2.1
   go_wp2
   go_loop [5, 6] (fun s i => ∃ (j : Nat), j ≤ 4 ∧ i = .int .i64 ((j : Int) - 1) ∧ s = .int .u64 ((seg ds k j : Nat) : Int)) (fun _ i => (intOf i + 1).toNat)
   case atStart => exact ⟨4, by omega, rfl, by rw [seg_four]; rfl⟩
   case round =>
    obtain ⟨j, hj, rfl, rfl⟩ := hrel
    by_cases hj0 : j = 0
    ·subst hj0
     have HS := Lib.hid (seg_zero ds k)
     have hb := seg_lt hr.lt (4 * k) 4
     rw [← W64_pow, ← seg_zero] at hb
     go_wp2_with (at_builtin; go_loud (refine wpList_append_own _ rfl _ _ 26 rfl w.heap.size 22 i0 (.int .u64 0) 1 8 Tryd.underlying26 hi hz0 hz1 hz2 rfl (by decide) _ _ _ rfl (hrow.1.alloc _) ⟨_, 0, none⟩ 1 1 [.int .u64 (seg ds k 0 : Nat)] rfl rfl one_cell one_int (by unfold maxLen; omega) (by omega) (by simp; omega) ?_; intro v2 w2 hown2 hgrow2 _))
     refine ⟨⟨k + 1, _, .inr (by omega), by go_num, hrow.push hsz hb hown2 hgrow2, ?_⟩, by simp [intOf]; omega⟩
     rw [HS.out]
     exact hinv.step (by rw [hr.len]; exact hlt) hr.lt
    ·obtain ⟨i, rfl⟩ : ∃ i, j = i + 1 := ⟨j - 1, by omega⟩
     rw [show (((i + 1 : Nat) : Int) - 1) = (i : Int) by omega]
     have HS := Lib.hid (seg_step ds (k := k) (j := i) (by omega))
     have hb := seg_bound hr.lt (k := k) (j := i) (by omega)
     generalize seg ds k (i + 1) = q at *
     by_cases hin : 4 * k + i < m
     ·obtain ⟨ad, x, rfl, hb2, hxb, hx, hc⟩ := hr1.at_ hin
      have e : seg ds k i = q * 65536 + x := by rw [HS.out, hx, Option.getD_some]; omega
      have E := Lib.hid e
      clear hx e
      go_wp2
      exact ⟨⟨i, by omega, by go_num, by rw [E.out]; go_num⟩, by simp [intOf] <;> omega⟩
     ·have e : seg ds k i = q * 65536 := by rw [HS.out, List.getElem?_eq_none (by rw [hr.len]; omega), Option.getD_none]; omega
      have E := Lib.hid e
      clear e
      go_wp2
      exact ⟨⟨i, by omega, by go_num, by rw [E.out]; go_num⟩, by simp [intOf] <;> omega⟩
  ·have V := Lib.hid (hinv.done (by rw [hr.len]; omega) (by rw [hr.len]; exact hk) HDS.out.symm)
   obtain ⟨A2, c2, rfl, hr2⟩ := rd_of_own hrow.1 hrow.2.2
   rw [V.out] at hr2
   go_wp2
   go_ret
   exact ⟨A2, k, c2, rfl, by omega, hr2, hrow.2.1⟩
set_option maxHeartbeats 1000000 in
theorem plus_anyN (A A' : Option Addr) (n n' c c' : Nat) (xs ys : List Nat) (w : World) (h : DR w w.heap.size A n c xs) (h' : DR w w.heap.size A' n' c' ys) (hn : n ≤ 100000) (hn' : n' ≤ 100000) :
    Calls Tryd.prog 16 #[.slice A n c, .slice A' n' c'] w (DigPost w (n + n' + 1) (dg 65536 (vl 65536 xs + vl 65536 ys))) := by
 obtain ⟨i0, hi, hz0, hz1, hz2⟩ := info_parts info_int
 obtain ⟨mx, m1, m2, m3⟩ : ∃ mx, n ≤ mx ∧ n' ≤ mx ∧ mx ≤ n + n' := ⟨max n n', by omega, by omega, by omega⟩
 go_enter Tryd.func16, Tryd.ntmps16
 go_wp2
 go_loopw [5, 6, 7] (fun s b i wr => ∃ (k : Nat) (zs : List Nat) (C : Nat), (k ≤ mx ∨ (k = mx + 1 ∧ C = 0)) ∧ i = .int .i64 k ∧ b = .int .i64 (C : Int) ∧ IRow w.heap.size w wr s k zs ∧ AddInv 65536 xs ys k zs C) (fun _ _ i _ => mx + 1 - (intOf i).toNat)
 case atStart => exact ⟨0, [], 0, .inl (by omega), rfl, rfl, IRow.nil w, addInv_zero⟩
 case round =>
  obtain ⟨k, zs, C, hk, rfl, rfl, hrow, hinv⟩ := hrel
  have hC := hinv.2.2.1
  have hsz := hrow.2.1.size
  have hr := h.below hrow.2.1
  have hr' := h'.below hrow.2.1
  by_cases hgo : k < n ∨ k < n' ∨ 0 < C
  ·have hx := getD_lt (b := 65536) (by omega) h.lt k
   have hy := getD_lt (b := 65536) (by omega) h'.lt k
   have HN := Lib.hid (hinv.step (z := (C + xs[k]?.getD 0 + ys[k]?.getD 0) % 65536) (C' := (C + xs[k]?.getD 0 + ys[k]?.getD 0) / 65536) (by omega) (by omega) (by omega))
   have hk2 : k ≤ mx := by omega
   have z1 : k < n ∨ xs[k]?.getD 0 = 0 := by
    by_cases g : k < n
    ·exact .inl g
    ·exact .inr (by rw [List.getElem?_eq_none (by rw [h.len]; omega)]; rfl)
   have z2 : k < n' ∨ ys[k]?.getD 0 = 0 := by
    by_cases g : k < n'
    ·exact .inl g
    ·exact .inr (by rw [List.getElem?_eq_none (by rw [h'.len]; omega)]; rfl)
   rcases (show k < n ∨ (¬ k < n ∧ k < n') ∨ (¬ k < n ∧ ¬ k < n' ∧ 0 < C) by omega) with g1 | ⟨g1, g2⟩ | ⟨g1, g2, g3⟩
   all_goals
    go_wp2_with fail
    refine (at_any _ _ _ _ k xs _ hr (by omega) (by omega)).mono ?_
    rintro e w' ⟨rfl, rfl⟩
    go_wp2_with fail
    refine (at_any _ _ _ _ k ys _ hr' (by omega) (by omega)).mono ?_
    rintro e w' ⟨rfl, rfl⟩
    have hdl : (C + xs[k]?.getD 0 + ys[k]?.getD 0) % 65536 < 65536 := Nat.mod_lt _ (by omega)
    generalize xs[k]?.getD 0 = x at *
    generalize ys[k]?.getD 0 = y at *
    go_wp2_with (at_builtin; go_loud (refine wpList_append_own _ rfl _ _ 42 rfl w.heap.size 3 i0 (.int .i64 0) 1 8 Tryd.underlying42 hi hz0 hz1 hz2 rfl (by decide) _ _ _ rfl (hrow.1.alloc _) ⟨_, 0, none⟩ 1 1 [.int .i64 ((C + x + y) % 65536 : Nat)] rfl rfl one_cell one_int (by unfold maxLen; omega) (by omega) (by simp; omega) ?_; intro v2 w2 hown2 hgrow2 _))
    exact ⟨⟨k + 1, _, _, by omega, by go_num, by go_num, hrow.push hsz hdl hown2 hgrow2, HN.out⟩, by simp [intOf] <;> omega⟩
  ·have hC0 : C = 0 := by omega
   subst hC0
   have V := Lib.hid (hinv.full (by rw [h.len]; omega) (by rw [h'.len]; omega))
   obtain ⟨A2, c2, rfl, hr2, hfr⟩ := hrow.rd
   go_wp2_with fail
   refine (trim_any _ _ _ _ zs _ hr2 (by omega)).mono ?_
   rintro e w' ⟨m, c3, hm, rfl, rfl, hr3⟩
   rw [show vl 65536 zs = vl 65536 xs + vl 65536 ys from V.out] at hr3
   go_wp2
   go_ret
   exact ⟨A2, m, c3, rfl, by omega, hr3, hrow.2.1, hfr⟩
def DX (w : World) (A : Option Addr) (n c : Nat) (zs : List Nat) : Prop := DR w w.heap.size A n c zs
theorem DX.ext {a b : World} {A : Option Addr} {n c : Nat} {xs : List Nat} (h : DX a A n c xs) (k : ExtN a b) : DX b A n c xs := (Rd.below h k).more k.size
theorem digX {A : Option Addr} {n c : Nat} {xs : List Nat} {w : World} (h : NXN w A n c xs) (hn : n ≤ 10000) :
    Calls Tryd.prog 17 #[.slice A n c] w fun e w' => ∃ A2 n2 c2, e = .returned (.slice A2 n2 c2) ∧ n2 ≤ 4 * n ∧ DX w' A2 n2 c2 (dg 65536 (nv xs)) ∧ ExtN w w' := (digits_any A n c xs w h hn).mono fun e w' ⟨A2, n2, c2, a1, a2, a3, a4, _⟩ => ⟨A2, n2, c2, a1, a2, a3, a4⟩
theorem fromX {A : Option Addr} {n c : Nat} {zs : List Nat} {w : World} (h : DX w A n c zs) (hn : n ≤ 100000) :
    Calls Tryd.prog 15 #[.slice A n c] w fun e w' => ∃ A2 n2 c2, e = .returned (.slice A2 n2 c2) ∧ n2 ≤ n ∧ NXN w' A2 n2 c2 (nw (vl 65536 zs)) ∧ ExtN w w' := from_any A n c zs w h hn
theorem plusX {A A' : Option Addr} {n n' c c' : Nat} {xs ys : List Nat} {w : World} (h : DX w A n c xs) (h' : DX w A' n' c' ys) (hn : n ≤ 100000) (hn' : n' ≤ 100000) :
    Calls Tryd.prog 16 #[.slice A n c, .slice A' n' c'] w fun e w' => ∃ A2 n2 c2, e = .returned (.slice A2 n2 c2) ∧ n2 ≤ n + n' + 1 ∧ DX w' A2 n2 c2 (dg 65536 (vl 65536 xs + vl 65536 ys)) ∧ ExtN w w' := (plus_anyN A A' n n' c c' xs ys w h h' hn hn').mono fun e w' ⟨A2, n2, c2, a1, a2, a3, a4, _⟩ => ⟨A2, n2, c2, a1, a2, a3, a4⟩
theorem compareX {A A' : Option Addr} {n n' c c' X Y : Nat} {w : World} (h : DX w A n c (dg 65536 X)) (h' : DX w A' n' c' (dg 65536 Y)) (hn : n ≤ 1000000) (hn' : n' ≤ 1000000) :
    Calls Tryd.prog 29 #[.slice A n c, .slice A' n' c'] w fun e w' => e = .returned (.int .i64 (cmpS X Y)) ∧ ExtN w w' := (compare_any A A' n n' c c' _ X Y w h h' hn hn').mono fun e w' ⟨he, q, hw⟩ => ⟨he, by rw [hw]; exact (ExtN.refl w).drewN q⟩
theorem rcmpX {A A' : Option Addr} {n n' c c' : Nat} {xs ys : List Nat} {w : World} (h : NXN w A n c xs) (h' : NXN w A' n' c' ys) (hn : n ≤ 10000) (hn' : n' ≤ 10000) :
    Calls Tryd.prog 10 #[.slice A n c, .slice A' n' c'] w fun e w' => e = .returned (.int .i64 (cmpS (nv xs) (nv ys))) ∧ ExtN w w' := by
 go_enter Tryd.func10, Tryd.ntmps10
 go_wp2_with fail
 refine (digX h hn).mono ?_
 rintro e w1 ⟨A1, n1, c1, rfl, hn1, d1, k1⟩
 go_wp2_with fail
 refine (digX (h'.ext k1) hn').mono ?_
 rintro e w2 ⟨A2, n2, c2, rfl, hn2, d2, k2⟩
 go_wp2_with fail
 refine (compareX (d1.ext k2) d2 (by omega) (by omega)).mono ?_
 rintro e w3 ⟨rfl, k3⟩
 go_wp2
 go_ret
 exact ⟨rfl, k1.trans (k2.trans k3)⟩
theorem raddX {A A' : Option Addr} {n n' c c' : Nat} {xs ys : List Nat} {w : World} (h : NXN w A n c xs) (h' : NXN w A' n' c' ys) (hn : n ≤ 10000) (hn' : n' ≤ 10000) :
    Calls Tryd.prog 6 #[.slice A n c, .slice A' n' c'] w fun e w' => ∃ A2 n2 c2, e = .returned (.slice A2 n2 c2) ∧ n2 ≤ 4 * n + 4 * n' + 1 ∧ NXN w' A2 n2 c2 (nw (nv xs + nv ys)) ∧ ExtN w w' := by
 have HV := Lib.hid (show vl 65536 (dg 65536 (vl 65536 (dg 65536 (nv xs)) + vl 65536 (dg 65536 (nv ys)))) = nv xs + nv ys by rw [vl_dg d_two, vl_dg d_two, vl_dg d_two])
 go_enter Tryd.func6, Tryd.ntmps6
 go_wp2_with fail
 refine (digX h hn).mono ?_
 rintro e w1 ⟨A1, n1, c1, rfl, hn1, d1, k1⟩
 go_wp2_with fail
 refine (digX (h'.ext k1) hn').mono ?_
 rintro e w2 ⟨A2, n2, c2, rfl, hn2, d2, k2⟩
 go_wp2_with fail
 refine (plusX (d1.ext k2) d2 (by omega) (by omega)).mono ?_
 rintro e w3 ⟨A3, n3, c3, rfl, hn3, d3, k3⟩
 go_wp2_with fail
 refine (fromX d3 (by omega)).mono ?_
 rw [HV.out]
 rintro e w4 ⟨A4, n4, c4, rfl, hn4, d4, k4⟩
 go_wp2
 go_ret
 exact ⟨A4, n4, c4, rfl, by omega, d4, k1.trans (k2.trans (k3.trans k4))⟩
end Go.Proofs.YtjikdbcjabopnaaDoor
