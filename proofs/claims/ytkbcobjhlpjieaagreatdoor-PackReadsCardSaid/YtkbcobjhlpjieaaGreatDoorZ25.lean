import Derived.Test.YtkbcobjhlpjieaaGreatDoorZ16
import Derived.Deep.RegionHeld3
import Derived.Test.YtkbcobjhlpjieaaGreatDoorZ14
import Derived.Deep.QuietTactic
import Derived.BigQuiet
namespace Go.Proofs.YtkbcobjhlpjieaaGreatDoor
open Go.RowKit
set_option linter.unusedVariables false
set_option maxRecDepth 100000
theorem Rd.alloc {k : IntKind} {b : Nat} {w : World} {B : Nat} {A : Option Addr} {n c : Nat} {xs : List Nat} (h : Rd k b w B A n c xs) (hB : B ≤ w.heap.size) (o : Obj) : Rd k b (w.alloc o) B A n c xs := h.keep fun p hp => World.cell?_alloc_lt w o p (by omega)
theorem Rd.drew {k : IntKind} {b : Nat} {w : World} {A : Option Addr} {n c : Nat} {xs : List Nat} (h : Rd k b w w.heap.size A n c xs) : Rd k b w.drew w.drew.heap.size A n c xs := ⟨h.len, h.room, h.lt, h.cells⟩
structure Box2 (w W : World) (b b' : Bool) (s s' : Value) : Prop where
 below : Below w.heap.size w W
 size : w.heap.size + 2 ≤ W.heap.size
 a0 : W.cell? ⟨w.heap.size, 0, none⟩ = some (.bool b)
 a1 : W.cell? ⟨w.heap.size, 1, none⟩ = some s
 b0 : W.cell? ⟨w.heap.size + 1, 0, none⟩ = some (.bool b')
 b1 : W.cell? ⟨w.heap.size + 1, 1, none⟩ = some s'
 free : ∀ o, W.frozen? ⟨w.heap.size, o, none⟩ = false ∧ W.frozen? ⟨w.heap.size + 1, o, none⟩ = false
structure Box3 (w W : World) (b b' : Bool) (s s' r0 r1 : Value) : Prop extends Box2 w W b b' s s' where
 size3 : W.heap.size = w.heap.size + 3
 r0 : W.cell? ⟨w.heap.size + 2, 0, none⟩ = some r0
 r1 : W.cell? ⟨w.heap.size + 2, 1, none⟩ = some r1
 f0 : W.frozen? ⟨w.heap.size + 2, 0, none⟩ = false
 f1 : W.frozen? ⟨w.heap.size + 2, 1, none⟩ = false
theorem Box2.keep {w W W' : World} {b b' : Bool} {s s' : Value} (h : Box2 w W b b' s s') (hb : Below W.heap.size W W') : Box2 w W' b b' s s' := by
 have := h.size
 have z := hb.size
 exact ⟨h.below.trans (hb.mono (by omega)), by omega, (hb.cell (p := ⟨w.heap.size, 0, none⟩) (show w.heap.size < _ by omega)).trans h.a0, (hb.cell (p := ⟨w.heap.size, 1, none⟩) (show w.heap.size < _ by omega)).trans h.a1, (hb.cell (p := ⟨w.heap.size + 1, 0, none⟩) (show w.heap.size + 1 < _ by omega)).trans h.b0, (hb.cell (p := ⟨w.heap.size + 1, 1, none⟩) (show w.heap.size + 1 < _ by omega)).trans h.b1, fun o => ⟨(hb.frozen (p := ⟨w.heap.size, o, none⟩) (show w.heap.size < _ by omega)).trans (h.free o).1, (hb.frozen (p := ⟨w.heap.size + 1, o, none⟩) (show w.heap.size + 1 < _ by omega)).trans (h.free o).2⟩⟩
theorem Box2.drew {w W : World} {b b' : Bool} {s s' : Value} (h : Box2 w W b b' s s') : Box2 w W.drew b b' s s' := ⟨h.below.drew, h.size, h.a0, h.a1, h.b0, h.b1, h.free⟩
theorem Rd.aside {k : IntKind} {b : Nat} {w : World} {B : Nat} {A : Option Addr} {n c : Nat} {xs : List Nat} (h : Rd k b w B A n c xs) {p : Addr} {v : Value} (hp : w.cell? p = some v) (hv : ∀ x : Int, v ≠ .int k x) (u : Value) : Rd k b (w.setCell p u) B A n c xs := by
 refine ⟨h.len, h.room, h.lt, fun hn => ?_⟩
 obtain ⟨ad, rfl, hb, hc⟩ := h.cells hn
 refine ⟨ad, rfl, hb, fun j x hx => ?_⟩
 rw [World.cell?_setCell_other w p _ u (fun e => ?_)]
 ·exact hc j x hx
 ·have := hc j x hx
  first | (rw [e] at this; rw [hp] at this; exact hv _ (Option.some.inj this)) | (rw [← e] at this; rw [hp] at this; exact hv _ (Option.some.inj this))
def iv (b : Bool) (X : Nat) : Int := if b then -(X : Int) else X
theorem Box3.drewN {w W : World} {b b' : Bool} {s s' r0 r1 : Value} (h : Box3 w W b b' s s' r0 r1) (q : Nat) : Box3 w (W.drewN q) b b' s s' r0 r1 :=
 ⟨⟨below_drewNN h.below q, h.size, h.a0, h.a1, h.b0, h.b1, h.free⟩, h.size3, h.r0, h.r1, h.f0, h.f1⟩
def ExtN (a b : World) : Prop := Below a.heap.size a b
theorem ExtN.refl (a : World) : ExtN a a := Below.refl _ _
theorem ExtN.trans {a b c : World} (h : ExtN a b) (k : ExtN b c) : ExtN a c := Below.trans h (Below.mono k h.size)
theorem ExtN.alloc {a b : World} (h : ExtN a b) (o : Obj) : ExtN a (b.alloc o) := h.trans (Below.alloc (Below.refl _ _) (Nat.le_refl _) o)
theorem ExtN.drewN {a b : World} (h : ExtN a b) (n : Nat) : ExtN a (b.drewN n) := below_drewNN h n
def NXN (w : World) (A : Option Addr) (n c : Nat) (xs : List Nat) : Prop := NR w w.heap.size A n c xs
theorem NXN.ext {a b : World} {A : Option Addr} {n c : Nat} {xs : List Nat} (h : NXN a A n c xs) (k : ExtN a b) : NXN b A n c xs := (Rd.below h k).more k.size
theorem NXN.one (w : World) (g : Nat) (hg : g = w.heap.size) (z : Int) (x : Nat) (hz : z = x) (hx : x < 18446744073709551616) : NXN (w.alloc (.cells #[.int .u64 z] 22)) (some ⟨g, 0, none⟩) 1 1 [x] := by
 subst hz hg
 refine ⟨rfl, Nat.le_refl _, fun z hz => by rw [List.mem_singleton.1 hz, W64_eq]; exact hx, fun _ => ⟨_, rfl, by simp, fun j z hz => ?_⟩⟩
 match j, hz with
 | 0, hz => simp at hz; subst hz; simp [Addr.add]
theorem nv_one (x : Nat) : nv [x] = x := by show vl W64 [x] = x; simp [vl]
theorem nw_one {x : Nat} (h0 : 0 < x) (hx : x < 18446744073709551616) : nw x = [x] := by
 have := dg_unique W64_two [x] (fun z hz => by rw [List.mem_singleton.1 hz, W64_eq]; exact hx) (.inr (by simp; omega))
 rw [show vl W64 [x] = x from nv_one x] at this
 exact this.symm
def i64s (zs : List Nat) : List Value := zs.map fun (z : Nat) => Value.int .i64 (z : Int)
theorem i64s_snoc (zs : List Nat) (z : Nat) : i64s zs ++ [Value.int .i64 (z : Int)] = i64s (zs ++ [z]) := by simp [i64s]
theorem info_int : (Tryz.prog.info? 3).map (fun i => (i.zero, i.size, i.bytes)) = some (some (.int .i64 0), 1, 8) := by kernel_rfl
def IRow (B : Nat) (w0 w : World) (v : Value) (n : Nat) (zs : List Nat) : Prop := w.ownsRow B 3 1 v n (i64s zs) ∧ Below B w0 w ∧ (∀ x ∈ zs, x < 65536)
theorem IRow.nil (w : World) : IRow w.heap.size w w (.slice none 0 0) 0 [] := ⟨World.ownsRow_nil _ _ _ _, Below.refl _ _, by simp⟩
theorem IRow.len {B : Nat} {w0 w : World} {v : Value} {n : Nat} {zs : List Nat} (h : IRow B w0 w v n zs) : zs.length = n := by
 have := h.1.1
 simpa [i64s] using this
theorem IRow.push {B : Nat} {w0 w w1 : World} {v v' : Value} {n : Nat} {zs : List Nat} {z : Nat} {o : Obj} (h : IRow B w0 w v n zs) (hB : B ≤ w.heap.size) (hz : z < 65536)
    (h1 : w1.ownsRow B 3 1 v' (n + 1) (i64s zs ++ [Value.int .i64 (z : Int)])) (hg : (w.alloc o).grownBy w1 v.ownBlock) : IRow B w0 w1 v' (n + 1) (zs ++ [z]) := by
 rw [i64s_snoc] at h1
 exact ⟨h1, (h.2.1.alloc hB o).grown hg (by simp; omega) (fun k e => (h.1.lt k e).1), snoc_lt h.2.2 hz⟩
theorem IRow.rd {B : Nat} {w0 w : World} {v : Value} {n : Nat} {zs : List Nat} (h : IRow B w0 w v n zs) : ∃ A c, v = .slice A n c ∧ DR w w.heap.size A n c zs ∧ (∀ ad, A = some ad → B ≤ ad.block) := by
 have hlen := h.len
 rcases h.1.2 with ⟨rfl, rfl⟩ | ⟨g, cap, cur, rfl, hg, hh, hle, _⟩
 ·exact ⟨none, 0, rfl, ⟨hlen, Nat.le_refl _, h.2.2, fun h => absurd h (by omega)⟩, fun ad e => by cases e⟩
 ·refine ⟨_, cap, rfl, ⟨hlen, hle, h.2.2, fun _ => ⟨⟨g, 0, none⟩, rfl, (Array.getElem?_eq_some_iff.1 hh).1, fun j x hx => ?_⟩⟩, fun ad e => ?_⟩
  ·exact h.1.cells (g := g) rfl j _ (by simp [i64s, hx])
  ·injection e with e; subst e; exact hg
theorem d_two : 2 ≤ 65536 := by omega
def DigPost (w : World) (N : Nat) (ys : List Nat) (e : Ending) (w' : World) : Prop :=
 ∃ A n c, e = .returned (.slice A n c) ∧ n ≤ N ∧ DR w' w'.heap.size A n c ys ∧ Below w.heap.size w w' ∧ (∀ ad, A = some ad → w.heap.size ≤ ad.block)
def DTrimPost (A : Option Addr) (n B : Nat) (xs : List Nat) (w : World) (e : Ending) (w' : World) : Prop := ∃ m c, m ≤ n ∧ e = .returned (.slice A m c) ∧ w = w' ∧ DR w B A m c (dg 65536 (vl 65536 xs))
theorem dtrim_is {A : Option Addr} {n c B m : Nat} {xs : List Nat} {w : World} (h : DR w B A n c xs) (hm : m ≤ n) (hz : ∀ (j x : Nat), m ≤ j → xs[j]? = some x → x = 0) (hl : m = 0 ∨ xs[m - 1]? ≠ some 0) : DR w B A m c (dg 65536 (vl 65536 xs)) := by
 have e := take_dg d_two xs m h.lt (by rw [h.len]; exact hm) hz hl
 rw [← e]
 have := h.take_ hm
 exact ⟨this.len, Nat.le_trans hm h.room, this.lt, this.cells⟩
def lenOf : Value → Nat | .slice _ m _ => m | _ => 0
theorem trim_any (A : Option Addr) (n c B : Nat) (xs : List Nat) (w : World) (h : DR w B A n c xs) (hn : n ≤ 1000000) :
    Calls Tryz.prog 135 #[.slice A n c] w (DTrimPost A n B xs w) := by
 have hroom := h.room
 go_enter Tryz.func135, Tryz.ntmps135
 go_wp2
 go_loop [0] (fun s => ∃ m : Nat, m ≤ n ∧ s = .slice A m c ∧ Hid (∀ (j x : Nat), m ≤ j → xs[j]? = some x → x = 0)) (fun s => lenOf s)
 case atStart => exact ⟨n, Nat.le_refl _, rfl, Lib.hid (fun j x hj hx => by have := (List.getElem?_eq_some_iff.1 hx).1; have := h.len; omega)⟩
 case round =>
  obtain ⟨m, hm, rfl, hz⟩ := hrel
  by_cases hm0 : m = 0
  ·subst hm0
   go_wp2
   go_ret
   exact ⟨0, c, hm, rfl, rfl, dtrim_is h hm hz.out (.inl rfl)⟩
  ·obtain ⟨ad, x, rfl, hb, hxb, hx, hc⟩ := h.at_ (show m - 1 < n by omega)
   have HX := Lib.hid hx
   clear hx
   by_cases hx0 : x = 0
   ·subst hx0
    go_wp2
    refine ⟨⟨m - 1, by omega, by go_num, Lib.hid fun j x hj hx => ?_⟩, by simp [lenOf]; omega⟩
    by_cases hjm : j = m - 1
    ·subst hjm; rw [HX.out] at hx; exact (Option.some.inj hx).symm
    ·exact hz.out j x (by omega) hx
   ·have hxb : ((x : Int) == 0) = false := by simpa using hx0
    go_wp2
    go_ret
    exact ⟨m, c, hm, rfl, rfl, dtrim_is h hm hz.out (.inr (by rw [HX.out]; simpa using hx0))⟩
theorem at_any (A : Option Addr) (n c B i : Nat) (xs : List Nat) (w : World) (h : DR w B A n c xs) (hn : n ≤ 1000000) (hi : i ≤ 1000001) :
    Calls Tryz.prog 153 #[.slice A n c, .int .i64 (i : Int)] w fun e w' => e = .returned (.int .i64 ((xs[i]?.getD 0 : Nat) : Int)) ∧ w = w' := by
 by_cases hlt : i < n
 ·obtain ⟨ad, x, rfl, hb, hxb, hx, hc⟩ := h.at_ hlt
  have HX := Lib.hid hx
  clear hx
  go_enter Tryz.func153, Tryz.ntmps153
  go_wp2
  go_ret
  exact ⟨congrArg Ending.returned (i64_eq (by rw [HX.out]; rfl)), rfl⟩
 ·have H := Lib.hid (List.getElem?_eq_none (l := xs) (i := i) (by rw [h.len]; omega))
  go_enter Tryz.func153, Tryz.ntmps153
  go_wp2
  go_ret
  exact ⟨congrArg Ending.returned (i64_eq (by rw [H.out]; rfl)), rfl⟩
theorem dig_int {x i : Nat} : wrap64 (((x : Int) / 2 ^ (16 * i)).tmod 65536) = ((x / 65536 ^ i % 65536 : Nat) : Int) := by
 rw [two_pow_cast, pow_16, ← Int.natCast_ediv, Int.tmod_eq_emod_of_nonneg (Int.natCast_nonneg _)]
 have : x / 65536 ^ i % 65536 < 65536 := Nat.mod_lt _ (by omega)
 rw [show ((x / 65536 ^ i : Nat) : Int) % 65536 = ((x / 65536 ^ i % 65536 : Nat) : Int) from (Int.natCast_emod _ _).symm]
 generalize x / 65536 ^ i % 65536 = q at *
 unfold wrap64
 omega
set_option maxHeartbeats 2000000 in
theorem digits_any (A : Option Addr) (n c : Nat) (xs : List Nat) (w : World) (h : NR w w.heap.size A n c xs) (hn : n ≤ 10000) :
    Calls Tryz.prog 115 #[.slice A n c] w (DigPost w (4 * n) (dg 65536 (nv xs))) := by
 obtain ⟨i0, hi, hz0, hz1, hz2⟩ := info_parts info_int
 go_enter Tryz.func115, Tryz.ntmps115
 go_wp2
 go_loopw [3, 9] (fun s i wr => ∃ (k : Nat) (zs : List Nat), k ≤ n ∧ i = .int .i64 k ∧ IRow w.heap.size w wr s (4 * k) zs ∧ DigInv xs k 0 0 zs) (fun _ i _ => n - (intOf i).toNat)
 case atStart => exact ⟨0, [], by omega, rfl, IRow.nil w, digInv_zero 0⟩
 case round =>
  obtain ⟨k, zs, hk, rfl, hrow, hinv⟩ := hrel
  by_cases hlt : k < n
  ·obtain ⟨ad, x, rfl, hb, hxb, hx, hc⟩ := (h.below hrow.2.1).at_ hlt
   rw [W64_eq] at hxb
   have HX := Lib.hid hx
   clear hx
   have hinv0 : DigInv xs k 0 x zs := ⟨hinv.1, by rw [hinv.2]; simp [Nat.mod_one]⟩
   go_wp2
   go_loopw [3, 6] (fun s i wr => ∃ (j : Nat) (zs : List Nat), j ≤ 4 ∧ i = .int .i64 j ∧ IRow w.heap.size w wr s (4 * k + j) zs ∧ DigInv xs k j x zs) (fun _ i _ => 4 - (intOf i).toNat)
   case atStart => exact ⟨0, zs, by omega, rfl, hrow, hinv0⟩
   case round =>
    obtain ⟨j, zs, hj, rfl, hrow, hinv⟩ := hrel
    have hsz := hrow.2.1.size
    by_cases hj4 : j < 4
    ·have HI := Lib.hid (dig_int (x := x) (i := j))
     have hdl : x / 65536 ^ j % 65536 < 65536 := Nat.mod_lt _ (by omega)
     go_wp2_with (at_builtin; go_loud (rw [HI.out]; refine wpList_append_own _ rfl _ _ 137 rfl w.heap.size 3 i0 (.int .i64 0) 1 8 Tryz.underlying137 hi hz0 hz1 hz2 rfl (by decide) _ _ _ rfl (hrow.1.alloc _) ⟨_, 0, none⟩ 1 1 [.int .i64 (x / 65536 ^ j % 65536 : Nat)] rfl rfl one_cell one_int (by unfold maxLen; omega) (by omega) (by simp; omega) ?_; intro v2 w2 hown2 hgrow2 _))
     exact ⟨⟨j + 1, _, by omega, by go_num, hrow.push hsz hdl hown2 hgrow2, hinv.step⟩, by simp [intOf]; omega⟩
    ·obtain rfl : j = 4 := by omega
     go_wp2
     exact ⟨⟨k + 1, zs, by omega, by go_num, hrow, hinv.word HX.out hxb 0⟩, by simp [intOf]; omega⟩
  ·obtain rfl : k = n := by omega
   have V := Lib.hid (hinv.done (by rw [h.len]; exact Nat.le_refl _))
   obtain ⟨A2, c2, rfl, hr2, hfr⟩ := hrow.rd
   go_wp2_with fail
   refine (trim_any _ _ _ _ zs _ hr2 (by omega)).mono ?_
   rintro e w' ⟨m, c3, hm, rfl, rfl, hr3⟩
   rw [V.out] at hr3
   go_wp2
   go_ret
   exact ⟨A2, m, c3, rfl, hm, hr3, hrow.2.1, hfr⟩
def URowN (B : Nat) (w0 w : World) (v : Value) (n : Nat) (zs : List Nat) : Prop := w.ownsRow B 22 1 v n (u64s zs) ∧ Below B w0 w ∧ (∀ x ∈ zs, x < W64)
theorem URowN.nil (w : World) : URowN w.heap.size w w (.slice none 0 0) 0 [] := ⟨World.ownsRow_nil _ _ _ _, Below.refl _ _, by simp⟩
theorem URowN.push {B : Nat} {w0 w w1 : World} {v v' : Value} {n : Nat} {zs : List Nat} {z : Nat} {o : Obj} (h : URowN B w0 w v n zs) (hB : B ≤ w.heap.size) (hz : z < W64)
    (h1 : w1.ownsRow B 22 1 v' (n + 1) (u64s zs ++ [Value.int .u64 (z : Int)])) (hg : (w.alloc o).grownBy w1 v.ownBlock) : URowN B w0 w1 v' (n + 1) (zs ++ [z]) := by
 rw [u64s_snoc] at h1
 exact ⟨h1, (h.2.1.alloc hB o).grown hg (by simp; omega) (fun k e => (h.1.lt k e).1), snoc_lt h.2.2 hz⟩
def seg (ds : List Nat) (k j : Nat) : Nat := vl 65536 ((ds.drop (4 * k + j)).take (4 - j))
theorem seg_four (ds : List Nat) (k : Nat) : seg ds k 4 = 0 := by simp [seg, vl_nil]
theorem seg_step (ds : List Nat) {k j : Nat} (hj : j < 4) : seg ds k j = ds[4 * k + j]?.getD 0 + 65536 * seg ds k (j + 1) := by
 unfold seg
 rw [show 4 - j = (4 - (j + 1)) + 1 by omega, vl_seg]
 rfl
theorem seg_bound {ds : List Nat} (h : ∀ x ∈ ds, x < 65536) {k j : Nat} (hj : j < 4) : seg ds k (j + 1) < 281474976710656 := by
 have h2 : 65536 ^ (4 - (j + 1)) ≤ 65536 ^ 3 := Nat.pow_le_pow_right (by omega) (by omega)
 have h1 := seg_lt h (4 * k + (j + 1)) (4 - (j + 1))
 have h3 : 65536 ^ 3 = 281474976710656 := by decide
 unfold seg
 omega
theorem seg_zero (ds : List Nat) (k : Nat) : seg ds k 0 = vl 65536 ((ds.drop (4 * k)).take 4) := rfl
set_option maxHeartbeats 1000000 in
theorem from_any (A : Option Addr) (n c : Nat) (zs : List Nat) (w : World) (h : DR w w.heap.size A n c zs) (hn : n ≤ 100000) :
    Calls Tryz.prog 136 #[.slice A n c] w (NatPost w n (nw (vl 65536 zs))) := by
 obtain ⟨i0, hi, hz0, hz1, hz2⟩ := info_parts info_u64N
 go_enter Tryz.func136, Tryz.ntmps136
 go_wp2_with fail
 refine (trim_any _ _ _ _ zs _ h (by omega)).mono ?_
 rintro e w' ⟨m, c3, hm, rfl, rfl, hr⟩
 generalize hV : vl 65536 zs = V at *
 generalize hds : dg 65536 V = ds at *
 have HDS := Lib.hid hds
 clear hds hV
 go_wp2
 go_loopw [3, 4] (fun s i wr => ∃ (k : Nat) (ws : List Nat), (k = 0 ∨ 4 * (k - 1) < m) ∧ i = .int .i64 (4 * k : Nat) ∧ URowN w.heap.size w wr s k ws ∧ FromInv ds k ws) (fun _ i _ => (m + 4) - (intOf i).toNat)
 case atStart => exact ⟨0, [], .inl rfl, rfl, URowN.nil w, fromInv_zero⟩
 case round =>
  obtain ⟨k, ws, hk, rfl, hrow, hinv⟩ := hrel
  have hsz := hrow.2.1.size
  by_cases hlt : 4 * k < m
  ·have hr1 := hr.below hrow.2.1
   go_wp2
   go_loop [5, 6] (fun s i => ∃ (j : Nat), j ≤ 4 ∧ i = .int .i64 ((j : Int) - 1) ∧ s = .int .u64 ((seg ds k j : Nat) : Int)) (fun _ i => (intOf i + 1).toNat)
   case atStart => exact ⟨4, by omega, rfl, by rw [seg_four]; rfl⟩
   case round =>
    obtain ⟨j, hj, rfl, rfl⟩ := hrel
    by_cases hj0 : j = 0
    ·subst hj0
     have HS := Lib.hid (seg_zero ds k)
     have hb := seg_lt hr.lt (4 * k) 4
     rw [← W64_pow, ← seg_zero] at hb
     go_wp2_with (at_builtin; go_loud (refine wpList_append_own _ rfl _ _ 152 rfl w.heap.size 22 i0 (.int .u64 0) 1 8 Tryz.underlying152 hi hz0 hz1 hz2 rfl (by decide) _ _ _ rfl (hrow.1.alloc _) ⟨_, 0, none⟩ 1 1 [.int .u64 (seg ds k 0 : Nat)] rfl rfl one_cell one_int (by unfold maxLen; omega) (by omega) (by simp; omega) ?_; intro v2 w2 hown2 hgrow2 _))
     refine ⟨⟨k + 1, _, .inr (by omega), by go_num, hrow.push hsz hb hown2 hgrow2, ?_⟩, by simp [intOf]; omega⟩
     rw [HS.out]
     exact hinv.step (by rw [hr.len]; exact hlt) hr.lt
    ·obtain ⟨i, rfl⟩ : ∃ i, j = i + 1 := ⟨j - 1, by omega⟩
     rw [show (((i + 1 : Nat) : Int) - 1) = (i : Int) by omega]
     have HS := Lib.hid (seg_step ds (k := k) (j := i) (by omega))
     have hb := seg_bound hr.lt (k := k) (j := i) (by omega)
     generalize seg ds k (i + 1) = q at *
     by_cases hin : 4 * k + i < m
     ·obtain ⟨ad, x, rfl, hb2, hxb, hx, hc⟩ := hr1.at_ hin
      have e : seg ds k i = q * 65536 + x := by rw [HS.out, hx, Option.getD_some]; omega
      have E := Lib.hid e
      clear hx e
      go_wp2
      exact ⟨⟨i, by omega, by go_num, by rw [E.out]; go_num⟩, by simp [intOf] <;> omega⟩
     ·have e : seg ds k i = q * 65536 := by rw [HS.out, List.getElem?_eq_none (by rw [hr.len]; omega), Option.getD_none]; omega
      have E := Lib.hid e
      clear e
      go_wp2
      exact ⟨⟨i, by omega, by go_num, by rw [E.out]; go_num⟩, by simp [intOf] <;> omega⟩
  ·have V := Lib.hid (hinv.done (by rw [hr.len]; omega) (by rw [hr.len]; exact hk) HDS.out.symm)
   obtain ⟨A2, c2, rfl, hr2⟩ := rd_of_own hrow.1 hrow.2.2
   rw [V.out] at hr2
   go_wp2
   go_ret
   exact ⟨A2, k, c2, rfl, by omega, hr2, hrow.2.1⟩
theorem IRow.drewN {B : Nat} {w0 w : World} {v : Value} {n : Nat} {zs : List Nat} (h : IRow B w0 w v n zs) (m : Nat) : IRow B w0 (w.drewN m) v n zs :=
 ⟨⟨h.1.1, h.1.2⟩, ⟨h.2.1.os, h.2.1.tape, h.2.1.output, h.2.1.size, h.2.1.block⟩, h.2.2⟩
theorem at_q (A : Option Addr) (n c B i : Nat) (xs : List Nat) (w : World) (q : Nat) (h : DR w B A n c xs) (hn : n ≤ 1000000) (hi : i ≤ 1000001) :
    Calls Tryz.prog 153 #[.slice A n c, .int .i64 (i : Int)] (w.drewN q) fun e w'' => e = .returned (.int .i64 ((xs[i]?.getD 0 : Nat) : Int)) ∧ ∃ m, w'' = w.drewN m :=
 (at_any A n c B i xs (w.drewN q) (h.drewN q) hn hi).mono fun e w' hh => ⟨hh.1, q, hh.2.symm⟩
def DX (w : World) (A : Option Addr) (n c : Nat) (zs : List Nat) : Prop := DR w w.heap.size A n c zs
theorem DX.ext {a b : World} {A : Option Addr} {n c : Nat} {xs : List Nat} (h : DX a A n c xs) (k : ExtN a b) : DX b A n c xs := (Rd.below h k).more k.size
theorem digX {A : Option Addr} {n c : Nat} {xs : List Nat} {w : World} (h : NXN w A n c xs) (hn : n ≤ 10000) :
    Calls Tryz.prog 115 #[.slice A n c] w fun e w' => ∃ A2 n2 c2, e = .returned (.slice A2 n2 c2) ∧ n2 ≤ 4 * n ∧ DX w' A2 n2 c2 (dg 65536 (nv xs)) ∧ ExtN w w' := (digits_any A n c xs w h hn).mono fun e w' ⟨A2, n2, c2, a1, a2, a3, a4, _⟩ => ⟨A2, n2, c2, a1, a2, a3, a4⟩
theorem fromX {A : Option Addr} {n c : Nat} {zs : List Nat} {w : World} (h : DX w A n c zs) (hn : n ≤ 100000) :
    Calls Tryz.prog 136 #[.slice A n c] w fun e w' => ∃ A2 n2 c2, e = .returned (.slice A2 n2 c2) ∧ n2 ≤ n ∧ NXN w' A2 n2 c2 (nw (vl 65536 zs)) ∧ ExtN w w' := from_any A n c zs w h hn
def Dk (w : World) (g : Nat) (zs : List Nat) : Prop := w.heap[g]? = some (.cells (i64s zs).toArray 3 (0, 0))
theorem Dk.lt {w : World} {g : Nat} {zs : List Nat} (h : Dk w g zs) : g < w.heap.size := (Array.getElem?_eq_some_iff.1 h).1
theorem Dk.frozen {w : World} {g : Nat} {zs : List Nat} (h : Dk w g zs) (i : Nat) : w.frozen? ⟨g, i, none⟩ = false := by
 unfold Dk at h
 simp [World.frozen?, h]
theorem Dk.cell {w : World} {g : Nat} {zs : List Nat} (h : Dk w g zs) {i x : Nat} (hx : zs[i]? = some x) : w.cell? ⟨g, i, none⟩ = some (.int .i64 (x : Int)) := by
 have hl := (List.getElem?_eq_some_iff.1 hx).1
 rw [cell_of_row w g i _ 3 (0, 0) h]
 have e := (List.getElem?_eq_some_iff.1 hx).2
 simp [i64s, hl, e]
theorem Dk.set_ {w : World} {g : Nat} {zs : List Nat} (h : Dk w g zs) {i : Nat} (hi : i < zs.length) (v : Nat) : Dk (w.setCell ⟨g, i, none⟩ (.int .i64 (v : Int))) g (zs.set i v) := by
 unfold Dk at h ⊢
 simp [World.setCell, Array.getElem?_modify, h]
 simp [i64s, List.map_set]
theorem Dk.keep {w w' : World} {g : Nat} {zs : List Nat} (h : Dk w g zs) (hg : w'.heap[g]? = w.heap[g]?) : Dk w' g zs := hg.trans h
theorem Dk.rd {w : World} {g n : Nat} {zs : List Nat} (h : Dk w g zs) (hlt : ∀ x ∈ zs, x < 65536) (hn : zs.length = n) : DR w w.heap.size (some ⟨g, 0, none⟩) n n zs := by
 refine ⟨hn, Nat.le_refl _, hlt, fun _ => ⟨_, rfl, h.lt, fun j x hx => ?_⟩⟩
 rw [Addr.add_lit, Nat.zero_add]
 exact h.cell hx
theorem made_i64 (n : Nat) : (madeCells (Value.int .i64 0).cells (n * 1)).toList = i64s (List.replicate n 0) := by
 rw [Nat.mul_one]
 refine (toList_madeCells_one (Value.int .i64 0) n).trans ?_
 simp [i64s]
theorem make_digits (n : Nat) (z : Int) (hz : z = n) (hc : n ≤ 1000000) (w : World) :
    (Instr.makeSlice 137 (.int .i64 z) (.int .i64 z)).run Tryz.prog w = .ok (.slice (some ⟨w.heap.size, 0, none⟩) n n) (w.alloc (.cells (i64s (List.replicate n 0)).toArray 3)) := by
 subst hz
 obtain ⟨i0, hi, hz0, hz1, hz2⟩ := info_parts info_int
 have hr := run_make (P := Tryz.prog) w 137 3 i0 (.int .i64 0) Tryz.underlying137 hi hz0 .i64 .i64 (n : Int) (n : Int) (by omega) (by omega) (by rw [hz2]; omega) (by omega)
 rw [hz1] at hr
 simp only [Int.toNat_natCast] at hr
 rw [hr]
 have e : madeCells (Value.int .i64 0).cells (n * 1) = (i64s (List.replicate n 0)).toArray := by
  apply Array.toList_inj.1
  rw [made_i64]
 rw [e]
theorem vl_rep (b n : Nat) : vl b (List.replicate n 0) = 0 := vl_zeros fun j x hx => by
 by_cases hj : j < n
 ·have e : (List.replicate n 0)[j]? = some 0 := by simp [hj]
  rw [e] at hx
  exact (Option.some.inj hx).symm
 ·rw [List.getElem?_eq_none (by simp; omega)] at hx
  cases hx
def MulD (xs : List Nat) (Y lb k : Nat) (ps : List Nat) : Prop := ps.length = lb + k ∧ (∀ x ∈ ps, x < 65536) ∧ vl 65536 ps = vl 65536 (xs.take k) * Y
theorem mulD_zero {xs : List Nat} {Y lb : Nat} : MulD xs Y lb 0 (List.replicate lb 0) := by
 refine ⟨by simp, fun x hx => by rw [List.eq_of_mem_replicate hx]; omega, ?_⟩
 rw [vl_rep, List.take_zero, vl_nil, Nat.zero_mul]
theorem MulD.step {xs ps ns ys : List Nat} {lb k j x : Nat} (h : MulD xs (vl 65536 ys) lb k ps) (hx : xs[k]? = some x) (hy : ys.length = lb) (t : TimesInv 65536 (ps.drop k ++ [0]) ys x j ns 0) (hj : lb ≤ j) (hj2 : j ≤ lb + 1) :
    MulD xs (vl 65536 ys) lb (k + 1) (ps.take k ++ (ns ++ (ps.drop k ++ [0]).drop j)) := by
 obtain ⟨h1, h2, h3⟩ := h
 obtain ⟨t1, t2, _, t4⟩ := t
 have l : (ps.take k).length = k := by rw [List.length_take]; omega
 have lq : (ps.drop k ++ [0]).length = lb + 1 := by simp; omega
 have hq : ∀ z ∈ ps.drop k ++ [0], z < 65536 := snoc_lt (fun z hz => h2 z (List.mem_of_mem_drop hz)) (by omega)
 have vq : vl 65536 (ps.drop k ++ [0]) = vl 65536 (ps.drop k) := by rw [vl_snoc, Nat.mul_zero, Nat.add_zero]
 rw [Nat.mul_zero, Nat.add_zero, List.take_of_length_le (l := ys) (by omega)] at t4
 refine ⟨by rw [List.length_append, l, List.length_append, t1, List.length_drop, lq]; omega, fun z hz => ?_, ?_⟩
 ·rcases List.mem_append.1 hz with hz | hz
  ·exact h2 z (List.mem_of_mem_take hz)
  ·rcases List.mem_append.1 hz with hz | hz
   ·exact t2 z hz
   ·exact hq z (List.mem_of_mem_drop hz)
 ·have e0 : vl 65536 ps = vl 65536 (ps.take k) + 65536 ^ k * vl 65536 (ps.drop k) := by
     conv => lhs; rw [← List.take_append_drop k ps, vl_append, l]
  have e1 : vl 65536 (ps.drop k ++ [0]) = vl 65536 ((ps.drop k ++ [0]).take j) + 65536 ^ j * vl 65536 ((ps.drop k ++ [0]).drop j) := by
   conv => lhs; rw [← List.take_append_drop j (ps.drop k ++ [0]), vl_append, List.length_take, lq, Nat.min_eq_left hj2]
  have e2 : vl 65536 (ns ++ (ps.drop k ++ [0]).drop j) = vl 65536 (ps.drop k) + x * vl 65536 ys := by
   rw [vl_append, t1, t4, ← vq, e1]; omega
  rw [vl_append, l, e2, Nat.mul_add, ← Nat.add_assoc, ← e0, h3, vl_take_next, hx, Option.getD_some, Nat.add_mul, Nat.mul_assoc]
theorem Rd.cell_ {k : IntKind} {b : Nat} {w : World} {B : Nat} {ad : Addr} {n c : Nat} {xs : List Nat} (h : Rd k b w B (some ad) n c xs) {i x : Nat} (hx : xs[i]? = some x) : w.cell? (ad.add i) = some (.int k (x : Int)) := by
 have hl := (List.getElem?_eq_some_iff.1 hx).1
 obtain ⟨ad', e, _, hc⟩ := h.cells (by have := h.len; omega)
 injection e with e
 subst e
 exact hc i x hx
theorem below_set {B : Nat} {w0 w : World} {g i : Nat} (h : Below B w0 w) (hg : B ≤ g) (hB : B ≤ w.heap.size) (v : Value) : Below B w0 (w.setCell ⟨g, i, none⟩ v) := below_only h (only_set v) hB hg
set_option maxHeartbeats 4000000 in
theorem times_dg_any (A A' : Option Addr) (n n' c c' : Nat) (xs ys : List Nat) (w : World) (h : DR w w.heap.size A n c xs) (h' : DR w w.heap.size A' n' c' ys) (hn : n ≤ 10000) (hn' : n' ≤ 10000) :
    Calls Tryz.prog 137 #[.slice A n c, .slice A' n' c'] w (DigPost w (n + n' + 1) (dg 65536 (vl 65536 xs * vl 65536 ys))) := by
 have hmk := make_digits (n + n' + 1) ((n : Int) + n' + 1) (by omega) (by omega)
 go_enter Tryz.func137, Tryz.ntmps137
 go_wp2
 go_loopw [18] (fun i wr => ∃ (k : Nat) (ps : List Nat), k ≤ n ∧ i = .int .i64 k ∧ Dk wr w.heap.size (ps ++ List.replicate (n - k + 1) 0) ∧ Below w.heap.size w wr ∧ MulD xs (vl 65536 ys) n' k ps) (fun i _ => n - (intOf i).toNat)
 case atStart =>
  refine ⟨0, List.replicate n' 0, by omega, rfl, ?_, (Below.refl _ _).alloc (Nat.le_refl _) _, mulD_zero⟩
  rw [List.replicate_append_replicate, show n' + (n - 0 + 1) = n + n' + 1 by omega]
  exact heap_alloc_new w _
 case round =>
  obtain ⟨k, ps, hk, rfl, hb, hbl, hinv⟩ := hrel
  by_cases hlt : k < n
  ·obtain ⟨ad, x, rfl, hbk, hxb, hx, hc⟩ := (h.below hbl).at_ hlt
   have HX := Lib.hid hx
   have HP := Lib.hid hinv.1
   have HPL := Lib.hid hinv.2.1
   obtain ⟨qs, hqs⟩ : ∃ qs, qs = ps.drop k ++ [0] := ⟨_, rfl⟩
   have hql : qs.length = n' + 1 := by rw [hqs]; simp; have := HP.out; omega
   have hqb : ∀ z ∈ qs, z < 65536 := by rw [hqs]; exact snoc_lt (fun z hz => HPL.out z (List.mem_of_mem_drop hz)) (by omega)
   have hb0 : Dk wr w.heap.size (ps.take k ++ [] ++ qs.drop 0 ++ List.replicate (n - k) 0) := by
    have : ps ++ List.replicate (n - k + 1) 0 = ps.take k ++ [] ++ qs.drop 0 ++ List.replicate (n - k) 0 := by
     rw [hqs, List.drop_zero, List.append_nil, ← List.append_assoc, List.take_append_drop, List.append_assoc, List.replicate_succ]
     rfl
    rw [← this]; exact hb
   have HQ := Lib.hid hqs
   have HQL := Lib.hid hql
   have HTL := Lib.hid (show (ps.take k).length = k by rw [List.length_take]; have := HP.out; omega)
   clear hqs hql hx hb hc
   go_wp2
   go_loopw [7, 8] (fun q i wr => ∃ (j Q : Nat) (ns : List Nat), (j ≤ n' ∨ (j = n' + 1 ∧ Q = 0)) ∧ i = .int .i64 j ∧ q = .int .i64 (Q : Int) ∧ Dk wr w.heap.size (ps.take k ++ ns ++ qs.drop j ++ List.replicate (n - k) 0) ∧ Below w.heap.size w wr ∧ TimesInv 65536 qs ys x j ns Q) (fun _ i _ => n' + 1 - (intOf i).toNat)
   case atStart => exact ⟨0, 0, [], .inl (by omega), rfl, rfl, hb0, hbl, timesInv_zero (by omega)⟩
   case round =>
    obtain ⟨j, Q, ns, hj, rfl, rfl, hb, hbl, hti⟩ := hrel
    have hQ := hti.2.2.1
    by_cases hgo : j < n' ∨ 0 < Q
    ·have hj2 : j ≤ n' := by omega
     have hc := (h.below hbl).cell_ HX.out
     have hr' := h'.below hbl
     obtain ⟨p, hp1, hp2⟩ := drop_next (show j < qs.length by rw [HQL.out]; omega)
     have hpb := hqb p (List.mem_of_getElem? hp1)
     rw [hp2] at hb
     have hb' : Dk wr w.heap.size (ps.take k ++ ns ++ p :: (qs.drop (j + 1) ++ List.replicate (n - k) 0)) := by simpa using hb
     have hlen : k + j = (ps.take k).length + ns.length := by rw [HTL.out, hti.1]
     have hcell := hb'.cell (get_mid (p := p) (post := qs.drop (j + 1) ++ List.replicate (n - k) 0) hlen)
     have hfz := hb'.frozen (k + j)
     have hset : ∀ (v : Nat) (m : Nat), Dk ((wr.drewN m).setCell ⟨w.heap.size, k + j, none⟩ (.int .i64 (v : Int))) w.heap.size (ps.take k ++ (ns ++ [v]) ++ qs.drop (j + 1) ++ List.replicate (n - k) 0) := fun v m => by
      have := Dk.set_ (w := wr.drewN m) hb' (i := k + j) (by simp only [List.length_append, List.length_cons]; omega) v
      rw [set_mid hlen] at this
      simpa using this
     have hgs : ∀ (m : Nat) (v : Value), Below w.heap.size w ((wr.drewN m).setCell ⟨w.heap.size, k + j, none⟩ v) := fun m v => below_set (below_drewNN hbl m) (Nat.le_refl _) hbl.size v
     have HS := Lib.hid hset
     have HG := Lib.hid hgs
     clear hlen hset hgs hb hb' hp2
     have hy := getD_lt (b := 65536) (by omega) h'.lt j
     have hxy : x * ys[j]?.getD 0 ≤ 65535 * 65535 := Nat.mul_le_mul (by omega) (by omega)
     have z2 : j < n' ∨ ys[j]?.getD 0 = 0 := by
      by_cases g : j < n'
      ·exact .inl g
      ·exact .inr (by rw [List.getElem?_eq_none (by rw [h'.len]; omega)]; rfl)
     have z3 : j < n' ∨ p = 0 := by
      by_cases g : j < n'
      ·exact .inl g
      ·refine .inr ?_
       have hjn : j = n' := by omega
       rw [HQ.out, List.getElem?_append_right (by rw [List.length_drop, HP.out]; omega), List.length_drop, HP.out, show j - (n' + k - k) = 0 by omega] at hp1
       exact (Option.some.inj hp1).symm
     have HN := Lib.hid (fun z Q' => hti.step (z := z) (Q' := Q'))
     have P1 := Lib.hid hp1
     clear hp1
     have hn2 : n' ≤ 1000000 := by omega
     have hk2 : j ≤ 1000001 := by omega
     have hP : ys[j]?.getD 0 * x = x * ys[j]?.getD 0 := Nat.mul_comm _ _
     have HY := Lib.hid (show ∀ z Q' : Nat, z + 65536 * Q' = Q + p + x * ys[j]?.getD 0 → z < 65536 → Q' < 65536 → TimesInv 65536 qs ys x (j + 1) (ns ++ [z]) Q' from fun z Q' e1 e2 e3 => HN.out z Q' (by rw [P1.out, Option.getD_some, hP]; omega) e2 e3)
     have hm : ((x : Int) * ((ys[j]?.getD 0 : Nat) : Int)) = ((x * ys[j]?.getD 0 : Nat) : Int) := (Int.natCast_mul _ _).symm
     have hm0 : (0 : Int) ≤ (x : Int) * ((ys[j]?.getD 0 : Nat) : Int) := by rw [hm]; omega
     have hm1 : (x : Int) * ((ys[j]?.getD 0 : Nat) : Int) ≤ 4294836225 := by rw [hm]; omega
     have HM := Lib.hid hm
     have z4 : j < n' ∨ x * ys[j]?.getD 0 = 0 := by
      rcases z2 with g | g
      ·exact .inl g
      ·exact .inr (by rw [g, Nat.mul_zero])
     clear hm hP HN P1 z2
     have e1 : (0 : Int) ≤ (k : Int) + j := by omega
     have e2 : (k : Int) + j < (n : Int) + n' + 1 := by omega
     have e3 : (0 : Int) ≤ k := by omega
     have e4 : (k : Int) < n := by omega
     rcases (show j < n' ∨ (¬ j < n' ∧ 0 < Q) by omega) with g | ⟨g, g2⟩
     all_goals
      go_wp2_with fail
      go_quiet ((go_at_call 153; exact at_q _ _ _ _ j ys _ _ hr' hn2 hk2))
      rw [HM.out]
      clear hm0 hm1 HM
      generalize x * ys[j]?.getD 0 = t at *
      obtain ⟨s, hs⟩ : ∃ s, s = Q + p + t := ⟨_, rfl⟩
      rw [show ((Q : Int) + p + (t : Nat)) = (s : Int) by omega]
      have HF := Lib.hid (HY.out (s % 65536) (s / 65536) (by omega) (by omega) (by omega))
      have hfin : j + 1 ≤ n' ∨ (j + 1 = n' + 1 ∧ s / 65536 = 0) := by omega
      have hsb : s ≤ 5000000000 := by omega
      have HFIN := Lib.hid hfin
      clear hs hfin
      go_wp2
      exact ⟨⟨j + 1, s / 65536, _, HFIN.out, by go_num, by go_num, HS.out _ _, HG.out _ _, HF.out⟩, by simp [intOf] <;> omega⟩
    ·have hQ0 : Q = 0 := by omega
     subst hQ0
     have hdj : n' ≤ j := by omega
     have HI := Lib.hid (hinv.step HX.out h'.len (by rw [← HQ.out]; exact hti) hdj (by omega))
     have hbe : Dk wr w.heap.size (ps.take k ++ (ns ++ (ps.drop k ++ [0]).drop j) ++ List.replicate (n - (k + 1) + 1) 0) := by
      rw [show n - (k + 1) + 1 = n - k by omega, ← HQ.out]
      simpa using hb
     go_wp2
     exact ⟨⟨k + 1, _, by omega, by go_num, hbe, hbl, HI.out⟩, by simp [intOf] <;> omega⟩
  ·obtain rfl : k = n := by omega
   have hv := hinv.2.2
   rw [List.take_of_length_le (by rw [h.len]; exact Nat.le_refl _)] at hv
   have hz : vl 65536 (ps ++ List.replicate (k - k + 1) 0) = vl 65536 xs * vl 65536 ys := by rw [vl_append, vl_rep, Nat.mul_zero, Nat.add_zero, hv]
   have HZ := Lib.hid hz
   have hl2 : (ps ++ List.replicate (k - k + 1) 0).length = k + n' + 1 := by simp [hinv.1]; omega
   have hrd := hb.rd (n := k + n' + 1) (fun z hz => by
    rcases List.mem_append.1 hz with hz | hz
    ·exact hinv.2.1 z hz
    ·rw [List.eq_of_mem_replicate hz]; omega) hl2
   clear hv hz hl2
   go_wp2_with fail
   refine (trim_any _ _ _ _ _ _ hrd (by omega)).mono ?_
   rintro e w' ⟨m, c3, hm, rfl, rfl, hr3⟩
   rw [HZ.out] at hr3
   go_wp2
   go_ret
   exact ⟨_, m, c3, rfl, by omega, hr3, hbl, fun ad e => by injection e with e; subst e; exact Nat.le_refl _⟩
def BitInv (Y Rh d j q R : Nat) : Prop := R < Y ∧ q < 2 ^ (16 - j) ∧ Y * q + R = Rh * 2 ^ (16 - j) + d / 2 ^ j
theorem BitInv.bound {Y Rh d j q R : Nat} (h : BitInv Y Rh d j q R) (hj : j ≤ 16) : q * 2 ^ j < 65536 := by
 have h2 := h.2.1
 have e : (2 : Nat) ^ (16 - j) * 2 ^ j = 65536 := by rw [← Nat.pow_add, show 16 - j + j = 16 by omega]
 have p : 0 < (2 : Nat) ^ j := Nat.pow_pos (by omega)
 have := (Nat.mul_lt_mul_right p).2 h2
 omega
def DivD (xs : List Nat) (Y n k : Nat) (hs : List Nat) (R : Nat) : Prop := hs.length + k = n ∧ (∀ x ∈ hs, x < 65536) ∧ R < Y ∧ vl 65536 (xs.drop k) = Y * vl 65536 hs + R
theorem DivD.step {xs hs : List Nat} {Y n k Rh d q R : Nat} (h : DivD xs Y n (k + 1) hs Rh) (hx : xs[k]? = some d) (t : BitInv Y Rh d 0 q R) : DivD xs Y n k (q :: hs) R := by
 obtain ⟨h1, h2, h3, h4⟩ := h
 have hb := t.bound (by omega)
 rw [Nat.pow_zero, Nat.mul_one] at hb
 obtain ⟨t1, t2, t3⟩ := t
 have hl := (List.getElem?_eq_some_iff.1 hx).1
 have e := (List.getElem?_eq_some_iff.1 hx).2
 refine ⟨by simp; omega, fun z hz => ?_, t1, ?_⟩
 ·rcases List.mem_cons.1 hz with rfl | hz
  ·exact hb
  ·exact h2 z hz
 ·rw [List.drop_eq_getElem_cons hl, e, vl_cons, vl_cons, h4, Nat.mul_add, Nat.mul_add, Nat.mul_left_comm]
  rw [show 16 - 0 = 16 by omega, show (2 : Nat) ^ 16 = 65536 by decide, Nat.pow_zero, Nat.div_one] at t3
  omega
theorem DivD.done {xs hs : List Nat} {Y n R : Nat} (h : DivD xs Y n 0 hs R) : vl 65536 hs = vl 65536 xs / Y ∧ R = vl 65536 xs % Y := by
 obtain ⟨h1, h2, h3, h4⟩ := h
 rw [List.drop_zero] at h4
 rw [h4]
 refine ⟨?_, ?_⟩
 ·rw [Nat.mul_add_div (by omega), Nat.div_eq_of_lt h3, Nat.add_zero]
 ·rw [Nat.mul_add_mod, Nat.mod_eq_of_lt h3]
theorem DR.one (w : World) (g : Nat) (hg : g = w.heap.size) (z : Int) (x : Nat) (hz : z = x) (hx : x < 65536) : DR (w.alloc (.cells #[.int .i64 z] 3)) (w.alloc (.cells #[.int .i64 z] 3)).heap.size (some ⟨g, 0, none⟩) 1 1 [x] := by
 subst hz hg
 refine ⟨rfl, Nat.le_refl _, fun z hz => by rw [List.mem_singleton.1 hz]; exact hx, fun _ => ⟨_, rfl, by simp, fun j z hz => ?_⟩⟩
 match j, hz with
 | 0, hz => simp at hz; subst hz; simp [Addr.add]
def PInv (w wr : World) (G : Nat) (lst : List Nat) (A : Option Addr) (n c R : Nat) : Prop :=
 Dk wr G lst ∧ Below G w wr ∧ DR wr wr.heap.size A n c (dg 65536 R) ∧ (∀ ad, A = some ad → G < ad.block)
theorem PInv.next {w wr w' : World} {G : Nat} {lst : List Nat} {A A2 : Option Addr} {n c R n2 c2 R2 : Nat} (h : PInv w wr G lst A n c R) (hb : Below wr.heap.size wr w') (hr : DR w' w'.heap.size A2 n2 c2 (dg 65536 R2)) (hf : ∀ ad, A2 = some ad → wr.heap.size ≤ ad.block) : PInv w w' G lst A2 n2 c2 R2 := by
 obtain ⟨h1, h2, h3, h4⟩ := h
 have hlt := h1.lt
 exact ⟨h1.keep (hb.block G hlt), h2.trans (hb.mono (Nat.le_of_lt hlt)), hr, fun ad e => by have := hf ad e; omega⟩
theorem PInv.drewN {w wr : World} {G : Nat} {lst : List Nat} {A : Option Addr} {n c R : Nat} (h : PInv w wr G lst A n c R) (m : Nat) : PInv w (wr.drewN m) G lst A n c R :=
 ⟨h.1, below_drewNN h.2.1 m, h.2.2.1.drewN m, h.2.2.2⟩
theorem PInv.alloc {w wr : World} {G : Nat} {lst : List Nat} {A : Option Addr} {n c R : Nat} (h : PInv w wr G lst A n c R) (o : Obj) : PInv w (wr.alloc o) G lst A n c R := by
 have hb : Below wr.heap.size wr (wr.alloc o) := (Below.refl _ _).alloc (Nat.le_refl _) o
 obtain ⟨h1, h2, h3, h4⟩ := h
 have hlt := h1.lt
 exact ⟨h1.keep (hb.block G hlt), h2.trans (hb.mono (Nat.le_of_lt hlt)), (h3.below hb).more hb.size, h4⟩
theorem rtimesX {A A' : Option Addr} {n n' c c' : Nat} {xs ys : List Nat} {w : World} (h : DX w A n c xs) (h' : DX w A' n' c' ys) (hn : n ≤ 10000) (hn' : n' ≤ 10000) :
    Calls Tryz.prog 137 #[.slice A n c, .slice A' n' c'] w fun e w' => ∃ A2 n2 c2, e = .returned (.slice A2 n2 c2) ∧ n2 ≤ n + n' + 1 ∧ DX w' A2 n2 c2 (dg 65536 (vl 65536 xs * vl 65536 ys)) ∧ ExtN w w' := (times_dg_any A A' n n' c c' xs ys w h h' hn hn').mono fun e w' ⟨A2, n2, c2, a1, a2, a3, a4, _⟩ => ⟨A2, n2, c2, a1, a2, a3, a4⟩
theorem rmulX {A A' : Option Addr} {n n' c c' : Nat} {xs ys : List Nat} {w : World} (h : NXN w A n c xs) (h' : NXN w A' n' c' ys) (hn : n ≤ 2000) (hn' : n' ≤ 2000) :
    Calls Tryz.prog 116 #[.slice A n c, .slice A' n' c'] w fun e w' => ∃ A2 n2 c2, e = .returned (.slice A2 n2 c2) ∧ n2 ≤ 4 * n + 4 * n' + 1 ∧ NXN w' A2 n2 c2 (nw (nv xs * nv ys)) ∧ ExtN w w' := by
 have HV := Lib.hid (show vl 65536 (dg 65536 (vl 65536 (dg 65536 (nv xs)) * vl 65536 (dg 65536 (nv ys)))) = nv xs * nv ys by rw [vl_dg d_two, vl_dg d_two, vl_dg d_two])
 go_enter Tryz.func116, Tryz.ntmps116
 go_wp2_with fail
 refine (digX h (by omega)).mono ?_
 rintro e w1 ⟨A1, n1, c1, rfl, hn1, d1, k1⟩
 go_wp2_with fail
 refine (digX (h'.ext k1) (by omega)).mono ?_
 rintro e w2 ⟨A2, n2, c2, rfl, hn2, d2, k2⟩
 go_wp2_with fail
 refine (rtimesX (d1.ext k2) d2 (by omega) (by omega)).mono ?_
 rintro e w3 ⟨A3, n3, c3, rfl, hn3, d3, k3⟩
 go_wp2_with fail
 refine (fromX d3 (by omega)).mono ?_
 rw [HV.out]
 rintro e w4 ⟨A4, n4, c4, rfl, hn4, d4, k4⟩
 go_wp2
 go_ret
 exact ⟨A4, n4, c4, rfl, by omega, d4, k1.trans (k2.trans (k3.trans k4))⟩
end Go.Proofs.YtkbcobjhlpjieaaGreatDoor
