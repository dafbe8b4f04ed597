import Derived.Test.YtjikdbcjabopnaaGreatDoorZ17
import Derived.Deep.RegionHeld3
import Derived.Test.YtjikdbcjabopnaaGreatDoorZ15
import Derived.Deep.QuietTactic
import Derived.BigQuiet
namespace Go.Proofs.YtjikdbcjabopnaaGreatDoor
open Go.RowKit
set_option linter.unusedVariables false
set_option maxRecDepth 100000
theorem Rd.alloc {k : IntKind} {b : Nat} {w : World} {B : Nat} {A : Option Addr} {n c : Nat} {xs : List Nat} (h : Rd k b w B A n c xs) (hB : B ≤ w.heap.size) (o : Obj) : Rd k b (w.alloc o) B A n c xs := h.keep fun p hp => World.cell?_alloc_lt w o p (by omega)
theorem Rd.drew {k : IntKind} {b : Nat} {w : World} {A : Option Addr} {n c : Nat} {xs : List Nat} (h : Rd k b w w.heap.size A n c xs) : Rd k b w.drew w.drew.heap.size A n c xs := ⟨h.len, h.room, h.lt, h.cells⟩
structure Box2 (w W : World) (b b' : Bool) (s s' : Value) : Prop where
 below : Below w.heap.size w W
 size : w.heap.size + 2 ≤ W.heap.size
 a0 : W.cell? ⟨w.heap.size, 0, none⟩ = some (.bool b)
 a1 : W.cell? ⟨w.heap.size, 1, none⟩ = some s
 b0 : W.cell? ⟨w.heap.size + 1, 0, none⟩ = some (.bool b')
 b1 : W.cell? ⟨w.heap.size + 1, 1, none⟩ = some s'
 free : ∀ o, W.frozen? ⟨w.heap.size, o, none⟩ = false ∧ W.frozen? ⟨w.heap.size + 1, o, none⟩ = false
structure Box3 (w W : World) (b b' : Bool) (s s' r0 r1 : Value) : Prop extends Box2 w W b b' s s' where
 size3 : W.heap.size = w.heap.size + 3
 r0 : W.cell? ⟨w.heap.size + 2, 0, none⟩ = some r0
 r1 : W.cell? ⟨w.heap.size + 2, 1, none⟩ = some r1
 f0 : W.frozen? ⟨w.heap.size + 2, 0, none⟩ = false
 f1 : W.frozen? ⟨w.heap.size + 2, 1, none⟩ = false
theorem Box2.keep {w W W' : World} {b b' : Bool} {s s' : Value} (h : Box2 w W b b' s s') (hb : Below W.heap.size W W') : Box2 w W' b b' s s' := by
 have := h.size
 have z := hb.size
 exact ⟨h.below.trans (hb.mono (by omega)), by omega, (hb.cell (p := ⟨w.heap.size, 0, none⟩) (show w.heap.size < _ by omega)).trans h.a0, (hb.cell (p := ⟨w.heap.size, 1, none⟩) (show w.heap.size < _ by omega)).trans h.a1, (hb.cell (p := ⟨w.heap.size + 1, 0, none⟩) (show w.heap.size + 1 < _ by omega)).trans h.b0, (hb.cell (p := ⟨w.heap.size + 1, 1, none⟩) (show w.heap.size + 1 < _ by omega)).trans h.b1, fun o => ⟨(hb.frozen (p := ⟨w.heap.size, o, none⟩) (show w.heap.size < _ by omega)).trans (h.free o).1, (hb.frozen (p := ⟨w.heap.size + 1, o, none⟩) (show w.heap.size + 1 < _ by omega)).trans (h.free o).2⟩⟩
theorem Box2.drew {w W : World} {b b' : Bool} {s s' : Value} (h : Box2 w W b b' s s') : Box2 w W.drew b b' s s' := ⟨h.below.drew, h.size, h.a0, h.a1, h.b0, h.b1, h.free⟩
theorem Rd.aside {k : IntKind} {b : Nat} {w : World} {B : Nat} {A : Option Addr} {n c : Nat} {xs : List Nat} (h : Rd k b w B A n c xs) {p : Addr} {v : Value} (hp : w.cell? p = some v) (hv : ∀ x : Int, v ≠ .int k x) (u : Value) : Rd k b (w.setCell p u) B A n c xs := by
 refine ⟨h.len, h.room, h.lt, fun hn => ?_⟩
 obtain ⟨ad, rfl, hb, hc⟩ := h.cells hn
 refine ⟨ad, rfl, hb, fun j x hx => ?_⟩
 rw [World.cell?_setCell_other w p _ u (fun e => ?_)]
 ·exact hc j x hx
 ·have := hc j x hx
  first | (rw [e] at this; rw [hp] at this; exact hv _ (Option.some.inj this)) | (rw [← e] at this; rw [hp] at this; exact hv _ (Option.some.inj this))
def iv (b : Bool) (X : Nat) : Int := if b then -(X : Int) else X
theorem Box3.drewN {w W : World} {b b' : Bool} {s s' r0 r1 : Value} (h : Box3 w W b b' s s' r0 r1) (q : Nat) : Box3 w (W.drewN q) b b' s s' r0 r1 :=
 ⟨⟨below_drewNN h.below q, h.size, h.a0, h.a1, h.b0, h.b1, h.free⟩, h.size3, h.r0, h.r1, h.f0, h.f1⟩
def ExtN (a b : World) : Prop := Below a.heap.size a b
theorem ExtN.refl (a : World) : ExtN a a := Below.refl _ _
theorem ExtN.trans {a b c : World} (h : ExtN a b) (k : ExtN b c) : ExtN a c := Below.trans h (Below.mono k h.size)
theorem ExtN.alloc {a b : World} (h : ExtN a b) (o : Obj) : ExtN a (b.alloc o) := h.trans (Below.alloc (Below.refl _ _) (Nat.le_refl _) o)
theorem ExtN.drewN {a b : World} (h : ExtN a b) (n : Nat) : ExtN a (b.drewN n) := below_drewNN h n
def NXN (w : World) (A : Option Addr) (n c : Nat) (xs : List Nat) : Prop := NR w w.heap.size A n c xs
theorem NXN.ext {a b : World} {A : Option Addr} {n c : Nat} {xs : List Nat} (h : NXN a A n c xs) (k : ExtN a b) : NXN b A n c xs := (Rd.below h k).more k.size
theorem NXN.one (w : World) (g : Nat) (hg : g = w.heap.size) (z : Int) (x : Nat) (hz : z = x) (hx : x < 18446744073709551616) : NXN (w.alloc (.cells #[.int .u64 z] 22)) (some ⟨g, 0, none⟩) 1 1 [x] := by
 subst hz hg
 refine ⟨rfl, Nat.le_refl _, fun z hz => by rw [List.mem_singleton.1 hz, W64_eq]; exact hx, fun _ => ⟨_, rfl, by simp, fun j z hz => ?_⟩⟩
 match j, hz with
 | 0, hz => simp at hz; subst hz; simp [Addr.add]
theorem NXN.two (w : World) (g : Nat) (hg : g = w.heap.size) (z z' : Int) (x y : Nat) (hz : z = x) (hz' : z' = y) (hx : x < 18446744073709551616) (hy : y < 18446744073709551616) : NXN (w.alloc (.cells #[.int .u64 z, .int .u64 z'] 22)) (some ⟨g, 0, none⟩) 2 2 [x, y] := by
 subst hz hz' hg
 refine ⟨rfl, Nat.le_refl _, fun z hz => ?_, fun _ => ⟨_, rfl, by simp, fun j z hz => ?_⟩⟩
 ·rw [W64_eq]
  rcases List.mem_cons.1 hz with rfl | hz
  ·exact hx
  ·rw [List.mem_singleton.1 hz]; exact hy
 ·match j, hz with
  | 0, hz => simp at hz; subst hz; simp [Addr.add]
  | 1, hz => simp at hz; subst hz; simp [Addr.add]
theorem nv_one (x : Nat) : nv [x] = x := by show vl W64 [x] = x; simp [vl]
theorem nw_one {x : Nat} (h0 : 0 < x) (hx : x < 18446744073709551616) : nw x = [x] := by
 have := dg_unique W64_two [x] (fun z hz => by rw [List.mem_singleton.1 hz, W64_eq]; exact hx) (.inr (by simp; omega))
 rw [show vl W64 [x] = x from nv_one x] at this
 exact this.symm
theorem addX {A A' : Option Addr} {n n' c c' : Nat} {xs ys : List Nat} {w : World} (h : NXN w A n c xs) (h' : NXN w A' n' c' ys) (hn : n ≤ 1000) (hn' : n' ≤ 1000) :
    Calls Tryz.prog 89 #[.slice A n c, .slice A' n' c'] w fun e w' => ∃ A2 n2 c2, e = .returned (.slice A2 n2 c2) ∧ n2 ≤ n + n' + 1 ∧ NXN w' A2 n2 c2 (nw (nv xs + nv ys)) ∧ ExtN w w' := natAdd_any A A' n n' c c' xs ys w h h' (by omega) (by omega)
theorem mulX {A A' : Option Addr} {n n' c c' : Nat} {xs ys : List Nat} {w : World} (h : NXN w A n c xs) (h' : NXN w A' n' c' ys) (hn : n ≤ 1000) (hn' : n' ≤ 1000) :
    Calls Tryz.prog 160 #[.slice A n c, .slice A' n' c'] w fun e w' => ∃ A2 n2 c2, e = .returned (.slice A2 n2 c2) ∧ n2 ≤ n + n' ∧ NXN w' A2 n2 c2 (nw (nv xs * nv ys)) ∧ ExtN w w' := natMul_any A A' n n' c c' xs ys w h h' (by omega) (by omega)
theorem divX {A A' : Option Addr} {n n' c c' : Nat} {xs ys : List Nat} {w : World} (h : NXN w A n c xs) (h' : NXN w A' n' c' ys) (hn : n ≤ 1000) (hn' : n' ≤ 1000) :
    Calls Tryz.prog 158 #[.slice A n c, .slice A' n' c'] w (DivPostN w (n + 1) (nv xs) (nv ys)) := div_any A A' n n' c c' xs ys w h h' (by omega) (by omega)
theorem subX {A A' : Option Addr} {n n' c c' : Nat} {xs ys : List Nat} {w : World} (h : NXN w A n c xs) (h' : NXN w A' n' c' ys) (hn : n ≤ 100000) (hn' : n' ≤ 100000) :
    Calls Tryz.prog 291 #[.slice A n c, .slice A' n' c'] w (SubPost w n (nv xs) (nv ys)) := sub_nat_any A A' n n' c c' xs ys w h h' (by omega) (by omega)
theorem cmpX {A A' : Option Addr} {n n' c c' : Nat} {xs ys : List Nat} {w : World} (h : NXN w A n c xs) (h' : NXN w A' n' c' ys) (hn : n ≤ 100000) (hn' : n' ≤ 100000) :
    Calls Tryz.prog 104 #[.slice A n c, .slice A' n' c'] w fun e w' => e = .returned (.int .i64 (cmpS (nv xs) (nv ys))) ∧ ExtN w w' := (cmp_any A A' n n' c c' _ xs ys w h h' (by omega) (by omega)).mono fun e w' ⟨he, q, hw⟩ => ⟨he, by rw [hw]; exact (ExtN.refl w).drewN q⟩
theorem sameX {A A' : Option Addr} {n n' c c' : Nat} {xs ys : List Nat} {w : World} (h : NXN w A n c xs) (h' : NXN w A' n' c' ys) (hn : n ≤ 100000) (hn' : n' ≤ 100000) :
    Calls Tryz.prog 30 #[.slice A n c, .slice A' n' c'] w fun e w' => e = .returned (.bool (decide (xs = ys))) ∧ ExtN w w' := (same_anyN A A' n n' c c' _ xs ys w h h' (by omega) (by omega)).mono fun e w' ⟨he, q, hw⟩ => ⟨he, by rw [hw]; exact (ExtN.refl w).drewN q⟩
def i64s (zs : List Nat) : List Value := zs.map fun (z : Nat) => Value.int .i64 (z : Int)
theorem i64s_snoc (zs : List Nat) (z : Nat) : i64s zs ++ [Value.int .i64 (z : Int)] = i64s (zs ++ [z]) := by simp [i64s]
theorem info_int : (Tryz.prog.info? 3).map (fun i => (i.zero, i.size, i.bytes)) = some (some (.int .i64 0), 1, 8) := by kernel_rfl
def IRow (B : Nat) (w0 w : World) (v : Value) (n : Nat) (zs : List Nat) : Prop := w.ownsRow B 3 1 v n (i64s zs) ∧ Below B w0 w ∧ (∀ x ∈ zs, x < 65536)
theorem IRow.nil (w : World) : IRow w.heap.size w w (.slice none 0 0) 0 [] := ⟨World.ownsRow_nil _ _ _ _, Below.refl _ _, by simp⟩
theorem IRow.len {B : Nat} {w0 w : World} {v : Value} {n : Nat} {zs : List Nat} (h : IRow B w0 w v n zs) : zs.length = n := by
 have := h.1.1
 simpa [i64s] using this
theorem IRow.push {B : Nat} {w0 w w1 : World} {v v' : Value} {n : Nat} {zs : List Nat} {z : Nat} {o : Obj} (h : IRow B w0 w v n zs) (hB : B ≤ w.heap.size) (hz : z < 65536)
    (h1 : w1.ownsRow B 3 1 v' (n + 1) (i64s zs ++ [Value.int .i64 (z : Int)])) (hg : (w.alloc o).grownBy w1 v.ownBlock) : IRow B w0 w1 v' (n + 1) (zs ++ [z]) := by
 rw [i64s_snoc] at h1
 exact ⟨h1, (h.2.1.alloc hB o).grown hg (by simp; omega) (fun k e => (h.1.lt k e).1), snoc_lt h.2.2 hz⟩
theorem IRow.rd {B : Nat} {w0 w : World} {v : Value} {n : Nat} {zs : List Nat} (h : IRow B w0 w v n zs) : ∃ A c, v = .slice A n c ∧ DR w w.heap.size A n c zs ∧ (∀ ad, A = some ad → B ≤ ad.block) := by
 have hlen := h.len
 rcases h.1.2 with ⟨rfl, rfl⟩ | ⟨g, cap, cur, rfl, hg, hh, hle, _⟩
 ·exact ⟨none, 0, rfl, ⟨hlen, Nat.le_refl _, h.2.2, fun h => absurd h (by omega)⟩, fun ad e => by cases e⟩
 ·refine ⟨_, cap, rfl, ⟨hlen, hle, h.2.2, fun _ => ⟨⟨g, 0, none⟩, rfl, (Array.getElem?_eq_some_iff.1 hh).1, fun j x hx => ?_⟩⟩, fun ad e => ?_⟩
  ·exact h.1.cells (g := g) rfl j _ (by simp [i64s, hx])
  ·injection e with e; subst e; exact hg
theorem d_two : 2 ≤ 65536 := by omega
def DigPost (w : World) (N : Nat) (ys : List Nat) (e : Ending) (w' : World) : Prop :=
 ∃ A n c, e = .returned (.slice A n c) ∧ n ≤ N ∧ DR w' w'.heap.size A n c ys ∧ Below w.heap.size w w' ∧ (∀ ad, A = some ad → w.heap.size ≤ ad.block)
def DTrimPost (A : Option Addr) (n B : Nat) (xs : List Nat) (w : World) (e : Ending) (w' : World) : Prop := ∃ m c, m ≤ n ∧ e = .returned (.slice A m c) ∧ w = w' ∧ DR w B A m c (dg 65536 (vl 65536 xs))
theorem dtrim_is {A : Option Addr} {n c B m : Nat} {xs : List Nat} {w : World} (h : DR w B A n c xs) (hm : m ≤ n) (hz : ∀ (j x : Nat), m ≤ j → xs[j]? = some x → x = 0) (hl : m = 0 ∨ xs[m - 1]? ≠ some 0) : DR w B A m c (dg 65536 (vl 65536 xs)) := by
 have e := take_dg d_two xs m h.lt (by rw [h.len]; exact hm) hz hl
 rw [← e]
 have := h.take_ hm
 exact ⟨this.len, Nat.le_trans hm h.room, this.lt, this.cells⟩
def lenOf : Value → Nat | .slice _ m _ => m | _ => 0
theorem trim_any (A : Option Addr) (n c B : Nat) (xs : List Nat) (w : World) (h : DR w B A n c xs) (hn : n ≤ 1000000) :
    Calls Tryz.prog 181 #[.slice A n c] w (DTrimPost A n B xs w) := by
 have hroom := h.room
 go_enter Tryz.func181, Tryz.ntmps181
 go_wp2
 go_loop [0] (fun s => ∃ m : Nat, m ≤ n ∧ s = .slice A m c ∧ Hid (∀ (j x : Nat), m ≤ j → xs[j]? = some x → x = 0)) (fun s => lenOf s)
 case atStart => exact ⟨n, Nat.le_refl _, rfl, Lib.hid (fun j x hj hx => by have := (List.getElem?_eq_some_iff.1 hx).1; have := h.len; omega)⟩
 case round =>
  obtain ⟨m, hm, rfl, hz⟩ := hrel
  by_cases hm0 : m = 0
  ·subst hm0
   go_wp2
   go_ret
   exact ⟨0, c, hm, rfl, rfl, dtrim_is h hm hz.out (.inl rfl)⟩
  ·obtain ⟨ad, x, rfl, hb, hxb, hx, hc⟩ := h.at_ (show m - 1 < n by omega)
   have HX := Lib.hid hx
   clear hx
   by_cases hx0 : x = 0
   ·subst hx0
    go_wp2
    refine ⟨⟨m - 1, by omega, by go_num, Lib.hid fun j x hj hx => ?_⟩, by simp [lenOf]; omega⟩
    by_cases hjm : j = m - 1
    ·subst hjm; rw [HX.out] at hx; exact (Option.some.inj hx).symm
    ·exact hz.out j x (by omega) hx
   ·have hxb : ((x : Int) == 0) = false := by simpa using hx0
    go_wp2
    go_ret
    exact ⟨m, c, hm, rfl, rfl, dtrim_is h hm hz.out (.inr (by rw [HX.out]; simpa using hx0))⟩
theorem at_any (A : Option Addr) (n c B i : Nat) (xs : List Nat) (w : World) (h : DR w B A n c xs) (hn : n ≤ 1000000) (hi : i ≤ 1000001) :
    Calls Tryz.prog 245 #[.slice A n c, .int .i64 (i : Int)] w fun e w' => e = .returned (.int .i64 ((xs[i]?.getD 0 : Nat) : Int)) ∧ w = w' := by
 by_cases hlt : i < n
 ·obtain ⟨ad, x, rfl, hb, hxb, hx, hc⟩ := h.at_ hlt
  have HX := Lib.hid hx
  clear hx
  go_enter Tryz.func245, Tryz.ntmps245
  go_wp2
  go_ret
  exact ⟨congrArg Ending.returned (i64_eq (by rw [HX.out]; rfl)), rfl⟩
 ·have H := Lib.hid (List.getElem?_eq_none (l := xs) (i := i) (by rw [h.len]; omega))
  go_enter Tryz.func245, Tryz.ntmps245
  go_wp2
  go_ret
  exact ⟨congrArg Ending.returned (i64_eq (by rw [H.out]; rfl)), rfl⟩
set_option maxHeartbeats 1000000 in
theorem compare_any (A A' : Option Addr) (n n' c c' B X Y : Nat) (w : World) (h : DR w B A n c (dg 65536 X)) (h' : DR w B A' n' c' (dg 65536 Y)) (hn : n ≤ 1000000) (hn' : n' ≤ 1000000) :
    Calls Tryz.prog 165 #[.slice A n c, .slice A' n' c'] w (Qt (.int .i64 (cmpS X Y)) w) := by
 have hl := h.len
 have hl' := h'.len
 by_cases hs : n = n'
 ·subst hs
  have HL := Lib.hid hl
  have HL' := Lib.hid hl'
  clear hl hl'
  go_enter Tryz.func165, Tryz.ntmps165
  go_wp2
  go_loopw [5] (fun i wr => ∃ k q : Nat, k ≤ n ∧ i = .int .i64 ((k : Int) - 1) ∧ wr = w.drewN q ∧ Hid (∀ i, k ≤ i → (dg 65536 X)[i]? = (dg 65536 Y)[i]?)) (fun i _ => (intOf i + 1).toNat)
  case atStart => exact ⟨n, 0, Nat.le_refl _, rfl, rfl, Lib.hid fun i hi => by rw [List.getElem?_eq_none (by rw [HL.out]; exact hi), List.getElem?_eq_none (by rw [HL'.out]; exact hi)]⟩
  case round =>
   obtain ⟨k, q, hk, rfl, rfl, hup⟩ := hrel
   by_cases hk0 : k = 0
   ·subst hk0
    have HE := Lib.hid (cmpS_eq (m := X) (n := Y) (by rw [← vl_dg d_two X, ← vl_dg d_two Y, eq_of_up hup.out]))
    go_wp2
    go_ret
    exact Qt.eqN (i64_eq HE.out.symm)
   ·obtain ⟨j, rfl⟩ : ∃ j, k = j + 1 := ⟨k - 1, by omega⟩
    obtain ⟨ad, x, rfl, hb, hxb, hx, hc⟩ := h.at_ (show j < n by omega)
    obtain ⟨ad', y, rfl, hb', hyb, hy, hc'⟩ := h'.at_ (show j < n by omega)
    rw [show (((j + 1 : Nat) : Int) - 1) = (j : Int) by omega]
    have HX := Lib.hid hx
    have HY := Lib.hid hy
    have lt1 := Lib.hid h.lt
    have lt2 := Lib.hid h'.lt
    clear hx hy
    have e1 : (0 : Int) ≤ j := by omega
    have e2 : (j : Int) < n := by omega
    rcases Nat.lt_trichotomy x y with hlt | hxy | hlt
    ·have hd : decide ((x : Int) < y) = true := by simp; omega
     have HE := Lib.hid (cmpS_lt (m := X) (n := Y) (by rw [← vl_dg d_two X, ← vl_dg d_two Y]; exact cmp_at HX.out HY.out lt1.out (fun i hi => hup.out i hi) hlt))
     go_wp2
     go_quiet (fail)
     go_wp2
     go_ret
     first | exact Qt.eqN (i64_eq HE.out.symm) | (rw [HE.out]; exact Qt.mk2 _ _ _ _)
    ·subst hxy
     go_wp2
     go_quiet (fail)
     go_wp2
     go_quiet (fail)
     go_wp2
     refine ⟨⟨j, _, by omega, rfl, rfl, Lib.hid fun i hi => ?_⟩, by simp [intOf]⟩
     by_cases hij : i = j
     ·subst hij; rw [HX.out, HY.out]
     ·exact hup.out i (by omega)
    ·have hd : decide ((x : Int) < y) = false := by simp; omega
     have hd2 : decide ((y : Int) < x) = true := by simp; omega
     have HE := Lib.hid (cmpS_gt (m := X) (n := Y) (by rw [← vl_dg d_two X, ← vl_dg d_two Y]; exact cmp_at HY.out HX.out lt2.out (fun i hi => (hup.out i hi).symm) hlt))
     go_wp2
     go_quiet (fail)
     go_wp2
     go_quiet (fail)
     go_wp2
     go_ret
     first | exact Qt.eqN (i64_eq HE.out.symm) | exact Qt.eqN3 (i64_eq HE.out.symm)
 ·have hne : ((n : Int) != n') = true := by simp; omega
  by_cases hlt : n < n'
  ·have hd : decide ((n : Int) < n') = true := by simp; omega
   have HE := Lib.hid (cmpS_lt (m := X) (n := Y) (dg_len_lt d_two (by rw [hl, hl']; exact hlt)))
   clear hl hl'
   go_enter Tryz.func165, Tryz.ntmps165
   go_wp2
   go_ret
   exact Qt.eq0 (i64_eq HE.out.symm)
  ·have hd : decide ((n : Int) < n') = false := by simp; omega
   have HE := Lib.hid (cmpS_gt (m := X) (n := Y) (dg_len_lt d_two (by rw [hl, hl']; omega)))
   clear hl hl'
   go_enter Tryz.func165, Tryz.ntmps165
   go_wp2
   go_ret
   exact Qt.eq0 (i64_eq HE.out.symm)
theorem dig_int {x i : Nat} : wrap64 (((x : Int) / 2 ^ (16 * i)).tmod 65536) = ((x / 65536 ^ i % 65536 : Nat) : Int) := by
 rw [two_pow_cast, pow_16, ← Int.natCast_ediv, Int.tmod_eq_emod_of_nonneg (Int.natCast_nonneg _)]
 have : x / 65536 ^ i % 65536 < 65536 := Nat.mod_lt _ (by omega)
 rw [show ((x / 65536 ^ i : Nat) : Int) % 65536 = ((x / 65536 ^ i % 65536 : Nat) : Int) from (Int.natCast_emod _ _).symm]
 generalize x / 65536 ^ i % 65536 = q at *
 unfold wrap64
 omega
set_option maxHeartbeats 2000000 in
theorem digits_any (A : Option Addr) (n c : Nat) (xs : List Nat) (w : World) (h : NR w w.heap.size A n c xs) (hn : n ≤ 10000) :
    Calls Tryz.prog 116 #[.slice A n c] w (DigPost w (4 * n) (dg 65536 (nv xs))) := by
 obtain ⟨i0, hi, hz0, hz1, hz2⟩ := info_parts info_int
 go_enter Tryz.func116, Tryz.ntmps116
 go_wp2
 go_loopw [3, 9] (fun s i wr => ∃ (k : Nat) (zs : List Nat), k ≤ n ∧ i = .int .i64 k ∧ IRow w.heap.size w wr s (4 * k) zs ∧ DigInv xs k 0 0 zs) (fun _ i _ => n - (intOf i).toNat)
 case atStart => exact ⟨0, [], by omega, rfl, IRow.nil w, digInv_zero 0⟩
 case round =>
  obtain ⟨k, zs, hk, rfl, hrow, hinv⟩ := hrel
  by_cases hlt : k < n
  ·obtain ⟨ad, x, rfl, hb, hxb, hx, hc⟩ := (h.below hrow.2.1).at_ hlt
   rw [W64_eq] at hxb
   have HX := Lib.hid hx
   clear hx
   have hinv0 : DigInv xs k 0 x zs := ⟨hinv.1, by rw [hinv.2]; simp [Nat.mod_one]⟩
   go_wp2
   go_loopw [3, 6] (fun s i wr => ∃ (j : Nat) (zs : List Nat), j ≤ 4 ∧ i = .int .i64 j ∧ IRow w.heap.size w wr s (4 * k + j) zs ∧ DigInv xs k j x zs) (fun _ i _ => 4 - (intOf i).toNat)
   case atStart => exact ⟨0, zs, by omega, rfl, hrow, hinv0⟩
   case round =>
    obtain ⟨j, zs, hj, rfl, hrow, hinv⟩ := hrel
    have hsz := hrow.2.1.size
    by_cases hj4 : j < 4
    ·have HI := Lib.hid (dig_int (x := x) (i := j))
     have hdl : x / 65536 ^ j % 65536 < 65536 := Nat.mod_lt _ (by omega)
     go_wp2_with (at_builtin; go_loud (rw [HI.out]; refine wpList_append_own _ rfl _ _ 163 rfl w.heap.size 3 i0 (.int .i64 0) 1 8 Tryz.underlying163 hi hz0 hz1 hz2 rfl (by decide) _ _ _ rfl (hrow.1.alloc _) ⟨_, 0, none⟩ 1 1 [.int .i64 (x / 65536 ^ j % 65536 : Nat)] rfl rfl one_cell one_int (by unfold maxLen; omega) (by omega) (by simp; omega) ?_; intro v2 w2 hown2 hgrow2 _))
     exact ⟨⟨j + 1, _, by omega, by go_num, hrow.push hsz hdl hown2 hgrow2, hinv.step⟩, by simp [intOf]; omega⟩
    ·obtain rfl : j = 4 := by omega
     go_wp2
     exact ⟨⟨k + 1, zs, by omega, by go_num, hrow, hinv.word HX.out hxb 0⟩, by simp [intOf]; omega⟩
  ·obtain rfl : k = n := by omega
   have V := Lib.hid (hinv.done (by rw [h.len]; exact Nat.le_refl _))
   obtain ⟨A2, c2, rfl, hr2, hfr⟩ := hrow.rd
   go_wp2_with fail
   refine (trim_any _ _ _ _ zs _ hr2 (by omega)).mono ?_
   rintro e w' ⟨m, c3, hm, rfl, rfl, hr3⟩
   rw [V.out] at hr3
   go_wp2
   go_ret
   exact ⟨A2, m, c3, rfl, hm, hr3, hrow.2.1, hfr⟩
def URowN (B : Nat) (w0 w : World) (v : Value) (n : Nat) (zs : List Nat) : Prop := w.ownsRow B 22 1 v n (u64s zs) ∧ Below B w0 w ∧ (∀ x ∈ zs, x < W64)
theorem URowN.nil (w : World) : URowN w.heap.size w w (.slice none 0 0) 0 [] := ⟨World.ownsRow_nil _ _ _ _, Below.refl _ _, by simp⟩
theorem URowN.push {B : Nat} {w0 w w1 : World} {v v' : Value} {n : Nat} {zs : List Nat} {z : Nat} {o : Obj} (h : URowN B w0 w v n zs) (hB : B ≤ w.heap.size) (hz : z < W64)
    (h1 : w1.ownsRow B 22 1 v' (n + 1) (u64s zs ++ [Value.int .u64 (z : Int)])) (hg : (w.alloc o).grownBy w1 v.ownBlock) : URowN B w0 w1 v' (n + 1) (zs ++ [z]) := by
 rw [u64s_snoc] at h1
 exact ⟨h1, (h.2.1.alloc hB o).grown hg (by simp; omega) (fun k e => (h.1.lt k e).1), snoc_lt h.2.2 hz⟩
def seg (ds : List Nat) (k j : Nat) : Nat := vl 65536 ((ds.drop (4 * k + j)).take (4 - j))
theorem seg_four (ds : List Nat) (k : Nat) : seg ds k 4 = 0 := by simp [seg, vl_nil]
theorem seg_step (ds : List Nat) {k j : Nat} (hj : j < 4) : seg ds k j = ds[4 * k + j]?.getD 0 + 65536 * seg ds k (j + 1) := by
 unfold seg
 rw [show 4 - j = (4 - (j + 1)) + 1 by omega, vl_seg]
 rfl
theorem seg_bound {ds : List Nat} (h : ∀ x ∈ ds, x < 65536) {k j : Nat} (hj : j < 4) : seg ds k (j + 1) < 281474976710656 := by
 have h2 : 65536 ^ (4 - (j + 1)) ≤ 65536 ^ 3 := Nat.pow_le_pow_right (by omega) (by omega)
 have h1 := seg_lt h (4 * k + (j + 1)) (4 - (j + 1))
 have h3 : 65536 ^ 3 = 281474976710656 := by decide
 unfold seg
 omega
theorem seg_zero (ds : List Nat) (k : Nat) : seg ds k 0 = vl 65536 ((ds.drop (4 * k)).take 4) := rfl
set_option maxHeartbeats 1000000 in
theorem from_any (A : Option Addr) (n c : Nat) (zs : List Nat) (w : World) (h : DR w w.heap.size A n c zs) (hn : n ≤ 100000) :
    Calls Tryz.prog 162 #[.slice A n c] w (NatPost w n (nw (vl 65536 zs))) := by
 obtain ⟨i0, hi, hz0, hz1, hz2⟩ := info_parts info_u64N
 go_enter Tryz.func162, Tryz.ntmps162
 go_wp2_with fail
 refine (trim_any _ _ _ _ zs _ h (by omega)).mono ?_
 rintro e w' ⟨m, c3, hm, rfl, rfl, hr⟩
 generalize hV : vl 65536 zs = V at *
 generalize hds : dg 65536 V = ds at *
 have HDS := Lib.hid hds
 clear hds hV
 go_wp2
 go_loopw [3, 4] (fun s i wr => ∃ (k : Nat) (ws : List Nat), (k = 0 ∨ 4 * (k - 1) < m) ∧ i = .int .i64 (4 * k : Nat) ∧ URowN w.heap.size w wr s k ws ∧ FromInv ds k ws) (fun _ i _ => (m + 4) - (intOf i).toNat)
 case atStart => exact ⟨0, [], .inl rfl, rfl, URowN.nil w, fromInv_zero⟩
 case round =>
  obtain ⟨k, ws, hk, rfl, hrow, hinv⟩ := hrel
  have hsz := hrow.2.1.size
  by_cases hlt : 4 * k < m
  ·have hr1 := hr.below hrow.2.1
   go_wp2
   go_loop [5, 6] (fun s i => ∃ (j : Nat), j ≤ 4 ∧ i = .int .i64 ((j : Int) - 1) ∧ s = .int .u64 ((seg ds k j : Nat) : Int)) (fun _ i => (intOf i + 1).toNat)
   case atStart => exact ⟨4, by omega, rfl, by rw [seg_four]; rfl⟩
   case round =>
    obtain ⟨j, hj, rfl, rfl⟩ := hrel
    by_cases hj0 : j = 0
    ·subst hj0
     have HS := Lib.hid (seg_zero ds k)
     have hb := seg_lt hr.lt (4 * k) 4
     rw [← W64_pow, ← seg_zero] at hb
     go_wp2_with (at_builtin; go_loud (refine wpList_append_own _ rfl _ _ 50 rfl w.heap.size 22 i0 (.int .u64 0) 1 8 Tryz.underlying50 hi hz0 hz1 hz2 rfl (by decide) _ _ _ rfl (hrow.1.alloc _) ⟨_, 0, none⟩ 1 1 [.int .u64 (seg ds k 0 : Nat)] rfl rfl one_cell one_int (by unfold maxLen; omega) (by omega) (by simp; omega) ?_; intro v2 w2 hown2 hgrow2 _))
     refine ⟨⟨k + 1, _, .inr (by omega), by go_num, hrow.push hsz hb hown2 hgrow2, ?_⟩, by simp [intOf]; omega⟩
     rw [HS.out]
     exact hinv.step (by rw [hr.len]; exact hlt) hr.lt
    ·obtain ⟨i, rfl⟩ : ∃ i, j = i + 1 := ⟨j - 1, by omega⟩
     rw [show (((i + 1 : Nat) : Int) - 1) = (i : Int) by omega]
     have HS := Lib.hid (seg_step ds (k := k) (j := i) (by omega))
     have hb := seg_bound hr.lt (k := k) (j := i) (by omega)
     generalize seg ds k (i + 1) = q at *
     by_cases hin : 4 * k + i < m
     ·obtain ⟨ad, x, rfl, hb2, hxb, hx, hc⟩ := hr1.at_ hin
      have e : seg ds k i = q * 65536 + x := by rw [HS.out, hx, Option.getD_some]; omega
      have E := Lib.hid e
      clear hx e
      go_wp2
      exact ⟨⟨i, by omega, by go_num, by rw [E.out]; go_num⟩, by simp [intOf] <;> omega⟩
     ·have e : seg ds k i = q * 65536 := by rw [HS.out, List.getElem?_eq_none (by rw [hr.len]; omega), Option.getD_none]; omega
      have E := Lib.hid e
      clear e
      go_wp2
      exact ⟨⟨i, by omega, by go_num, by rw [E.out]; go_num⟩, by simp [intOf] <;> omega⟩
  ·have V := Lib.hid (hinv.done (by rw [hr.len]; omega) (by rw [hr.len]; exact hk) HDS.out.symm)
   obtain ⟨A2, c2, rfl, hr2⟩ := rd_of_own hrow.1 hrow.2.2
   rw [V.out] at hr2
   go_wp2
   go_ret
   exact ⟨A2, k, c2, rfl, by omega, hr2, hrow.2.1⟩
theorem IRow.drewN {B : Nat} {w0 w : World} {v : Value} {n : Nat} {zs : List Nat} (h : IRow B w0 w v n zs) (m : Nat) : IRow B w0 (w.drewN m) v n zs :=
 ⟨⟨h.1.1, h.1.2⟩, ⟨h.2.1.os, h.2.1.tape, h.2.1.output, h.2.1.size, h.2.1.block⟩, h.2.2⟩
set_option maxHeartbeats 1000000 in
theorem plus_anyN (A A' : Option Addr) (n n' c c' : Nat) (xs ys : List Nat) (w : World) (h : DR w w.heap.size A n c xs) (h' : DR w w.heap.size A' n' c' ys) (hn : n ≤ 100000) (hn' : n' ≤ 100000) :
    Calls Tryz.prog 213 #[.slice A n c, .slice A' n' c'] w (DigPost w (n + n' + 1) (dg 65536 (vl 65536 xs + vl 65536 ys))) := by
 obtain ⟨i0, hi, hz0, hz1, hz2⟩ := info_parts info_int
 obtain ⟨mx, m1, m2, m3⟩ : ∃ mx, n ≤ mx ∧ n' ≤ mx ∧ mx ≤ n + n' := ⟨max n n', by omega, by omega, by omega⟩
 go_enter Tryz.func213, Tryz.ntmps213
 go_wp2
 go_loopw [5, 6, 7] (fun s b i wr => ∃ (k : Nat) (zs : List Nat) (C : Nat), (k ≤ mx ∨ (k = mx + 1 ∧ C = 0)) ∧ i = .int .i64 k ∧ b = .int .i64 (C : Int) ∧ IRow w.heap.size w wr s k zs ∧ AddInv 65536 xs ys k zs C) (fun _ _ i _ => mx + 1 - (intOf i).toNat)
 case atStart => exact ⟨0, [], 0, .inl (by omega), rfl, rfl, IRow.nil w, addInv_zero⟩
 case round =>
  obtain ⟨k, zs, C, hk, rfl, rfl, hrow, hinv⟩ := hrel
  have hC := hinv.2.2.1
  have hsz := hrow.2.1.size
  have hr := h.below hrow.2.1
  have hr' := h'.below hrow.2.1
  by_cases hgo : k < n ∨ k < n' ∨ 0 < C
  ·have hx := getD_lt (b := 65536) (by omega) h.lt k
   have hy := getD_lt (b := 65536) (by omega) h'.lt k
   have HN := Lib.hid (hinv.step (z := (C + xs[k]?.getD 0 + ys[k]?.getD 0) % 65536) (C' := (C + xs[k]?.getD 0 + ys[k]?.getD 0) / 65536) (by omega) (by omega) (by omega))
   have hk2 : k ≤ mx := by omega
   have z1 : k < n ∨ xs[k]?.getD 0 = 0 := by
    by_cases g : k < n
    ·exact .inl g
    ·exact .inr (by rw [List.getElem?_eq_none (by rw [h.len]; omega)]; rfl)
   have z2 : k < n' ∨ ys[k]?.getD 0 = 0 := by
    by_cases g : k < n'
    ·exact .inl g
    ·exact .inr (by rw [List.getElem?_eq_none (by rw [h'.len]; omega)]; rfl)
   rcases (show k < n ∨ (¬ k < n ∧ k < n') ∨ (¬ k < n ∧ ¬ k < n' ∧ 0 < C) by omega) with g1 | ⟨g1, g2⟩ | ⟨g1, g2, g3⟩
   all_goals
    go_wp2_with fail
    refine (at_any _ _ _ _ k xs _ hr (by omega) (by omega)).mono ?_
    rintro e w' ⟨rfl, rfl⟩
    go_wp2_with fail
    refine (at_any _ _ _ _ k ys _ hr' (by omega) (by omega)).mono ?_
    rintro e w' ⟨rfl, rfl⟩
    have hdl : (C + xs[k]?.getD 0 + ys[k]?.getD 0) % 65536 < 65536 := Nat.mod_lt _ (by omega)
    generalize xs[k]?.getD 0 = x at *
    generalize ys[k]?.getD 0 = y at *
    go_wp2_with (at_builtin; go_loud (refine wpList_append_own _ rfl _ _ 163 rfl w.heap.size 3 i0 (.int .i64 0) 1 8 Tryz.underlying163 hi hz0 hz1 hz2 rfl (by decide) _ _ _ rfl (hrow.1.alloc _) ⟨_, 0, none⟩ 1 1 [.int .i64 ((C + x + y) % 65536 : Nat)] rfl rfl one_cell one_int (by unfold maxLen; omega) (by omega) (by simp; omega) ?_; intro v2 w2 hown2 hgrow2 _))
    exact ⟨⟨k + 1, _, _, by omega, by go_num, by go_num, hrow.push hsz hdl hown2 hgrow2, HN.out⟩, by simp [intOf] <;> omega⟩
  ·have hC0 : C = 0 := by omega
   subst hC0
   have V := Lib.hid (hinv.full (by rw [h.len]; omega) (by rw [h'.len]; omega))
   obtain ⟨A2, c2, rfl, hr2, hfr⟩ := hrow.rd
   go_wp2_with fail
   refine (trim_any _ _ _ _ zs _ hr2 (by omega)).mono ?_
   rintro e w' ⟨m, c3, hm, rfl, rfl, hr3⟩
   rw [show vl 65536 zs = vl 65536 xs + vl 65536 ys from V.out] at hr3
   go_wp2
   go_ret
   exact ⟨A2, m, c3, rfl, by omega, hr3, hrow.2.1, hfr⟩
theorem at_q (A : Option Addr) (n c B i : Nat) (xs : List Nat) (w : World) (q : Nat) (h : DR w B A n c xs) (hn : n ≤ 1000000) (hi : i ≤ 1000001) :
    Calls Tryz.prog 245 #[.slice A n c, .int .i64 (i : Int)] (w.drewN q) fun e w'' => e = .returned (.int .i64 ((xs[i]?.getD 0 : Nat) : Int)) ∧ ∃ m, w'' = w.drewN m :=
 (at_any A n c B i xs (w.drewN q) (h.drewN q) hn hi).mono fun e w' hh => ⟨hh.1, q, hh.2.symm⟩
set_option maxHeartbeats 1000000 in
theorem rless_any (A A' : Option Addr) (n n' c c' : Nat) (xs ys : List Nat) (w : World) (h : DR w w.heap.size A n c xs) (h' : DR w w.heap.size A' n' c' ys) (hn : n ≤ 100000) (hn' : n' ≤ n) (hv : vl 65536 ys ≤ vl 65536 xs) :
    Calls Tryz.prog 268 #[.slice A n c, .slice A' n' c'] w (DigPost w n (dg 65536 (vl 65536 xs - vl 65536 ys))) := by
 obtain ⟨i0, hi, hz0, hz1, hz2⟩ := info_parts info_int
 have HV := Lib.hid hv
 clear hv
 go_enter Tryz.func268, Tryz.ntmps268
 go_wp2
 go_loopw [5, 6, 7] (fun s b i wr => ∃ (k : Nat) (zs : List Nat) (C : Nat), k ≤ n ∧ i = .int .i64 k ∧ b = .int .i64 (C : Int) ∧ IRow w.heap.size w wr s k zs ∧ SubInv 65536 xs ys k zs C) (fun _ _ i _ => n - (intOf i).toNat)
 case atStart => exact ⟨0, [], 0, by omega, rfl, rfl, IRow.nil w, subInv_zero h.lt h'.lt⟩
 case round =>
  obtain ⟨k, zs, C, hk, rfl, rfl, hrow, hinv⟩ := hrel
  have hC := hinv.2.2.1
  have hsz := hrow.2.1.size
  have hr' := h'.below hrow.2.1
  by_cases hlt : k < n
  ·obtain ⟨ad, x, rfl, hb, hxb, hx, hc⟩ := (h.below hrow.2.1).at_ hlt
   have hy := getD_lt (b := 65536) (by omega) h'.lt k
   have hstep := fun z C' => hinv.step (x := x) (z := z) (C' := C') hx
   have HS := Lib.hid hstep
   clear hstep hx
   have e1 : (0 : Int) ≤ k := by omega
   have hn2 : n' ≤ 1000000 := by omega
   have hk2 : k ≤ 1000001 := by omega
   have e2 : (k : Int) < n := by omega
   go_wp2_with fail
   go_quiet ((go_at_call 245; exact at_q _ _ _ _ k ys _ _ hr' hn2 hk2))
   generalize ys[k]?.getD 0 = y at *
   have hrq := hrow.drewN nq
   have hszq : w.heap.size ≤ (wr.drewN nq).heap.size := hsz
   generalize wr.drewN nq = wq at *
   by_cases hlo : x < y + C
   ·obtain ⟨z, ez⟩ : ∃ z, z = x + 65536 - y - C := ⟨_, rfl⟩
    rw [show ((x : Int) - y - C) = (z : Int) - 65536 by omega]
    have hzl : z < 65536 := by omega
    have HN := Lib.hid (HS.out z 1 (by omega) hzl (by omega))
    have hneg : (z : Int) - 65536 < 0 := by omega
    clear ez
    go_wp2_with (at_builtin; go_loud (refine wpList_append_own _ rfl _ _ 163 rfl w.heap.size 3 i0 (.int .i64 0) 1 8 Tryz.underlying163 hi hz0 hz1 hz2 rfl (by decide) _ _ _ rfl (hrq.1.alloc _) ⟨_, 0, none⟩ 1 1 [.int .i64 (z : Nat)] rfl rfl one_cell one_int (by unfold maxLen; omega) (by omega) (by simp; omega) ?_; intro v2 w2 hown2 hgrow2 _))
    exact ⟨⟨k + 1, _, 1, by omega, by go_num, rfl, hrq.push hszq hzl hown2 hgrow2, HN.out⟩, by simp [intOf] <;> omega⟩
   ·obtain ⟨z, ez⟩ : ∃ z, z = x - y - C := ⟨_, rfl⟩
    rw [show ((x : Int) - y - C) = (z : Int) by omega]
    have hzl : z < 65536 := by omega
    have HN := Lib.hid (HS.out z 0 (by omega) hzl (by omega))
    have hpos : ¬ (z : Int) < 0 := by omega
    clear ez
    go_wp2_with (at_builtin; go_loud (refine wpList_append_own _ rfl _ _ 163 rfl w.heap.size 3 i0 (.int .i64 0) 1 8 Tryz.underlying163 hi hz0 hz1 hz2 rfl (by decide) _ _ _ rfl (hrq.1.alloc _) ⟨_, 0, none⟩ 1 1 [.int .i64 (z : Nat)] rfl rfl one_cell one_int (by unfold maxLen; omega) (by omega) (by simp; omega) ?_; intro v2 w2 hown2 hgrow2 _))
    exact ⟨⟨k + 1, _, 0, by omega, by go_num, rfl, hrq.push hszq hzl hown2 hgrow2, HN.out⟩, by simp [intOf] <;> omega⟩
  ·obtain rfl : k = n := by omega
   obtain ⟨v1, v2⟩ := hinv.done h.len (by rw [h'.len]; exact hn') HV.out
   have V := Lib.hid v1
   clear v1
   obtain ⟨A2, c2, rfl, hr2, hfr⟩ := hrow.rd
   go_wp2_with fail
   refine (trim_any _ _ _ _ zs _ hr2 (by omega)).mono ?_
   rintro e w' ⟨m, c3, hm, rfl, rfl, hr3⟩
   rw [V.out] at hr3
   go_wp2
   go_ret
   exact ⟨A2, m, c3, rfl, by omega, hr3, hrow.2.1, hfr⟩
def DX (w : World) (A : Option Addr) (n c : Nat) (zs : List Nat) : Prop := DR w w.heap.size A n c zs
theorem DX.ext {a b : World} {A : Option Addr} {n c : Nat} {xs : List Nat} (h : DX a A n c xs) (k : ExtN a b) : DX b A n c xs := (Rd.below h k).more k.size
theorem digX {A : Option Addr} {n c : Nat} {xs : List Nat} {w : World} (h : NXN w A n c xs) (hn : n ≤ 10000) :
    Calls Tryz.prog 116 #[.slice A n c] w fun e w' => ∃ A2 n2 c2, e = .returned (.slice A2 n2 c2) ∧ n2 ≤ 4 * n ∧ DX w' A2 n2 c2 (dg 65536 (nv xs)) ∧ ExtN w w' := (digits_any A n c xs w h hn).mono fun e w' ⟨A2, n2, c2, a1, a2, a3, a4, _⟩ => ⟨A2, n2, c2, a1, a2, a3, a4⟩
theorem fromX {A : Option Addr} {n c : Nat} {zs : List Nat} {w : World} (h : DX w A n c zs) (hn : n ≤ 100000) :
    Calls Tryz.prog 162 #[.slice A n c] w fun e w' => ∃ A2 n2 c2, e = .returned (.slice A2 n2 c2) ∧ n2 ≤ n ∧ NXN w' A2 n2 c2 (nw (vl 65536 zs)) ∧ ExtN w w' := from_any A n c zs w h hn
theorem plusX {A A' : Option Addr} {n n' c c' : Nat} {xs ys : List Nat} {w : World} (h : DX w A n c xs) (h' : DX w A' n' c' ys) (hn : n ≤ 100000) (hn' : n' ≤ 100000) :
    Calls Tryz.prog 213 #[.slice A n c, .slice A' n' c'] w fun e w' => ∃ A2 n2 c2, e = .returned (.slice A2 n2 c2) ∧ n2 ≤ n + n' + 1 ∧ DX w' A2 n2 c2 (dg 65536 (vl 65536 xs + vl 65536 ys)) ∧ ExtN w w' := (plus_anyN A A' n n' c c' xs ys w h h' hn hn').mono fun e w' ⟨A2, n2, c2, a1, a2, a3, a4, _⟩ => ⟨A2, n2, c2, a1, a2, a3, a4⟩
theorem compareX {A A' : Option Addr} {n n' c c' X Y : Nat} {w : World} (h : DX w A n c (dg 65536 X)) (h' : DX w A' n' c' (dg 65536 Y)) (hn : n ≤ 1000000) (hn' : n' ≤ 1000000) :
    Calls Tryz.prog 165 #[.slice A n c, .slice A' n' c'] w fun e w' => e = .returned (.int .i64 (cmpS X Y)) ∧ ExtN w w' := (compare_any A A' n n' c c' _ X Y w h h' hn hn').mono fun e w' ⟨he, q, hw⟩ => ⟨he, by rw [hw]; exact (ExtN.refl w).drewN q⟩
theorem rcmpX {A A' : Option Addr} {n n' c c' : Nat} {xs ys : List Nat} {w : World} (h : NXN w A n c xs) (h' : NXN w A' n' c' ys) (hn : n ≤ 10000) (hn' : n' ≤ 10000) :
    Calls Tryz.prog 105 #[.slice A n c, .slice A' n' c'] w fun e w' => e = .returned (.int .i64 (cmpS (nv xs) (nv ys))) ∧ ExtN w w' := by
 go_enter Tryz.func105, Tryz.ntmps105
 go_wp2_with fail
 refine (digX h hn).mono ?_
 rintro e w1 ⟨A1, n1, c1, rfl, hn1, d1, k1⟩
 go_wp2_with fail
 refine (digX (h'.ext k1) hn').mono ?_
 rintro e w2 ⟨A2, n2, c2, rfl, hn2, d2, k2⟩
 go_wp2_with fail
 refine (compareX (d1.ext k2) d2 (by omega) (by omega)).mono ?_
 rintro e w3 ⟨rfl, k3⟩
 go_wp2
 go_ret
 exact ⟨rfl, k1.trans (k2.trans k3)⟩
theorem raddX {A A' : Option Addr} {n n' c c' : Nat} {xs ys : List Nat} {w : World} (h : NXN w A n c xs) (h' : NXN w A' n' c' ys) (hn : n ≤ 10000) (hn' : n' ≤ 10000) :
    Calls Tryz.prog 154 #[.slice A n c, .slice A' n' c'] w fun e w' => ∃ A2 n2 c2, e = .returned (.slice A2 n2 c2) ∧ n2 ≤ 4 * n + 4 * n' + 1 ∧ NXN w' A2 n2 c2 (nw (nv xs + nv ys)) ∧ ExtN w w' := by
 have HV := Lib.hid (show vl 65536 (dg 65536 (vl 65536 (dg 65536 (nv xs)) + vl 65536 (dg 65536 (nv ys)))) = nv xs + nv ys by rw [vl_dg d_two, vl_dg d_two, vl_dg d_two])
 go_enter Tryz.func154, Tryz.ntmps154
 go_wp2_with fail
 refine (digX h hn).mono ?_
 rintro e w1 ⟨A1, n1, c1, rfl, hn1, d1, k1⟩
 go_wp2_with fail
 refine (digX (h'.ext k1) hn').mono ?_
 rintro e w2 ⟨A2, n2, c2, rfl, hn2, d2, k2⟩
 go_wp2_with fail
 refine (plusX (d1.ext k2) d2 (by omega) (by omega)).mono ?_
 rintro e w3 ⟨A3, n3, c3, rfl, hn3, d3, k3⟩
 go_wp2_with fail
 refine (fromX d3 (by omega)).mono ?_
 rw [HV.out]
 rintro e w4 ⟨A4, n4, c4, rfl, hn4, d4, k4⟩
 go_wp2
 go_ret
 exact ⟨A4, n4, c4, rfl, by omega, d4, k1.trans (k2.trans (k3.trans k4))⟩
theorem rofX (x : Nat) (hx : x < 18446744073709551616) (w : World) :
    Calls Tryz.prog 96 #[.int .u64 (x : Int)] w fun e w' => ∃ A2 n2 c2, e = .returned (.slice A2 n2 c2) ∧ n2 ≤ 4 ∧ NXN w' A2 n2 c2 (nw x) ∧ ExtN w w' := by
 have HV := Lib.hid (show vl 65536 (dg 65536 (nv [x])) = x by rw [vl_dg d_two, nv_one])
 go_enter Tryz.func96, Tryz.ntmps96
 go_wp2_with fail
 refine (digX (NXN.one w w.heap.size rfl x x rfl hx) (by omega)).mono ?_
 rintro e w1 ⟨A1, n1, c1, rfl, hn1, d1, k1⟩
 go_wp2_with fail
 refine (fromX d1 (by omega)).mono ?_
 rw [HV.out]
 rintro e w4 ⟨A4, n4, c4, rfl, hn4, d4, k4⟩
 go_wp2
 go_ret
 exact ⟨A4, n4, c4, rfl, by omega, d4, ((ExtN.refl w).alloc _).trans (k1.trans k4)⟩
def Dk (w : World) (g : Nat) (zs : List Nat) : Prop := w.heap[g]? = some (.cells (i64s zs).toArray 3 (0, 0))
theorem Dk.lt {w : World} {g : Nat} {zs : List Nat} (h : Dk w g zs) : g < w.heap.size := (Array.getElem?_eq_some_iff.1 h).1
theorem Dk.frozen {w : World} {g : Nat} {zs : List Nat} (h : Dk w g zs) (i : Nat) : w.frozen? ⟨g, i, none⟩ = false := by
 unfold Dk at h
 simp [World.frozen?, h]
theorem Dk.cell {w : World} {g : Nat} {zs : List Nat} (h : Dk w g zs) {i x : Nat} (hx : zs[i]? = some x) : w.cell? ⟨g, i, none⟩ = some (.int .i64 (x : Int)) := by
 have hl := (List.getElem?_eq_some_iff.1 hx).1
 rw [cell_of_row w g i _ 3 (0, 0) h]
 have e := (List.getElem?_eq_some_iff.1 hx).2
 simp [i64s, hl, e]
theorem Dk.set_ {w : World} {g : Nat} {zs : List Nat} (h : Dk w g zs) {i : Nat} (hi : i < zs.length) (v : Nat) : Dk (w.setCell ⟨g, i, none⟩ (.int .i64 (v : Int))) g (zs.set i v) := by
 unfold Dk at h ⊢
 simp [World.setCell, Array.getElem?_modify, h]
 simp [i64s, List.map_set]
theorem Dk.keep {w w' : World} {g : Nat} {zs : List Nat} (h : Dk w g zs) (hg : w'.heap[g]? = w.heap[g]?) : Dk w' g zs := hg.trans h
theorem Dk.rd {w : World} {g n : Nat} {zs : List Nat} (h : Dk w g zs) (hlt : ∀ x ∈ zs, x < 65536) (hn : zs.length = n) : DR w w.heap.size (some ⟨g, 0, none⟩) n n zs := by
 refine ⟨hn, Nat.le_refl _, hlt, fun _ => ⟨_, rfl, h.lt, fun j x hx => ?_⟩⟩
 rw [Addr.add_lit, Nat.zero_add]
 exact h.cell hx
theorem made_i64 (n : Nat) : (madeCells (Value.int .i64 0).cells (n * 1)).toList = i64s (List.replicate n 0) := by
 rw [Nat.mul_one]
 refine (toList_madeCells_one (Value.int .i64 0) n).trans ?_
 simp [i64s]
theorem make_digits (n : Nat) (z : Int) (hz : z = n) (hc : n ≤ 1000000) (w : World) :
    (Instr.makeSlice 163 (.int .i64 z) (.int .i64 z)).run Tryz.prog w = .ok (.slice (some ⟨w.heap.size, 0, none⟩) n n) (w.alloc (.cells (i64s (List.replicate n 0)).toArray 3)) := by
 subst hz
 obtain ⟨i0, hi, hz0, hz1, hz2⟩ := info_parts info_int
 have hr := run_make (P := Tryz.prog) w 163 3 i0 (.int .i64 0) Tryz.underlying163 hi hz0 .i64 .i64 (n : Int) (n : Int) (by omega) (by omega) (by rw [hz2]; omega) (by omega)
 rw [hz1] at hr
 simp only [Int.toNat_natCast] at hr
 rw [hr]
 have e : madeCells (Value.int .i64 0).cells (n * 1) = (i64s (List.replicate n 0)).toArray := by
  apply Array.toList_inj.1
  rw [made_i64]
 rw [e]
theorem vl_rep (b n : Nat) : vl b (List.replicate n 0) = 0 := vl_zeros fun j x hx => by
 by_cases hj : j < n
 ·have e : (List.replicate n 0)[j]? = some 0 := by simp [hj]
  rw [e] at hx
  exact (Option.some.inj hx).symm
 ·rw [List.getElem?_eq_none (by simp; omega)] at hx
  cases hx
def MulD (xs : List Nat) (Y lb k : Nat) (ps : List Nat) : Prop := ps.length = lb + k ∧ (∀ x ∈ ps, x < 65536) ∧ vl 65536 ps = vl 65536 (xs.take k) * Y
theorem mulD_zero {xs : List Nat} {Y lb : Nat} : MulD xs Y lb 0 (List.replicate lb 0) := by
 refine ⟨by simp, fun x hx => by rw [List.eq_of_mem_replicate hx]; omega, ?_⟩
 rw [vl_rep, List.take_zero, vl_nil, Nat.zero_mul]
theorem MulD.step {xs ps ns ys : List Nat} {lb k j x : Nat} (h : MulD xs (vl 65536 ys) lb k ps) (hx : xs[k]? = some x) (hy : ys.length = lb) (t : TimesInv 65536 (ps.drop k ++ [0]) ys x j ns 0) (hj : lb ≤ j) (hj2 : j ≤ lb + 1) :
    MulD xs (vl 65536 ys) lb (k + 1) (ps.take k ++ (ns ++ (ps.drop k ++ [0]).drop j)) := by
 obtain ⟨h1, h2, h3⟩ := h
 obtain ⟨t1, t2, _, t4⟩ := t
 have l : (ps.take k).length = k := by rw [List.length_take]; omega
 have lq : (ps.drop k ++ [0]).length = lb + 1 := by simp; omega
 have hq : ∀ z ∈ ps.drop k ++ [0], z < 65536 := snoc_lt (fun z hz => h2 z (List.mem_of_mem_drop hz)) (by omega)
 have vq : vl 65536 (ps.drop k ++ [0]) = vl 65536 (ps.drop k) := by rw [vl_snoc, Nat.mul_zero, Nat.add_zero]
 rw [Nat.mul_zero, Nat.add_zero, List.take_of_length_le (l := ys) (by omega)] at t4
 refine ⟨by rw [List.length_append, l, List.length_append, t1, List.length_drop, lq]; omega, fun z hz => ?_, ?_⟩
 ·rcases List.mem_append.1 hz with hz | hz
  ·exact h2 z (List.mem_of_mem_take hz)
  ·rcases List.mem_append.1 hz with hz | hz
   ·exact t2 z hz
   ·exact hq z (List.mem_of_mem_drop hz)
 ·have e0 : vl 65536 ps = vl 65536 (ps.take k) + 65536 ^ k * vl 65536 (ps.drop k) := by
     conv => lhs; rw [← List.take_append_drop k ps, vl_append, l]
  have e1 : vl 65536 (ps.drop k ++ [0]) = vl 65536 ((ps.drop k ++ [0]).take j) + 65536 ^ j * vl 65536 ((ps.drop k ++ [0]).drop j) := by
   conv => lhs; rw [← List.take_append_drop j (ps.drop k ++ [0]), vl_append, List.length_take, lq, Nat.min_eq_left hj2]
  have e2 : vl 65536 (ns ++ (ps.drop k ++ [0]).drop j) = vl 65536 (ps.drop k) + x * vl 65536 ys := by
   rw [vl_append, t1, t4, ← vq, e1]; omega
  rw [vl_append, l, e2, Nat.mul_add, ← Nat.add_assoc, ← e0, h3, vl_take_next, hx, Option.getD_some, Nat.add_mul, Nat.mul_assoc]
theorem Rd.cell_ {k : IntKind} {b : Nat} {w : World} {B : Nat} {ad : Addr} {n c : Nat} {xs : List Nat} (h : Rd k b w B (some ad) n c xs) {i x : Nat} (hx : xs[i]? = some x) : w.cell? (ad.add i) = some (.int k (x : Int)) := by
 have hl := (List.getElem?_eq_some_iff.1 hx).1
 obtain ⟨ad', e, _, hc⟩ := h.cells (by have := h.len; omega)
 injection e with e
 subst e
 exact hc i x hx
theorem below_set {B : Nat} {w0 w : World} {g i : Nat} (h : Below B w0 w) (hg : B ≤ g) (hB : B ≤ w.heap.size) (v : Value) : Below B w0 (w.setCell ⟨g, i, none⟩ v) := below_only h (only_set v) hB hg
set_option maxHeartbeats 4000000 in
theorem times_dg_any (A A' : Option Addr) (n n' c c' : Nat) (xs ys : List Nat) (w : World) (h : DR w w.heap.size A n c xs) (h' : DR w w.heap.size A' n' c' ys) (hn : n ≤ 10000) (hn' : n' ≤ 10000) :
    Calls Tryz.prog 182 #[.slice A n c, .slice A' n' c'] w (DigPost w (n + n' + 1) (dg 65536 (vl 65536 xs * vl 65536 ys))) := by
 have hmk := make_digits (n + n' + 1) ((n : Int) + n' + 1) (by omega) (by omega)
 go_enter Tryz.func182, Tryz.ntmps182
 go_wp2
 go_loopw [18] (fun i wr => ∃ (k : Nat) (ps : List Nat), k ≤ n ∧ i = .int .i64 k ∧ Dk wr w.heap.size (ps ++ List.replicate (n - k + 1) 0) ∧ Below w.heap.size w wr ∧ MulD xs (vl 65536 ys) n' k ps) (fun i _ => n - (intOf i).toNat)
 case atStart =>
  refine ⟨0, List.replicate n' 0, by omega, rfl, ?_, (Below.refl _ _).alloc (Nat.le_refl _) _, mulD_zero⟩
  rw [List.replicate_append_replicate, show n' + (n - 0 + 1) = n + n' + 1 by omega]
  exact heap_alloc_new w _
 case round =>
  obtain ⟨k, ps, hk, rfl, hb, hbl, hinv⟩ := hrel
  by_cases hlt : k < n
  ·obtain ⟨ad, x, rfl, hbk, hxb, hx, hc⟩ := (h.below hbl).at_ hlt
   have HX := Lib.hid hx
   have HP := Lib.hid hinv.1
   have HPL := Lib.hid hinv.2.1
   obtain ⟨qs, hqs⟩ : ∃ qs, qs = ps.drop k ++ [0] := ⟨_, rfl⟩
   have hql : qs.length = n' + 1 := by rw [hqs]; simp; have := HP.out; omega
   have hqb : ∀ z ∈ qs, z < 65536 := by rw [hqs]; exact snoc_lt (fun z hz => HPL.out z (List.mem_of_mem_drop hz)) (by omega)
   have hb0 : Dk wr w.heap.size (ps.take k ++ [] ++ qs.drop 0 ++ List.replicate (n - k) 0) := by
    have : ps ++ List.replicate (n - k + 1) 0 = ps.take k ++ [] ++ qs.drop 0 ++ List.replicate (n - k) 0 := by
     rw [hqs, List.drop_zero, List.append_nil, ← List.append_assoc, List.take_append_drop, List.append_assoc, List.replicate_succ]
     rfl
    rw [← this]; exact hb
   have HQ := Lib.hid hqs
   have HQL := Lib.hid hql
   have HTL := Lib.hid (show (ps.take k).length = k by rw [List.length_take]; have := HP.out; omega)
   clear hqs hql hx hb hc
   go_wp2
   go_loopw [7, 8] (fun q i wr => ∃ (j Q : Nat) (ns : List Nat), (j ≤ n' ∨ (j = n' + 1 ∧ Q = 0)) ∧ i = .int .i64 j ∧ q = .int .i64 (Q : Int) ∧ Dk wr w.heap.size (ps.take k ++ ns ++ qs.drop j ++ List.replicate (n - k) 0) ∧ Below w.heap.size w wr ∧ TimesInv 65536 qs ys x j ns Q) (fun _ i _ => n' + 1 - (intOf i).toNat)
   case atStart => exact ⟨0, 0, [], .inl (by omega), rfl, rfl, hb0, hbl, timesInv_zero (by omega)⟩
   case round =>
    obtain ⟨j, Q, ns, hj, rfl, rfl, hb, hbl, hti⟩ := hrel
    have hQ := hti.2.2.1
    by_cases hgo : j < n' ∨ 0 < Q
    ·have hj2 : j ≤ n' := by omega
     have hc := (h.below hbl).cell_ HX.out
     have hr' := h'.below hbl
     obtain ⟨p, hp1, hp2⟩ := drop_next (show j < qs.length by rw [HQL.out]; omega)
     have hpb := hqb p (List.mem_of_getElem? hp1)
     rw [hp2] at hb
     have hb' : Dk wr w.heap.size (ps.take k ++ ns ++ p :: (qs.drop (j + 1) ++ List.replicate (n - k) 0)) := by simpa using hb
     have hlen : k + j = (ps.take k).length + ns.length := by rw [HTL.out, hti.1]
     have hcell := hb'.cell (get_mid (p := p) (post := qs.drop (j + 1) ++ List.replicate (n - k) 0) hlen)
     have hfz := hb'.frozen (k + j)
     have hset : ∀ (v : Nat) (m : Nat), Dk ((wr.drewN m).setCell ⟨w.heap.size, k + j, none⟩ (.int .i64 (v : Int))) w.heap.size (ps.take k ++ (ns ++ [v]) ++ qs.drop (j + 1) ++ List.replicate (n - k) 0) := fun v m => by
      have := Dk.set_ (w := wr.drewN m) hb' (i := k + j) (by simp only [List.length_append, List.length_cons]; omega) v
      rw [set_mid hlen] at this
      simpa using this
     have hgs : ∀ (m : Nat) (v : Value), Below w.heap.size w ((wr.drewN m).setCell ⟨w.heap.size, k + j, none⟩ v) := fun m v => below_set (below_drewNN hbl m) (Nat.le_refl _) hbl.size v
     have HS := Lib.hid hset
     have HG := Lib.hid hgs
     clear hlen hset hgs hb hb' hp2
     have hy := getD_lt (b := 65536) (by omega) h'.lt j
     have hxy : x * ys[j]?.getD 0 ≤ 65535 * 65535 := Nat.mul_le_mul (by omega) (by omega)
     have z2 : j < n' ∨ ys[j]?.getD 0 = 0 := by
      by_cases g : j < n'
      ·exact .inl g
      ·exact .inr (by rw [List.getElem?_eq_none (by rw [h'.len]; omega)]; rfl)
     have z3 : j < n' ∨ p = 0 := by
      by_cases g : j < n'
      ·exact .inl g
      ·refine .inr ?_
       have hjn : j = n' := by omega
       rw [HQ.out, List.getElem?_append_right (by rw [List.length_drop, HP.out]; omega), List.length_drop, HP.out, show j - (n' + k - k) = 0 by omega] at hp1
       exact (Option.some.inj hp1).symm
     have HN := Lib.hid (fun z Q' => hti.step (z := z) (Q' := Q'))
     have P1 := Lib.hid hp1
     clear hp1
     have hn2 : n' ≤ 1000000 := by omega
     have hk2 : j ≤ 1000001 := by omega
     have hP : ys[j]?.getD 0 * x = x * ys[j]?.getD 0 := Nat.mul_comm _ _
     have HY := Lib.hid (show ∀ z Q' : Nat, z + 65536 * Q' = Q + p + x * ys[j]?.getD 0 → z < 65536 → Q' < 65536 → TimesInv 65536 qs ys x (j + 1) (ns ++ [z]) Q' from fun z Q' e1 e2 e3 => HN.out z Q' (by rw [P1.out, Option.getD_some, hP]; omega) e2 e3)
     have hm : ((x : Int) * ((ys[j]?.getD 0 : Nat) : Int)) = ((x * ys[j]?.getD 0 : Nat) : Int) := (Int.natCast_mul _ _).symm
     have hm0 : (0 : Int) ≤ (x : Int) * ((ys[j]?.getD 0 : Nat) : Int) := by rw [hm]; omega
     have hm1 : (x : Int) * ((ys[j]?.getD 0 : Nat) : Int) ≤ 4294836225 := by rw [hm]; omega
     have HM := Lib.hid hm
     have z4 : j < n' ∨ x * ys[j]?.getD 0 = 0 := by
      rcases z2 with g | g
      ·exact .inl g
      ·exact .inr (by rw [g, Nat.mul_zero])
     clear hm hP HN P1 z2
     have e1 : (0 : Int) ≤ (k : Int) + j := by omega
     have e2 : (k : Int) + j < (n : Int) + n' + 1 := by omega
     have e3 : (0 : Int) ≤ k := by omega
     have e4 : (k : Int) < n := by omega
     rcases (show j < n' ∨ (¬ j < n' ∧ 0 < Q) by omega) with g | ⟨g, g2⟩
     all_goals
      go_wp2_with fail
      go_quiet ((go_at_call 245; exact at_q _ _ _ _ j ys _ _ hr' hn2 hk2))
      rw [HM.out]
      clear hm0 hm1 HM
      generalize x * ys[j]?.getD 0 = t at *
      obtain ⟨s, hs⟩ : ∃ s, s = Q + p + t := ⟨_, rfl⟩
      rw [show ((Q : Int) + p + (t : Nat)) = (s : Int) by omega]
      have HF := Lib.hid (HY.out (s % 65536) (s / 65536) (by omega) (by omega) (by omega))
      have hfin : j + 1 ≤ n' ∨ (j + 1 = n' + 1 ∧ s / 65536 = 0) := by omega
      have hsb : s ≤ 5000000000 := by omega
      have HFIN := Lib.hid hfin
      clear hs hfin
      go_wp2
      exact ⟨⟨j + 1, s / 65536, _, HFIN.out, by go_num, by go_num, HS.out _ _, HG.out _ _, HF.out⟩, by simp [intOf] <;> omega⟩
    ·have hQ0 : Q = 0 := by omega
     subst hQ0
     have hdj : n' ≤ j := by omega
     have HI := Lib.hid (hinv.step HX.out h'.len (by rw [← HQ.out]; exact hti) hdj (by omega))
     have hbe : Dk wr w.heap.size (ps.take k ++ (ns ++ (ps.drop k ++ [0]).drop j) ++ List.replicate (n - (k + 1) + 1) 0) := by
      rw [show n - (k + 1) + 1 = n - k by omega, ← HQ.out]
      simpa using hb
     go_wp2
     exact ⟨⟨k + 1, _, by omega, by go_num, hbe, hbl, HI.out⟩, by simp [intOf] <;> omega⟩
  ·obtain rfl : k = n := by omega
   have hv := hinv.2.2
   rw [List.take_of_length_le (by rw [h.len]; exact Nat.le_refl _)] at hv
   have hz : vl 65536 (ps ++ List.replicate (k - k + 1) 0) = vl 65536 xs * vl 65536 ys := by rw [vl_append, vl_rep, Nat.mul_zero, Nat.add_zero, hv]
   have HZ := Lib.hid hz
   have hl2 : (ps ++ List.replicate (k - k + 1) 0).length = k + n' + 1 := by simp [hinv.1]; omega
   have hrd := hb.rd (n := k + n' + 1) (fun z hz => by
    rcases List.mem_append.1 hz with hz | hz
    ·exact hinv.2.1 z hz
    ·rw [List.eq_of_mem_replicate hz]; omega) hl2
   clear hv hz hl2
   go_wp2_with fail
   refine (trim_any _ _ _ _ _ _ hrd (by omega)).mono ?_
   rintro e w' ⟨m, c3, hm, rfl, rfl, hr3⟩
   rw [HZ.out] at hr3
   go_wp2
   go_ret
   exact ⟨_, m, c3, rfl, by omega, hr3, hbl, fun ad e => by injection e with e; subst e; exact Nat.le_refl _⟩
theorem bit_step (d i : Nat) : d / 2 ^ i = 2 * (d / 2 ^ (i + 1)) + d / 2 ^ i % 2 := by
 rw [Nat.pow_succ, ← Nat.div_div_eq_div_mul]
 omega
def BitInv (Y Rh d j q R : Nat) : Prop := R < Y ∧ q < 2 ^ (16 - j) ∧ Y * q + R = Rh * 2 ^ (16 - j) + d / 2 ^ j
theorem bitInv_start {Y Rh d : Nat} (h : Rh < Y) (hd : d < 65536) : BitInv Y Rh d 16 0 Rh := by
 refine ⟨h, by decide, ?_⟩
 rw [show (2 : Nat) ^ 16 = 65536 by decide, Nat.div_eq_of_lt hd]
 simp
theorem BitInv.up {Y Rh d i q R : Nat} (h : BitInv Y Rh d (i + 1) q R) (hi : i < 16) (hv : Y ≤ R + R + d / 2 ^ i % 2) : BitInv Y Rh d i (2 * q + 1) (R + R + d / 2 ^ i % 2 - Y) := by
 obtain ⟨h1, h2, h3⟩ := h
 have e := bit_step d i
 have ep : (2 : Nat) ^ (16 - i) = 2 * 2 ^ (16 - (i + 1)) := by rw [show 16 - i = (16 - (i + 1)) + 1 by omega, Nat.pow_succ, Nat.mul_comm]
 have hm : d / 2 ^ i % 2 < 2 := Nat.mod_lt _ (by omega)
 refine ⟨by omega, by omega, ?_⟩
 rw [ep, Nat.mul_left_comm, Nat.mul_add, Nat.mul_one, Nat.mul_left_comm]
 generalize Y * q = u at *
 generalize Rh * 2 ^ (16 - (i + 1)) = v at *
 omega
theorem BitInv.stay {Y Rh d i q R : Nat} (h : BitInv Y Rh d (i + 1) q R) (hi : i < 16) (hv : R + R + d / 2 ^ i % 2 < Y) : BitInv Y Rh d i (2 * q) (R + R + d / 2 ^ i % 2) := by
 obtain ⟨h1, h2, h3⟩ := h
 have e := bit_step d i
 have ep : (2 : Nat) ^ (16 - i) = 2 * 2 ^ (16 - (i + 1)) := by rw [show 16 - i = (16 - (i + 1)) + 1 by omega, Nat.pow_succ, Nat.mul_comm]
 refine ⟨hv, by omega, ?_⟩
 rw [ep, Nat.mul_left_comm Rh, Nat.mul_left_comm Y]
 generalize Y * q = u at *
 generalize Rh * 2 ^ (16 - (i + 1)) = v at *
 omega
theorem BitInv.bound {Y Rh d j q R : Nat} (h : BitInv Y Rh d j q R) (hj : j ≤ 16) : q * 2 ^ j < 65536 := by
 have h2 := h.2.1
 have e : (2 : Nat) ^ (16 - j) * 2 ^ j = 65536 := by rw [← Nat.pow_add, show 16 - j + j = 16 by omega]
 have p : 0 < (2 : Nat) ^ j := Nat.pow_pos (by omega)
 have := (Nat.mul_lt_mul_right p).2 h2
 omega
theorem dig_up (q i : Nat) : q * 2 ^ (i + 1) = 2 * q * 2 ^ i := by rw [Nat.pow_succ, Nat.mul_comm 2 q, Nat.mul_assoc, Nat.mul_comm 2]
def DivD (xs : List Nat) (Y n k : Nat) (hs : List Nat) (R : Nat) : Prop := hs.length + k = n ∧ (∀ x ∈ hs, x < 65536) ∧ R < Y ∧ vl 65536 (xs.drop k) = Y * vl 65536 hs + R
theorem divD_start {xs : List Nat} {Y n : Nat} (hY : 0 < Y) (hx : xs.length = n) : DivD xs Y n n [] 0 := by
 refine ⟨by simp, by simp, hY, ?_⟩
 rw [List.drop_of_length_le (by omega), vl_nil]
 simp
theorem DivD.step {xs hs : List Nat} {Y n k Rh d q R : Nat} (h : DivD xs Y n (k + 1) hs Rh) (hx : xs[k]? = some d) (t : BitInv Y Rh d 0 q R) : DivD xs Y n k (q :: hs) R := by
 obtain ⟨h1, h2, h3, h4⟩ := h
 have hb := t.bound (by omega)
 rw [Nat.pow_zero, Nat.mul_one] at hb
 obtain ⟨t1, t2, t3⟩ := t
 have hl := (List.getElem?_eq_some_iff.1 hx).1
 have e := (List.getElem?_eq_some_iff.1 hx).2
 refine ⟨by simp; omega, fun z hz => ?_, t1, ?_⟩
 ·rcases List.mem_cons.1 hz with rfl | hz
  ·exact hb
  ·exact h2 z hz
 ·rw [List.drop_eq_getElem_cons hl, e, vl_cons, vl_cons, h4, Nat.mul_add, Nat.mul_add, Nat.mul_left_comm]
  rw [show 16 - 0 = 16 by omega, show (2 : Nat) ^ 16 = 65536 by decide, Nat.pow_zero, Nat.div_one] at t3
  omega
theorem DivD.done {xs hs : List Nat} {Y n R : Nat} (h : DivD xs Y n 0 hs R) : vl 65536 hs = vl 65536 xs / Y ∧ R = vl 65536 xs % Y := by
 obtain ⟨h1, h2, h3, h4⟩ := h
 rw [List.drop_zero] at h4
 rw [h4]
 refine ⟨?_, ?_⟩
 ·rw [Nat.mul_add_div (by omega), Nat.div_eq_of_lt h3, Nat.add_zero]
 ·rw [Nat.mul_add_mod, Nat.mod_eq_of_lt h3]
theorem dg_len_mono {m n a b : Nat} (h : a ≤ b) (h1 : (dg 65536 a).length = m) (h2 : (dg 65536 b).length = n) : m ≤ n := by
 rcases Nat.lt_or_ge n m with hh | hh
 ·have := dg_len_lt (b := 65536) d_two (n := b) (m := a) (by omega)
  omega
 ·exact hh
theorem lessF {A A' : Option Addr} {n n' c c' X Y : Nat} {w : World} (h : DR w w.heap.size A n c (dg 65536 X)) (h' : DR w w.heap.size A' n' c' (dg 65536 Y)) (hn : n ≤ 100000) (hv : Y ≤ X) :
    Calls Tryz.prog 268 #[.slice A n c, .slice A' n' c'] w (DigPost w n (dg 65536 (X - Y))) := by
 have := rless_any A A' n n' c c' _ _ w h h' hn (dg_len_mono hv h'.len h.len) (by rw [vl_dg d_two, vl_dg d_two]; exact hv)
 rw [vl_dg d_two, vl_dg d_two] at this
 exact this
theorem plusF {A A' : Option Addr} {n n' c c' X Y : Nat} {w : World} (h : DR w w.heap.size A n c (dg 65536 X)) (h' : DR w w.heap.size A' n' c' (dg 65536 Y)) (hn : n ≤ 100000) (hn' : n' ≤ 100000) :
    Calls Tryz.prog 213 #[.slice A n c, .slice A' n' c'] w (DigPost w (n + n' + 1) (dg 65536 (X + Y))) := by
 have := plus_anyN A A' n n' c c' _ _ w h h' hn hn'
 rw [vl_dg d_two, vl_dg d_two] at this
 exact this
theorem DR.one (w : World) (g : Nat) (hg : g = w.heap.size) (z : Int) (x : Nat) (hz : z = x) (hx : x < 65536) : DR (w.alloc (.cells #[.int .i64 z] 3)) (w.alloc (.cells #[.int .i64 z] 3)).heap.size (some ⟨g, 0, none⟩) 1 1 [x] := by
 subst hz hg
 refine ⟨rfl, Nat.le_refl _, fun z hz => by rw [List.mem_singleton.1 hz]; exact hx, fun _ => ⟨_, rfl, by simp, fun j z hz => ?_⟩⟩
 match j, hz with
 | 0, hz => simp at hz; subst hz; simp [Addr.add]
theorem vl_single (x : Nat) : vl 65536 [x] = x := by simp [vl]
theorem trim1 (w : World) (g : Nat) (hg : g = w.heap.size) (z : Int) (x : Nat) (hz : z = x) (hx : x < 65536) :
    Calls Tryz.prog 181 #[.slice (some ⟨g, 0, none⟩) 1 1] (w.alloc (.cells #[.int .i64 z] 3)) fun e w' => ∃ m c, m ≤ 1 ∧ e = .returned (.slice (some ⟨g, 0, none⟩) m c) ∧ (w.alloc (.cells #[.int .i64 z] 3)) = w' ∧ DR w' w'.heap.size (some ⟨g, 0, none⟩) m c (dg 65536 x) := by
 refine (trim_any _ _ _ _ [x] _ (DR.one w g hg z x hz hx) (by omega)).mono ?_
 rintro e w' ⟨m, c, hm, rfl, rfl, hr⟩
 rw [vl_single] at hr
 exact ⟨m, c, hm, rfl, rfl, hr⟩
def PInv (w wr : World) (G : Nat) (lst : List Nat) (A : Option Addr) (n c R : Nat) : Prop :=
 Dk wr G lst ∧ Below G w wr ∧ DR wr wr.heap.size A n c (dg 65536 R) ∧ (∀ ad, A = some ad → G < ad.block)
theorem PInv.next {w wr w' : World} {G : Nat} {lst : List Nat} {A A2 : Option Addr} {n c R n2 c2 R2 : Nat} (h : PInv w wr G lst A n c R) (hb : Below wr.heap.size wr w') (hr : DR w' w'.heap.size A2 n2 c2 (dg 65536 R2)) (hf : ∀ ad, A2 = some ad → wr.heap.size ≤ ad.block) : PInv w w' G lst A2 n2 c2 R2 := by
 obtain ⟨h1, h2, h3, h4⟩ := h
 have hlt := h1.lt
 exact ⟨h1.keep (hb.block G hlt), h2.trans (hb.mono (Nat.le_of_lt hlt)), hr, fun ad e => by have := hf ad e; omega⟩
theorem PInv.store {w wr : World} {G : Nat} {pre hs : List Nat} {p : Nat} {A : Option Addr} {n c R : Nat} (h : PInv w wr G (pre ++ [] ++ p :: hs) A n c R) {k : Nat} (hk : pre.length = k) (v : Nat) (z : Int) (hz : z = v) : PInv w (wr.setCell ⟨G, k, none⟩ (.int .i64 z)) G (pre ++ [] ++ v :: hs) A n c R := by
 subst hz
 obtain ⟨h1, h2, h3, h4⟩ := h
 have hlt := h1.lt
 have e := h1.set_ (i := k) (by simp; omega) v
 rw [set_mid (ns := []) (by simp; omega)] at e
 refine ⟨by simpa using e, below_set h2 (Nat.le_refl _) (Nat.le_of_lt hlt) _, ?_, h4⟩
 have := h3.only (only_set (w := wr) (g := G) (i := k) (.int .i64 (v : Int))) (Nat.le_refl _) (fun _ ad e => by have := h4 ad e; omega)
 exact this.more (by simp [World.setCell])
theorem PInv.drewN {w wr : World} {G : Nat} {lst : List Nat} {A : Option Addr} {n c R : Nat} (h : PInv w wr G lst A n c R) (m : Nat) : PInv w (wr.drewN m) G lst A n c R :=
 ⟨h.1, below_drewNN h.2.1 m, h.2.2.1.drewN m, h.2.2.2⟩
theorem PInv.alloc {w wr : World} {G : Nat} {lst : List Nat} {A : Option Addr} {n c R : Nat} (h : PInv w wr G lst A n c R) (o : Obj) : PInv w (wr.alloc o) G lst A n c R := by
 have hb : Below wr.heap.size wr (wr.alloc o) := (Below.refl _ _).alloc (Nat.le_refl _) o
 obtain ⟨h1, h2, h3, h4⟩ := h
 have hlt := h1.lt
 exact ⟨h1.keep (hb.block G hlt), h2.trans (hb.mono (Nat.le_of_lt hlt)), (h3.below hb).more hb.size, h4⟩
def PartsPost (w : World) (n n' X Y : Nat) (e : Ending) (w' : World) : Prop :=
 ∃ A m c A2 m2 c2, e = .returned (.tuple #[.slice A m c, .slice A2 m2 c2]) ∧ m ≤ n ∧ m2 ≤ n' ∧ DR w' w'.heap.size A m c (dg 65536 (X / Y)) ∧ DR w' w'.heap.size A2 m2 c2 (dg 65536 (X % Y)) ∧ Below w.heap.size w w'
theorem bit_int {d i : Nat} : ((d : Int) / 2 ^ i).tmod 2 = ((d / 2 ^ i % 2 : Nat) : Int) := by
 rw [two_pow_cast, ← Int.natCast_ediv, Int.tmod_eq_emod_of_nonneg (Int.natCast_nonneg _)]
 exact (Int.natCast_emod _ _).symm
theorem wrap_small {z : Nat} (h : z < 1000000) : wrap64 (z : Int) = z := by unfold wrap64; omega
theorem wrap_digit {dq v : Nat} (i : Nat) (h : v = dq + 2 ^ i) (hd : dq < 65536) (hp : (2 : Nat) ^ i ≤ 32768) : wrap64 ((dq : Int) + wrap64 (2 ^ i)) = (v : Int) := by
 subst h
 rw [two_pow_cast]
 generalize (2 : Nat) ^ i = pw at *
 rw [wrap_small (z := pw) (by omega), ← Int.natCast_add, wrap_small (by omega)]
theorem pow_le15 {i : Nat} (h : i < 16) : (2 : Nat) ^ i ≤ 32768 := Nat.le_trans (Nat.pow_le_pow_right (by omega) (show i ≤ 15 by omega)) (by decide)
set_option maxHeartbeats 4000000 in
theorem parts_any (A A' : Option Addr) (n n' c c' X Y : Nat) (w : World) (h : DR w w.heap.size A n c (dg 65536 X)) (h' : DR w w.heap.size A' n' c' (dg 65536 Y)) (hn : n ≤ 10000) (hn' : n' ≤ 10000) (hY : 0 < Y) :
    Calls Tryz.prog 224 #[.slice A n c, .slice A' n' c'] w (PartsPost w n n' X Y) := by
 have hmk := make_digits n (n : Int) rfl (by omega)
 have HV := Lib.hid (vl_dg d_two X)
 have HL := Lib.hid h.len
 have HL' := Lib.hid h'.len
 have HXL := Lib.hid h.lt
 generalize hxs : dg 65536 X = xs at *
 clear hxs
 go_enter Tryz.func224, Tryz.ntmps224
 go_wp2
 go_loopw [7, 8] (fun r i wr => ∃ (k : Nat) (hs : List Nat) (R : Nat) (A2 : Option Addr) (n2 c2 : Nat), k ≤ n ∧ i = .int .i64 ((k : Int) - 1) ∧ r = .slice A2 n2 c2 ∧ PInv w wr w.heap.size (List.replicate k 0 ++ hs) A2 n2 c2 R ∧ DivD xs Y n k hs R) (fun _ i _ => (intOf i + 1).toNat)
 case atStart =>
  refine ⟨n, [], 0, none, 0, 0, Nat.le_refl _, rfl, rfl, ⟨?_, (Below.refl _ _).alloc (Nat.le_refl _) _, ?_, fun ad e => by cases e⟩, divD_start hY HL.out⟩
  ·rw [List.append_nil]
   exact heap_alloc_new w _
  ·rw [dg_zero]; exact Rd.none_ _ _ _ _ _ _
 case round =>
  obtain ⟨k, hs, Rh, A2, n2, c2, hk, rfl, rfl, hP, hD⟩ := hrel
  by_cases hk0 : k = 0
  ·subst hk0
   have HD := Lib.hid hD.done
   have hhl := hD.1
   have HLT := Lib.hid hD.2.1
   have hn2 : n2 ≤ n' := dg_len_mono (Nat.le_of_lt hD.2.2.1) hP.2.2.1.len HL'.out
   obtain ⟨p1, p2, p3, p4⟩ := hP
   have p1' : Dk wr w.heap.size hs := by simpa using p1
   have hrd := p1'.rd (n := n) HLT.out (by omega)
   have HR := Lib.hid p3
   clear p1 hhl p3
   go_wp2_with fail
   refine (trim_any _ _ _ _ hs _ hrd (by omega)).mono ?_
   rintro e w' ⟨m, c3, hm, rfl, rfl, hr3⟩
   go_wp2
   go_ret2
   refine ⟨_, m, c3, A2, n2, c2, rfl, hm, hn2, ?_, ?_, p2⟩
   ·rw [HD.out.1, HV.out] at hr3; exact hr3
   ·have := HR.out
    rw [HD.out.2, HV.out] at this; exact this
  ·obtain ⟨k, rfl⟩ : ∃ k', k = k' + 1 := ⟨k - 1, by omega⟩
   rw [show (((k + 1 : Nat) : Int) - 1) = (k : Int) by omega]
   obtain ⟨ad, d, rfl, hbd, hdb, hd, hcd⟩ := h.at_ (show k < n by omega)
   have HDD := Lib.hid hd
   have HDV := Lib.hid hD
   have hRh := hD.2.2.1
   have hP0 : PInv w wr w.heap.size (List.replicate k 0 ++ [] ++ (0 * 2 ^ 16) :: hs) A2 n2 c2 Rh := by
    have : List.replicate (k + 1) 0 ++ hs = List.replicate k 0 ++ [] ++ (0 * 2 ^ 16) :: hs := by
     rw [List.replicate_succ', Nat.zero_mul]; simp
    rw [← this]; exact hP
   clear hd hcd hD hP
   go_wp2
   go_loopw [7, 9] (fun r i wr => ∃ (j q R : Nat) (A2 : Option Addr) (n2 c2 : Nat), j ≤ 16 ∧ i = .int .i64 ((j : Int) - 1) ∧ r = .slice A2 n2 c2 ∧ PInv w wr w.heap.size (List.replicate k 0 ++ [] ++ (q * 2 ^ j) :: hs) A2 n2 c2 R ∧ BitInv Y Rh d j q R) (fun _ i _ => (intOf i + 1).toNat)
   case atStart => exact ⟨16, 0, Rh, A2, n2, c2, by omega, rfl, rfl, hP0, bitInv_start hRh hdb⟩
   case round =>
    clear hP0
    obtain ⟨j, q, R, A3, n3, c3, hj, rfl, rfl, hP, hB⟩ := hrel
    by_cases hj0 : j = 0
    ·subst hj0
     have HN := Lib.hid (HDV.out.step HDD.out hB)
     have hP2 : PInv w wr w.heap.size (List.replicate k 0 ++ q :: hs) A3 n3 c3 R := by simpa using hP
     go_wp2
     exact ⟨⟨k, _, R, A3, n3, c3, by omega, by go_num, rfl, hP2, HN.out⟩, by simp [intOf] <;> omega⟩
    ·obtain ⟨i, rfl⟩ : ∃ i, j = i + 1 := ⟨j - 1, by omega⟩
     rw [show (((i + 1 : Nat) : Int) - 1) = (i : Int) by omega]
     have hRY := hB.1
     have hn3 : n3 ≤ n' := dg_len_mono (Nat.le_of_lt hRY) hP.2.2.1.len HL'.out
     have hr3 := hP.2.2.1
     have HB := Lib.hid hB
     clear hB
     go_wp2_with fail
     refine (plusF hr3 hr3 (by omega) (by omega)).mono ?_
     rintro e w1 ⟨A4, n4, c4, rfl, hn4, hr4, hb4, hf4⟩
     have hP4 := hP.next hb4 hr4 hf4
     have hcd := (h.below hP4.2.1).cell_ HDD.out
     have HBI := Lib.hid (bit_int (d := d) (i := i))
     have hbl : d / 2 ^ i % 2 < 2 := Nat.mod_lt _ (by omega)
     have e1 : (0 : Int) ≤ k := by omega
     have e2 : (k : Int) < n := by omega
     go_wp2_with fail
     refine (trim1 w1 w1.heap.size rfl _ (d / 2 ^ i % 2) HBI.out (by omega)).mono ?_
     rintro e w' ⟨m, c5, hm, rfl, rfl, hr5⟩
     have hP5 := hP4.alloc (.cells #[.int .i64 (((d : Int) / 2 ^ i).tmod 2)] 3)
     have HU := Lib.hid (fun hv => HB.out.up (show i < 16 by omega) hv)
     have HT := Lib.hid (fun hv => HB.out.stay (show i < 16 by omega) hv)
     have HBO := Lib.hid (HB.out.bound hj)
     have hp15 := pow_le15 (show i < 16 by omega)
     clear HB HBI hcd hP4 hP hr3 hr4
     generalize w1.alloc (.cells #[.int .i64 (((d : Int) / 2 ^ i).tmod 2)] 3) = w5 at *
     generalize d / 2 ^ i % 2 = b at *
     go_wp2_with fail
     refine (plusF hP5.2.2.1 hr5 (by omega) (by omega)).mono ?_
     rintro e w2 ⟨A6, n6, c6, rfl, hn6, hr6, hb6, hf6⟩
     have hP6 := hP5.next hb6 hr6 hf6
     have hr' := (h'.below hP6.2.1).more (show w.heap.size ≤ w2.heap.size by have := hP6.1.lt; omega)
     go_wp2_with fail
     refine (compare_any _ _ _ _ _ _ _ (R + R + b) Y w2 hr6 hr' (by omega) (by omega)).mono ?_
     rintro e w' ⟨rfl, q0, rfl⟩
     have hP7 := hP6.drewN q0
     have hr7' : DR (w2.drewN q0) (w2.drewN q0).heap.size A' n' c' (dg 65536 Y) := hr'.drewN q0
     clear hP6 hP5 hr' hr6 hr5
     generalize w2.drewN q0 = w7 at *
     by_cases hge : Y ≤ R + R + b
     ·have hce : (0 : Int) ≤ cmpS (R + R + b) Y := by
         rcases Nat.lt_or_eq_of_le hge with g | g
         ·rw [cmpS_gt g]; omega
         ·rw [cmpS_eq g.symm]; omega
      have hcd : decide (cmpS (R + R + b) Y ≥ 0) = true := by simpa using hce
      have HN := Lib.hid (HU.out hge)
      clear HU HT
      go_wp2_with fail
      refine (lessF hP7.2.2.1 hr7' (by omega) hge).mono ?_
      rintro e w8 ⟨A8, n8, c8, rfl, hn8, hr8, hb8, hf8⟩
      have hP8 := hP7.next hb8 hr8 hf8
      have hkl : (List.replicate k 0).length = k := by simp
      have hcell := hP8.1.cell (get_mid (ns := []) (pre := List.replicate k 0) (p := q * 2 ^ (i + 1)) (post := hs) (i := k) (by simp))
      have hfz := hP8.1.frozen k
      have hq := HBO.out
      have hdu := dig_up q i
      have HP9 := Lib.hid (fun z hz => hP8.store hkl ((2 * q + 1) * 2 ^ i) z hz)
      have hqq : (2 * q + 1) * 2 ^ i = q * 2 ^ (i + 1) + 2 ^ i := by rw [hdu, Nat.add_mul, Nat.one_mul]
      have HQQ := Lib.hid hqq
      have HP2 := Lib.hid (two_pow_cast i)
      clear hqq hdu hP7 hr7' hP8 hr8
      generalize q * 2 ^ (i + 1) = dq at *
      have HZ := Lib.hid (wrap_digit i HQQ.out hq hp15)
      go_wp2
      exact ⟨⟨i, 2 * q + 1, _, A8, n8, c8, by omega, by go_num, rfl, HP9.out _ HZ.out, HN.out⟩, by simp [intOf] <;> omega⟩
     ·have HE := Lib.hid (cmpS_lt (m := R + R + b) (n := Y) (by omega))
      rw [HE.out]
      have HN := Lib.hid (HT.out (by omega))
      have hP8 : PInv w w7 w.heap.size (List.replicate k 0 ++ [] ++ (2 * q * 2 ^ i) :: hs) A6 n6 c6 (R + R + b) := by rw [← dig_up]; exact hP7
      clear hP7
      go_wp2
      exact ⟨⟨i, 2 * q, _, A6, n6, c6, by omega, by go_num, rfl, hP8, HN.out⟩, by simp [intOf] <;> omega⟩
end Go.Proofs.YtjikdbcjabopnaaGreatDoor
