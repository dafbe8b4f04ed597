import Derived.Test.YtopbibfpjgjalaaGreatDoorZ35
import Derived.Test.YtopbibfpjgjalaaGreatDoorZ40
import Derived.Test.YtopbibfpjgjalaaGreatDoorZ9
import Derived.Laws.Bits64b
import Derived.Test.YtopbibfpjgjalaaGreatDoorZ33
import Derived.Test.YtopbibfpjgjalaaGreatDoorZ24
namespace Go.Proofs.YtopbibfpjgjalaaGreatDoor
open Go.RowKit
set_option linter.unusedVariables false
set_option maxRecDepth 100000
section
variable {V W : World} {g : Nat} {l : List Nat}
theorem zlt (hr : Tp V g l) {b o : Nat} {v : Value} (hc : V.cell? ⟨b, o, none⟩ = some v) (h : ∀ A n c, v ≠ .slice A n c) : b ≠ g := fun e => by
 subst e
 obtain ⟨A, c, hB, _⟩ := hr
 have h1 := hc
 by_cases ho : o = 0
 ·subst ho
  rw [hB.cell] at h1
  injection h1 with h1
  exact h _ _ _ h1.symm
 ·rw [cell_of_row V b o _ _ _ hB] at h1
  simp [ho] at h1
theorem zhr (hr : Tp V g l) {x m : Nat} {t : TypeId} {F : Nat → Value} (hx : RW V x t m F) (ht : t ≠ 87) : x ≠ g := fun e => by
 subst e
 obtain ⟨A, c, hB, _⟩ := hr
 have h1 := hx.symm.trans hB
 injection h1 with h1
 injection h1 with _ h1
 exact ht h1
theorem FX.onT (hr : Tp V g l) (ho : On g V W) {A : Option Addr} {n c : Nat} {f : Nat → Nat} (h : FX V A n c f) : FX W A n c f := by
 refine ⟨h.room, fun h0 => ?_⟩
 obtain ⟨ad, e, hc⟩ := h.cells h0
 refine ⟨ad, e, fun j hj => ?_⟩
 have h1 := hc j hj
 have hb : (ad.add j).block ≠ g := fun e2 => by
  obtain ⟨B, c', hB, _⟩ := hr
  exact hB.aside h1 e2
 exact zac ho h1 hb
theorem VX.onT (hr : Tp V g l) (ho : On g V W) {A : Option Addr} {n c : Nat} {f : Nat → Int} (h : VX V A n c f) : VX W A n c f := by
 refine ⟨h.room, fun h0 => ?_⟩
 obtain ⟨ad, e, hc⟩ := h.cells h0
 refine ⟨ad, e, fun j hj => ?_⟩
 have h1 := hc j hj
 have hb : (ad.add j).block ≠ g := fun e2 => by
  obtain ⟨B, c', hB, _⟩ := hr
  exact hB.aside h1 e2
 exact zac ho h1 hb
theorem RW.onT (hr : Tp V g l) (ho : On g V W) {x m : Nat} {t : TypeId} {F : Nat → Value} (hx : RW V x t m F) (ht : t ≠ 87) : RW W x t m F := OnB.rw_ ho hx (zhr hr hx ht)
theorem Tb.onT (hr : Tp V g l) (ho : On g V W) {p n q : Nat} {a e : Nat → Nat} {gp ge : Nat} (h : Tb V V.heap.size p n q a e gp ge) : Tb W W.heap.size p n q a e gp ge := by
 have np : p ≠ g := zlt hr h.size (by simp)
 have k : ∀ {x m : Nat} {F : Nat → Value}, RW V x 278 m F → RW W x 278 m F := fun hx => OnB.rw_ ho hx (zhr hr hx (by decide))
 have hs := ho.size
 exact ⟨Nat.lt_of_lt_of_le h.hp hs, Nat.lt_of_lt_of_le h.hgp hs, Nat.lt_of_lt_of_le h.hge hs, zac ho h.size np, zac ho h.prime np, zac ho h.powers np, zac ho h.ends np, k h.pw, k h.en⟩
theorem Table.onT (hr : Tp V g l) (ho : On g V W) {p n q k r v : Nat} (h : Table V p n q k r v) : Table W p n q k r v := by
 obtain ⟨a, e, gp, ge, h1, h2, h3⟩ := h.ex
 exact ⟨a, e, gp, ge, h1.onT hr ho, h2, h3⟩
theorem Tab.onT (hr : Tp V g l) (ho : On g V W) {p n q : Nat} {a e : Nat → Nat} (h : Tab V p n q a e) : Tab W p n q a e := by
 refine ⟨h.n0, h.n1, h.q0, h.q1, h.nk, h.al, h.el, ?_, fun hq => ?_⟩
 ·obtain ⟨gp, ge, ht⟩ := h.tb
  exact ⟨gp, ge, ht.onT hr ho⟩
 ·obtain ⟨k, r, v', ht⟩ := h.root hq
  exact ⟨k, r, v', ht.onT hr ho⟩
theorem Rg.onT (hr : Tp V g l) (ho : On g V W) {r n L : Nat} {q p : Nat → Nat} {a e : Nat → Nat → Nat} (h : Rg V r n L q p a e) : Rg W r n L q p a e := by
 have np : r ≠ g := zlt hr h.size (by simp)
 obtain ⟨gf, h1, h2⟩ := h.ex
 exact ⟨h.l0, h.l1, h.n0, h.n1, h.ql, zac ho h.size np, ⟨gf, zac ho h1 np, OnB.rw_ ho h2 (zhr hr h2 (by decide))⟩, fun j hj => (h.tab j hj).onT hr ho⟩
theorem PM.onT (hr : Tp V g l) (ho : On g V W) {G L n : Nat} {As : Nat → Option Addr} {cs : Nat → Nat} {F : Nat → Nat → Nat} (h : PM V G L n As cs F) : PM W G L n As cs F :=
 ⟨OnB.rw_ ho h.row (zhr hr h.row (by decide)), fun j hj => (h.lists j hj).onT hr ho⟩
end
def goodW (x : Nat) : Bool := Nat.blt x 9223372036854775808 && !Nat.beq (x % 4) 3
def cntW : List Nat → Nat
 | [] => 0
 | x :: l => cntW l + (if goodW x = true then 1 else 0)
theorem zcx (x : Nat) (l : List Nat) : cntW (x :: l) = cntW l + (if goodW x = true then 1 else 0) := rfl
theorem zmh {x : Nat} (h : goodW x = true) : x < 9223372036854775808 ∧ x % 4 ≠ 3 := by
 unfold goodW at h
 rw [Bool.and_eq_true] at h
 have h1 := h.1
 rw [Nat.blt_eq] at h1
 refine ⟨h1, fun e => ?_⟩
 rw [e] at h
 cases h.2
theorem zon {x : Nat} (h : goodW x = true) : tgood x = true := by
 unfold tgood
 rw [decide_eq_false (zmh h).2]; rfl
theorem zk9 {q x : Nat} (hq0 : 0 < q) (hq : q < 2305843009213693952) (h : goodW x = true) : bgood q x = true := by
 unfold bgood
 have h1 := (zmh h).1
 have h2 := Nat.mod_lt (18446744073709551616 - q) hq0
 exact decide_eq_true (by omega)
theorem zej {f : Nat → Bool} (hf : ∀ x, goodW x = true → f x = true) : ∀ {l : List Nat}, 0 < cntW l → ∃ x r, zai f l = (some x, r) ∧ cntW l ≤ cntW r + 1
 | [], h => absurd h (by simp [cntW])
 | y :: l, h => by
  unfold zai
  by_cases hy : f y = true
  ·rw [if_pos hy]
   refine ⟨y, l, rfl, ?_⟩
   rw [zcx]
   split <;> omega
  ·rw [if_neg hy]
   have hg : ¬ goodW y = true := fun e => hy (hf y e)
   rw [zcx, if_neg hg] at h ⊢
   obtain ⟨x, r, h1, h2⟩ := zej hf (l := l) (by omega)
   exact ⟨x, r, h1, by omega⟩
theorem zfx {l : List Nat} : ∀ k, k ≤ cntW l → ∃ acc r, ternS l k = some (acc, r) ∧ cntW l ≤ cntW r + k
 | 0, _ => ⟨[], l, rfl, by omega⟩
 | k + 1, h => by
  obtain ⟨acc, r, h1, h2⟩ := zfx (l := l) k (by omega)
  obtain ⟨x, r', h3, h4⟩ := zej (f := tgood) (fun _ => zon) (l := r) (by omega)
  exact ⟨_, r', zg5 h1 h3, by omega⟩
def errsS (w : Nat) (l : List Nat) : Nat → Option (List Int × List Nat)
 | 0 => some ([], l)
 | k + 1 => match errsS w l k with
  | none => none
  | some (acc, r) => match r with
   | [] => none
   | x :: r' => some (acc ++ [errS w x], r')
theorem zg1 {w : Nat} {l : List Nat} {k : Nat} {acc : List Int} {r : List Nat} {x : Nat} (h : errsS w l k = some (acc, x :: r)) : errsS w l (k + 1) = some (acc ++ [errS w x], r) := by rw [errsS, h]
theorem zqy {w : Nat} {l : List Nat} {k : Nat} {acc : List Int} (h : errsS w l k = some (acc, [])) : errsS w l (k + 1) = none := by rw [errsS, h]
theorem zm4 {w : Nat} {l : List Nat} {k : Nat} (h : errsS w l k = none) : ∀ m, errsS w l (k + m) = none
 | 0 => h
 | m + 1 => by rw [← Nat.add_assoc]; simp [errsS, zm4 h m]
theorem zc6 {w : Nat} {l : List Nat} : ∀ {k : Nat} {acc : List Int} {r : List Nat}, errsS w l k = some (acc, r) → r.length + k = l.length ∧ acc.length = k ∧ ∃ a, l = a ++ r ∧ a.length = k
 | 0, acc, r, h => by
  simp [errsS] at h
  obtain ⟨rfl, rfl⟩ := h
  exact ⟨rfl, rfl, [], rfl, rfl⟩
 | k + 1, acc, r, h => by
  cases e : errsS w l k with
  | none => simp [errsS, e] at h
  | some p =>
   obtain ⟨acc', r'⟩ := p
   cases r' with
   | nil => simp [errsS, e] at h
   | cons x r' =>
    simp [errsS, e] at h
    obtain ⟨rfl, rfl⟩ := h
    obtain ⟨h1, h2, a, h3, h4⟩ := zc6 e
    exact ⟨by simp at h1; omega, by simp [h2], a ++ [x], by simp [h3], by simp [h4]⟩
theorem zea {w : Nat} {l : List Nat} : ∀ k, k ≤ cntW l → ∃ acc r, errsS w l k = some (acc, r) ∧ cntW l ≤ cntW r + k
 | 0, _ => ⟨[], l, rfl, by omega⟩
 | k + 1, h => by
  obtain ⟨acc, r, h1, h2⟩ := zea (w := w) (l := l) k (by omega)
  cases r with
  | nil => simp [cntW] at h2; omega
  | cons x r =>
   refine ⟨_, r, zg1 h1, ?_⟩
   rw [zcx] at h2
   split at h2 <;> omega
theorem znc {w : Nat} (hw : w ≤ 16) {l : List Nat} : ∀ {k : Nat} {acc : List Int} {r : List Nat}, errsS w l k = some (acc, r) → ∀ z ∈ acc, z.natAbs ≤ w
 | 0, acc, r, h, z, hz => by
  simp [errsS] at h
  obtain ⟨rfl, rfl⟩ := h
  cases hz
 | k + 1, acc, r, h, z, hz => by
  cases e : errsS w l k with
  | none => simp [errsS, e] at h
  | some p =>
   obtain ⟨acc', r'⟩ := p
   cases r' with
   | nil => simp [errsS, e] at h
   | cons x r' =>
    simp [errsS, e] at h
    obtain ⟨rfl, rfl⟩ := h
    rcases List.mem_append.1 hz with h1 | h1
    ·exact znc hw e z h1
    ·rw [List.mem_singleton] at h1
     subst h1
     have := zy0 hw (x := x)
     omega
theorem zek {l : List Nat} : ∀ {k : Nat} {acc : List Int} {r : List Nat}, ternS l k = some (acc, r) → ∀ z ∈ acc, -1 ≤ z ∧ z ≤ 1
 | 0, acc, r, h, z, hz => by
  simp [ternS] at h
  obtain ⟨rfl, rfl⟩ := h
  cases hz
 | k + 1, acc, r, h, z, hz => by
  cases e : ternS l k with
  | none => simp [ternS, e] at h
  | some p =>
   obtain ⟨acc', r'⟩ := p
   cases e2 : zai tgood r' with
   | mk o r2 =>
    cases o with
    | none => simp [ternS, e, e2] at h
    | some x =>
     simp [ternS, e, e2] at h
     obtain ⟨rfl, rfl⟩ := h
     rcases List.mem_append.1 hz with h1 | h1
     ·exact zek e z h1
     ·rw [List.mem_singleton] at h1
      subst h1
      exact zyp (zco e2).1
def za3 (q : Nat) (l : List Nat) : Nat → Option (List Nat × List Nat)
 | 0 => some ([], l)
 | k + 1 => match za3 q l k with
  | none => none
  | some (acc, r) => match zai (bgood q) r with
   | (none, _) => none
   | (some x, r') => some (acc ++ [x % q], r')
theorem zga {q : Nat} {l : List Nat} {k : Nat} {acc : List Nat} {r r' : List Nat} {x : Nat} (h : za3 q l k = some (acc, r)) (hf : zai (bgood q) r = (some x, r')) : za3 q l (k + 1) = some (acc ++ [x % q], r') := by simp [za3, h, hf]
theorem znf {q : Nat} {l : List Nat} {k : Nat} {acc : List Nat} {r r' : List Nat} (h : za3 q l k = some (acc, r)) (hf : zai (bgood q) r = (none, r')) : za3 q l (k + 1) = none := by simp [za3, h, hf]
theorem zil {q : Nat} {l : List Nat} {k : Nat} (h : za3 q l k = none) : ∀ m, za3 q l (k + m) = none
 | 0 => h
 | m + 1 => by rw [← Nat.add_assoc]; simp [za3, zil h m]
theorem zdm {q : Nat} (hq : 0 < q) {l : List Nat} : ∀ {k : Nat} {acc : List Nat} {r : List Nat}, za3 q l k = some (acc, r) → r.length + k ≤ l.length ∧ acc.length = k ∧ (∀ x ∈ acc, x < q) ∧ ∃ a, l = a ++ r
 | 0, acc, r, h => by
  simp [za3] at h
  obtain ⟨rfl, rfl⟩ := h
  exact ⟨Nat.le_refl _, rfl, by simp, [], rfl⟩
 | k + 1, acc, r, h => by
  cases e : za3 q l k with
  | none => simp [za3, e] at h
  | some p =>
   obtain ⟨acc', r'⟩ := p
   cases e2 : zai (bgood q) r' with
   | mk o r2 =>
    cases o with
    | none => simp [za3, e, e2] at h
    | some x =>
     simp [za3, e, e2] at h
     obtain ⟨rfl, rfl⟩ := h
     obtain ⟨h1, h2, h3, a, h4⟩ := zdm hq e
     obtain ⟨_, h5, b, h6⟩ := zco e2
     refine ⟨by omega, by simp [h2], fun y hy => ?_, a ++ b, by rw [h4, h6, List.append_assoc]⟩
     rcases List.mem_append.1 hy with h7 | h7
     ·exact h3 y h7
     ·rw [List.mem_singleton] at h7
      rw [h7]
      exact Nat.mod_lt _ hq
theorem zg2 {q : Nat} (hq0 : 0 < q) (hq : q < 2305843009213693952) {l : List Nat} : ∀ k, k ≤ cntW l → ∃ acc r, za3 q l k = some (acc, r) ∧ cntW l ≤ cntW r + k
 | 0, _ => ⟨[], l, rfl, by omega⟩
 | k + 1, h => by
  obtain ⟨acc, r, h1, h2⟩ := zg2 hq0 hq (l := l) k (by omega)
  obtain ⟨x, r', h3, h4⟩ := zej (f := bgood q) (fun _ => zk9 hq0 hq) (l := r) (by omega)
  exact ⟨_, r', zga h1 h3, by omega⟩
def unifS (n : Nat) (q : Nat → Nat) (l : List Nat) : Nat → Option (List (List Nat) × List Nat)
 | 0 => some ([], l)
 | k + 1 => match unifS n q l k with
  | none => none
  | some (acc, r) => match za3 (q k) r n with
   | none => none
   | some (row, r') => some (acc ++ [row], r')
theorem zgs {n : Nat} {q : Nat → Nat} {l : List Nat} {k : Nat} {acc : List (List Nat)} {row : List Nat} {r r' : List Nat} (h : unifS n q l k = some (acc, r)) (hf : za3 (q k) r n = some (row, r')) : unifS n q l (k + 1) = some (acc ++ [row], r') := by simp [unifS, h, hf]
theorem zsv {n : Nat} {q : Nat → Nat} {l : List Nat} {k : Nat} {acc : List (List Nat)} {r : List Nat} (h : unifS n q l k = some (acc, r)) (hf : za3 (q k) r n = none) : unifS n q l (k + 1) = none := by simp [unifS, h, hf]
theorem zmj {n : Nat} {q : Nat → Nat} {l : List Nat} {k : Nat} (h : unifS n q l k = none) : ∀ m, unifS n q l (k + m) = none
 | 0 => h
 | m + 1 => by rw [← Nat.add_assoc]; simp [unifS, zmj h m]
theorem zb9 {n : Nat} {q : Nat → Nat} {l : List Nat} : ∀ {k : Nat} {acc : List (List Nat)} {r : List Nat}, (∀ j, j < k → 0 < q j) → unifS n q l k = some (acc, r) → r.length ≤ l.length ∧ acc.length = k ∧ (∀ j row, acc[j]? = some row → row.length = n ∧ ∀ x ∈ row, x < q j)
 | 0, acc, r, _, h => by
  simp [unifS] at h
  obtain ⟨rfl, rfl⟩ := h
  exact ⟨Nat.le_refl _, rfl, by simp⟩
 | k + 1, acc, r, hq, h => by
  cases e : unifS n q l k with
  | none => simp [unifS, e] at h
  | some p =>
   obtain ⟨acc', r'⟩ := p
   cases e2 : za3 (q k) r' n with
   | none => simp [unifS, e, e2] at h
   | some p2 =>
    obtain ⟨row, r2⟩ := p2
    simp [unifS, e, e2] at h
    obtain ⟨rfl, rfl⟩ := h
    obtain ⟨h1, h2, h3⟩ := zb9 (fun j hj => hq j (by omega)) e
    obtain ⟨h4, h5, h6, _⟩ := zdm (hq k (by omega)) e2
    refine ⟨by omega, by simp [h2], fun j row' hj => ?_⟩
    by_cases hk : j < k
    ·rw [List.getElem?_append_left (by omega)] at hj
     exact h3 j row' hj
    ·have hjk : j = k := by
        have := (List.getElem?_eq_some_iff.1 hj).1
        simp [h2] at this
        omega
     subst hjk
     rw [List.getElem?_append_right (by omega), h2, Nat.sub_self] at hj
     simp at hj
     subst hj
     exact ⟨h5, h6⟩
theorem zj3 {n : Nat} {q : Nat → Nat} {l : List Nat} : ∀ k, (∀ j, j < k → 0 < q j ∧ q j < 2305843009213693952) → n * k ≤ cntW l → ∃ acc r, unifS n q l k = some (acc, r) ∧ cntW l ≤ cntW r + n * k
 | 0, _, _ => ⟨[], l, rfl, by omega⟩
 | k + 1, hq, h => by
  rw [Nat.mul_succ] at h
  obtain ⟨acc, r, h1, h2⟩ := zj3 (n := n) (q := q) (l := l) k (fun j hj => hq j (by omega)) (by omega)
  obtain ⟨row, r', h3, h4⟩ := zg2 (hq k (by omega)).1 (hq k (by omega)).2 (l := r) n (by omega)
  exact ⟨_, r', zgs h1 h3, by rw [Nat.mul_succ]; omega⟩
def ztf (w : World) (p wd n : Nat) (l : List Nat) (e : Ending) (w' : World) : Prop :=
 (∃ acc r A, errsS wd l n = some (acc, r) ∧ e = .returned (.tuple #[.slice A n n, .int .i64 0]) ∧ LX w' A n n acc ∧ Tp w' p r ∧ On p w w') ∨
 (errsS wd l n = none ∧ e = .returned (.tuple #[.slice none 0 0, .int .i64 11]) ∧ Tp w' p [] ∧ On p w w')
def zw3 (fn : Nat) (cap : Array Value) (p wd : Nat) (V : World) : Prop :=
 ∀ r w1, Tp w1 p r → On p V w1 → r.length ≤ 100000 → Calls Tryz.prog fn cap w1 (EPost w1 p wd r)
set_option maxHeartbeats 1000000 in
theorem zot (fn : Nat) (cap : Array Value) (p wd n : Nat) (l : List Nat) (w : World) (hT : Hid (Tp w p l)) (hl : l.length ≤ 100000) (hn : n ≤ 4096) (hE : Hid (zh6 fn)) (hD : Hid (zw3 fn cap p wd w)) :
    Calls Tryz.prog 96 #[.int .i64 (n : Int), .func (.func fn) #[] cap] w (ztf w p wd n l) := by
 have hmk := zfp n (by omega)
 go_enter Tryz.func96, Tryz.ntmps96
 go_wp2
 clear hmk
 have kA : Ext w (w.alloc (.cells (newJ n) 2)) := (Ext.refl w).alloc _
 have hI := Lib.hid (zp5 w n)
 have HT := Lib.hid (hT.out.ext kA)
 have hp := hT.out.lt
 have HO := Lib.hid (On.of (p := p) kA)
 obtain ⟨g, hg⟩ : ∃ g, g = w.heap.size := ⟨_, rfl⟩
 rw [← hg] at hI hp ⊢
 have hgw : w.heap.size ≤ g := by omega
 generalize w.alloc (.cells (newJ n) 2) = V at *
 clear hg kA
 go_loopw [14] (fun i wr => ∃ (k : Nat) (acc : List Int) (r : List Nat), k ≤ n ∧ i = .int .i64 (k : Int) ∧ Hid (errsS wd l k = some (acc, r)) ∧ Hid (IW wr g (acc ++ List.replicate (n - k) 0)) ∧ Hid (Tp wr p r) ∧ Hid (On p w wr)) (fun i _ => n - (intOf i).toNat)
 case atStart => exact ⟨0, [], l, by omega, rfl, Lib.hid rfl, hI, HT, HO⟩
 case round =>
  obtain ⟨k, acc, r, hk, rfl, ht, hI2, hT2, hO2⟩ := hrel
  obtain ⟨hr, hac, _⟩ := zc6 ht.out
  by_cases hlt : k < n
  ·have i0 : (0 : Int) ≤ (k : Int) := by omega
   have i1 : (k : Int) < (n : Int) := by omega
   have HAC := Lib.hid hac
   clear hac
   go_wp2_with fail
   rw [hE.out, Oper.upon_enter]
   refine (hD.out r wr hT2.out hO2.out (by omega)).mono ?_
   rintro ee w2 (⟨x, r2, rfl, rfl, h4, h5⟩ | ⟨rfl, rfl, h4, h5⟩)
   ·have HI := Lib.hid (hI2.out.on h5 (by omega))
    have h0c : (acc ++ List.replicate (n - k) (0 : Int))[k]? = some 0 := by
     rw [List.getElem?_append_right (by rw [HAC.out]; omega), HAC.out, Nat.sub_self, List.getElem?_replicate, if_pos (by omega)]
    have c0 := HI.out.cell h0c
    have z0 := HI.out.frozen k
    have hsz := HI.out.lt
    have es : (acc ++ List.replicate (n - k) (0 : Int)).set k (errS wd x) = (acc ++ [errS wd x]) ++ List.replicate (n - (k + 1)) 0 := by
     rw [List.set_append_right _ _ (by rw [HAC.out]; omega), HAC.out, Nat.sub_self, show n - k = n - (k + 1) + 1 by omega, List.replicate_succ, List.set_cons_zero, List.append_assoc]
     rfl
    have HI2 := Lib.hid (HI.out.set k (errS wd x))
    rw [es] at HI2
    have HT2 := Lib.hid (h4.far HI.out (by omega) k (.int .i64 (errS wd x)))
    have HO3 := Lib.hid ((hO2.out.trans h5).store hgw k (.int .i64 (errS wd x)))
    have HS := Lib.hid (zg1 ht.out)
    clear h4 h5 es h0c
    generalize errS wd x = y at *
    go_wp2
    exact ⟨⟨k + 1, _, _, by omega, by go_num, HS, HI2, HT2, HO3⟩, by simp [intOf]; omega⟩
   ·have HS := Lib.hid (show errsS wd l n = none by
       have := zm4 (zqy ht.out) (n - (k + 1))
       rwa [show k + 1 + (n - (k + 1)) = n by omega] at this)
    have H4 := Lib.hid h4
    have H5 := Lib.hid (hO2.out.trans h5)
    clear h4 h5
    go_wp2
    go_ret2
    exact .inr ⟨HS.out, rfl, H4.out, H5.out⟩
  ·obtain rfl : k = n := by omega
   have HI3 := Lib.hid (show IW wr g acc by
    have := hI2.out
    rwa [Nat.sub_self, List.replicate_zero, List.append_nil] at this)
   have HAC := Lib.hid hac
   clear hac
   go_wp2
   go_ret2
   exact .inl ⟨acc, r, _, ht.out, rfl, HI3.out.lx HAC.out, hT2.out, hO2.out⟩
theorem zxl {B : Nat} {w : World} {ad : Addr} {c x : Nat} {l : List Nat} (h : NR w B (some ad) (l.length + 1) c (x :: l)) : NR w B (if c = 1 then some ad else some (ad.add 1)) l.length (c - 1) l := by
 have hr := h.room
 refine ⟨rfl, by omega, fun y hy => h.lt y (List.mem_cons_of_mem _ hy), fun hn => ?_⟩
 rw [if_neg (by omega)]
 obtain ⟨ad', e, hb, hc⟩ := h.cells (by omega)
 injection e with e
 subst e
 refine ⟨_, rfl, by rw [zbi]; exact hb, fun j y hy => ?_⟩
 have := hc (j + 1) y (by simpa using hy)
 rw [← this]
 congr 1
 unfold Addr.add
 by_cases h0 : j = 0
 ·subst h0; simp
 ·simp [h0]; omega
theorem nr_on {B' : Nat} {w w' : World} {q : Nat} {A B : Option Addr} {n c m d : Nat} {xs : List Nat} (h : NR w B' A n c xs) (hq : TB w q B m d) (hB : B' ≤ w.heap.size) (k : On q w w') : NR w' B' A n c xs := by
 refine ⟨h.len, h.room, h.lt, fun hn => ?_⟩
 obtain ⟨ad, rfl, hb, hc⟩ := h.cells hn
 refine ⟨ad, rfl, hb, fun j x hx => (World.cell?_of_block ?_).trans (hc j x hx)⟩
 have := hc j x hx
 exact k.block _ (by rw [zbi]; omega) (fun e => hq.aside this (by injection e))
def Tq (B : Nat) (w : World) (p : Nat) (l : List Nat) : Prop := ∃ A c, TB w p A l.length c ∧ NR w B A l.length c l
theorem Tp.tq {w : World} {p : Nat} {l : List Nat} (h : Tp w p l) : Tq w.heap.size w p l := h
theorem Tq.tp {B : Nat} {w : World} {p : Nat} {l : List Nat} (h : Tq B w p l) (hB : B ≤ w.heap.size) : Tp w p l := by
 obtain ⟨A, c, h1, h2⟩ := h
 exact ⟨A, c, h1, h2.more hB⟩
theorem Tq.lt {B : Nat} {w : World} {p : Nat} {l : List Nat} (h : Tq B w p l) : p < w.heap.size := by
 obtain ⟨A, c, h1, h2⟩ := h
 exact h1.lt
theorem Tq.ext {B : Nat} {w w' : World} {p : Nat} {l : List Nat} (h : Tq B w p l) (hB : B ≤ w.heap.size) (k : Ext w w') : Tq B w' p l := by
 obtain ⟨A, c, h1, h2⟩ := h
 exact ⟨A, c, h1.ext k, h2.below (Below.mono k hB)⟩
theorem Tq.far {B : Nat} {w : World} {p g : Nat} {l : List Nat} (h : Tq B w p l) (hB : B ≤ g) (hne : p ≠ g) (i : Nat) (v : Value) : Tq B (w.setCell ⟨g, i, none⟩ v) p l := by
 obtain ⟨A, c, h1, h2⟩ := h
 have kS : On g w (w.setCell ⟨g, i, none⟩ v) := (On.refl g w).set i v
 refine ⟨A, c, (kS.block p h1.lt (fun e => hne (by injection e))).trans h1, h2.keep fun q hq => World.cell?_setCell_other _ _ _ _ (fun e => by rw [← e] at hq; exact absurd hq (by simp; omega))⟩
def z2l (B : Nat) (w : World) (p : Nat) (g : Nat → Bool) (l : List Nat) (e : Ending) (w' : World) : Prop :=
 (∃ x r, zai g l = (some x, r) ∧ x < W64 ∧ e = .returned (.tuple #[.int .u64 (x : Int), .int .i64 0]) ∧ Tq B w' p r ∧ On p w w') ∨
 (zai g l = (none, []) ∧ e = .returned (.tuple #[.int .u64 0, .int .i64 11]) ∧ Tq B w' p [] ∧ On p w w')
set_option maxHeartbeats 2000000 in
theorem zpd (fn : Nat) (cap : Array Value) (g : Nat → Bool) (p : Nat) (l : List Nat) (w : World) (B : Nat) (hB : B ≤ w.heap.size) (hT : Hid (Tq B w p l)) (hn : l.length ≤ 100000) (hE : Hid (zh6 fn)) (hG : Hid (Asks fn cap p w g)) :
    Calls Tryz.prog 161 #[.pointer (some ⟨p, 0, none⟩), .func (.func fn) #[] cap] w (z2l B w p g l) := by
 go_enter Tryz.func161, Tryz.ntmps161
 go_wp2
 go_loopw [6] (fun _ wr => ∃ l1 : List Nat, l1.length ≤ l.length ∧ Hid (zai g l = zai g l1) ∧ Hid (Tq B wr p l1) ∧ Hid (On p w wr)) (fun _ wr => lenAt wr p)
 case atStart => exact ⟨l, Nat.le_refl _, Lib.hid rfl, hT, Lib.hid (On.refl _ _)⟩
 case round =>
  obtain ⟨l1, hl1, hf, hT1, hO⟩ := hrel
  obtain ⟨A, c, h1, h2⟩ := hT1.out
  have c0 := h1.cell
  have z0 := h1.frozen 0
  have hlen := Lib.hid h1.lenAt
  have H1 := Lib.hid h1
  have H2 := Lib.hid h2
  have hsz := h1.lt
  rcases l1 with _ | ⟨x, l1⟩
  ·clear h1 h2
   simp only [List.length_nil] at c0
   go_wp2
   go_ret2
   exact .inr ⟨by rw [hf.out]; rfl, rfl, hT1.out, hO.out⟩
  ·obtain ⟨ad, rfl, hb, hc⟩ := h2.cells (by simp)
   have x0 := hc 0 x rfl
   have hr := h2.room
   have hxw := h2.lt x (by simp)
   have X2 := Lib.hid (zxl h2)
   have hBw : B ≤ wr.heap.size := Nat.le_trans hB hO.out.size
   simp only [List.length_cons] at c0 hr hl1
   have B2 := X2
   have hcell := x0
   rw [show ad.add 0 = ad from rfl] at hcell
   rw [zad] at hxw
   clear h1 h2 hc
   have key : ∀ B2 m, Hid ((if c = 1 then some ad else some (ad.add 1)) = B2) → Hid (c - 1 = m) → ∃ V, Hid (V = wr.setCell ⟨p, 0, none⟩ (.slice B2 l1.length m)) ∧ Hid (Tq B V p l1) ∧ Hid (On p w V) ∧ Hid (lenAt V p = l1.length) := by
    intro B2 m e1 e2
    refine ⟨_, Lib.hid rfl, Lib.hid ⟨B2, m, H1.out.set _ _ _, ?_⟩, Lib.hid (hO.out.set _ _), Lib.hid (H1.out.set _ _ _).lenAt⟩
    rw [← e1.out, ← e2.out]
    exact nr_on X2.out H1.out hBw ((On.refl _ _).set _ _)
   by_cases hc1 : c = 1
   ·subst hc1
    obtain rfl : l1 = [] := List.eq_nil_of_length_eq_zero (by omega)
    obtain ⟨V, hV, hT2, hO2, hL2⟩ := key (some ad) 0 (Lib.hid rfl) (Lib.hid rfl)
    clear key
    simp only [List.length_nil] at c0 hr hl1
    go_wp2_with fail
    rw [hE.out, Oper.upon_enter]
    rw [show wr.setCell ⟨p, 0, none⟩ (.slice (some ad) 0 0) = V from hV.out.symm]
    refine (hG.out x _ (by rw [zad]; exact hxw) hO2.out).mono ?_
    clear hV
    rintro ee w2 ⟨rfl, rfl⟩
    by_cases hg : g x = true
    ·have HF := Lib.hid (show zai g l = (some x, []) by rw [hf.out, zai, if_pos hg])
     go_wp2
     go_ret2
     exact .inl ⟨x, [], HF.out, by rw [zad]; exact hxw, rfl, hT2.out, hO2.out⟩
    ·have HF := Lib.hid (show zai g l = zai g [] by rw [hf.out]; conv => lhs; rw [zai, if_neg hg])
     have hg' : g x = false := by simpa using hg
     clear hg
     go_wp2
     exact ⟨⟨[], Nat.zero_le _, HF, hT2, hO2⟩, by rw [hL2.out, hlen.out]; simp⟩
   ·obtain ⟨V, hV, hT2, hO2, hL2⟩ := key (some (ad.add 1)) (c - 1) (Lib.hid (if_neg hc1)) (Lib.hid rfl)
    clear key
    go_wp2_with fail
    rw [hE.out, Oper.upon_enter]
    rw [show wr.setCell ⟨p, 0, none⟩ (.slice (some ⟨ad.block, ad.off + 1, none⟩) l1.length (c - 1)) = V from hV.out.symm]
    refine (hG.out x _ (by rw [zad]; exact hxw) hO2.out).mono ?_
    clear hV
    rintro ee w2 ⟨rfl, rfl⟩
    by_cases hg : g x = true
    ·have HF := Lib.hid (show zai g l = (some x, l1) by rw [hf.out, zai, if_pos hg])
     go_wp2
     go_ret2
     exact .inl ⟨x, l1, HF.out, by rw [zad]; exact hxw, rfl, hT2.out, hO2.out⟩
    ·have HF := Lib.hid (show zai g l = zai g l1 by rw [hf.out]; conv => lhs; rw [zai, if_neg hg])
     have hg' : g x = false := by simpa using hg
     clear hg
     go_wp2
     exact ⟨⟨l1, by omega, HF, hT2, hO2⟩, by rw [hL2.out, hlen.out]; simp⟩
def zry (B : Nat) (w : World) (p q : Nat) (l : List Nat) (e : Ending) (w' : World) : Prop :=
 (∃ x r, zai (bgood q) l = (some x, r) ∧ e = .returned (.tuple #[.int .u64 ((x % q : Nat) : Int), .int .i64 0]) ∧ Tq B w' p r ∧ On p w w') ∨
 (zai (bgood q) l = (none, []) ∧ e = .returned (.tuple #[.int .u64 0, .int .i64 11]) ∧ Tq B w' p [] ∧ On p w w')
set_option maxHeartbeats 1000000 in
theorem zpi (p q : Nat) (l : List Nat) (w : World) (B : Nat) (hB : B ≤ w.heap.size) (hT : Hid (Tq B w p l)) (hn : l.length ≤ 100000) (hq0 : 0 < q) (hq : q < 18446744073709551616) :
    Calls Tryz.prog 166 #[.pointer (some ⟨p, 0, none⟩), .int .u64 (q : Int)] w (zry B w p q l) := by
 have hz : ((q : Int) == 0) = false := by simp; omega
 have HR := Lib.hid (zux q hq0 hq)
 have HL := Lib.hid (Nat.mod_lt (18446744073709551616 - q) hq0)
 go_enter Tryz.func166, Tryz.ntmps166
 go_wp2_with fail
 rw [HR.out]
 have kA : Ext w (w.alloc (.cells #[.int .u64 (((18446744073709551616 - q) % q : Nat) : Int)] 26)) := (Ext.refl w).alloc _
 have hb := heap_alloc_new w (.cells #[.int .u64 (((18446744073709551616 - q) % q : Nat) : Int)] 26)
 have hp := hT.out.lt
 have hBV : B ≤ (w.alloc (.cells #[.int .u64 (((18446744073709551616 - q) % q : Nat) : Int)] 26)).heap.size := by simp; omega
 have HA := Lib.hid (zoe p q w.heap.size _ hq0 hq hb (by omega))
 have HT := Lib.hid (hT.out.ext hB kA)
 clear hb
 generalize hV : w.alloc (.cells #[.int .u64 (((18446744073709551616 - q) % q : Nat) : Int)] 26) = V at *
 clear hV
 refine (zpd 223 #[.pointer (some ⟨w.heap.size, 0, none⟩)] (bgood q) p l V B hBV HT hn (Lib.hid Tryz.call223) HA).mono ?_
 rintro ee w2 (⟨x, r, h1, h2, rfl, h4, h5⟩ | ⟨h1, rfl, h4, h5⟩)
 ·have H1 := Lib.hid h1
  have H4 := Lib.hid h4
  have H5 := Lib.hid ((On.of kA).trans h5)
  rw [zad] at h2
  clear h1 h4 h5 HR HL
  go_wp2
  go_ret2
  exact .inl ⟨x, r, H1.out, rfl, H4.out, H5.out⟩
 ·have H1 := Lib.hid h1
  have H4 := Lib.hid h4
  have H5 := Lib.hid ((On.of kA).trans h5)
  clear h1 h4 h5 HR HL
  go_wp2
  go_ret2
  exact .inr ⟨H1.out, rfl, H4.out, H5.out⟩
theorem zoj (p wd : Nat) (w : World) (hw : wd ≤ 16) :
    Calls Tryz.prog 168 #[.func (.func 169) #[.pointer (some ⟨p, 0, none⟩)] #[], .int .i64 (wd : Int)] w fun e w' => ∃ b1 b2 : Nat, e = .returned (.func (.func 224) #[] #[.pointer (some ⟨b1, 0, none⟩), .pointer (some ⟨b2, 0, none⟩)]) ∧ w.heap.size ≤ b1 ∧ w.heap.size ≤ b2 ∧ w'.cell? ⟨b1, 0, none⟩ = some (.func (.func 169) #[.pointer (some ⟨p, 0, none⟩)] #[]) ∧ w'.cell? ⟨b2, 0, none⟩ = some (.int .i64 (wd : Int)) ∧ Ext w w' := by
 go_enter Tryz.func168, Tryz.ntmps168
 go_wp2
 exact bodyPost_ret (v := .func (.func 224) #[] #[.pointer (some ⟨w.heap.size, 0, none⟩), .pointer (some ⟨w.heap.size + 1, 0, none⟩)]) (by simp [results, Tryz.results168, go_sem]) rfl ⟨w.heap.size, w.heap.size + 1, rfl, Nat.le_refl _, Nat.le_succ _, by simp, by simp, ((Ext.refl w).alloc _).alloc _⟩
theorem zjf {p wd b1 b2 : Nat} {V : World} (w0 : 1 ≤ wd) (w16 : wd ≤ 16) (h1 : V.cell? ⟨b1, 0, none⟩ = some (.func (.func 169) #[.pointer (some ⟨p, 0, none⟩)] #[])) (h2 : V.cell? ⟨b2, 0, none⟩ = some (.int .i64 (wd : Int))) (n1 : b1 ≠ p) (n2 : b2 ≠ p) :
    zw3 224 #[.pointer (some ⟨b1, 0, none⟩), .pointer (some ⟨b2, 0, none⟩)] p wd V := by
 intro r w1 hT hO hr
 have c1 := zac hO h1 n1
 have c2 := zac hO h2 n2
 have HT := Lib.hid hT
 clear hT
 go_enter Tryz.func224, Tryz.ntmps224
 go_wp2_with fail
 refine (zrm p wd r w1 HT hr w0 w16).mono ?_
 rintro ee w2 (⟨x, r2, rfl, rfl, h4, h5⟩ | ⟨rfl, rfl, h4, h5⟩)
 ·have H4 := Lib.hid h4
  have H5 := Lib.hid h5
  clear h4 h5
  go_wp2
  go_ret2
  exact .inl ⟨x, r2, rfl, rfl, H4.out, H5.out⟩
 ·have H4 := Lib.hid h4
  have H5 := Lib.hid h5
  clear h4 h5
  go_wp2
  go_ret2
  exact .inr ⟨rfl, rfl, H4.out, H5.out⟩
theorem zhb (p wd n : Nat) (l : List Nat) (w : World) (hT : Hid (Tp w p l)) (hl : l.length ≤ 100000) (h0 : 1 ≤ n) (hn : n ≤ 4096) (w0 : 1 ≤ wd) (w16 : wd ≤ 16) :
    Calls Tryz.prog 99 #[.pointer (some ⟨p, 0, none⟩), .int .i64 (n : Int), .int .i64 (wd : Int)] w (ztf w p wd n l) := by
 have hp := hT.out.lt
 go_enter Tryz.func99, Tryz.ntmps99
 go_wp2_with (first
  | (go_at_call 95; refine (zcr n _ h0 hn).mono ?_; rintro ee w2 ⟨rfl, rfl⟩)
  | (go_at_call 167; refine (zex wd _ w0 w16).mono ?_; rintro ee w2 ⟨rfl, rfl⟩))
 refine (zoj p wd w w16).mono ?_
 rintro ee V ⟨b1, b2, rfl, g1, g2, c1, c2, k1⟩
 have HD := Lib.hid (zjf w0 w16 c1 c2 (by omega) (by omega))
 have HT := Lib.hid (hT.out.ext k1)
 have K1 := Lib.hid k1
 clear c1 c2 k1
 go_wp2_with fail
 refine (zot 224 _ p wd n l V HT hl hn (Lib.hid Tryz.call224) HD).mono ?_
 rintro ee w2 (⟨acc, r, A, h1, rfl, h3, h4, h5⟩ | ⟨h1, rfl, h4, h5⟩)
 ·have H1 := Lib.hid h1
  have H3 := Lib.hid h3
  have H4 := Lib.hid h4
  have H5 := Lib.hid ((On.of K1.out).trans h5)
  clear h1 h3 h4 h5
  go_wp2
  go_ret2
  exact .inl ⟨acc, r, A, H1.out, rfl, H3.out, H4.out, H5.out⟩
 ·have H1 := Lib.hid h1
  have H4 := Lib.hid h4
  have H5 := Lib.hid ((On.of K1.out).trans h5)
  clear h1 h4 h5
  go_wp2
  go_ret2
  exact .inr ⟨H1.out, rfl, H4.out, H5.out⟩
theorem xorW (x y : Nat) (hx : x < 18446744073709551616) (hy : y < 18446744073709551616) : ∃ z : Nat, z < 18446744073709551616 ∧ bits .xor .u64 (x : Int) (y : Int) = (z : Int) :=
 ⟨Nat.xor x y, Nat.xor_lt_two_pow (n := 64) hx hy, bits_xor_u64_nat _ _ hx hy⟩
theorem wrapW (z : Int) : ∃ y : Nat, y < 18446744073709551616 ∧ IntKind.u64.wrap z = (y : Int) := by
 have h0 := Int.emod_nonneg z (show (18446744073709551616 : Int) ≠ 0 by omega)
 have h1 := Int.emod_lt_of_pos z (show (0 : Int) < 18446744073709551616 by omega)
 exact ⟨(z % 18446744073709551616).toNat, by omega, by rw [IntKind.wrap_u64]; omega⟩
def EvenW (l : List Nat) : Prop := ∀ i z, l[i]? = some z → i % 2 = 1 → goodW z = true
theorem EvenW.push {l : List Nat} {z : Nat} (h : EvenW l) (hz : l.length % 2 = 1 → goodW z = true) : EvenW (l ++ [z]) := fun i y hy hi => by
 by_cases h1 : i < l.length
 ·rw [List.getElem?_append_left h1] at hy
  exact h i y hy hi
 ·have h2 := (List.getElem?_eq_some_iff.1 hy).1
  simp at h2
  have h3 : i = l.length := by omega
  subst h3
  rw [List.getElem?_append_right (Nat.le_refl _), Nat.sub_self] at hy
  simp at hy
  subst hy
  exact hz hi
set_option maxHeartbeats 4000000 in
theorem ziw (A : Option Addr) (n c m : Nat) (xs : List Nat) (w : World) (hX : NX w A n c xs) (hn : n ≤ 100000) (hm : m ≤ 100000) :
    Calls Tryz.prog 8 #[.slice A n c, .int .i64 (m : Int)] w fun e w' => ∃ A2 c2 zs, e = .returned (.slice A2 m c2) ∧ NX w' A2 m c2 zs ∧ Hid (EvenW zs) ∧ Ext w w' := by
 obtain ⟨i0, hi, hzz0, hzz1, hzz2⟩ := info_parts zdw
 have HX := Lib.hid hX
 clear hX
 go_enter Tryz.func8, Tryz.ntmps8
 go_wp2
 go_loopw [5, 6, 7] (fun xv v iv wr => ∃ (x k : Nat) (zs : List Nat), k ≤ m ∧ xv = .int .u64 (x : Int) ∧ x < 18446744073709551616 ∧ iv = .int .i64 (k : Int) ∧ zs.length = k ∧ URow w.heap.size w wr v k zs ∧ Hid (EvenW zs)) (fun _ _ iv _ => m - (intOf iv).toNat)
 case atStart => exact ⟨11400714819323198485, 0, [], by omega, rfl, by omega, rfl, rfl, URow.nil w, Lib.hid fun i z h => by simp at h⟩
 case round =>
  obtain ⟨x, k, zs, hk, rfl, hx, rfl, hl, hrow, hev⟩ := hrel
  obtain ⟨A1, c1, rfl, hr1⟩ := zc2 hrow.1 hrow.2.2
  by_cases hlt : k < m
  ·have j0 : (0 : Int) ≤ (k : Int) := by omega
   have j1 : (k : Int) < (m : Int) := by omega
   have hsz := hrow.2.1.size
   have HROW := Lib.hid hrow
   have HL := Lib.hid hl
   clear hrow hl hr1
   by_cases hn0 : n = 0
   ·subst hn0
    have hx0 : x < 18446744073709551616 := hx
    obtain ⟨s1, hs1, e1⟩ := wrapW ((x : Int) * 8192)
    obtain ⟨y1, hy1, f1⟩ := xorW x s1 hx0 hs1
    obtain ⟨s2, hs2, e2⟩ : ∃ y : Nat, y < 18446744073709551616 ∧ (y1 : Int) / 128 = (y : Int) := ⟨y1 / 128, by omega, by omega⟩
    obtain ⟨y2, hy2, f2⟩ := xorW y1 s2 hy1 hs2
    obtain ⟨s3, hs3, e3⟩ := wrapW ((y2 : Int) * 131072)
    obtain ⟨y3, hy3, f3⟩ := xorW y2 s3 hy2 hs3
    obtain ⟨v, hv, e4⟩ := wrapW ((y3 : Int) + (k : Int))
    clear hs1 hy1 hs2 hy2 hs3
    by_cases hk2 : k % 2 = 1
    ·have hk3 : (k : Int) % 2 = 1 := by omega
     obtain ⟨v1, hv1, e5, e6⟩ : ∃ y : Nat, y < 9223372036854775808 ∧ (v : Int).tmod 9223372036854775808 = (y : Int) ∧ (v : Int) % 9223372036854775808 = (y : Int) := ⟨v % 9223372036854775808, by omega, by rw [Int.tmod_eq_emod_of_nonneg (by omega)]; omega, by omega⟩
     by_cases hv3 : v1 % 4 = 3
     ·have e7 : (v1 : Int) % 4 = 3 := by omega
      have e8 : IntKind.u64.wrap ((v1 : Int) - 1) = ((v1 - 1 : Nat) : Int) := by rw [IntKind.wrap_u64]; omega
      have HG := Lib.hid (show goodW (v1 - 1) = true by unfold goodW; rw [Bool.and_eq_true, Nat.blt_eq]; refine ⟨by omega, ?_⟩; rw [show (v1 - 1) % 4 = 2 by omega]; rfl)
      have hz : v1 - 1 < 18446744073709551616 := by omega
      generalize v1 - 1 = z at *
      go_wp2_with (at_builtin; go_loud (refine wpList_append_own _ rfl _ _ 22 rfl w.heap.size 26 i0 (.int .u64 0) 1 8 Tryz.underlying22 hi hzz0 hzz1 hzz2 rfl (by decide) _ _ _ rfl (HROW.out.1.alloc _) ⟨_, 0, none⟩ 1 1 [.int .u64 (z : Int)] rfl rfl zaz zba (by unfold maxLen; omega) (by omega) (by simp; omega) ?_; intro v2 w3 hown2 hgrow2 _))
      exact ⟨⟨y3, k + 1, zs ++ [z], by omega, rfl, hy3, by go_num, by simp [HL.out], HROW.out.push hsz (by rw [zad]; exact hz) hown2 hgrow2, Lib.hid (hev.out.push (fun _ => HG.out))⟩, by simp [intOf]; omega⟩
     ·have e7 : ((v1 : Int) % 4 == 3) = false := by simp; omega
      have HG := Lib.hid (show goodW v1 = true by unfold goodW; rw [Bool.and_eq_true, Nat.blt_eq]; refine ⟨by omega, ?_⟩; rw [Bool.not_eq_true']; cases hbq : Nat.beq (v1 % 4) 3; rfl; exact absurd (Nat.eq_of_beq_eq_true hbq) hv3)
      have hz : v1 < 18446744073709551616 := by omega
      clear hv3
      generalize hzz : v1 = z at *
      go_wp2_with (at_builtin; go_loud (refine wpList_append_own _ rfl _ _ 22 rfl w.heap.size 26 i0 (.int .u64 0) 1 8 Tryz.underlying22 hi hzz0 hzz1 hzz2 rfl (by decide) _ _ _ rfl (HROW.out.1.alloc _) ⟨_, 0, none⟩ 1 1 [.int .u64 (z : Int)] rfl rfl zaz zba (by unfold maxLen; omega) (by omega) (by simp; omega) ?_; intro v2 w3 hown2 hgrow2 _))
      exact ⟨⟨y3, k + 1, zs ++ [z], by omega, rfl, hy3, by go_num, by simp [HL.out], HROW.out.push hsz (by rw [zad]; exact hz) hown2 hgrow2, Lib.hid (hev.out.push (fun _ => HG.out))⟩, by simp [intOf]; omega⟩
    ·have hk3 : ((k : Int) % 2 == 1) = false := by simp; omega
     have HG := Lib.hid (show k % 2 = 1 → goodW v = true from fun h => absurd h hk2)
     have hz := hv
     clear hk2
     generalize hzz : v = z at *
     go_wp2_with (at_builtin; go_loud (refine wpList_append_own _ rfl _ _ 22 rfl w.heap.size 26 i0 (.int .u64 0) 1 8 Tryz.underlying22 hi hzz0 hzz1 hzz2 rfl (by decide) _ _ _ rfl (HROW.out.1.alloc _) ⟨_, 0, none⟩ 1 1 [.int .u64 (z : Int)] rfl rfl zaz zba (by unfold maxLen; omega) (by omega) (by simp; omega) ?_; intro v2 w3 hown2 hgrow2 _))
     exact ⟨⟨y3, k + 1, zs ++ [z], by omega, rfl, hy3, by go_num, by simp [HL.out], HROW.out.push hsz (by rw [zad]; exact hz) hown2 hgrow2, Lib.hid (hev.out.push (by rw [HL.out]; exact HG.out))⟩, by simp [intOf]; omega⟩
   ·have HXr := Lib.hid (HX.out.ext HROW.out.2.1)
    obtain ⟨ad, rfl, _, hc⟩ := HXr.out.cells (by omega)
    have hkn := Nat.mod_lt k (show 0 < n by omega)
    have hlx := HX.out.len
    have c0 := hc (k % n) (xs[k % n]'(by omega)) (List.getElem?_eq_getElem (by omega))
    have hsd : xs[k % n]'(by omega) < 18446744073709551616 := by have := HX.out.lt _ (List.getElem_mem (show k % n < xs.length by omega)); rwa [zad] at this
    have er : (k : Int).tmod (n : Int) = ((k % n : Nat) : Int) := by rw [Int.tmod_eq_emod_of_nonneg (by omega)]; rfl
    have er2 : (k : Int) % (n : Int) = ((k % n : Nat) : Int) := rfl
    generalize xs[k % n]'(by omega) = sd at *
    obtain ⟨x1, hx1, f0⟩ := xorW x sd hx hsd
    clear hc hlx
    generalize k % n = kn at *
    have hx0 : x1 < 18446744073709551616 := hx1
    obtain ⟨s1, hs1, e1⟩ := wrapW ((x1 : Int) * 8192)
    obtain ⟨y1, hy1, f1⟩ := xorW x1 s1 hx0 hs1
    obtain ⟨s2, hs2, e2⟩ : ∃ y : Nat, y < 18446744073709551616 ∧ (y1 : Int) / 128 = (y : Int) := ⟨y1 / 128, by omega, by omega⟩
    obtain ⟨y2, hy2, f2⟩ := xorW y1 s2 hy1 hs2
    obtain ⟨s3, hs3, e3⟩ := wrapW ((y2 : Int) * 131072)
    obtain ⟨y3, hy3, f3⟩ := xorW y2 s3 hy2 hs3
    obtain ⟨v, hv, e4⟩ := wrapW ((y3 : Int) + (k : Int))
    clear hs1 hy1 hs2 hy2 hs3
    by_cases hk2 : k % 2 = 1
    ·have hk3 : (k : Int) % 2 = 1 := by omega
     obtain ⟨v1, hv1, e5, e6⟩ : ∃ y : Nat, y < 9223372036854775808 ∧ (v : Int).tmod 9223372036854775808 = (y : Int) ∧ (v : Int) % 9223372036854775808 = (y : Int) := ⟨v % 9223372036854775808, by omega, by rw [Int.tmod_eq_emod_of_nonneg (by omega)]; omega, by omega⟩
     by_cases hv3 : v1 % 4 = 3
     ·have e7 : (v1 : Int) % 4 = 3 := by omega
      have e8 : IntKind.u64.wrap ((v1 : Int) - 1) = ((v1 - 1 : Nat) : Int) := by rw [IntKind.wrap_u64]; omega
      have HG := Lib.hid (show goodW (v1 - 1) = true by unfold goodW; rw [Bool.and_eq_true, Nat.blt_eq]; refine ⟨by omega, ?_⟩; rw [show (v1 - 1) % 4 = 2 by omega]; rfl)
      have hz : v1 - 1 < 18446744073709551616 := by omega
      generalize v1 - 1 = z at *
      go_wp2_with (at_builtin; go_loud (refine wpList_append_own _ rfl _ _ 22 rfl w.heap.size 26 i0 (.int .u64 0) 1 8 Tryz.underlying22 hi hzz0 hzz1 hzz2 rfl (by decide) _ _ _ rfl (HROW.out.1.alloc _) ⟨_, 0, none⟩ 1 1 [.int .u64 (z : Int)] rfl rfl zaz zba (by unfold maxLen; omega) (by omega) (by simp; omega) ?_; intro v2 w3 hown2 hgrow2 _))
      exact ⟨⟨y3, k + 1, zs ++ [z], by omega, rfl, hy3, by go_num, by simp [HL.out], HROW.out.push hsz (by rw [zad]; exact hz) hown2 hgrow2, Lib.hid (hev.out.push (fun _ => HG.out))⟩, by simp [intOf]; omega⟩
     ·have e7 : ((v1 : Int) % 4 == 3) = false := by simp; omega
      have HG := Lib.hid (show goodW v1 = true by unfold goodW; rw [Bool.and_eq_true, Nat.blt_eq]; refine ⟨by omega, ?_⟩; rw [Bool.not_eq_true']; cases hbq : Nat.beq (v1 % 4) 3; rfl; exact absurd (Nat.eq_of_beq_eq_true hbq) hv3)
      have hz : v1 < 18446744073709551616 := by omega
      clear hv3
      generalize hzz : v1 = z at *
      go_wp2_with (at_builtin; go_loud (refine wpList_append_own _ rfl _ _ 22 rfl w.heap.size 26 i0 (.int .u64 0) 1 8 Tryz.underlying22 hi hzz0 hzz1 hzz2 rfl (by decide) _ _ _ rfl (HROW.out.1.alloc _) ⟨_, 0, none⟩ 1 1 [.int .u64 (z : Int)] rfl rfl zaz zba (by unfold maxLen; omega) (by omega) (by simp; omega) ?_; intro v2 w3 hown2 hgrow2 _))
      exact ⟨⟨y3, k + 1, zs ++ [z], by omega, rfl, hy3, by go_num, by simp [HL.out], HROW.out.push hsz (by rw [zad]; exact hz) hown2 hgrow2, Lib.hid (hev.out.push (fun _ => HG.out))⟩, by simp [intOf]; omega⟩
    ·have hk3 : ((k : Int) % 2 == 1) = false := by simp; omega
     have HG := Lib.hid (show k % 2 = 1 → goodW v = true from fun h => absurd h hk2)
     have hz := hv
     clear hk2
     generalize hzz : v = z at *
     go_wp2_with (at_builtin; go_loud (refine wpList_append_own _ rfl _ _ 22 rfl w.heap.size 26 i0 (.int .u64 0) 1 8 Tryz.underlying22 hi hzz0 hzz1 hzz2 rfl (by decide) _ _ _ rfl (HROW.out.1.alloc _) ⟨_, 0, none⟩ 1 1 [.int .u64 (z : Int)] rfl rfl zaz zba (by unfold maxLen; omega) (by omega) (by simp; omega) ?_; intro v2 w3 hown2 hgrow2 _))
     exact ⟨⟨y3, k + 1, zs ++ [z], by omega, rfl, hy3, by go_num, by simp [HL.out], HROW.out.push hsz (by rw [zad]; exact hz) hown2 hgrow2, Lib.hid (hev.out.push (by rw [HL.out]; exact HG.out))⟩, by simp [intOf]; omega⟩
  ·obtain rfl : k = m := by omega
   go_wp2
   exact bodyPost_ret (v := .slice A1 k c1) (by simp [results, Tryz.results8, go_sem]) rfl ⟨A1, c1, zs, rfl, hr1, hev, hrow.2.1⟩
def fixY (i : Nat) : Nat := 97
theorem zvo : ParP 8 17 1 fixY 1 := fun k hk => by
 rcases (show k = 0 ∨ k = 1 ∨ k = 2 ∨ k = 3 ∨ k = 4 ∨ k = 5 by omega) with rfl | rfl | rfl | rfl | rfl | rfl
 ·exact ⟨by decide, by decide, by decide +kernel⟩
 ·exact ⟨by decide, by decide⟩
 ·exact ⟨by decide, by decide +kernel, by decide +kernel⟩
 ·exact ⟨by decide, by decide⟩
 ·intro j hj
  obtain rfl : j = 0 := by omega
  exact ⟨by decide, by decide, fun i hi => by omega, by decide +kernel, by decide +kernel⟩
 ·show Go.bitLen (prodF fixY 1) ≤ rowS 8
  rw [show prodF fixY 1 = 97 by decide, show rowS 8 = 420 by decide]
  decide +kernel
set_option maxHeartbeats 2000000 in
theorem zgo {n T L c : Nat} {Wd : Int} {A : Option Addr} {q : Nat → Nat} (p : Nat) (l : List Nat) (w : World) (hP : Hid (PA w (n : Int) T A L c Wd q)) (hL : L ≤ 100) (hn0 : 1 ≤ n) (hn : n ≤ 4096) (hT : Tabs w) (hok : Hid (ParP (n : Int) T L q Wd)) (hp : Hid (Tp w p l)) (hl : l.length ≤ 100000) :
    Calls Tryz.prog 18 #[.agg #[.int .i64 (n : Int), .int .u64 (T : Int), .slice A L c, .int .i64 Wd], .pointer (some ⟨p, 0, none⟩)] w fun ee w' => ∃ V, Ext w V ∧ DPost V p n l ee w' := by
 have HT := Lib.hid hT
 clear hT
 have ht1 := hP.out.t1
 have k0 : Ext w (w.alloc (.cells #[.int .i64 (n : Int), .int .u64 (T : Int), .slice A L c, .int .i64 Wd] 28)) := (Ext.refl w).alloc _
 obtain ⟨x0, x1, x2, x3⟩ := za6 w (.int .i64 (n : Int)) (.int .u64 (T : Int)) (.slice A L c) (.int .i64 Wd) 28
 go_enter Tryz.func18, Tryz.ntmps18
 go_wp2_with fail
 generalize w.alloc (.cells #[.int .i64 (n : Int), .int .u64 (T : Int), .slice A L c, .int .i64 Wd] 28) = V0 at *
 refine (zl0 (z := 0) (hP.out.ext k0) (by omega) (HT.out.ext k0) (Lib.hid (.inl ⟨hok.out, rfl⟩))).mono ?_
 rintro ee V ⟨rfl, k1⟩
 replace x0 := cE k1 x0
 replace k0 := k0.trans k1
 clear k1 x1 x2 x3
 go_wp2_with fail
 refine (zee p n l V (Lib.hid (hp.out.ext k0)) hl hn0 hn).mono ?_
 rintro ee V2 h
 have K0 := Lib.hid k0
 clear k0
 rcases h with ⟨acc, r, A2, h1, rfl, h2, h3, h4⟩ | ⟨h1, rfl, h2, h3⟩
 ·have H := Lib.hid (show DPost V p n l (.returned (.tuple #[.slice A2 n n, .int .i64 0])) V2 from .inl ⟨acc, r, A2, h1, rfl, h2, h3, h4⟩)
  clear h1 h2 h3 h4
  go_wp2
  go_ret2
  exact ⟨V, K0.out, H.out⟩
 ·have H := Lib.hid (show DPost V p n l (.returned (.tuple #[.slice none 0 0, .int .i64 11])) V2 from .inr ⟨h1, rfl, h2, h3⟩)
  clear h1 h2 h3
  go_wp2
  go_ret2
  exact ⟨V, K0.out, H.out⟩
end Go.Proofs.YtopbibfpjgjalaaGreatDoor
