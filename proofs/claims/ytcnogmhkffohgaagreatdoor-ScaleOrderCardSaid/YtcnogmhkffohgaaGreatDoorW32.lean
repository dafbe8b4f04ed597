/-
  The calls of layer 5 whose answers the document fixes.
-/
import Derived.Test.YtcnogmhkffohgaaGreatDoorW30
import Derived.Test.YtcnogmhkffohgaaGreatDoorWGOpen
namespace Go.Proofs.YtcnogmhkffohgaaGreatDoor
open Go.RowKit
set_option linter.unusedVariables false
set_option maxRecDepth 100000

theorem is13 : isS 13 = true := by decide +kernel
theorem sq13 : ∃ x, x < 13 ∧ noSq 13 x = true := ⟨2, by omega, noSq_pm (by omega) (by decide +kernel)⟩
def q2 (i : Nat) : Nat := if i = 0 then 5 else 13
theorem row2 : RowP 2 2 q2 := by
  have s4 : stepS (2 * (2 : Int).toNat) = true := by decide +kernel
  refine ⟨by omega, by omega, fun j hj => ?_⟩
  rcases (show j = 0 ∨ j = 1 by omega) with rfl | rfl
  · exact ⟨⟨by omega, by decide, s4, by decide, is5⟩, fun i hi => by omega⟩
  · refine ⟨⟨by omega, by decide, s4, by decide, is13⟩, fun i hi => ?_⟩
    obtain rfl : i = 0 := by omega
    decide
theorem vx_two (w : World) (a b : Int) : VX (w.alloc (.cells #[.int .i64 a, .int .i64 b] 2)) (some ⟨w.heap.size, 0, none⟩) 2 2 (fun i => if i = 0 then a else b) := by
  refine ⟨Nat.le_refl _, fun _ => ⟨_, rfl, fun j hj => ?_⟩⟩
  rw [Addr.add_lit, Nat.zero_add]
  rcases (show j = 0 ∨ j = 1 by omega) with rfl | rfl <;> simp
theorem PM.pb {w : World} {G L n : Nat} {As : Nat → Option Addr} {cs : Nat → Nat} {F : Nat → Nat → Nat} (h : PM w G L n As cs F) (hL : L ≤ 1000) (hn : n ≤ 1000) : PB w (some ⟨G, 0, none⟩) L L As (fun _ => n) cs F := ⟨h.px, by omega, fun _ _ => by show n ≤ _; omega⟩
theorem nega2 (a b : Nat → Int) : nega 2 a b 0 = a 0 * b 0 - a 1 * b 1 ∧ nega 2 a b 1 = a 0 * b 1 + a 1 * b 0 := by
  unfold nega
  simp [S]
  omega
theorem fixX {F : Nat → Nat → Nat} (h : ∀ j, j < 2 → F j = fun i => lif ((fun i => if i = 0 then (0 : Int) else 1) i) (q2 j)) : (F 0 0 = 0 ∧ F 0 1 = 1) ∧ F 1 0 = 0 ∧ F 1 1 = 1 := by
  rw [h 0 (by omega), h 1 (by omega)]
  decide
theorem px_two (w : World) (A0 A1 : Option Addr) (c0 c1 : Nat) (f0 f1 : Nat → Nat) (h0 : FX w A0 2 c0 f0) (h1 : FX w A1 2 c1 f1) : PX (w.alloc (.cells #[.slice A0 2 c0, .slice A1 2 c1] 23)) (some ⟨w.heap.size, 0, none⟩) 2 2 (fun j => if j = 0 then A0 else A1) (fun _ => 2) (fun j => if j = 0 then c0 else c1) (fun j => if j = 0 then f0 else f1) := by
  refine ⟨Nat.le_refl _, fun _ => ⟨_, rfl, fun j hj => ?_⟩, fun j hj => ?_⟩
  · rw [Addr.add_lit, Nat.zero_add]
    rcases (show j = 0 ∨ j = 1 by omega) with rfl | rfl <;> simp
  · rcases (show j = 0 ∨ j = 1 by omega) with rfl | rfl
    · exact h0.ext ((Ext.refl w).alloc _)
    · exact h1.ext ((Ext.refl w).alloc _)
/-- Two lists of two words, laid one behind the other, and what holds them. -/
theorem px_laid (w : World) (a b c d : Nat) (za zb zc zd : Int) (ha : za = a) (hb : zb = b) (hc : zc = c) (hd : zd = d) : PX (((w.alloc (.cells #[.int .u64 za, .int .u64 zb] 22)).alloc (.cells #[.int .u64 zc, .int .u64 zd] 22)).alloc (.cells #[.slice (some ⟨w.heap.size, 0, none⟩) 2 2, .slice (some ⟨w.heap.size + 1, 0, none⟩) 2 2] 23)) (some ⟨w.heap.size + 1 + 1, 0, none⟩) 2 2 (fun j => if j = 0 then some ⟨w.heap.size, 0, none⟩ else some ⟨w.heap.size + 1, 0, none⟩) (fun _ => 2) (fun j => if j = 0 then 2 else 2) (fun j => if j = 0 then (fun i => if i = 0 then a else b) else (fun i => if i = 0 then c else d)) := by
  have h1 := fx_two (w.alloc (.cells #[.int .u64 za, .int .u64 zb] 22)) c d zc zd hc hd
  rw [show (w.alloc (.cells #[.int .u64 za, .int .u64 zb] 22)).heap.size = w.heap.size + 1 by simp] at h1
  have h := px_two ((w.alloc (.cells #[.int .u64 za, .int .u64 zb] 22)).alloc (.cells #[.int .u64 zc, .int .u64 zd] 22)) (some ⟨w.heap.size, 0, none⟩) (some ⟨w.heap.size + 1, 0, none⟩) 2 2 _ _ ((fx_two w a b za zb ha hb).ext ((Ext.refl _).alloc _)) h1
  rw [show ((w.alloc (.cells #[.int .u64 za, .int .u64 zb] 22)).alloc (.cells #[.int .u64 zc, .int .u64 zd] 22)).heap.size = w.heap.size + 1 + 1 by simp] at h
  exact h
end Go.Proofs.YtcnogmhkffohgaaGreatDoor

/-
  What the inner calls of the laws of layer 5 answer: few, made; which rings and elements there are by the document.
-/
namespace Go.Proofs.YtcnogmhkffohgaaGreatDoor
open Go.RowKit
set_option linter.unusedVariables false
set_option maxRecDepth 100000

/-- There is not too much. -/
def FewP (n : Int) (Lp m : Nat) (L : Nat → Nat) (ns : Nat → Nat → Nat) : Prop := n ≤ 32 ∧ Lp ≤ 30 ∧ ∀ j, j < m → L j ≤ 30 ∧ ∀ i, i < L j → ns j i ≤ 100
/-- What made answers. -/
def MadeP (w : World) (P : Prop) (n L : Nat) (q : Nat → Nat) (ee : Ending) (w' : World) : Prop :=
  (P ∧ ∃ (r : Nat) (p : Nat → Nat) (a e : Nat → Nat → Nat), ee = .returned (.tuple #[.pointer (some ⟨r, 0, none⟩), .bool true]) ∧ Rg w' r n L q p a e ∧ Ext w w') ∨ (¬ P ∧ ee = .returned (.tuple #[.pointer none, .bool false]) ∧ Ext w w')
end Go.Proofs.YtcnogmhkffohgaaGreatDoor

/-
  What isRow of package crt answers, and what the document says of it.
-/
namespace Go.Proofs.YtcnogmhkffohgaaGreatDoor
open Go.RowKit
set_option linter.unusedVariables false
set_option maxRecDepth 100000

/-- A number that a row may have. -/
def OkQ (x : Nat) : Prop := 3 ≤ x ∧ x < 2305843009213693952 ∧ isS x = true
/-- Is it a row? -/
def RowC (L : Nat) (q : Nat → Nat) : Prop := 0 < L ∧ L ≤ 24 ∧ ∀ j, j < L → OkQ (q j) ∧ ∀ i, i < j → q i ≠ q j
set_option maxHeartbeats 4000000 in
theorem isRow_any (A : Option Addr) (L c : Nat) (q : Nat → Nat) (w : World) (hL : L ≤ 100000) (hX : FX w A L c q) (hq : Hid (∀ j, j < L → q j < 18446744073709551616)) (hT : Tabs w) :
    Calls Tryz.prog 79 #[.slice A L c] w (Tells w (RowC L q)) := by
  have HT := Lib.hid hT
  have HX := Lib.hid hX
  clear hT hX
  by_cases g0 : L = 0
  · subst g0
    have HN := Lib.hid (show ¬ RowC 0 q from fun h => by have := h.1; omega)
    go_enter Tryz.func79, Tryz.ntmps79
    go_wp2
    go_ret
    exact Tells.no HN.out (Ext.refl _)
  have g0b : ((L : Int) == 0) = false := by simp; omega
  by_cases g1 : 24 < L
  · have HN := Lib.hid (show ¬ RowC L q from fun h => by have := h.2.1; omega)
    go_enter Tryz.func79, Tryz.ntmps79
    go_wp2
    go_ret
    exact Tells.no HN.out (Ext.refl _)
  go_enter Tryz.func79, Tryz.ntmps79
  go_wp2
  go_loopw [15] (fun i wr => ∃ k : Nat, k ≤ L ∧ i = .int .i64 (k : Int) ∧ Hid (∀ j, j < k → OkQ (q j) ∧ ∀ i, i < j → q i ≠ q j) ∧ Ext w wr) (fun i _ => L - (intOf i).toNat)
  case atStart => exact ⟨0, by omega, rfl, Lib.hid fun j hj => by omega, Ext.refl _⟩
  case round =>
    obtain ⟨k, hk, rfl, hall, kr⟩ := hrel
    by_cases hlt : k < L
    · have hx := HX.out.ext kr
      obtain ⟨ad, rfl, hc⟩ := hx.cells (by omega)
      have hcell := hc k hlt
      have hql := hq.out k hlt
      have hroom := hx.room
      clear hc
      have HXk := Lib.hid (hx.cut (m := k) (by omega))
      clear hx
      have i0 : (0 : Int) ≤ (k : Int) := by omega
      have i1 : (k : Int) ≤ (L : Int) := by omega
      have i2 : (k : Int) ≤ (c : Int) := by omega
      by_cases h3 : q k < 3
      · have HN := Lib.hid (show ¬ RowC L q from fun h => by have := (h.2.2 k hlt).1.1; omega)
        go_wp2
        go_ret
        exact Tells.no HN.out kr
      by_cases h4 : 2305843009213693952 ≤ q k
      · have HN := Lib.hid (show ¬ RowC L q from fun h => by have := (h.2.2 k hlt).1.2.1; omega)
        have h5 : (2305843009213693952 ≤ (q k : Int)) = True := by simp; omega
        go_wp2
        go_ret
        exact Tells.no HN.out kr
      have h5 : (2305843009213693952 ≤ (q k : Int)) = False := by simp; omega
      have h6 : ((q k : Int) < 3) = False := by simp; omega
      have h7 : decide (2305843009213693952 ≤ (q k : Int)) = false := by simp; omega
      have h8 : decide ((q k : Int) < 3) = false := by simp; omega
      have H34 := Lib.hid (And.intro h3 h4)
      clear h3 h4
      go_wp2_with fail
      refine (contains_any _ k c (q k) q wr HXk.out (by omega)).mono ?_
      rintro ee w1 ⟨b, hb, rfl, rfl⟩
      cases b
      case true =>
        have HN := Lib.hid (show ¬ RowC L q from fun h => by
          obtain ⟨i, hi, he⟩ := hb.out.1 rfl
          exact (h.2.2 k hlt).2 i hi he)
        go_wp2
        go_ret
        exact Tells.no HN.out kr
      have HB := Lib.hid (show ∀ i, i < k → q i ≠ q k from fun i hi he => by
        have := hb.out.2 ⟨i, hi, he⟩; cases this)
      clear hb
      go_wp2_with fail
      refine (is_any (q k) wr hql (HT.out.ext kr)).mono ?_
      cases hi : isS (q k)
      · rintro ee w2 ⟨rfl, k2⟩
        have HN := Lib.hid (show ¬ RowC L q from fun h => by have := (h.2.2 k hlt).1.2.2; rw [hi] at this; cases this)
        clear hi
        go_wp2
        go_ret
        exact Tells.no HN.out (kr.trans k2)
      · rintro ee w2 ⟨rfl, k2⟩
        have HALL := Lib.hid (show ∀ j, j < k + 1 → OkQ (q j) ∧ ∀ i, i < j → q i ≠ q j from fun j hj => by
          by_cases hjk : j = k
          · subst hjk; exact ⟨⟨by have := H34.out.1; omega, by have := H34.out.2; omega, hi⟩, HB.out⟩
          · exact hall.out j (by omega))
        clear hi
        go_wp2
        exact ⟨⟨k + 1, by omega, by go_num, HALL, kr.trans k2⟩, by simp [intOf]; omega⟩
    · have HP := Lib.hid (show RowC L q from ⟨by omega, by omega, fun j hj => hall.out j (by omega)⟩)
      go_wp2
      go_ret
      exact Tells.yes HP.out kr
end Go.Proofs.YtcnogmhkffohgaaGreatDoor

/-
  Lists of words, and lists of lists, that are made by appending.
-/
namespace Go.Proofs.YtcnogmhkffohgaaGreatDoor
open Go.RowKit
set_option linter.unusedVariables false
set_option maxRecDepth 100000

theorem add_block (ad : Addr) (j : Nat) : (ad.add j).block = ad.block := by unfold Addr.add; split <;> rfl
theorem map_snoc {α : Type} (k : Nat) (F : Nat → α) : (List.range k).map F ++ [F k] = (List.range (k + 1)).map F := by
  rw [List.range_succ, List.map_append]; rfl
theorem own_slice {w : World} {B : Nat} {e : TypeId} {s : Nat} {v : Value} {n : Nat} {xs : List Value} (h : w.ownsRow B e s v n xs) : ∃ A c, v = .slice A n c := by
  rcases h.2 with ⟨rfl, rfl⟩ | ⟨g, cap, cur, rfl, _⟩
  · exact ⟨none, 0, rfl⟩
  · exact ⟨_, _, rfl⟩
/-- A list of words that is being made, from block B on. -/
def LR (B : Nat) (w0 w : World) (v : Value) (k : Nat) (F : Nat → Nat) : Prop := w.ownsRow B 22 1 v k (u64s ((List.range k).map F)) ∧ Below B w0 w
theorem LR.nil (w : World) (F : Nat → Nat) : LR w.heap.size w w (.slice none 0 0) 0 F := ⟨World.ownsRow_nil _ _ _ _, Below.refl _ _⟩
theorem LR.push {B : Nat} {w0 w w1 : World} {v v' : Value} {k z : Nat} {F : Nat → Nat} {o : Obj} (h : LR B w0 w v k F) (hB : B ≤ w.heap.size) (hz : z = F k)
    (h1 : w1.ownsRow B 22 1 v' (k + 1) (u64s ((List.range k).map F) ++ [Value.int .u64 (z : Int)])) (hg : (w.alloc o).grownBy w1 v.ownBlock) : LR B w0 w1 v' (k + 1) F := by
  rw [u64s_snoc, hz, map_snoc] at h1
  exact ⟨h1, (h.2.alloc hB o).grown hg (by simp; omega) (fun k e => (h.1.lt k e).1)⟩
theorem LR.ext {B : Nat} {w0 w w' : World} {v : Value} {k : Nat} {F : Nat → Nat} (h : LR B w0 w v k F) (hb : Ext w w') (hB : B ≤ w.heap.size) : LR B w0 w' v k F := by
  refine ⟨⟨h.1.1, ?_⟩, Below.trans h.2 (Below.mono hb hB)⟩
  rcases h.1.2 with h0 | ⟨g, cap, cur, e, hg, hh, h1⟩
  · exact .inl h0
  · exact .inr ⟨g, cap, cur, e, hg, (hb.block g (Array.getElem?_eq_some_iff.1 hh).1).trans hh, h1⟩
theorem LR.alloc {B : Nat} {w0 w : World} {v : Value} {k : Nat} {F : Nat → Nat} (h : LR B w0 w v k F) (o : Obj) : (w.alloc o).ownsRow B 22 1 v k (u64s ((List.range k).map F)) := h.1.alloc o
/-- A list of words in a block of words. -/
structure TX (w : World) (A : Option Addr) (n c : Nat) (f : Nat → Nat) : Prop where
  fx : FX w A n c f
  typed : ∀ ad, A = some ad → ∃ cur fz, w.heap[ad.block]? = some (.cells cur 22 fz)
theorem TX.ext {w w' : World} {A : Option Addr} {n c : Nat} {f : Nat → Nat} (h : TX w A n c f) (k : Ext w w') : TX w' A n c f :=
  ⟨h.fx.ext k, fun ad e => by
    obtain ⟨cur, fz, hc⟩ := h.typed ad e
    exact ⟨cur, fz, (k.block _ (Array.getElem?_eq_some_iff.1 hc).1).trans hc⟩⟩
theorem TX.congr {w : World} {A : Option Addr} {n c : Nat} {f f' : Nat → Nat} (h : TX w A n c f) (e : ∀ i, i < n → f i = f' i) : TX w A n c f' := ⟨h.fx.congr e, h.typed⟩
theorem LR.tx {B : Nat} {w0 w : World} {v : Value} {k : Nat} {F : Nat → Nat} (h : LR B w0 w v k F) (hF : ∀ i, i < k → F i < 18446744073709551616) : ∃ A c, v = .slice A k c ∧ TX w A k c F := by
  obtain ⟨A, c, e, hr⟩ := rd_of_own h.1 (fun x hx => by
    obtain ⟨j, hj, rfl⟩ := List.mem_map.1 hx
    rw [W64_eq]; exact hF j (List.mem_range.1 hj))
  refine ⟨A, c, e, (fx_of_rd hr).congr fun i hi => getD_range hi, fun ad e2 => ?_⟩
  rcases h.1.2 with ⟨e3, _⟩ | ⟨g, cap, cur, e3, _, hh, _⟩
  · rw [e, e2] at e3; cases e3
  · rw [e, e2] at e3
    injection e3 with e4
    injection e4 with e4
    subst e4
    exact ⟨cur, _, hh⟩
/-- A list of lists that is being made, from block B on. -/
def SR (B : Nat) (w : World) (v : Value) (k : Nat) (S : Nat → Value) : Prop := w.ownsRow B 23 1 v k ((List.range k).map S)
theorem SR.nil (B : Nat) (w : World) (S : Nat → Value) : SR B w (.slice none 0 0) 0 S := World.ownsRow_nil _ _ _ _
theorem SR.ext {B : Nat} {w w' : World} {v : Value} {k : Nat} {S : Nat → Value} (h : SR B w v k S) (hb : Ext w w') : SR B w' v k S := by
  refine ⟨h.1, ?_⟩
  rcases h.2 with h0 | ⟨g, cap, cur, e, hg, hh, h1⟩
  · exact .inl h0
  · exact .inr ⟨g, cap, cur, e, hg, (hb.block g (Array.getElem?_eq_some_iff.1 hh).1).trans hh, h1⟩
theorem SR.congr {B : Nat} {w : World} {v : Value} {k : Nat} {S S' : Nat → Value} (h : SR B w v k S) (e : ∀ j, j < k → S j = S' j) : SR B w v k S' := by
  unfold SR at h ⊢
  rwa [List.map_congr_left (fun j hj => e j (List.mem_range.1 hj))] at h
/-- What is changed besides the own row. -/
theorem SR.set {B : Nat} {w : World} {v u : Value} {k x o m : Nat} {S : Nat → Value} {F' : Nat → Value} (h : SR B w v k S) (hx : RW w x 36 m F') : SR B (w.setCell ⟨x, o, none⟩ u) v k S := by
  refine ⟨h.1, ?_⟩
  rcases h.2 with h0 | ⟨g, cap, cur, e, hb, hh, h1, h2, h3, h4⟩
  · exact .inl h0
  · refine .inr ⟨g, cap, cur, e, hb, ?_, h1, h2, h3, h4⟩
    rw [Below.heap_setCell _ _ _ _ (fun e' => ?_)]
    · exact hh
    · have e2 : g = x := by simpa using e'
      subst e2
      unfold RW at hx
      rw [hh] at hx
      injection hx with hx
      injection hx with _ hx
      exact absurd hx (by decide)
/-- Lists and a row of lists that grows keep apart. -/
theorem TX.grown {B : Nat} {w w' : World} {v : Value} {k : Nat} {S : Nat → Value} {A : Option Addr} {n c : Nat} {f : Nat → Nat} (h : TX w A n c f) (hs : SR B w v k S) (hg : w.grownBy w' v.ownBlock) : TX w' A n c f := by
  have hne : ∀ ad, A = some ad → some ad.block ≠ v.ownBlock := fun ad e e2 => by
    obtain ⟨cur, fz, hc⟩ := h.typed ad e
    rcases hs.2 with ⟨rfl, _⟩ | ⟨g, cap, cur', rfl, _, hh, _⟩
    · simp [Value.ownBlock] at e2
    · simp [Value.ownBlock] at e2
      rw [e2, hh] at hc
      injection hc with hc
      injection hc with _ hc
      exact absurd hc (by decide)
  have hkeep : ∀ ad, A = some ad → w'.heap[ad.block]? = w.heap[ad.block]? := fun ad e => by
    obtain ⟨cur, fz, hc⟩ := h.typed ad e
    exact hg.block _ (Array.getElem?_eq_some_iff.1 hc).1 (fun e2 => hne ad e e2)
  refine ⟨⟨h.fx.room, fun hn => ?_⟩, fun ad e => ?_⟩
  · obtain ⟨ad, e, hc⟩ := h.fx.cells hn
    refine ⟨ad, e, fun j hj => ?_⟩
    have h2 : w'.heap[(ad.add j).block]? = w.heap[(ad.add j).block]? := by rw [add_block]; exact hkeep ad e
    rw [World.cell?_of_block h2]
    exact hc j hj
  · obtain ⟨cur, fz, hc⟩ := h.typed ad e
    exact ⟨cur, fz, (hkeep ad e).trans hc⟩
theorem TX.set {w : World} {A : Option Addr} {n c x o m : Nat} {f : Nat → Nat} {u : Value} {F' : Nat → Value} (h : TX w A n c f) (hx : RW w x 36 m F') : TX (w.setCell ⟨x, o, none⟩ u) A n c f := by
  have hkeep : ∀ ad, A = some ad → (w.setCell ⟨x, o, none⟩ u).heap[ad.block]? = w.heap[ad.block]? := fun ad e => by
    obtain ⟨cur, fz, hc⟩ := h.typed ad e
    refine Below.heap_setCell _ _ _ _ (fun e' => ?_)
    have e2 : ad.block = x := by simpa using e'
    unfold RW at hx
    rw [← e2, hc] at hx
    injection hx with hx
    injection hx with _ hx
    exact absurd hx (by decide)
  refine ⟨⟨h.fx.room, fun hn => ?_⟩, fun ad e => ?_⟩
  · obtain ⟨ad, e, hc⟩ := h.fx.cells hn
    refine ⟨ad, e, fun j hj => ?_⟩
    have h2 : (w.setCell ⟨x, o, none⟩ u).heap[(ad.add j).block]? = w.heap[(ad.add j).block]? := by rw [add_block]; exact hkeep ad e
    rw [World.cell?_of_block h2]
    exact hc j hj
  · obtain ⟨cur, fz, hc⟩ := h.typed ad e
    exact ⟨cur, fz, (hkeep ad e).trans hc⟩
theorem UW.tx {w : World} {g n : Nat} {f : Nat → Nat} (h : UW w g n f) : TX w (some ⟨g, 0, none⟩) n n f := ⟨UW.fx h, fun ad e => by injection e with e; subst e; exact ⟨_, _, h⟩⟩
/-- A block beside the own row stays. -/
theorem RW.grown {B : Nat} {w w' : World} {v : Value} {k x m : Nat} {t : TypeId} {S F : Nat → Value} (h : RW w x t m F) (hs : SR B w v k S) (ht : t ≠ 23) (hg : w.grownBy w' v.ownBlock) : RW w' x t m F := by
  refine RW.keep h (hg.block x h.lt (fun e2 => ?_))
  rcases hs.2 with ⟨rfl, _⟩ | ⟨g, cap, cur', rfl, _, hh, _⟩
  · simp [Value.ownBlock] at e2
  · simp [Value.ownBlock] at e2
    unfold RW at h
    rw [e2, hh] at h
    injection h with h
    injection h with _ h
    exact absurd h.symm ht
theorem SR.cells {B : Nat} {w : World} {v : Value} {k : Nat} {S : Nat → Value} (h : SR B w v k S) : ∃ A c, v = .slice A k c ∧ k ≤ c ∧ (0 < k → ∃ ad, A = some ad ∧ ∀ j, j < k → w.cell? (ad.add j) = some (S j)) := by
  have h0 := h
  rcases h.2 with ⟨rfl, rfl⟩ | ⟨g, cap, cur, rfl, _, hh, hle, _⟩
  · exact ⟨none, 0, rfl, Nat.le_refl _, fun h => absurd h (by omega)⟩
  · refine ⟨_, cap, rfl, hle, fun _ => ⟨_, rfl, fun j hj => ?_⟩⟩
    exact World.ownsRow.cells (g := g) h0 rfl j _ (by rw [List.getElem?_map, List.getElem?_range hj]; rfl)
theorem one_slice {A : Option Addr} {n c : Nat} : ∀ u ∈ [Value.slice A n c], u.oneCell' = true := by
  intro u hu; simp at hu; subst hu; rfl
/-- An element that a reference makes: k lists so far, each as F tells. -/
structure Mk (w : World) (B : Nat) (v : Value) (k n : Nat) (F : Nat → Nat → Nat) : Prop where
  ex : ∃ (As : Nat → Option Addr) (cs : Nat → Nat), SR B w v k (fun j => .slice (As j) n (cs j)) ∧ ∀ j, j < k → TX w (As j) n (cs j) (F j)
theorem Mk.nil (w : World) (B n : Nat) (F : Nat → Nat → Nat) : Mk w B (.slice none 0 0) 0 n F := ⟨fun _ => none, fun _ => 0, SR.nil _ _ _, fun j hj => absurd hj (by omega)⟩
theorem Mk.ext {w w' : World} {B : Nat} {v : Value} {k n : Nat} {F : Nat → Nat → Nat} (h : Mk w B v k n F) (hb : Ext w w') : Mk w' B v k n F := by
  obtain ⟨As, cs, h1, h2⟩ := h.ex
  exact ⟨As, cs, h1.ext hb, fun j hj => (h2 j hj).ext hb⟩
theorem Mk.set {w : World} {B : Nat} {v u : Value} {k n x o m : Nat} {F : Nat → Nat → Nat} {F' : Nat → Value} (h : Mk w B v k n F) (hx : RW w x 36 m F') : Mk (w.setCell ⟨x, o, none⟩ u) B v k n F := by
  obtain ⟨As, cs, h1, h2⟩ := h.ex
  exact ⟨As, cs, h1.set hx, fun j hj => (h2 j hj).set hx⟩
theorem Mk.push {w w1 : World} {B : Nat} {v v' : Value} {k n c : Nat} {A : Option Addr} {F : Nat → Nat → Nat} {As : Nat → Option Addr} {cs : Nat → Nat} {o : Obj} (h1 : SR B w v k (fun j => .slice (As j) n (cs j))) (h2 : ∀ j, j < k → TX w (As j) n (cs j) (F j)) (hl : TX w A n c (F k))
    (ho : w1.ownsRow B 23 1 v' (k + 1) ((List.range k).map (fun j => Value.slice (As j) n (cs j)) ++ [.slice A n c])) (hg : (w.alloc o).grownBy w1 v.ownBlock) : Mk w1 B v' (k + 1) n F := by
  have ka : Ext w (w.alloc o) := (Ext.refl w).alloc o
  refine ⟨fun j => if j = k then A else As j, fun j => if j = k then c else cs j, ?_, fun j hj => ?_⟩
  · have e : (List.range k).map (fun j => Value.slice (As j) n (cs j)) ++ [.slice A n c] = (List.range (k + 1)).map (fun j => Value.slice (if j = k then A else As j) n (if j = k then c else cs j)) := by
      rw [← map_snoc k (fun j => Value.slice (if j = k then A else As j) n (if j = k then c else cs j))]
      congr 1
      · refine List.map_congr_left fun j hj => ?_
        have := List.mem_range.1 hj
        simp only [if_neg (show ¬ j = k by omega)]
      · simp
    rw [e] at ho
    exact ho
  · by_cases hjk : j = k
    · subst hjk
      simp only [if_true]
      exact (hl.ext ka).grown (h1.ext ka) hg
    · simp only [if_neg hjk]
      exact ((h2 j (by omega)).ext ka).grown (h1.ext ka) hg
theorem Mk.px {w : World} {B : Nat} {v : Value} {k n : Nat} {F : Nat → Nat → Nat} (h : Mk w B v k n F) : ∃ A c As cs, v = .slice A k c ∧ PX w A k c As (fun _ => n) cs F := by
  obtain ⟨As, cs, h1, h2⟩ := h.ex
  obtain ⟨A, c, e, hle, hc⟩ := h1.cells
  exact ⟨A, c, As, cs, e, hle, hc, fun j hj => (h2 j hj).fx⟩
end Go.Proofs.YtcnogmhkffohgaaGreatDoor
