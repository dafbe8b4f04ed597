import Derived.Test.YtkbcobjhlpjieaaGreatDoorZ30
import Derived.Laws.BitsLemmas
import Derived.Deep.AppendLies
import Derived.Test.YtkbcobjhlpjieaaGreatDoorZ23
namespace Go.Proofs.YtkbcobjhlpjieaaGreatDoor
open Go.RowKit
set_option linter.unusedVariables false
set_option maxRecDepth 100000
def rcF (v : Value) (S : Nat → Value) (i : Nat) : Value := if i = 0 then v else S i
def Asd (p : Nat) (A : Option Addr) : Prop := ∀ ad, A = some ad → ad.block < p
theorem BX.on {w w' : World} {p : Nat} {A : Option Addr} {n c : Nat} {xs : List Nat} (h : BX w A n c xs) (k : On p w w') (ha : 0 < n → Asd p A) : BX w' A n c xs := by
 refine ⟨h.len, h.room, h.lt, fun hn => ?_⟩
 obtain ⟨ad, rfl, hb, hc⟩ := h.cells hn
 refine ⟨ad, rfl, Nat.lt_of_lt_of_le hb k.size, fun j x hx => (World.cell?_of_block ?_).trans (hc j x hx)⟩
 exact k.block _ (by rw [add_block]; exact hb) (fun e => by rw [add_block] at e; injection e with e; have := ha hn ad rfl; omega)
def RS (w : World) (p : Nat) (l : List Nat) (S : Nat → Value) : Prop := ∃ A c, RW w p 160 7 (rcF (.slice A l.length c) S) ∧ BX w A l.length c l ∧ (0 < l.length → Asd p A)
theorem RS.ext {w w' : World} {p : Nat} {l : List Nat} {S : Nat → Value} (h : RS w p l S) (k : Ext w w') : RS w' p l S := by
 obtain ⟨A, c, h1, h2, h3⟩ := h
 exact ⟨A, c, h1.ext k, h2.ext k, h3⟩
theorem RS.lt {w : World} {p : Nat} {l : List Nat} {S : Nat → Value} (h : RS w p l S) : p < w.heap.size := by
 obtain ⟨A, c, h1, h2, h3⟩ := h
 exact h1.lt
theorem RS.bytes {w : World} {p : Nat} {l : List Nat} {S : Nat → Value} (h : RS w p l S) : ∀ x ∈ l, x < 256 := by
 obtain ⟨A, c, h1, h2, h3⟩ := h
 exact h2.lt
theorem RS.cell {w : World} {p : Nat} {l : List Nat} {S : Nat → Value} (h : RS w p l S) {i : Nat} (h0 : i ≠ 0) (hi : i < 7) : w.cell? ⟨p, i, none⟩ = some (S i) := by
 obtain ⟨A, c, h1, h2, h3⟩ := h
 rw [h1.cell hi]
 unfold rcF
 rw [if_neg h0]
theorem RS.frozen {w : World} {p : Nat} {l : List Nat} {S : Nat → Value} (h : RS w p l S) (i : Nat) : w.frozen? ⟨p, i, none⟩ = false := by
 obtain ⟨A, c, h1, h2, h3⟩ := h
 exact h1.frozen i
theorem RS.keeps {w w' : World} {p : Nat} {l : List Nat} {S : Nat → Value} {ts : List TypeId} (h : RS w p l S) (k : On p w w') (ht : 160 ∉ ts) : Keeps ts w w' := by
 obtain ⟨A, c, h1, h2, h3⟩ := h
 exact Keeps.on k h1 ht
theorem RS.below {w w' : World} {p : Nat} {l : List Nat} {S : Nat → Value} (h : RS w p l S) (hs : w.heap.size ≤ w'.heap.size) (hb : ∀ i, i ≤ p → w'.heap[i]? = w.heap[i]?) : RS w' p l S := by
 obtain ⟨A, c, h1, h2, h3⟩ := h
 refine ⟨A, c, RW.keep h1 (hb p (Nat.le_refl _)), ⟨h2.len, h2.room, h2.lt, fun hn => ?_⟩, h3⟩
 obtain ⟨ad, rfl, hl, hc⟩ := h2.cells hn
 refine ⟨ad, rfl, by omega, fun j x hx => (World.cell?_of_block ?_).trans (hc j x hx)⟩
 rw [add_block]
 exact hb _ (Nat.le_of_lt (h3 hn ad rfl))
theorem RS.grown {w w' : World} {p : Nat} {l : List Nat} {S : Nat → Value} {row : Option Nat} (h : RS w p l S) (hg : w.grownBy w' row) (hr : ∀ k, row = some k → p < k) : RS w' p l S :=
 h.below hg.size fun i hi => hg.block i (by have := h.lt; omega) (fun e => by have := hr i e.symm; omega)
theorem RS.setFar {w : World} {p g o : Nat} {l : List Nat} {S : Nat → Value} (h : RS w p l S) (hg : p < g) (v : Value) : RS (w.setCell ⟨g, o, none⟩ v) p l S :=
 h.below (by simp [World.setCell]) fun i hi => Below.heap_setCell _ _ _ _ (fun e => by simp at e; omega)
theorem On.grown {p : Nat} {w a b : World} {row : Option Nat} (h : On p w a) (hg : a.grownBy b row) (hr : ∀ k, row = some k → w.heap.size ≤ k) : On p w b :=
 ⟨hg.os.trans h.os, hg.tape.trans h.tape, hg.output.trans h.output, Nat.le_trans h.size hg.size, fun k hk hne => (hg.block k (Nat.lt_of_lt_of_le hk h.size) (fun e => by have := hr k e.symm; omega)).trans (h.block k hk hne)⟩
theorem On.setFar {p g o : Nat} {w a : World} (h : On p w a) (hg : w.heap.size ≤ g) (v : Value) : On p w (a.setCell ⟨g, o, none⟩ v) :=
 h.trans (⟨rfl, rfl, rfl, Nat.le_refl _, fun i hi hne => rfl⟩ : On p a a) |> fun h => ⟨h.os, h.tape, h.output, by simpa [World.setCell] using h.size, fun i hi hne => (Below.heap_setCell _ _ _ _ (fun e => by simp at e; omega)).trans (h.block i hi hne)⟩
theorem On.alloc {p : Nat} {w a : World} (h : On p w a) (o : Obj) : On p w (a.alloc o) := h.trans (On.of ((Ext.refl a).alloc o))
theorem Keeps.set {ts : List TypeId} {w : World} {g o n : Nat} {t : TypeId} {F : Nat → Value} (h : RW w g t n F) (ht : t ∉ ts) (v : Value) : Keeps ts w (w.setCell ⟨g, o, none⟩ v) :=
 ⟨by simp [World.setCell], fun i cur t' fz hi hm => Below.heap_setCell _ _ _ _ (fun e => by
  simp at e
  subst e
  unfold RW at h
  rw [hi] at h
  injection h with h
  injection h with _ h _
  subst h
  exact ht hm)⟩
def RE (w : World) (p : Nat) (S : Nat → Value) : Prop := ∃ r, RS w p r S
theorem RE.ext {w w' : World} {p : Nat} {S : Nat → Value} (h : RE w p S) (k : Ext w w') : RE w' p S := by
 obtain ⟨r, h⟩ := h
 exact ⟨r, h.ext k⟩
theorem RE.setFar {w : World} {p g o : Nat} {S : Nat → Value} (h : RE w p S) (hg : p < g) (v : Value) : RE (w.setCell ⟨g, o, none⟩ v) p S := by
 obtain ⟨r, h⟩ := h
 exact ⟨r, h.setFar hg v⟩
def RdPost {α : Type} (p : Nat) (S : Nat → Value) (z : Value) (w : World) (res : Except Nat (α × List Nat)) (V : World → Value → α → Prop) (e : Ending) (w' : World) : Prop :=
 (∃ x r v, res = .ok (x, r) ∧ e = .returned (.tuple #[v, .int .i64 0]) ∧ V w' v x ∧ RS w' p r S ∧ r.length ≤ 100000 ∧ On p w w') ∨
 (∃ c : Nat, res = .error c ∧ 0 < c ∧ c ≤ 14 ∧ e = .returned (.tuple #[z, .int .i64 (c : Int)]) ∧ On p w w' ∧ RE w' p S)
theorem shl_or (v b : Nat) (hv : v < 72057594037927936) (hb : b < 256) : bits .or .u64 ((v : Int) * 256) (b : Int) = ((v * 256 + b : Nat) : Int) := by
 rw [bits_join .u64 64 (by decide) (fun n h0 h1 => by simp [IntKind.wrap, IntKind.bits, IntKind.signed]; omega) 8 ((v : Int) * 256) (b : Int) (by omega) (by omega) (by omega) (by omega) (by omega) (by omega)]
 omega
set_option maxHeartbeats 2000000 in
theorem number_any (size p : Nat) (l : List Nat) (S : Nat → Value) (w : World) (hT : Hid (RS w p l S)) (hs0 : 1 ≤ size) (hs : size ≤ 8) (hl : l.length ≤ 100000) :
    Calls Tryz.prog 95 #[.pointer (some ⟨p, 0, none⟩), .int .i64 (size : Int)] w (RdPost p S (.int .u64 0) w (numP size l) WordR) := by
 obtain ⟨A, c, h1, h2, h3⟩ := hT.out
 have c0 := h1.cell (i := 0) (by omega)
 have z0 := h1.frozen 0
 have hsz := h1.lt
 rw [show rcF (.slice A l.length c) S 0 = .slice A l.length c from rfl] at c0
 have hr := h2.room
 obtain ⟨n, hn⟩ : ∃ n, n = l.length := ⟨_, rfl⟩
 rw [← hn] at c0 hr hl
 by_cases hlt : n < size
 ·have HE := Lib.hid (show numP size l = .error 2 by unfold numP; rw [if_pos (by omega)])
  have i1 : (n : Int) < (size : Int) := by omega
  have i2 : decide ((n : Int) < (size : Int)) = true := by simp; omega
  clear h1 h2 h3 hn
  go_enter Tryz.func95, Tryz.ntmps95
  go_wp2
  go_ret2
  exact .inr ⟨2, HE.out, by omega, by omega, rfl, On.refl _ _, _, hT.out⟩
 ·have HE := Lib.hid (show numP size l = .ok (be (l.take size), l.drop size) by unfold numP; rw [if_neg (by omega)])
  obtain ⟨ad, rfl, hb, hc⟩ := h2.cells (by omega)
  have i2 : decide ((n : Int) < (size : Int)) = false := by simp; omega
  have HC := Lib.hid hc
  have HL := Lib.hid h2.lt
  have HN := Lib.hid hn
  have H1 := Lib.hid h1
  have H2 := Lib.hid h2
  have H3 := Lib.hid h3
  have hba : ∀ k, k ≤ size → be (l.take k) < 256 ^ k := fun k hk => be_small (fun x hx => h2.lt x (List.mem_of_mem_take hx)) (by rw [List.length_take]; omega)
  have HB := Lib.hid hba
  clear h1 h2 h3 hc hn hba
  go_enter Tryz.func95, Tryz.ntmps95
  go_wp2
  go_loop [6, 23] (fun v iv => ∃ k : Nat, k ≤ size ∧ iv = .int .i64 (k : Int) ∧ v = .int .u64 ((be (l.take k) : Nat) : Int)) (fun _ iv => size - (intOf iv).toNat)
  case atStart => exact ⟨0, by omega, rfl, rfl⟩
  case round =>
   obtain ⟨k, hk, rfl, rfl⟩ := hrel
   by_cases hlt2 : k < size
   ·obtain ⟨x, hx⟩ : ∃ x, l[k]? = some x := ⟨_, List.getElem?_eq_getElem (show k < l.length by have := HN.out; omega)⟩
    have hcell := HC.out k x hx
    have hx1 := HL.out x (List.mem_of_getElem? hx)
    have HX := Lib.hid (be_take hx)
    clear hx
    have hv : be (l.take k) < 72057594037927936 := Nat.lt_of_lt_of_le (HB.out k (by omega)) (Nat.le_trans (Nat.pow_le_pow_right (by omega) (show k ≤ 7 by omega)) (by decide))
    obtain ⟨v, hv0⟩ : ∃ v, v = be (l.take k) := ⟨_, rfl⟩
    rw [← hv0] at HX hv ⊢
    have e1 := shl_or v x hv hx1
    clear hv0
    go_wp2
    exact ⟨⟨k + 1, by omega, by go_num, by rw [HX.out, Int.natCast_add, Int.natCast_mul]; rfl⟩, by simp [intOf]; omega⟩
   ·obtain rfl : k = size := by omega
    obtain ⟨v, hv0⟩ : ∃ v, v = be (l.take k) := ⟨_, rfl⟩
    have HV := Lib.hid hv0
    rw [← hv0]
    clear hv0
    have hdl : (l.drop k).length = n - k := by rw [List.length_drop, ← HN.out]
    have key : ∀ A' m, Hid (c - k = m) → Hid (∀ ad', some ad = some ad' → k < n → A' = some (ad'.add k)) → Hid (Asd p A') → Hid (RdPost p S (.int .u64 0) w (numP k l) WordR (.returned (.tuple #[.int .u64 (v : Int), .int .i64 0])) (w.setCell ⟨p, 0, none⟩ (.slice A' (n - k) m))) := by
     intro A' m hm hA hd
     have h9 : On p w (w.setCell ⟨p, 0, none⟩ (.slice A' (n - k) m)) := (On.refl p w).set 0 _
     refine Lib.hid (.inl ⟨v, l.drop k, _, by rw [HE.out, HV.out], rfl, ⟨rfl, ?_⟩, ⟨A', m, ?_, ?_, fun _ => hd.out⟩, by omega, h9⟩)
     ·rw [HV.out]
      exact be_word (fun x hx => HL.out x (List.mem_of_mem_take hx)) (by rw [List.length_take]; omega)
     ·rw [hdl]
      refine (H1.out.set (show 0 < 7 by omega) _).congr fun j hj => ?_
      unfold rcF
      by_cases e : j = 0
      ·subst e; simp
      ·simp [e]
     ·rw [hdl, ← hm.out]
      have := H2.out.drop (k := k) (by rw [← HN.out]; omega) (A' := A') (fun ad' e hk => hA.out ad' e (by rw [HN.out]; exact hk))
      rw [← HN.out] at this
      rw [hm.out] at this ⊢
      exact this.on h9 (fun _ => hd.out)
    clear hdl
    by_cases hc1 : c = k
    ·subst hc1
     have hK := key (some ad) 0 (Lib.hid (by omega)) (Lib.hid fun ad' e h => by omega) (Lib.hid (H3.out (by have := HN.out; omega)))
     clear key
     rw [show n - c = 0 by omega] at hK
     go_wp2
     go_ret2
     exact hK.out
    ·have hK := key (some (ad.add k)) (c - k) (Lib.hid rfl) (Lib.hid fun ad' e h => by injection e with e; rw [e]) (Lib.hid fun ad' e => by injection e with e; rw [← e, add_block]; exact H3.out (by have := HN.out; omega) ad rfl)
     clear key
     have had : ad.add k = ⟨ad.block, ad.off + k, none⟩ := by unfold Addr.add; rw [if_neg (by omega)]
     rw [had] at hK
     go_wp2
     go_ret2
     exact hK.out
def RdBy {α : Type} (fn : Nat) (cap : Array Value) (p : Nat) (S : Nat → Value) (z : Value) (w : World) (f : Pr α) (V : World → Value → α → Prop) : Prop :=
 ∀ l w1, On p w w1 → RS w1 p l S → l.length ≤ 100000 → Calls Tryz.prog fn (#[.pointer (some ⟨p, 0, none⟩)] ++ cap) w1 (RdPost p S z w1 (f l) V)
theorem RdPost.mono {α : Type} {p : Nat} {S : Nat → Value} {z : Value} {w0 w : World} {res : Except Nat (α × List Nat)} {V : World → Value → α → Prop} {e : Ending} {w' : World} (h : RdPost p S z w res V e w') (k : On p w0 w) : RdPost p S z w0 res V e w' := by
 rcases h with ⟨x, r, v, h1, h2, h3, h4, h5, h6⟩ | ⟨c, h1, h2, h3, h4, h5, h6⟩
 ·exact .inl ⟨x, r, v, h1, h2, h3, h4, h5, k.trans h6⟩
 ·exact .inr ⟨c, h1, h2, h3, h4, k.trans h5, h6⟩
theorem betP_num {n a b v : Nat} {l r : List Nat} (h : numP n l = .ok (v, r)) : betP n a b l = if v < a ∨ b < v then .error 3 else .ok (v, r) := bindP_ok h
set_option maxHeartbeats 2000000 in
theorem between_any (size a b p : Nat) (l : List Nat) (S : Nat → Value) (w : World) (hT : Hid (RS w p l S)) (hs0 : 1 ≤ size) (hs : size ≤ 8) (hl : l.length ≤ 100000) (ha : a < 18446744073709551616) (hb : b < 18446744073709551616) :
    Calls Tryz.prog 100 #[.pointer (some ⟨p, 0, none⟩), .int .i64 (size : Int), .int .u64 (a : Int), .int .u64 (b : Int)] w (RdPost p S (.int .u64 0) w (betP size a b l) WordR) := by
 go_enter Tryz.func100, Tryz.ntmps100
 go_wp2_with fail
 refine (number_any size p l S w hT hs0 hs hl).mono ?_
 rintro e w1 (⟨x, r, v, h1, rfl, ⟨rfl, hx⟩, h4, h5, h6⟩ | ⟨c, h1, h2, h3, rfl, h5, h7⟩)
 ·have HE := Lib.hid (betP_num (a := a) (b := b) h1)
  have H4 := Lib.hid h4
  have H6 := Lib.hid h6
  clear h1 h4 h6
  by_cases g0 : x < a
  ·have e0 : decide ((x : Int) < (a : Int)) = true := by simp; omega
   have HR := Lib.hid (show betP size a b l = .error 3 by rw [HE.out, if_pos (.inl g0)])
   go_wp2
   all_goals first
    | (exfalso; omega)
    | (go_ret2; exact .inr ⟨3, HR.out, by omega, by omega, rfl, H6.out, _, H4.out⟩)
  ·have e0 : decide ((x : Int) < (a : Int)) = false := by simp; omega
   by_cases g1 : b < x
   ·have e1 : decide ((b : Int) < (x : Int)) = true := by simp; omega
    have HR := Lib.hid (show betP size a b l = .error 3 by rw [HE.out, if_pos (.inr g1)])
    go_wp2
    all_goals first
     | (exfalso; omega)
     | (go_ret2; exact .inr ⟨3, HR.out, by omega, by omega, rfl, H6.out, _, H4.out⟩)
   ·have e1 : decide ((b : Int) < (x : Int)) = false := by simp; omega
    have HR := Lib.hid (show betP size a b l = .ok (x, r) by rw [HE.out, if_neg (by omega)])
    go_wp2
    all_goals first
     | (exfalso; omega)
     | (go_ret2; exact .inl ⟨x, r, _, HR.out, rfl, ⟨rfl, hx⟩, H4.out, h5, H6.out⟩)
 ·have HR := Lib.hid (show betP size a b l = .error c from bindP_err h1)
  have H5 := Lib.hid h5
  have i0 : decide ((c : Int) = 0) = false := by simp; omega
  have i1 : ¬ (c : Int) = 0 := by omega
  clear h1 h5
  go_wp2
  go_ret2
  exact .inr ⟨c, HR.out, h2, h3, rfl, H5.out, h7⟩
set_option maxHeartbeats 2000000 in
theorem prime_any (p : Nat) (l : List Nat) (S : Nat → Value) (w : World) (hT : Hid (RS w p l S)) (hl : l.length ≤ 100000) :
    Calls Tryz.prog 141 #[.pointer (some ⟨p, 0, none⟩)] w (RdPost p S (.int .u64 0) w (numP 8 l) WordR) := by
 go_enter Tryz.func141, Tryz.ntmps141
 go_wp2_with fail
 refine (number_any 8 p l S w hT (by omega) (by omega) hl).mono ?_
 intro e w1 h
 rcases h with ⟨x, r, v, h1, rfl, h3, h4, h5, h6⟩ | ⟨c, h1, h2, h3, rfl, h5, h7⟩
 ·have H := Lib.hid (show RdPost p S (.int .u64 0) w (numP 8 l) WordR (.returned (.tuple #[v, .int .i64 0])) w1 from .inl ⟨x, r, v, h1, rfl, h3, h4, h5, h6⟩)
  clear h1 h3 h4 h6
  go_wp2
  go_ret2
  exact H.out
 ·have H := Lib.hid (show RdPost p S (.int .u64 0) w (numP 8 l) WordR (.returned (.tuple #[.int .u64 0, .int .i64 (c : Int)])) w1 from .inr ⟨c, h1, h2, h3, rfl, h5, h7⟩)
  clear h1 h5
  go_wp2
  go_ret2
  exact H.out
theorem one_val {v : Value} (h : v.oneCell' = true) : ∀ u ∈ [v], u.oneCell' = true := by intro u hu; simp at hu; subst hu; exact h
theorem one_atU {w : World} {g : Nat} {t : TypeId} {u : Value} (hg : g = w.heap.size) : ∀ (j : Nat) (x : Value), [u][j]? = some x → (w.alloc (.cells #[u] t)).cell? ((⟨g, 0, none⟩ : Addr).add j) = some x := by
 intro j x hx
 subst hg
 rcases j with _ | j
 ·simp at hx; subst hx; simp [Addr.add]
 ·simp at hx
theorem info_i64U : (Tryz.prog.info? 2).map (fun i => (i.zero, i.size, i.bytes)) = some (some (.int .i64 0), 1, 8) := by kernel_rfl
set_option maxHeartbeats 4000000 in
theorem manyW_any (fn : Nat) (cap : Array Value) (f : Pr Nat) (count p : Nat) (l : List Nat) (S : Nat → Value) (z : Value) (w : World) (hT : Hid (RS w p l S)) (hl : l.length ≤ 100000) (hc : count ≤ 100000) (hE : Hid (EntersV fn)) (hG : Hid (RdBy fn cap p S (.int .u64 0) w f WordR)) :
    Calls Tryz.prog 140 #[.pointer (some ⟨p, 0, none⟩), .int .i64 (count : Int), .func (.func fn) #[] cap] w (RdPost p S (.slice none 0 0) w (manyP f count l) (LV 22 WordR)) := by
 obtain ⟨i0, hi, hz0, hz1, hz2⟩ := info_parts info_u64
 have hpw := hT.out.lt
 go_enter Tryz.func140, Tryz.ntmps140
 go_wp2
 go_loopw [8, 12] (fun v iv wr => ∃ (k : Nat) (xs : List Nat) (l1 : List Nat), k ≤ count ∧ iv = .int .i64 (k : Int) ∧ Hid (xs.length = k) ∧ Hid (manyP f count l = aft xs (manyP f (count - k) l1)) ∧ Hid (GR w.heap.size 22 WordR wr v xs) ∧ Hid (RS wr p l1 S) ∧ l1.length ≤ 100000 ∧ Hid (On p w wr) ∧ w.heap.size ≤ wr.heap.size) (fun _ iv _ => count - (intOf iv).toNat)
 case atStart => exact ⟨0, [], l, by omega, rfl, Lib.hid rfl, Lib.hid (aft_nil _).symm, Lib.hid (GR.nil _ _ _ _), hT, hl, Lib.hid (On.refl _ _), Nat.le_refl _⟩
 case round =>
  obtain ⟨k, xs, l1, hk, rfl, hx, hm, hgr, hrs, hl1, hon, hsz⟩ := hrel
  by_cases hlt : k < count
  ·go_wp2_with fail
   rw [hE.out, Oper.upon_enter]
   refine (hG.out l1 _ hon.out hrs.out hl1).mono ?_
   rintro ee w2 (⟨x, r, v2, h1, rfl, ⟨rfl, hv⟩, h4, h5, h6⟩ | ⟨c, h1, h2, h3, rfl, h5, h7⟩)
   ·have HM := Lib.hid (show manyP f count l = aft (xs ++ [x]) (manyP f (count - (k + 1)) r) by
       rw [hm.out, show count - k = (count - (k + 1)) + 1 by omega, manyP_ok h1, aft_aft])
    have H4 := Lib.hid h4
    have H6 := Lib.hid h6
    have HON := Lib.hid (hon.out.trans h6)
    have hs2 := h6.size
    have HKp := Lib.hid (hrs.out.keeps (ts := 22 :: ([] : List TypeId)) h6 (by decide))
    have HG2 := Lib.hid (hgr.out.keeps (ts := ([] : List TypeId)) (wordR_stays _) HKp.out)
    obtain ⟨us, ho, hu⟩ := HG2.out
    rw [hx.out] at ho
    have HO := Lib.hid ho
    have HU := Lib.hid hu
    clear h1 h4 h6 ho hu
    go_wp2_with (at_builtin; go_loud (refine wpList_append_own _ rfl _ _ 23 rfl w.heap.size 22 i0 (.int .u64 0) 1 8 Tryz.underlying23 hi hz0 hz1 hz2 rfl (by decide) _ _ _ rfl (HO.out.alloc _) ⟨_, 0, none⟩ 1 1 [.int .u64 (x : Int)] rfl rfl one_cell one_int (by unfold maxLen; omega) (by omega) (by simp; omega) ?_; intro v3 w3 hown3 hgrow3 _))
    have HF := Lib.hid (show GR w.heap.size 22 WordR w3 v3 (xs ++ [x]) ∧ RS w3 p r S ∧ On p w w3 from by
     have hb := HO.out.lt
     exact ⟨GR.push (ts := ([] : List TypeId)) (wordR_stays _) (by decide) HU.out (by rw [hx.out]; exact HO.out) ⟨rfl, hv⟩ (by rw [hx.out]; exact hown3) hgrow3, (H4.out.ext ((Ext.refl _).alloc _)).grown hgrow3 (fun k e => by have := hb k e; omega), (HON.out.alloc _).grown hgrow3 (fun k e => (hb k e).1)⟩)
    have hs3 := hgrow3.size
    exact ⟨⟨k + 1, xs ++ [x], r, by omega, by go_num, Lib.hid (by rw [List.length_append, hx.out]; rfl), HM, Lib.hid HF.out.1, Lib.hid HF.out.2.1, h5, Lib.hid HF.out.2.2, by simp at hs3; omega⟩, by simp [intOf]; omega⟩
   ·have HM := Lib.hid (show manyP f count l = .error c by
       rw [hm.out, show count - k = (count - (k + 1)) + 1 by omega, manyP_err h1]; rfl)
    have HON := Lib.hid (hon.out.trans h5)
    have i1 : ¬ (c : Int) = 0 := by omega
    clear h1 h5
    go_wp2
    go_ret2
    exact .inr ⟨c, HM.out, h2, h3, rfl, HON.out, h7⟩
  ·obtain rfl : k = count := by omega
   have HM := Lib.hid (show manyP f k l = .ok (xs, l1) by
    rw [hm.out, Nat.sub_self]; simp [manyP, aft])
   go_wp2
   go_ret2
   exact .inl ⟨xs, l1, _, HM.out, rfl, hgr.out.lv, hrs.out, hl1, hon.out⟩
set_option maxHeartbeats 4000000 in
theorem manyI_any (fn : Nat) (cap : Array Value) (f : Pr Int) (count p : Nat) (l : List Nat) (S : Nat → Value) (z : Value) (w : World) (hT : Hid (RS w p l S)) (hl : l.length ≤ 100000) (hc : count ≤ 100000) (hE : Hid (EntersV fn)) (hG : Hid (RdBy fn cap p S (.int .i64 0) w f SignR)) :
    Calls Tryz.prog 105 #[.pointer (some ⟨p, 0, none⟩), .int .i64 (count : Int), .func (.func fn) #[] cap] w (RdPost p S (.slice none 0 0) w (manyP f count l) (LV 2 SignR)) := by
 obtain ⟨i0, hi, hz0, hz1, hz2⟩ := info_parts info_i64U
 have hpw := hT.out.lt
 go_enter Tryz.func105, Tryz.ntmps105
 go_wp2
 go_loopw [8, 12] (fun v iv wr => ∃ (k : Nat) (xs : List Int) (l1 : List Nat), k ≤ count ∧ iv = .int .i64 (k : Int) ∧ Hid (xs.length = k) ∧ Hid (manyP f count l = aft xs (manyP f (count - k) l1)) ∧ Hid (GR w.heap.size 2 SignR wr v xs) ∧ Hid (RS wr p l1 S) ∧ l1.length ≤ 100000 ∧ Hid (On p w wr) ∧ w.heap.size ≤ wr.heap.size) (fun _ iv _ => count - (intOf iv).toNat)
 case atStart => exact ⟨0, [], l, by omega, rfl, Lib.hid rfl, Lib.hid (aft_nil _).symm, Lib.hid (GR.nil _ _ _ _), hT, hl, Lib.hid (On.refl _ _), Nat.le_refl _⟩
 case round =>
  obtain ⟨k, xs, l1, hk, rfl, hx, hm, hgr, hrs, hl1, hon, hsz⟩ := hrel
  by_cases hlt : k < count
  ·go_wp2_with fail
   rw [hE.out, Oper.upon_enter]
   refine (hG.out l1 _ hon.out hrs.out hl1).mono ?_
   rintro ee w2 (⟨x, r, v2, h1, rfl, ⟨rfl, hv⟩, h4, h5, h6⟩ | ⟨c, h1, h2, h3, rfl, h5, h7⟩)
   ·have HM := Lib.hid (show manyP f count l = aft (xs ++ [x]) (manyP f (count - (k + 1)) r) by
       rw [hm.out, show count - k = (count - (k + 1)) + 1 by omega, manyP_ok h1, aft_aft])
    have H4 := Lib.hid h4
    have H6 := Lib.hid h6
    have HON := Lib.hid (hon.out.trans h6)
    have hs2 := h6.size
    have HKp := Lib.hid (hrs.out.keeps (ts := 2 :: ([] : List TypeId)) h6 (by decide))
    have HG2 := Lib.hid (hgr.out.keeps (ts := ([] : List TypeId)) (signR_stays _) HKp.out)
    obtain ⟨us, ho, hu⟩ := HG2.out
    rw [hx.out] at ho
    have HO := Lib.hid ho
    have HU := Lib.hid hu
    clear h1 h4 h6 ho hu
    go_wp2_with (at_builtin; go_loud (refine wpList_append_own _ rfl _ _ 34 rfl w.heap.size 2 i0 (.int .i64 0) 1 8 Tryz.underlying34 hi hz0 hz1 hz2 rfl (by decide) _ _ _ rfl (HO.out.alloc _) ⟨_, 0, none⟩ 1 1 [.int .i64 x] rfl rfl one_cell (one_val rfl) (by unfold maxLen; omega) (by omega) (by simp; omega) ?_; intro v3 w3 hown3 hgrow3 _))
    have HF := Lib.hid (show GR w.heap.size 2 SignR w3 v3 (xs ++ [x]) ∧ RS w3 p r S ∧ On p w w3 from by
     have hb := HO.out.lt
     exact ⟨GR.push (ts := ([] : List TypeId)) (signR_stays _) (by decide) HU.out (by rw [hx.out]; exact HO.out) ⟨rfl, hv⟩ (by rw [hx.out]; exact hown3) hgrow3, (H4.out.ext ((Ext.refl _).alloc _)).grown hgrow3 (fun k e => by have := hb k e; omega), (HON.out.alloc _).grown hgrow3 (fun k e => (hb k e).1)⟩)
    have hs3 := hgrow3.size
    exact ⟨⟨k + 1, xs ++ [x], r, by omega, by go_num, Lib.hid (by rw [List.length_append, hx.out]; rfl), HM, Lib.hid HF.out.1, Lib.hid HF.out.2.1, h5, Lib.hid HF.out.2.2, by simp at hs3; omega⟩, by simp [intOf]; omega⟩
   ·have HM := Lib.hid (show manyP f count l = .error c by
       rw [hm.out, show count - k = (count - (k + 1)) + 1 by omega, manyP_err h1]; rfl)
    have HON := Lib.hid (hon.out.trans h5)
    have i1 : ¬ (c : Int) = 0 := by omega
    clear h1 h5
    go_wp2
    go_ret2
    exact .inr ⟨c, HM.out, h2, h3, rfl, HON.out, h7⟩
  ·obtain rfl : k = count := by omega
   have HM := Lib.hid (show manyP f k l = .ok (xs, l1) by
    rw [hm.out, Nat.sub_self]; simp [manyP, aft])
   go_wp2
   go_ret2
   exact .inl ⟨xs, l1, _, HM.out, rfl, hgr.out.lv, hrs.out, hl1, hon.out⟩
def DoBy {α β : Type} (fn : Nat) (p : Nat) (S : Nat → Value) (z : Value) (w : World) (qs : List β) (arg : β → Value) (f : β → Pr α) (V : World → Value → α → Prop) : Prop :=
 ∀ (j : Nat) (q : β) (l : List Nat) (w1 : World), qs[j]? = some q → On p w w1 → RS w1 p l S → l.length ≤ 100000 → Calls Tryz.prog fn #[.pointer (some ⟨p, 0, none⟩), arg q] w1 (RdPost p S z w1 (f q l) V)
def EachL {α : Type} (t : TypeId) (V : World → Value → α → Prop) (w : World) (g L : Nat) (z : Value) (xs : List α) : Prop :=
 ∃ U : Nat → Value, RW w g t L (fun j => if j < xs.length then U j else z) ∧ ∀ (j : Nat) (x : α), xs[j]? = some x → V w (U j) x
theorem EachL.keeps {α : Type} {t : TypeId} {V : World → Value → α → Prop} {w w' : World} {g L : Nat} {z : Value} {xs : List α} {ts : List TypeId} (hV : Stays ts V) (h : EachL t V w g L z xs) (k : Keeps (t :: ts) w w') : EachL t V w' g L z xs := by
 obtain ⟨U, h1, h2⟩ := h
 exact ⟨U, RW.keep h1 (k.block _ _ _ _ h1 (by simp)), fun j x hx => hV _ _ _ _ (k.sub fun t ht => by simp [ht]) (h2 j x hx)⟩
theorem EachL.push {α : Type} {t : TypeId} {V : World → Value → α → Prop} {w : World} {g L : Nat} {z u : Value} {xs : List α} {x : α} {ts : List TypeId} (hV : Stays ts V) (ht : t ∉ ts) (h : EachL t V w g L z xs) (hl : xs.length < L) (hx : V w u x) :
    EachL t V (w.setCell ⟨g, xs.length, none⟩ u) g L z (xs ++ [x]) := by
 obtain ⟨U, h1, h2⟩ := h
 have kk : Keeps ts w (w.setCell ⟨g, xs.length, none⟩ u) := Keeps.set h1 ht u
 refine ⟨fun j => if j = xs.length then u else U j, (h1.set hl u).congr fun j hj => ?_, fun j y hy => ?_⟩
 ·by_cases e : j = xs.length
  ·subst e; simp
  ·by_cases e2 : j < xs.length
   ·simp only [if_neg e, if_pos e2, List.length_append, List.length_cons, List.length_nil]
    rw [if_pos (by omega)]
   ·simp only [if_neg e, if_neg e2, List.length_append, List.length_cons, List.length_nil]
    rw [if_neg (by omega)]
 ·rcases Nat.lt_trichotomy j xs.length with g' | g' | g'
  ·rw [List.getElem?_append_left g'] at hy
   simp only [if_neg (show ¬ j = xs.length by omega)]
   exact hV _ _ _ _ kk (h2 j y hy)
  ·subst g'
   rw [List.getElem?_append_right (Nat.le_refl _)] at hy
   simp at hy
   subst hy
   simp only [if_true]
   exact hV _ _ _ _ kk hx
  ·rw [List.getElem?_eq_none (by simp; omega)] at hy
   cases hy
theorem EachL.lv {α : Type} {t : TypeId} {V : World → Value → α → Prop} {w : World} {g L : Nat} {z : Value} {xs : List α} (h : EachL t V w g L z xs) (hl : xs.length = L) : LV t V w (.slice (some ⟨g, 0, none⟩) L L) xs := by
 obtain ⟨U, h1, h2⟩ := h
 refine ⟨_, L, by rw [hl], by omega, fun ad e => by injection e with e; subst e; exact ⟨_, _, h1⟩, fun hn => ⟨_, rfl, fun j x hx => ?_⟩⟩
 have hj : j < xs.length := (List.getElem?_eq_some_iff.1 hx).1
 refine ⟨U j, ?_, h2 j x hx⟩
 have := h1.cell (i := j) (by omega)
 rw [if_pos hj] at this
 rw [← this]
 congr 1
 unfold Addr.add
 by_cases e : j = 0
 ·subst e; rfl
 ·simp [e]
set_option maxHeartbeats 4000000 in
theorem eachS_any (fn p c L : Nat) (A : Option Addr) (qs : List Nat) (f : Nat → Pr (List Nat)) (l : List Nat) (S : Nat → Value) (w : World) (hT : Hid (RS w p l S)) (hl : l.length ≤ 100000) (hL : Hid (qs.length = L)) (hL2 : L ≤ 1000) (hQ : Hid (LY 22 WordR w A c qs)) (hE : Hid (EntersV fn)) (hG : Hid (DoBy fn p S (.slice none 0 0) w qs (fun q => .int .u64 (q : Int)) f WsR)) :
    Calls Tryz.prog 121 #[.slice A L c, .func (.func fn) #[.pointer (some ⟨p, 0, none⟩)] #[]] w (RdPost p S (.slice none 0 0) w (eachP f qs l) (LV 23 WsR)) := by
 have hmk := make_ss L (by omega)
 have hpw := hT.out.lt
 go_enter Tryz.func121, Tryz.ntmps121
 go_wp2
 clear hmk
 have hrw := newS_rw w L
 have HT0 := Lib.hid (hT.out.ext ((Ext.refl w).alloc (.cells (newS L) 23)))
 have HO0 := Lib.hid ((On.refl p w).alloc (.cells (newS L) 23))
 have HE0 := Lib.hid (show EachL 23 WsR (w.alloc (.cells (newS L) 23)) w.heap.size L (.slice none 0 0) [] from ⟨fun _ => (.slice none 0 0), hrw.congr fun i hi => by simp, fun j x h => by simp at h⟩)
 clear hrw
 have hs0 : (w.alloc (.cells (newS L) 23)).heap.size = w.heap.size + 1 := by simp
 generalize w.alloc (.cells (newS L) 23) = V at *
 go_loopw [15] (fun iv wr => ∃ (k : Nat) (xs : List (List Nat)) (l1 : List Nat), k ≤ L ∧ iv = .int .i64 (k : Int) ∧ Hid (xs.length = k) ∧ Hid (eachP f qs l = aft xs (eachP f (qs.drop k) l1)) ∧ Hid (EachL 23 WsR wr w.heap.size L (.slice none 0 0) xs) ∧ Hid (RS wr p l1 S) ∧ l1.length ≤ 100000 ∧ Hid (On p w wr)) (fun iv _ => L - (intOf iv).toNat)
 case atStart => exact ⟨0, [], l, by omega, rfl, Lib.hid rfl, Lib.hid (by rw [List.drop_zero, aft_nil]), HE0, HT0, hl, HO0⟩
 case round =>
  obtain ⟨k, xs, l1, hk, rfl, hx, hm, hgr, hrs, hl1, hon⟩ := hrel
  by_cases hlt : k < L
  ·obtain ⟨q, hq⟩ : ∃ q, qs[k]? = some q := ⟨_, List.getElem?_eq_getElem (show k < qs.length by have := hL.out; omega)⟩
   have HQ := Lib.hid hq
   have hqd : qs.drop k = q :: qs.drop (k + 1) := by
    obtain ⟨h1, h2⟩ := List.getElem?_eq_some_iff.1 hq
    rw [List.drop_eq_getElem_cons h1, h2]
   have HD := Lib.hid hqd
   clear hq hqd
   obtain ⟨ad, rfl, hc⟩ := (hQ.out.keeps (wordR_stays _) (by decide) (hT.out.keeps (ts := [22]) hon.out (by decide))).cells (by rw [hL.out]; omega)
   obtain ⟨uq, hcell, rfl, hq1⟩ := hc k q HQ.out
   clear hc
   go_wp2_with fail
   rw [hE.out, Oper.upon_enter]
   refine (hG.out k q l1 _ HQ.out hon.out hrs.out hl1).mono ?_
   rintro ee w2 (⟨x, r, v2, h1, rfl, hv, h4, h5, h6⟩ | ⟨cc, h1, h2, h3, rfl, h5, h7⟩)
   ·have HM := Lib.hid (show eachP f qs l = aft (xs ++ [x]) (eachP f (qs.drop (k + 1)) r) by
       rw [hm.out, HD.out, eachP_ok h1, aft_aft])
    have HKp := Lib.hid (hrs.out.keeps (ts := 23 :: [22]) h6 (by decide))
    have HG2 := Lib.hid (hgr.out.keeps (ts := [22]) (wsR_stays (by decide)) HKp.out)
    have H4 := Lib.hid h4
    have HON := Lib.hid (hon.out.trans h6)
    obtain ⟨A5, c5, rfl, hv5⟩ := hv
    have HV := Lib.hid (show WsR w2 (.slice A5 x.length c5) x from ⟨A5, c5, rfl, hv5⟩)
    clear hv5
    obtain ⟨U, e1, e2⟩ := HG2.out
    have c0 := e1.cell (i := k) (by omega)
    have z0 := e1.frozen k
    simp only [hx.out, Nat.lt_irrefl, if_false] at c0
    have HP := Lib.hid (show EachL 23 WsR (w2.setCell ⟨w.heap.size, k, none⟩ (.slice A5 x.length c5)) w.heap.size L (.slice none 0 0) (xs ++ [x]) by
     have := EachL.push (ts := [22]) (wsR_stays (by decide)) (by decide) HG2.out (by rw [hx.out]; exact hlt) HV.out
     rw [hx.out] at this
     exact this)
    have HR := Lib.hid (show RS (w2.setCell ⟨w.heap.size, k, none⟩ (.slice A5 x.length c5)) p r S from H4.out.setFar hpw _)
    have HO2 := Lib.hid (show On p w (w2.setCell ⟨w.heap.size, k, none⟩ (.slice A5 x.length c5)) from HON.out.setFar (Nat.le_refl _) _)
    clear h1 h4 h6 e1 e2
    go_wp2
    exact ⟨⟨k + 1, xs ++ [x], r, by omega, by go_num, Lib.hid (by rw [List.length_append, hx.out]; rfl), HM, HP, HR, h5, HO2⟩, by simp [intOf]; omega⟩
   ·have HM := Lib.hid (show eachP f qs l = .error cc by
       rw [hm.out, HD.out, eachP_err h1]; rfl)
    have HKp := Lib.hid (hrs.out.keeps (ts := 23 :: [22]) h5 (by decide))
    have HG2 := Lib.hid (hgr.out.keeps (ts := [22]) (wsR_stays (by decide)) HKp.out)
    have HON := Lib.hid (hon.out.trans h5)
    obtain ⟨U, e1, e2⟩ := HG2.out
    have c0 := e1.cell (i := k) (by omega)
    have z0 := e1.frozen k
    simp only [hx.out, Nat.lt_irrefl, if_false] at c0
    have HO2 := Lib.hid (show On p w (w2.setCell ⟨w.heap.size, k, none⟩ (.slice none 0 0)) from HON.out.setFar (Nat.le_refl _) _)
    have i1 : ¬ (cc : Int) = 0 := by omega
    clear h1 h5 e1 e2
    go_wp2
    go_ret2
    exact .inr ⟨cc, HM.out, h2, h3, rfl, HO2.out, h7.setFar hpw _⟩
  ·obtain rfl : k = L := by omega
   have HM := Lib.hid (show eachP f qs l = .ok (xs, l1) by
    rw [hm.out, List.drop_eq_nil_of_le (by rw [hL.out]; omega)]; simp [eachP, aft])
   go_wp2
   go_ret2
   exact .inl ⟨xs, l1, _, HM.out, rfl, hgr.out.lv hx.out, hrs.out, hl1, hon.out⟩
set_option maxHeartbeats 4000000 in
theorem eachW_any (fn p c L : Nat) (A : Option Addr) (qs : List Nat) (f : Nat → Pr Nat) (l : List Nat) (S : Nat → Value) (w : World) (hT : Hid (RS w p l S)) (hl : l.length ≤ 100000) (hL : Hid (qs.length = L)) (hL2 : L ≤ 1000) (hQ : Hid (LY 3 (fun _ v (x : Nat) => v = .int .i64 (x : Int)) w A c qs)) (hE : Hid (EntersV fn)) (hG : Hid (DoBy fn p S (.int .u64 0) w qs (fun q => .int .i64 (q : Int)) f WordR)) :
    Calls Tryz.prog 139 #[.slice A L c, .func (.func fn) #[.pointer (some ⟨p, 0, none⟩)] #[]] w (RdPost p S (.slice none 0 0) w (eachP f qs l) (LV 22 WordR)) := by
 have hmk := make_u64 L (by omega)
 have hpw := hT.out.lt
 go_enter Tryz.func139, Tryz.ntmps139
 go_wp2
 clear hmk
 have hrw := newU_uw w L
 have HT0 := Lib.hid (hT.out.ext ((Ext.refl w).alloc (.cells (newU L) 22)))
 have HO0 := Lib.hid ((On.refl p w).alloc (.cells (newU L) 22))
 have HE0 := Lib.hid (show EachL 22 WordR (w.alloc (.cells (newU L) 22)) w.heap.size L (.int .u64 0) [] from ⟨fun _ => (.int .u64 0), hrw.congr fun i hi => by simp, fun j x h => by simp at h⟩)
 clear hrw
 have hs0 : (w.alloc (.cells (newU L) 22)).heap.size = w.heap.size + 1 := by simp
 generalize w.alloc (.cells (newU L) 22) = V at *
 go_loopw [15] (fun iv wr => ∃ (k : Nat) (xs : List Nat) (l1 : List Nat), k ≤ L ∧ iv = .int .i64 (k : Int) ∧ Hid (xs.length = k) ∧ Hid (eachP f qs l = aft xs (eachP f (qs.drop k) l1)) ∧ Hid (EachL 22 WordR wr w.heap.size L (.int .u64 0) xs) ∧ Hid (RS wr p l1 S) ∧ l1.length ≤ 100000 ∧ Hid (On p w wr)) (fun iv _ => L - (intOf iv).toNat)
 case atStart => exact ⟨0, [], l, by omega, rfl, Lib.hid rfl, Lib.hid (by rw [List.drop_zero, aft_nil]), HE0, HT0, hl, HO0⟩
 case round =>
  obtain ⟨k, xs, l1, hk, rfl, hx, hm, hgr, hrs, hl1, hon⟩ := hrel
  by_cases hlt : k < L
  ·obtain ⟨q, hq⟩ : ∃ q, qs[k]? = some q := ⟨_, List.getElem?_eq_getElem (show k < qs.length by have := hL.out; omega)⟩
   have HQ := Lib.hid hq
   have hqd : qs.drop k = q :: qs.drop (k + 1) := by
    obtain ⟨h1, h2⟩ := List.getElem?_eq_some_iff.1 hq
    rw [List.drop_eq_getElem_cons h1, h2]
   have HD := Lib.hid hqd
   clear hq hqd
   obtain ⟨ad, rfl, hc⟩ := (hQ.out.keeps (fun _ _ _ _ _ h => h) (by decide) (hT.out.keeps (ts := [3]) hon.out (by decide))).cells (by rw [hL.out]; omega)
   obtain ⟨uq, hcell, rfl⟩ := hc k q HQ.out
   clear hc
   go_wp2_with fail
   rw [hE.out, Oper.upon_enter]
   refine (hG.out k q l1 _ HQ.out hon.out hrs.out hl1).mono ?_
   rintro ee w2 (⟨x, r, v2, h1, rfl, hv, h4, h5, h6⟩ | ⟨cc, h1, h2, h3, rfl, h5, h7⟩)
   ·have HM := Lib.hid (show eachP f qs l = aft (xs ++ [x]) (eachP f (qs.drop (k + 1)) r) by
       rw [hm.out, HD.out, eachP_ok h1, aft_aft])
    have HKp := Lib.hid (hrs.out.keeps (ts := 22 :: ([] : List TypeId)) h6 (by decide))
    have HG2 := Lib.hid (hgr.out.keeps (ts := ([] : List TypeId)) (wordR_stays _) HKp.out)
    have H4 := Lib.hid h4
    have HON := Lib.hid (hon.out.trans h6)
    obtain ⟨rfl, hv5⟩ := hv
    have HV := Lib.hid (show WordR w2 (.int .u64 (x : Int)) x from ⟨rfl, hv5⟩)
    clear hv5
    obtain ⟨U, e1, e2⟩ := HG2.out
    have c0 := e1.cell (i := k) (by omega)
    have z0 := e1.frozen k
    simp only [hx.out, Nat.lt_irrefl, if_false] at c0
    have HP := Lib.hid (show EachL 22 WordR (w2.setCell ⟨w.heap.size, k, none⟩ (.int .u64 (x : Int))) w.heap.size L (.int .u64 0) (xs ++ [x]) by
     have := EachL.push (ts := ([] : List TypeId)) (wordR_stays _) (by decide) HG2.out (by rw [hx.out]; exact hlt) HV.out
     rw [hx.out] at this
     exact this)
    have HR := Lib.hid (show RS (w2.setCell ⟨w.heap.size, k, none⟩ (.int .u64 (x : Int))) p r S from H4.out.setFar hpw _)
    have HO2 := Lib.hid (show On p w (w2.setCell ⟨w.heap.size, k, none⟩ (.int .u64 (x : Int))) from HON.out.setFar (Nat.le_refl _) _)
    clear h1 h4 h6 e1 e2
    go_wp2
    exact ⟨⟨k + 1, xs ++ [x], r, by omega, by go_num, Lib.hid (by rw [List.length_append, hx.out]; rfl), HM, HP, HR, h5, HO2⟩, by simp [intOf]; omega⟩
   ·have HM := Lib.hid (show eachP f qs l = .error cc by
       rw [hm.out, HD.out, eachP_err h1]; rfl)
    have HKp := Lib.hid (hrs.out.keeps (ts := 22 :: ([] : List TypeId)) h5 (by decide))
    have HG2 := Lib.hid (hgr.out.keeps (ts := ([] : List TypeId)) (wordR_stays _) HKp.out)
    have HON := Lib.hid (hon.out.trans h5)
    obtain ⟨U, e1, e2⟩ := HG2.out
    have c0 := e1.cell (i := k) (by omega)
    have z0 := e1.frozen k
    simp only [hx.out, Nat.lt_irrefl, if_false] at c0
    have HO2 := Lib.hid (show On p w (w2.setCell ⟨w.heap.size, k, none⟩ (.int .u64 0)) from HON.out.setFar (Nat.le_refl _) _)
    have i1 : ¬ (cc : Int) = 0 := by omega
    clear h1 h5 e1 e2
    go_wp2
    go_ret2
    exact .inr ⟨cc, HM.out, h2, h3, rfl, HO2.out, h7.setFar hpw _⟩
  ·obtain rfl : k = L := by omega
   have HM := Lib.hid (show eachP f qs l = .ok (xs, l1) by
    rw [hm.out, List.drop_eq_nil_of_le (by rw [hL.out]; omega)]; simp [eachP, aft])
   go_wp2
   go_ret2
   exact .inl ⟨xs, l1, _, HM.out, rfl, hgr.out.lv hx.out, hrs.out, hl1, hon.out⟩
def AgR {α : Type} (R : World → Value → α → Prop) (w : World) (v : Value) (x : α) : Prop := ∃ u, v = .agg #[u] ∧ R w u x
theorem info_poly : (Tryz.prog.info? 31).map (fun i => (i.zero, i.size, i.bytes)) = some (some (.agg #[.slice none 0 0]), 1, 24) := by kernel_rfl
theorem elR_slice {w : World} {u : Value} {x : List (List Nat)} (h : ElR w u x) : ∃ A c, u = .slice A x.length c := by
 obtain ⟨A, c, e, _⟩ := h
 exact ⟨A, c, e⟩
set_option maxHeartbeats 4000000 in
theorem manyP_any (fn : Nat) (cap : Array Value) (f : Pr (List (List Nat))) (count p : Nat) (l : List Nat) (S : Nat → Value) (z : Value) (w : World) (hT : Hid (RS w p l S)) (hl : l.length ≤ 100000) (hc : count ≤ 100000) (hE : Hid (EntersV fn)) (hG : Hid (RdBy fn cap p S (.agg #[.slice none 0 0]) w f (AgR ElR))) :
    Calls Tryz.prog 101 #[.pointer (some ⟨p, 0, none⟩), .int .i64 (count : Int), .func (.func fn) #[] cap] w (RdPost p S (.slice none 0 0) w (manyP f count l) (LV 31 ElR)) := by
 obtain ⟨i0, hi, hz0, hz1, hz2⟩ := info_parts info_poly
 have hpw := hT.out.lt
 go_enter Tryz.func101, Tryz.ntmps101
 go_wp2
 go_loopw [8, 12] (fun v iv wr => ∃ (k : Nat) (xs : List (List (List Nat))) (l1 : List Nat), k ≤ count ∧ iv = .int .i64 (k : Int) ∧ Hid (xs.length = k) ∧ Hid (manyP f count l = aft xs (manyP f (count - k) l1)) ∧ Hid (GR w.heap.size 31 ElR wr v xs) ∧ Hid (RS wr p l1 S) ∧ l1.length ≤ 100000 ∧ Hid (On p w wr) ∧ w.heap.size ≤ wr.heap.size) (fun _ iv _ => count - (intOf iv).toNat)
 case atStart => exact ⟨0, [], l, by omega, rfl, Lib.hid rfl, Lib.hid (aft_nil _).symm, Lib.hid (GR.nil _ _ _ _), hT, hl, Lib.hid (On.refl _ _), Nat.le_refl _⟩
 case round =>
  obtain ⟨k, xs, l1, hk, rfl, hx, hm, hgr, hrs, hl1, hon, hsz⟩ := hrel
  by_cases hlt : k < count
  ·go_wp2_with fail
   rw [hE.out, Oper.upon_enter]
   refine (hG.out l1 _ hon.out hrs.out hl1).mono ?_
   rintro ee w2 (⟨x, r, v2, h1, rfl, ⟨u5, rfl, hv⟩, h4, h5, h6⟩ | ⟨c, h1, h2, h3, rfl, h5, h7⟩)
   ·have HM := Lib.hid (show manyP f count l = aft (xs ++ [x]) (manyP f (count - (k + 1)) r) by
       rw [hm.out, show count - k = (count - (k + 1)) + 1 by omega, manyP_ok h1, aft_aft])
    have H4 := Lib.hid h4
    have H6 := Lib.hid h6
    have HON := Lib.hid (hon.out.trans h6)
    have hs2 := h6.size
    have HKp := Lib.hid (hrs.out.keeps (ts := 31 :: [22, 23]) h6 (by decide))
    have HG2 := Lib.hid (hgr.out.keeps (ts := [22, 23]) (elR_stays (by decide) (by decide)) HKp.out)
    obtain ⟨us, ho, hu⟩ := HG2.out
    rw [hx.out] at ho
    have HO := Lib.hid ho
    have HU := Lib.hid hu
    obtain ⟨A5, c5, rfl⟩ := elR_slice hv
    have HV := Lib.hid hv
    clear hv
    have g0 : (w2.alloc (.cells #[.slice A5 x.length c5] 31)).cell? ⟨w2.heap.size, 0, none⟩ = some (.slice A5 x.length c5) := by simp
    clear h1 h4 h6 ho hu
    go_wp2_with (at_builtin; go_loud (refine wpList_append_own _ rfl _ _ 26 rfl w.heap.size 31 i0 (.agg #[.slice none 0 0]) 1 24 Tryz.underlying26 hi hz0 hz1 hz2 rfl (by decide) _ _ _ rfl ((HO.out.alloc _).alloc _) ⟨_, 0, none⟩ 1 1 [.slice A5 x.length c5] rfl rfl (one_atU (by simp)) one_slice (by unfold maxLen; omega) (by omega) (by simp; omega) ?_; intro v3 w3 hown3 hgrow3 _))
    have HF := Lib.hid (show GR w.heap.size 31 ElR w3 v3 (xs ++ [x]) ∧ RS w3 p r S ∧ On p w w3 from by
     have hb := HO.out.lt
     have kk : Keeps [22, 23] w2 (w2.alloc (.cells #[.slice A5 x.length c5] 31)) := Keeps.ext ((Ext.refl _).alloc _)
     exact ⟨GR.push (w := w2.alloc (.cells #[.slice A5 x.length c5] 31)) (ts := [22, 23]) (elR_stays (by decide) (by decide)) (by decide) (fun j x h => by obtain ⟨u, a, b⟩ := HU.out j x h; exact ⟨u, a, (elR_stays (by decide) (by decide)) _ _ _ _ kk b⟩) (by rw [hx.out]; exact HO.out.alloc _) ((elR_stays (by decide) (by decide)) _ _ _ _ kk HV.out) (by rw [hx.out]; exact hown3) hgrow3, (H4.out.ext (((Ext.refl _).alloc _).alloc _)).grown hgrow3 (fun k e => by have := hb k e; omega), ((HON.out.alloc _).alloc _).grown hgrow3 (fun k e => (hb k e).1)⟩)
    have hs3 := hgrow3.size
    exact ⟨⟨k + 1, xs ++ [x], r, by omega, by go_num, Lib.hid (by rw [List.length_append, hx.out]; rfl), HM, Lib.hid HF.out.1, Lib.hid HF.out.2.1, h5, Lib.hid HF.out.2.2, by simp at hs3; omega⟩, by simp [intOf]; omega⟩
   ·have HM := Lib.hid (show manyP f count l = .error c by
       rw [hm.out, show count - k = (count - (k + 1)) + 1 by omega, manyP_err h1]; rfl)
    have HON := Lib.hid (hon.out.trans h5)
    have i1 : ¬ (c : Int) = 0 := by omega
    clear h1 h5
    go_wp2
    go_ret2
    exact .inr ⟨c, HM.out, h2, h3, rfl, (HON.out.alloc _), h7.ext ((Ext.refl _).alloc _)⟩
  ·obtain rfl : k = count := by omega
   have HM := Lib.hid (show manyP f k l = .ok (xs, l1) by
    rw [hm.out, Nat.sub_self]; simp [manyP, aft])
   go_wp2
   go_ret2
   exact .inl ⟨xs, l1, _, HM.out, rfl, hgr.out.lv, hrs.out, hl1, hon.out⟩
end Go.Proofs.YtkbcobjhlpjieaaGreatDoor
