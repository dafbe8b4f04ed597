import Derived.Test.YtopbibfpjgjalaaGreatDoorZPExt
import Derived.Test.YtopbibfpjgjalaaGreatDoorZ1
import Derived.Deep.Upon
namespace Go.Proofs.YtopbibfpjgjalaaGreatDoor
open Go.RowKit
set_option linter.unusedVariables false
set_option maxRecDepth 100000
def On (p : Nat) (a b : World) : Prop := a.grownBy b (some p)
theorem On.refl (p : Nat) (a : World) : On p a a := ⟨rfl, rfl, rfl, Nat.le_refl _, fun _ _ _ => rfl⟩
theorem On.trans {p : Nat} {a b c : World} (h : On p a b) (k : On p b c) : On p a c := zbb h k
theorem On.of {p : Nat} {a b : World} (k : Ext a b) : On p a b := ⟨k.os, k.tape, k.output, k.size, fun i hi _ => k.block i hi⟩
theorem On.set {p : Nat} {a b : World} (h : On p a b) (i : Nat) (v : Value) : On p a (b.setCell ⟨p, i, none⟩ v) := zbb h (zct v)
theorem Ext.on {p : Nat} {w a b : World} (h : Ext w a) (k : On p a b) (hp : w.heap.size ≤ p) : Ext w b := zb7 h k h.size hp
theorem On.drewN {p : Nat} {a b : World} (h : On p a b) (n : Nat) : On p a (b.drewN n) := zhe h n
def TB (w : World) (p : Nat) (A : Option Addr) (n c : Nat) : Prop := w.heap[p]? = some (.cells #[.slice A n c] 87 (0, 0))
section
variable {w w' : World} {p : Nat} {A : Option Addr} {n c : Nat}
theorem TB.lt (h : TB w p A n c) : p < w.heap.size := (Array.getElem?_eq_some_iff.1 h).1
theorem TB.cell (h : TB w p A n c) : w.cell? ⟨p, 0, none⟩ = some (.slice A n c) := by
 rw [cell_of_row w p 0 _ _ (0, 0) h]; rfl
theorem TB.frozen (h : TB w p A n c) (i : Nat) : w.frozen? ⟨p, i, none⟩ = false := by
 unfold TB at h
 simp [World.frozen?, h]
theorem TB.ext (h : TB w p A n c) (k : Ext w w') : TB w' p A n c := (k.block p h.lt).trans h
theorem TB.set (h : TB w p A n c) (B : Option Addr) (m d : Nat) : TB (w.setCell ⟨p, 0, none⟩ (.slice B m d)) p B m d := by
 unfold TB at h ⊢
 simp [World.setCell, Array.getElem?_modify, h]
theorem TB.aside (h : TB w p A n c) {a : Addr} {k : IntKind} {z : Int} (ha : w.cell? a = some (.int k z)) : a.block ≠ p := by
 intro e
 subst e
 unfold TB at h
 unfold World.cell? at ha
 rw [h] at ha
 simp only at ha
 split at ha
 ·cases ha
 ·rcases ho : a.off with _ | o
  ·rw [ho] at ha; injection ha with ha; cases ha
  ·rw [ho] at ha; simp at ha
end
theorem zbi (a : Addr) (j : Nat) : (a.add j).block = a.block := by unfold Addr.add; split <;> rfl
theorem NX.on {w w' : World} {q : Nat} {A B : Option Addr} {n c m d : Nat} {xs : List Nat} (h : NX w A n c xs) (hq : TB w q B m d) (k : On q w w') : NX w' A n c xs := by
 refine ⟨h.len, h.room, h.lt, fun hn => ?_⟩
 obtain ⟨ad, rfl, hb, hc⟩ := h.cells hn
 refine ⟨ad, rfl, Nat.lt_of_lt_of_le hb k.size, fun j x hx => (World.cell?_of_block ?_).trans (hc j x hx)⟩
 have := hc j x hx
 exact k.block _ (by rw [zbi]; exact hb) (fun e => hq.aside this (by injection e))
def Tp (w : World) (p : Nat) (l : List Nat) : Prop := ∃ A c, TB w p A l.length c ∧ NX w A l.length c l
theorem Tp.ext {w w' : World} {p : Nat} {l : List Nat} (h : Tp w p l) (k : Ext w w') : Tp w' p l := by
 obtain ⟨A, c, h1, h2⟩ := h
 exact ⟨A, c, h1.ext k, h2.ext k⟩
theorem Tp.lt {w : World} {p : Nat} {l : List Nat} (h : Tp w p l) : p < w.heap.size := by
 obtain ⟨A, c, h1, h2⟩ := h
 exact h1.lt
theorem NX.tail {w : World} {ad : Addr} {c x : Nat} {l : List Nat} (h : NX w (some ad) (l.length + 1) c (x :: l)) : NX w (if c = 1 then some ad else some (ad.add 1)) l.length (c - 1) l := by
 have hr := h.room
 refine ⟨rfl, by omega, fun y hy => h.lt y (List.mem_cons_of_mem _ hy), fun hn => ?_⟩
 rw [if_neg (by omega)]
 obtain ⟨ad', e, hb, hc⟩ := h.cells (by omega)
 injection e with e
 subst e
 refine ⟨_, rfl, by rw [zbi]; exact hb, fun j y hy => ?_⟩
 have := hc (j + 1) y (by simpa using hy)
 rw [← this]
 congr 1
 unfold Addr.add
 by_cases h0 : j = 0
 ·subst h0; simp
 ·simp [h0]; omega
def lenAt (w : World) (p : Nat) : Nat := match w.cell? ⟨p, 0, none⟩ with
 | some (.slice _ n _) => n
 | _ => 0
theorem TB.lenAt {w : World} {p : Nat} {A : Option Addr} {n c : Nat} (h : TB w p A n c) : lenAt w p = n := by
 unfold Go.Proofs.YtopbibfpjgjalaaGreatDoor.lenAt
 rw [h.cell]
def FPost (w : World) (p : Nat) (g : Nat → Bool) (l : List Nat) (e : Ending) (w' : World) : Prop :=
 (∃ x r, zai g l = (some x, r) ∧ x < W64 ∧ e = .returned (.tuple #[.int .u64 (x : Int), .int .i64 0]) ∧ Tp w' p r ∧ On p w w') ∨
 (zai g l = (none, []) ∧ e = .returned (.tuple #[.int .u64 0, .int .i64 11]) ∧ Tp w' p [] ∧ On p w w')
def Asks (fn : Nat) (cap : Array Value) (p : Nat) (w : World) (g : Nat → Bool) : Prop :=
 ∀ x w1, x < W64 → On p w w1 → Calls Tryz.prog fn (#[.int .u64 (x : Int)] ++ cap) w1 fun e w2 => e = .returned (.bool (g x)) ∧ w1 = w2
def zh6 (fn : Nat) : Prop := ∀ args w, Sem.run Tryz.prog (callFunc fn args) w = .ok (.enter fn args) w
set_option maxHeartbeats 2000000 in
theorem zjg (fn : Nat) (cap : Array Value) (g : Nat → Bool) (p : Nat) (l : List Nat) (w : World) (hT : Hid (Tp w p l)) (hn : l.length ≤ 100000) (hE : Hid (zh6 fn)) (hG : Hid (Asks fn cap p w g)) :
    Calls Tryz.prog 161 #[.pointer (some ⟨p, 0, none⟩), .func (.func fn) #[] cap] w (FPost w p g l) := by
 go_enter Tryz.func161, Tryz.ntmps161
 go_wp2
 go_loopw [6] (fun _ wr => ∃ l1 : List Nat, l1.length ≤ l.length ∧ Hid (zai g l = zai g l1) ∧ Hid (Tp wr p l1) ∧ Hid (On p w wr)) (fun _ wr => lenAt wr p)
 case atStart => exact ⟨l, Nat.le_refl _, Lib.hid rfl, hT, Lib.hid (On.refl _ _)⟩
 case round =>
  obtain ⟨l1, hl1, hf, hT1, hO⟩ := hrel
  obtain ⟨A, c, h1, h2⟩ := hT1.out
  have c0 := h1.cell
  have z0 := h1.frozen 0
  have hlen := Lib.hid h1.lenAt
  have H1 := Lib.hid h1
  have H2 := Lib.hid h2
  have hsz := h1.lt
  rcases l1 with _ | ⟨x, l1⟩
  ·clear h1 h2
   simp only [List.length_nil] at c0
   go_wp2
   go_ret2
   exact .inr ⟨by rw [hf.out]; rfl, rfl, hT1.out, hO.out⟩
  ·obtain ⟨ad, rfl, hb, hc⟩ := h2.cells (by simp)
   have x0 := hc 0 x rfl
   have hr := h2.room
   have hxw := h2.lt x (by simp)
   have X2 := Lib.hid h2.tail
   simp only [List.length_cons] at c0 hr hl1
   have B2 := X2
   have hcell := x0
   rw [show ad.add 0 = ad from rfl] at hcell
   rw [zad] at hxw
   clear h1 h2 hc
   have key : ∀ B m, Hid ((if c = 1 then some ad else some (ad.add 1)) = B) → Hid (c - 1 = m) → ∃ V, Hid (V = wr.setCell ⟨p, 0, none⟩ (.slice B l1.length m)) ∧ Hid (Tp V p l1) ∧ Hid (On p w V) ∧ Hid (lenAt V p = l1.length) := by
    intro B m e1 e2
    refine ⟨_, Lib.hid rfl, Lib.hid ⟨B, m, H1.out.set _ _ _, ?_⟩, Lib.hid (hO.out.set _ _), Lib.hid (H1.out.set _ _ _).lenAt⟩
    rw [← e1.out, ← e2.out]
    exact X2.out.on H1.out ((On.refl _ _).set _ _)
   by_cases hc1 : c = 1
   ·subst hc1
    obtain rfl : l1 = [] := List.eq_nil_of_length_eq_zero (by omega)
    obtain ⟨V, hV, hT2, hO2, hL2⟩ := key (some ad) 0 (Lib.hid rfl) (Lib.hid rfl)
    clear key
    simp only [List.length_nil] at c0 hr hl1
    go_wp2_with fail
    rw [hE.out, Oper.upon_enter]
    rw [show wr.setCell ⟨p, 0, none⟩ (.slice (some ad) 0 0) = V from hV.out.symm]
    refine (hG.out x _ (by rw [zad]; exact hxw) hO2.out).mono ?_
    clear hV
    rintro ee w2 ⟨rfl, rfl⟩
    by_cases hg : g x = true
    ·have HF := Lib.hid (show zai g l = (some x, []) by rw [hf.out, zai, if_pos hg])
     go_wp2
     go_ret2
     exact .inl ⟨x, [], HF.out, by rw [zad]; exact hxw, rfl, hT2.out, hO2.out⟩
    ·have HF := Lib.hid (show zai g l = zai g [] by rw [hf.out]; conv => lhs; rw [zai, if_neg hg])
     have hg' : g x = false := by simpa using hg
     clear hg
     go_wp2
     exact ⟨⟨[], Nat.zero_le _, HF, hT2, hO2⟩, by rw [hL2.out, hlen.out]; simp⟩
   ·obtain ⟨V, hV, hT2, hO2, hL2⟩ := key (some (ad.add 1)) (c - 1) (Lib.hid (if_neg hc1)) (Lib.hid rfl)
    clear key
    go_wp2_with fail
    rw [hE.out, Oper.upon_enter]
    rw [show wr.setCell ⟨p, 0, none⟩ (.slice (some ⟨ad.block, ad.off + 1, none⟩) l1.length (c - 1)) = V from hV.out.symm]
    refine (hG.out x _ (by rw [zad]; exact hxw) hO2.out).mono ?_
    clear hV
    rintro ee w2 ⟨rfl, rfl⟩
    by_cases hg : g x = true
    ·have HF := Lib.hid (show zai g l = (some x, l1) by rw [hf.out, zai, if_pos hg])
     go_wp2
     go_ret2
     exact .inl ⟨x, l1, HF.out, by rw [zad]; exact hxw, rfl, hT2.out, hO2.out⟩
    ·have HF := Lib.hid (show zai g l = zai g l1 by rw [hf.out]; conv => lhs; rw [zai, if_neg hg])
     have hg' : g x = false := by simpa using hg
     clear hg
     go_wp2
     exact ⟨⟨l1, by omega, HF, hT2, hO2⟩, by rw [hL2.out, hlen.out]; simp⟩
end Go.Proofs.YtopbibfpjgjalaaGreatDoor
