/-
  Tapes in memory; what Clone, New, Left and first answer.
-/
import Derived.Test.YtdnjjpkajiehgaaZ7
import Derived.Test.YtdnjjpkajiehgaaZ1
import Derived.Deep.Upon
namespace Go.Proofs.Ytdnjjpkajiehgaa
open Go.RowKit
set_option linter.unusedVariables false
set_option maxRecDepth 100000

/-- From a to b, of what was there, only block p has changed. -/
def On (p : Nat) (a b : World) : Prop := a.grownBy b (some p)
theorem On.refl (p : Nat) (a : World) : On p a a := ⟨rfl, rfl, rfl, Nat.le_refl _, fun _ _ _ => rfl⟩
theorem On.trans {p : Nat} {a b c : World} (h : On p a b) (k : On p b c) : On p a c := only_trans h k
theorem On.of {p : Nat} {a b : World} (k : Ext a b) : On p a b := ⟨k.os, k.tape, k.output, k.size, fun i hi _ => k.block i hi⟩
theorem On.set {p : Nat} {a b : World} (h : On p a b) (i : Nat) (v : Value) : On p a (b.setCell ⟨p, i, none⟩ v) := only_trans h (only_set v)
theorem Ext.on {p : Nat} {w a b : World} (h : Ext w a) (k : On p a b) (hp : w.heap.size ≤ p) : Ext w b := below_only h k h.size hp
theorem On.drewN {p : Nat} {a b : World} (h : On p a b) (n : Nat) : On p a (b.drewN n) := only_drewN h n
section
variable {w w' : World} {p : Nat} {A : Option Addr} {n c : Nat}
end
theorem add_block (a : Addr) (j : Nat) : (a.add j).block = a.block := by unfold Addr.add; split <;> rfl
/-- The first draw taken. -/
theorem NX.tail {w : World} {ad : Addr} {c x : Nat} {l : List Nat} (h : NX w (some ad) (l.length + 1) c (x :: l)) : NX w (if c = 1 then some ad else some (ad.add 1)) l.length (c - 1) l := by
  have hr := h.room
  refine ⟨rfl, by omega, fun y hy => h.lt y (List.mem_cons_of_mem _ hy), fun hn => ?_⟩
  rw [if_neg (by omega)]
  obtain ⟨ad', e, hb, hc⟩ := h.cells (by omega)
  injection e with e
  subst e
  refine ⟨_, rfl, by rw [add_block]; exact hb, fun j y hy => ?_⟩
  have := hc (j + 1) y (by simpa using hy)
  rw [← this]
  congr 1
  unfold Addr.add
  by_cases h0 : j = 0
  · subst h0; simp
  · simp [h0]; omega
/-- How many draws are left, as the tape's block tells. -/
def lenAt (w : World) (p : Nat) : Nat := match w.cell? ⟨p, 0, none⟩ with
  | some (.slice _ n _) => n
  | _ => 0
/-- What first is handed. -/
def Asks (fn : Nat) (cap : Array Value) (p : Nat) (w : World) (g : Nat → Bool) : Prop :=
  ∀ x w1, x < W64 → On p w w1 → Calls Try.prog fn (#[.int .u64 (x : Int)] ++ cap) w1 fun e w2 => e = .returned (.bool (g x)) ∧ w1 = w2
def EntersV (fn : Nat) : Prop := ∀ args w, Sem.run Try.prog (callFunc fn args) w = .ok (.enter fn args) w
end Go.Proofs.Ytdnjjpkajiehgaa
