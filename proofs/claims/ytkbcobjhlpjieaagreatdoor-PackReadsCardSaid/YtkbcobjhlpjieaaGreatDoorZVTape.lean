import Derived.Test.YtkbcobjhlpjieaaGreatDoorZPExt
import Derived.WalkKit
import Derived.Deep.Draws
import Derived.Deep.Upon
namespace Go.Proofs.YtkbcobjhlpjieaaGreatDoor
open Go.RowKit
set_option linter.unusedVariables false
set_option maxRecDepth 100000
def On (p : Nat) (a b : World) : Prop := a.grownBy b (some p)
theorem On.refl (p : Nat) (a : World) : On p a a := ⟨rfl, rfl, rfl, Nat.le_refl _, fun _ _ _ => rfl⟩
theorem On.trans {p : Nat} {a b c : World} (h : On p a b) (k : On p b c) : On p a c := only_trans h k
theorem On.of {p : Nat} {a b : World} (k : Ext a b) : On p a b := ⟨k.os, k.tape, k.output, k.size, fun i hi _ => k.block i hi⟩
theorem On.set {p : Nat} {a b : World} (h : On p a b) (i : Nat) (v : Value) : On p a (b.setCell ⟨p, i, none⟩ v) := only_trans h (only_set v)
theorem Ext.on {p : Nat} {w a b : World} (h : Ext w a) (k : On p a b) (hp : w.heap.size ≤ p) : Ext w b := below_only h k h.size hp
theorem On.drewN {p : Nat} {a b : World} (h : On p a b) (n : Nat) : On p a (b.drewN n) := only_drewN h n
section
variable {w w' : World} {p : Nat} {A : Option Addr} {n c : Nat}
end
theorem add_block (a : Addr) (j : Nat) : (a.add j).block = a.block := by unfold Addr.add; split <;> rfl
def EntersV (fn : Nat) : Prop := ∀ args w, Sem.run Tryz.prog (callFunc fn args) w = .ok (.enter fn args) w
end Go.Proofs.YtkbcobjhlpjieaaGreatDoor
