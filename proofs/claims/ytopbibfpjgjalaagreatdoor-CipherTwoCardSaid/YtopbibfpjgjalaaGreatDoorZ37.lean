import Derived.Test.YtopbibfpjgjalaaGreatDoorZ26
import Derived.Test.YtopbibfpjgjalaaGreatDoorZ28
import Derived.Lib.AppendZerosOnto
import Derived.Lib.SliceRun
namespace Go.Proofs.YtopbibfpjgjalaaGreatDoor
open Go.RowKit
set_option linter.unusedVariables false
set_option maxRecDepth 100000
theorem zpy : (Tryz.prog.info? 56).map (fun i => (i.zero, i.size, i.bytes)) = some (some (.agg #[.slice none 0 0]), 1, 24) := by kernel_rfl
structure QX (w : World) (A : Option Addr) (n c : Nat) (S : Nat → Value) : Prop where
 room : n ≤ c
 cells : 0 < n → ∃ ad, A = some ad ∧ ∀ j, j < n → w.cell? (ad.add j) = some (S j)
theorem QX.ext {a b : World} {A : Option Addr} {n c : Nat} {S : Nat → Value} (h : QX a A n c S) (k : Ext a b) : QX b A n c S :=
 ⟨h.room, fun hn => by
  obtain ⟨ad, e, hc⟩ := h.cells hn
  exact ⟨ad, e, fun j hj => cE k (hc j hj)⟩⟩
structure QP (w : World) (A : Option Addr) (n c : Nat) (Aj : Nat → Option Addr) (Lj cj : Nat → Nat) (Bs : Nat → Nat → Option Addr) (ns cs : Nat → Nat → Nat) (f : Nat → Nat → Nat → Nat) : Prop where
 qx : QX w A n c (fun j => .slice (Aj j) (Lj j) (cj j))
 els : ∀ j, j < n → PB w (Aj j) (Lj j) (cj j) (Bs j) (ns j) (cs j) (f j)
theorem QP.ext {w w' : World} {A : Option Addr} {n c : Nat} {Aj : Nat → Option Addr} {Lj cj : Nat → Nat} {Bs : Nat → Nat → Option Addr} {ns cs : Nat → Nat → Nat} {f : Nat → Nat → Nat → Nat} (h : QP w A n c Aj Lj cj Bs ns cs f) (k : Ext w w') : QP w' A n c Aj Lj cj Bs ns cs f :=
 ⟨h.qx.ext k, fun j hj => (h.els j hj).ext k⟩
end Go.Proofs.YtopbibfpjgjalaaGreatDoor
