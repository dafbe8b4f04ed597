/-
  What a kind asks of its nodes; what is told of a node.
-/
import Derived.Test.YtjeipbahddhfgaaJWi
import Derived.Test.YtjeipbahddhfgaaJTl
namespace Go.Proofs.Ytjeipbahddhfgaa
open Go.RowKit
set_option linter.unusedVariables false
set_option maxRecDepth 100000

/-- Are Shape, Size and the numbers as told? -/
def toldB (x : Nd) : Bool :=
  if x.k = 1 then decide (0 < entN x.sh) else
  if x.k = 2 then decide (0 < entN x.sh) && decide ((x.da.length : Int) = entN x.sh) else
  if x.k = 3 then decide (1 ≤ (x.bi.length : Int)) && decide ((x.bi.length : Int) ≤ 64) else
  if x.k = 4 then kernB x.sh x.da.length x.bi.length else
  if x.k = 5 then decide (1 ≤ x.sz) else
  if x.k = 6 then true else
  if x.k = 7 then decide ((x.da.length : Int) = 1) else
  if x.k = 8 then decide ((x.da.length : Int) = 3) else decide (0 < entN x.sh)
def behB (m : List Bool) (x : Nd) (n : Nat) : Bool := (!(m.getD 0 false) || ahB x.a n) && (!(m.getD 1 false) || ahB x.b n)
/-- Is a node of right form, behind n nodes? -/
def formB (x : Nd) (n : Nat) : Bool :=
  match mayL x.k with
  | none => false
  | some m => okL (hasL x) m && (behB m x n && toldB x)
/-- The shape of a node of right form; none, if there is none. -/
def shapeO (x : Nd) (shs : List (List Int)) : Option (List Int) :=
  if x.k = 1 then some x.sh else
  if x.k = 2 then some x.sh else
  if x.k = 3 then (if (x.da.length : Int) = x.bi.length * entN (shs.getD x.a.toNat []) then some [(x.bi.length : Int)] else none) else
  if x.k = 4 then convO x.sh (shs.getD x.a.toNat []) else
  if x.k = 5 then poolO x.sz (shs.getD x.a.toNat []) else
  if x.k = 6 then (if shs.getD x.a.toNat [] = shs.getD x.b.toNat [] then some (shs.getD x.a.toNat []) else none) else
  if x.k = 7 then some (shs.getD x.a.toNat []) else
  if x.k = 8 then some (shs.getD x.a.toNat []) else
  (if entN x.sh = entN (shs.getD x.a.toNat []) then some x.sh else none)
/-- What is told of a node behind nodes of these shapes: its shape, or what is wrong. -/
def nodeR (x : Nd) (shs : List (List Int)) : Except Nat (List Int) :=
  if formB x shs.length then (match shapeO x shs with | none => .error 4 | some s => if nearOK x then .ok s else .error 5) else .error 3
def NodePost (w : World) (r : Except Nat (List Int)) (e : Ending) (w' : World) : Prop :=
  (∃ s A c, r = .ok s ∧ e = .returned (.tuple #[.slice A s.length c, .int .i64 0]) ∧ ZX w' A s.length c s ∧ Frsh w.heap.size A ∧ Ext w w') ∨ (∃ n : Nat, r = .error n ∧ (n = 3 ∨ n = 4 ∨ n = 5) ∧ e = .returned (.tuple #[.slice none 0 0, .int .i64 (n : Int)]) ∧ Ext w w')
theorem node_form {x : Nd} {shs : List (List Int)} (h : formB x shs.length = false) : nodeR x shs = .error 3 := by unfold nodeR; rw [h]; rfl
theorem node_none {x : Nd} {shs : List (List Int)} (h : formB x shs.length = true) (h2 : shapeO x shs = none) : nodeR x shs = .error 4 := by unfold nodeR; rw [h, h2]; rfl
theorem node_far {x : Nd} {shs : List (List Int)} {s : List Int} (h : formB x shs.length = true) (h2 : shapeO x shs = some s) (h3 : nearOK x = false) : nodeR x shs = .error 5 := by unfold nodeR; rw [h, h2, h3]; rfl
theorem node_ok {x : Nd} {shs : List (List Int)} {s : List Int} (h : formB x shs.length = true) (h2 : shapeO x shs = some s) (h3 : nearOK x = true) : nodeR x shs = .ok s := by unfold nodeR; rw [h, h2, h3]; rfl
theorem three_at (w : World) (a0 a1 a2 : Value) (t : TypeId) : (w.alloc (.cells #[a0, a1, a2] t)).cell? ⟨w.heap.size, 0, none⟩ = some a0 ∧ (w.alloc (.cells #[a0, a1, a2] t)).cell? ⟨w.heap.size, 1, none⟩ = some a1 ∧ (w.alloc (.cells #[a0, a1, a2] t)).cell? ⟨w.heap.size, 2, none⟩ = some a2 := by simp
end Go.Proofs.Ytjeipbahddhfgaa
