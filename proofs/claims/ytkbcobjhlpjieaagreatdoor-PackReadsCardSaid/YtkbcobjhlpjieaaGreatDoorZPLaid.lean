import Derived.Test.YtkbcobjhlpjieaaGreatDoorZPExt
import Derived.Test.YtkbcobjhlpjieaaGreatDoorZ9
import Derived.Test.YtkbcobjhlpjieaaGreatDoorZ4
import Derived.Test.YtkbcobjhlpjieaaGreatDoorRows
import Derived.ProofKit
import Derived.LaidMore
import Derived.OpenShut
import Derived.ChangeSame
import Derived.Stop.Joined
import Derived.Carry
import Derived.Lib.SmallJoins
namespace Go.Proofs.YtkbcobjhlpjieaaGreatDoor
open Go.ChangeShapes Go.WideShapes Go.ChangeAt Go.RowKit Go.Joins
set_option linter.unusedVariables false
set_option maxRecDepth 100000
theorem ints_of_array {H : Type} {enc : TypeId × Value → H} {P : Program} {w : World} {base : Nat} {sp : Nat → Bool} {held : Bool} {fuel : Nat} {t e : TypeId} {n : Nat} {k : IntKind} {cs : List Value} {zs : List Int} {p : List MemPlace} (ht : P.underlying t = some (.array n e)) (he : P.underlying e = some (.int k)) (hc : P.cellsOf e = 1)
    (h : DataW.trod enc P w base sp held fuel t cs = some (.agg (zs.map fun z => .lit (.int k z)), p)) (j : Nat) (z : Int) (hj : zs[j]? = some z) : cs[j]? = some (.int k z) := by
 obtain ⟨xs, m, rfl, hx, hlen, hxl, hel⟩ := DataW.trod_array ht h
 have hds : (zs.map fun z => (DataW.lit (.int k z) : DataW H)) = xs.map (·.1) := by
  have := congrArg Prod.fst hx
  simpa using this
 have hl : j < xs.length := by
  have := congrArg List.length hds
  simp at this
  have := (List.getElem?_eq_some_iff.1 hj).1
  omega
 have h1 := hel j (by omega)
 rw [hc, Nat.mul_one, List.getElem?_eq_getElem hl] at h1
 obtain ⟨y, hy1, hy2, _⟩ := DataW.trod_int he h1
 have h3 : (xs.map (·.1))[j]? = some (DataW.lit (.int k y) : DataW H) := by
  rw [List.getElem?_map, List.getElem?_eq_getElem hl, hy2]; rfl
 rw [← hds, List.getElem?_map, hj] at h3
 have hzy : z = y := by simpa using h3
 subst hzy
 have := congrArg (·[0]?) hy1
 simpa [List.getElem?_take, List.getElem?_drop] using this
def laid2 : List (String × DataW Unit) := [("math/bits.deBruijn64tab", Rows.laid_math_bits_deBruijn64tab), ("arras/prime.bases", Rows.laid_arras_prime_bases)]
theorem gTz : Tryz.prog.globalNamed "math/bits.deBruijn64tab" = some 3 := by kernel_rfl
theorem gBa : Tryz.prog.globalNamed "arras/prime.bases" = some 0 := by kernel_rfl
theorem tTz : (Tryz.prog.globals[3]?).map (·.type) = some 268 := by kernel_rfl
theorem tBa : (Tryz.prog.globals[0]?).map (·.type) = some 256 := by kernel_rfl
theorem c_u8 : Tryz.prog.cellsOf 5 = 1 := by kernel_rfl
theorem c_u64 : Tryz.prog.cellsOf 22 = 1 := by kernel_rfl
theorem own_knob : ownKnob Tryz.prog.godebug = none := by kernel_rfl
theorem laidOut : laidOutB Tryz.prog = true := by kernel_rfl
theorem door_met (os : Os) (args : Array Value) : laidMetH Tryz.prog laid2 ((World.doorLaid Tryz.prog 400 os).forCall (fun _ _ => 0) ⟨#[], args, []⟩).memory :=
 laidMetH_of_parts3 (fuel := 8) (laidMet_of_run' 8 (by kernel_rfl) (by kernel_rfl)) (by kernel_rfl) (by kernel_rfl)
theorem tz_data : (Rows.laid_math_bits_deBruijn64tab : DataW Unit) = .agg ((Lib.deBruijn64tab.map fun (z : Nat) => (z : Int)).map fun z => .lit (.int .u8 z)) := rfl
theorem ba_data : (Rows.laid_arras_prime_bases : DataW Unit) = .agg ((L12.map fun (z : Nat) => (z : Int)).map fun z => .lit (.int .u64 z)) := rfl
theorem getD_some_of {l : List Nat} {j : Nat} (h : j < l.length) : (l.map fun (z : Nat) => (z : Int))[j]? = some ((l.getD j 0 : Nat) : Int) := by
 rw [List.getElem?_map, List.getElem?_eq_getElem h, List.getD_eq_getElem?_getD, List.getElem?_eq_getElem h]; rfl
theorem of_laid {W : World} (h : laidMetH Tryz.prog laid2 W) : Tabs W := by
 rw [MakeChecks.laidMetH_plain _ _ _ (by kernel_rfl)] at h
 obtain ⟨ps, ⟨g0, t0, cs0, f0, p0, q0, hg0, ht0, hv0, hd0, ⟨g1, t1, cs1, f1, p1, q1, hg1, ht1, hv1, hd1, _, _⟩, _⟩, _, _⟩ := h
 obtain rfl := Option.some.inj (gTz.symm.trans hg0)
 obtain rfl := Option.some.inj (gBa.symm.trans hg1)
 obtain rfl := Option.some.inj (tTz.symm.trans ht0)
 obtain rfl := Option.some.inj (tBa.symm.trans ht1)
 rw [tz_data] at hd0
 rw [ba_data] at hd1
 refine ⟨fun j hj => ?_, fun j hj => ?_⟩
 ·have h1 := ints_of_array Tryz.underlying268 Tryz.underlying5 c_u8 hd0 j _ (getD_some_of (l := Lib.deBruijn64tab) hj)
  rw [World.var?_cell hg0 hv0 j, ← h1, Array.getElem?_toList]
 ·have h1 := ints_of_array Tryz.underlying256 Tryz.underlying22 c_u64 hd1 j _ (getD_some_of (l := L12) hj)
  rw [World.var?_cell hg1 hv1 j, ← h1, Array.getElem?_toList]
section
variable {H : Type} {enc : TypeId × Value → H}
theorem post_ext {P : Program} {f : Func} {s : ChangeSpec} {W W' : World} {args : Array Value} {v : Value} {ds gs : List (DataW H)} {before pa pv : List MemPlace}
    (hW : DataW.Whole enc P f.params.toList s.vars false W args.toList ds gs before)
    (hres : ∀ (b : Nat) (sp : Nat → Bool) (hd : Bool), DataW.TrodAll enc P W' b sp hd f.resultTypes.toList (v.resultList f.resultTypes.size) (s.fn H (ds ++ gs)).results [])
    (hargs : DataW.TrodAll enc P W' 0 (fun b => decide (b < W.heap.size)) true f.params.toList args.toList (s.fn H (ds ++ gs)).args pa)
    (hvars : DataW.TrodVars enc P W' (fun b => decide (b < W.heap.size)) s.vars (s.fn H (ds ++ gs)).vars pv)
    (hps : before = pa ++ pv) (hb : Ext W W') : s.post enc P f false true false false W args v W' := by
 refine ⟨ds, gs, before, [], pa, pv, hW, hres _ _ _, hargs, hvars, World.keptBut_mono (fun p hp => ⟨hp, ?_⟩) (Below.frame hb (· ∈ before)), fun h => by cases h⟩
 rw [hps, List.mem_append] at hp
 exact Or.inr hp
end
end Go.Proofs.YtkbcobjhlpjieaaGreatDoor
