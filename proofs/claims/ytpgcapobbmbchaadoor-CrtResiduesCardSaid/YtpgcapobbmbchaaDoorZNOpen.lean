/-
  How naturals and whole numbers that are handed in read, and that a law's row holds if the law returns true and memory only grows.
-/
import Derived.Test.YtpgcapobbmbchaaDoorZ33
import Derived.ChangeSame
namespace Go.Proofs.YtpgcapobbmbchaaDoor
open Go.ChangeShapes Go.WideShapes Go.ChangeAt Go.RowKit Go.Joins
set_option linter.unusedVariables false
set_option maxRecDepth 100000

section
variable {H : Type} {enc : TypeId × Value → H}
theorem nat_open {W : World} {v : Value} {d : DataW H} {p : List MemPlace} (h : DataW.Trod enc Tryd.prog W 0 (fun _ => true) true 57 v d p) : ∃ A n c xs, v.cells.toList = [.slice A n c] ∧ NXN W A n c xs := by
  obtain ⟨f, hf⟩ := h
  exact nat_cells hf
theorem int_open {W : World} {r : Reach} {b0 : Nat} {v : Value} {d : DataW H} {p : List MemPlace} (hv : Value.okWide Tryd.prog W r b0 59 v) (h : DataW.Trod enc Tryd.prog W 0 (fun _ => true) true 59 v d p) :
    ∃ b A n c xs, v = .agg #[.bool b, .slice A n c] ∧ NXN W A n c xs := by
  obtain ⟨c0, c1, y0, y1, m, rfl, rfl, rfl, hy0, hy1⟩ := open_agg2 Tryd.underlying59 (by kernel_rfl) cells_int hv h
  obtain ⟨A, n, c, xs, e1, hx⟩ := nat_cells hy1
  obtain ⟨b, e0, _⟩ := DataW.trod_bool Tryd.underlying4 hy0
  simp at e0 e1
  subst e0 e1
  exact ⟨b, A, n, c, xs, rfl, hx⟩
theorem post_extN {P : Program} {f : Func} {s : ChangeSpec} {W W' : World} {args : Array Value} {v : Value} {ds gs : List (DataW H)} {before pa pv : List MemPlace}
    (hW : DataW.Whole enc P f.params.toList s.vars false W args.toList ds gs before)
    (hres : ∀ (b : Nat) (sp : Nat → Bool) (hd : Bool), DataW.TrodAll enc P W' b sp hd f.resultTypes.toList (v.resultList f.resultTypes.size) (s.fn H (ds ++ gs)).results [])
    (hargs : DataW.TrodAll enc P W' 0 (fun b => decide (b < W.heap.size)) true f.params.toList args.toList (s.fn H (ds ++ gs)).args pa)
    (hvars : DataW.TrodVars enc P W' (fun b => decide (b < W.heap.size)) s.vars (s.fn H (ds ++ gs)).vars pv)
    (hps : before = pa ++ pv) (hb : ExtN W W') : s.post enc P f false true false false W args v W' := by
  refine ⟨ds, gs, before, [], pa, pv, hW, hres _ _ _, hargs, hvars, World.keptBut_mono (fun p hp => ⟨hp, ?_⟩) (Below.frame hb (· ∈ before)), fun h => by cases h⟩
  rw [hps, List.mem_append] at hp
  exact Or.inr hp
end
end Go.Proofs.YtpgcapobbmbchaaDoor
