/-
  The law EvalNil returns true for every ciphertext and switch: a nil eval answers that it is none.
  Conditions: none; every input of the Go function's types. The two tables that the code reads (prime.bases, bits.deBruijn64tab) are tied to the program's text by the card.
-/
import Derived.Test.YtjikdbcjabopnaaGreatDoorRows
import Derived.Test.YtjikdbcjabopnaaGreatDoorCards
import Derived.Test.YtjikdbcjabopnaaGreatDoorTie
import Derived.SevenTiedAt
import Derived.Test.YtjikdbcjabopnaaGreatDoorJPLaid
import Derived.Test.YtjikdbcjabopnaaGreatDoorJ33
import Derived.Test.YtjikdbcjabopnaaGreatDoorJ32
import Derived.ChangeSame
import Derived.Test.YtjikdbcjabopnaaGreatDoorJ34
import Derived.Test.YtjikdbcjabopnaaGreatDoorJENlW
namespace Go.Proofs.YtjikdbcjabopnaaGreatDoor.evalNil
open Go.ChangeShapes Go.WideShapes Go.ChangeAt Go.RowKit Go.Joins
set_option linter.unusedVariables false
set_option maxRecDepth 100000 in
theorem lifted (os : Os) (started : os.Started) (H : Type) (enc : TypeId × Value → H) :
    ReturnsInHanded {} Tryz.checked os 4 .any (fun w args => (Rows.evalNilSpec.pre enc Tryz.prog Tryz.f4 [] false w args ∧ laidMetH Tryz.prog laid2 w) ∧ sizedMet enc Tryz.prog Tryz.f4 (OpenSpec.ofChange Rows.evalNilSpec) false w args)
     (Rows.evalNilSpec.post enc Tryz.prog Tryz.f4 false true false false) := by
 refine returnsInHanded_of_change_and (C := Tryz.checked) (X := fun w _ => laidMetH Tryz.prog laid2 w) (fun _ _ _ hh h => h.of_heap hh) own_knob started (by kernel_rfl) Tryz.func4
  (ChangeSpec.witness_shaped (enc := enc) (C := Tryz.checked) (os := os) (X := fun w _ => laidMetH Tryz.prog laid2 w) false (World.doorLaid Tryz.prog 400 os) #[.agg #[.slice none 0 0], .agg #[.slice none 0 0, .slice none 0 0]] 8 rfl (World.shaped_of_RefB (by kernel_rfl) (by kernel_rfl)) (by kernel_rfl) (by kernel_rfl) (by kernel_rfl) (door_met os _)) ?_
 intro W base args ds gs before hval0 hW _ _ hL _
 have hval : ∀ (j : Nat) t v, Tryz.f4.params[j]? = some t → args[j]? = some v → Value.okWide Tryz.prog W .any base t v := hval0
 have hW' := hW
 obtain ⟨p, q, hA0, hV, rfl, hfz, hnd⟩ := hW
 have hA : DataW.TrodAll enc Tryz.prog W 0 (fun _ => true) true Tryz.f4.params.toList args.toList ds p := hA0
 rw [Tryz.params4] at hA hval
 obtain ⟨v0, vs0, d0, ds0, p0, q0, hargs, rfl, rfl, h0, r0⟩ := trodAll_cons hA
 obtain ⟨v1, vs1, d1, ds1, p1, q1, rfl, rfl, rfl, h1, r1⟩ := trodAll_cons r0
 obtain ⟨rfl, rfl, rfl⟩ := trodAll_nil r1
 obtain rfl : args = #[v0, v1] := by cases args; simp_all
 obtain ⟨rfl, rfl⟩ := trodVars_none hV
 clear hA0
 simp only [List.append_nil] at hW'
 have hlt : ∀ x ∈ p0 ++ p1, x.block < W.heap.size := fun x hx => by simpa using hW'.lt x (by simpa using hx)
 have hl0 : ∀ x ∈ p0, x.block < W.heap.size := fun x hx => hlt x (by simp [hx])
 have hl1 : ∀ x ∈ p1, x.block < W.heap.size := fun x hx => hlt x (by simp [hx])
 clear hlt
 obtain ⟨A0, n0, c0, Aj0, Lj0, cj0, Bs0, ns0, cs0, f0, rfl, hp0⟩ := cipher_open (hval 0 28 v0 rfl rfl) h0
 obtain ⟨Ab1, nb1, cb1, Bj1, Lb1, xb1, Bb1, nsb1, csb1, fb1, Aa1, na1, ca1, Aj1, La1, xa1, Ba1, nsa1, csa1, fa1, rfl, hb1, ha1⟩ := switch_open (hval 1 45 v1 rfl rfl) h1
 clear hval0
 refine (evalNil_walk W (of_laid hL)).mono fun e W' ⟨he, hg⟩ => ?_
 subst he
 exact ⟨_, rfl, post_ext hW' (fun _ _ _ => (trodAll_cons_mk (shut_bool Tryz.underlying4 _) trodAll_mk0)) (trodAll_cons_mk (Below.trod laidOut (by kernel_rfl) (of_decide_eq_true (by kernel_rfl)) h0 hg hl0) (trodAll_cons_mk (Below.trod laidOut (by kernel_rfl) (of_decide_eq_true (by kernel_rfl)) h1 hg hl1) trodAll_mk0)) rfl (by simp) hg⟩
theorem over : Rows.EvalNilSaid :=
 OpenClaim.holds_of_wide 4 Tryz.f4 rfl rfl rfl rfl rfl rfl rfl ⟨rfl, rfl, rfl, rfl, rfl⟩ rfl rfl rfl rfl rfl (by kernel_rfl) Tryz.func4 (by kernel_rfl)
  (of_decide_eq_true (by kernel_rfl)) (by unfold Func.isWrapper; first | (rw [if_pos (by decide +kernel)]; kernel_rfl) | (rw [if_neg (by decide +kernel)]; exact ⟨rfl, rfl⟩))
  (fun os started H enc _ => lifted os started H enc)
theorem proved : Rows.EvalNilCardSaid :=
 Claim7.holds_tied_plain_at .later [] [.data, .data] true (true, "37a43f591009b8f96dd8bcc9439b214444bbb4e486eb83d8fbeab5f4fc552ab4") false
  over (fun _ h => by cases h) (by kernel_rfl) (fun _ h => by cases h) evalNil_row_tie rfl ⟨rfl, rfl⟩ (by kernel_rfl) rfl
  (fun f fn hf hfn => by
   obtain rfl : f = 4 := Option.some.inj ((show Tryz.prog.funcNamed "arras/arraslaw13.EvalNil" = some 4 by kernel_rfl).symm.trans hf) |>.symm
   obtain rfl : fn = Tryz.f4 := (Option.some.inj (Tryz.func4.symm.trans hfn)).symm
   exact ⟨by kernel_rfl, fun j t ht => by
    rw [Tryz.params4] at ht
    have hm : t ∈ [28, 45] := by simpa using Array.mem_of_getElem? ht
    have hall : ([28, 45].all fun u => !Tryz.prog.wantsStandIn u) = true := by kernel_rfl
    exact (show Tryz.prog.wantsStandIn t = false by simpa using List.all_eq_true.1 hall t hm)⟩)
  (by kernel_rfl)
end Go.Proofs.YtjikdbcjabopnaaGreatDoor.evalNil
