import Derived.Test.YtjikdbcjabopnaaGreatDoorJ25
import Derived.Deep.RegionLawGrows
namespace Go.Proofs.YtjikdbcjabopnaaGreatDoor
open Go.RowKit
set_option linter.unusedVariables false
set_option maxRecDepth 100000
theorem fx_of_rd {w : World} {B : Nat} {A : Option Addr} {n c : Nat} {xs : List Nat} (h : NR w B A n c xs) : FX w A n c (fun i => xs.getD i 0) :=
 ⟨h.room, fun hn => by
  obtain ⟨ad, e, _, hc⟩ := h.cells hn
  refine ⟨ad, e, fun j hj => ?_⟩
  have hl : j < xs.length := by have := h.len; omega
  rw [hc j xs[j] (List.getElem?_eq_getElem hl), List.getD_eq_getElem?_getD, List.getElem?_eq_getElem hl, Option.getD_some]⟩
end Go.Proofs.YtjikdbcjabopnaaGreatDoor
