import Derived.Test.YtkbcobjhlpjieaaGreatDoorZ40
import Derived.Laws.BytesArg
namespace Go.Proofs.YtkbcobjhlpjieaaGreatDoor
open Go.RowKit
set_option linter.unusedVariables false
set_option maxRecDepth 100000
def strB (xs : List Nat) : ByteArray := strOfNums (xs.map (fun (x : Nat) => (x : Int)))
theorem conv_any (w : World) (A : Option Addr) (n c : Nat) (xs : List Nat) (hn : xs.length = n) (hc : 0 < n → ∃ ad, A = some ad ∧ ∀ (j x : Nat), xs[j]? = some x → w.cell? (ad.add j) = some (.int .u8 (x : Int))) :
    (convert 37 9 (.slice A n c)).run Tryz.prog w = .ok (.string (strB xs)) w := by
 have hs := Tryz.underlying37
 have he := Tryz.underlying5
 have hd := Tryz.underlying9
 have key : ∀ ad : Addr, (∀ (j x : Nat), xs[j]? = some x → w.cell? (ad.add j) = some (.int .u8 (x : Int))) → (convert 37 9 (.slice (some ad) n c)).run Tryz.prog w = .ok (.string (strB xs)) w := fun ad h => by
  have hl := run_loadCells_list (P := Tryz.prog) w ad (xs.map fun (x : Nat) => Value.int .u8 (x : Int)) (fun j v hj => by
   rw [List.getElem?_map] at hj
   obtain ⟨x, hx, rfl⟩ := Option.map_eq_some_iff.1 hj
   exact h j x hx)
  rw [List.length_map, hn] at hl
  rw [run_convert_bytes_string w _ _ _ _ n c hs he hd, run_bytesToString w ad n c (xs.map fun (x : Nat) => (x : Int)) (by rw [hl]; simp [Function.comp_def]), foldl_push_bytes]
  simp [strB, strOfNums, ByteArray.empty, ByteArray.emptyWithCapacity]
  rfl
 by_cases h0 : 0 < n
 ·obtain ⟨ad, rfl, h⟩ := hc h0
  exact key ad h
 ·have hx : xs = [] := List.eq_nil_of_length_eq_zero (by omega)
  subst hx
  cases A with
  | none => rw [show strB [] = ByteArray.empty from rfl]; exact run_convert_bytes_nil w _ _ hs he n c _ hd
  | some ad => exact key ad (fun j x h => by simp at h)
theorem BX.conv {w : World} {A : Option Addr} {n c : Nat} {xs : List Nat} (h : BX w A n c xs) : (convert 37 9 (.slice A n c)).run Tryz.prog w = .ok (.string (strB xs)) w :=
 conv_any w A n c xs h.len fun h0 => by
  obtain ⟨ad, e, _, hc⟩ := h.cells h0
  exact ⟨ad, e, hc⟩
theorem BsR_bx {w : World} {A : Option Addr} {c : Nat} {xs : List Nat} (h : BsR w (.slice A xs.length c) xs) : BX w A xs.length c xs := by
 obtain ⟨A', c', e, h⟩ := h
 injection e with e1 _ e2
 subst e1 e2
 refine ⟨rfl, h.room, fun x hx => ?_, fun hn => ?_⟩
 ·obtain ⟨j, hj, e⟩ := List.getElem_of_mem hx
  obtain ⟨ad, _, hc⟩ := h.cells (by omega)
  obtain ⟨u, _, _, h3⟩ := hc j x (by rw [List.getElem?_eq_getElem hj, e])
  exact h3
 ·obtain ⟨ad, e, hc⟩ := h.cells hn
  refine ⟨ad, e, ?_, fun j x hx => ?_⟩
  ·obtain ⟨u, h1, _⟩ := hc 0 _ (List.getElem?_eq_getElem hn)
   have := World.block_lt_of_cell? _ _ h1
   rwa [add_block] at this
  ·obtain ⟨u, h1, h2, _⟩ := hc j x hx
   rw [h1, h2]
theorem par_fix15 : ParP ((8 : Nat) : Int) 17 1 (fun j => [97].getD j 0) ((1 : Nat) : Int) := by
 intro k hk
 rcases (show k = 0 ∨ k = 1 ∨ k = 2 ∨ k = 3 ∨ k = 4 ∨ k = 5 by omega) with rfl | rfl | rfl | rfl | rfl | rfl
 ·exact ⟨by decide, by decide, by decide⟩
 ·exact ⟨by decide, by decide⟩
 ·exact ⟨by decide, by decide, by decide +kernel⟩
 ·exact ⟨by decide, by decide⟩
 ·intro j hj
  obtain rfl : j = 0 := by omega
  exact ⟨by decide, by decide, fun i hi => by omega, by decide, by decide +kernel⟩
 ·show Go.bitLen (prodF (fun j => [97].getD j 0) 1) ≤ rowS ((8 : Nat) : Int)
  decide +kernel
theorem head_fix : headP 1 (fun _ l => (.ok ((), l) : Except Nat (Unit × List Nat))) (dgs 1 1 ++ parB 8 17 1 [97]) = .ok ((⟨8, 17, 1, [97]⟩, ()), []) := by
 rw [head_eq, bindP_ok (show bindP (betP 1 1 1) (fun _ => paramP) (dgs 1 1 ++ parB 8 17 1 [97]) = .ok (⟨8, 17, 1, [97]⟩, []) from by
  rw [bindP_ok (show betP 1 1 1 (dgs 1 1 ++ parB 8 17 1 [97]) = .ok (1, parB 8 17 1 [97]) from by rfl)]
  exact paramP_yes (r1 := dgs 4 17 ++ dgs 1 1 ++ dgs 1 1 ++ flatB [97]) (r2 := dgs 1 1 ++ dgs 1 1 ++ flatB [97]) (r3 := dgs 1 1 ++ flatB [97]) (r := flatB [97]) (k := 1) (by rfl) (by rfl) (by rfl) (by rfl) (by rfl) par_fix15)]
 rfl
theorem str_fix : strB (dgs 1 1 ++ parB 8 17 1 [97]) = { data := #[1, 0, 8, 0, 0, 0, 17, 1, 1, 0, 0, 0, 0, 0, 0, 0, 97] } := by rfl
set_option maxHeartbeats 8000000 in
theorem fixed15_any (w : World) (hTab : Tabs w) :
    Calls Tryz.prog 8 #[] w fun e w' => e = .returned (.bool true) ∧ Ext w w' := by
 have HTAB := Lib.hid hTab
 clear hTab
 have kA : Ext w (w.alloc (.cells #[.int .u64 97] 22)) := (Ext.refl w).alloc _
 have HQ := Lib.hid (show LY 22 WordR (w.alloc (.cells #[.int .u64 97] 22)) (some ⟨w.heap.size, 0, none⟩) 1 [97] from by
  refine ⟨by simp, fun ad e => by injection e with e; subst e; exact ⟨_, _, heap_alloc_new w _⟩, fun _ => ⟨_, rfl, fun j x hx => ?_⟩⟩
  match j, hx with
  | 0, hx => simp at hx; subst hx; exact ⟨_, by simp [Addr.add], rfl, by omega⟩
  | k + 1, hx => simp at hx)
 go_enter Tryz.func8, Tryz.ntmps8
 go_wp2_with fail
 generalize w.alloc (.cells #[.int .u64 97] 22) = V at *
 refine (pkParams_any 8 17 1 1 1 (some ⟨w.heap.size, 0, none⟩) [97] V HQ (Lib.hid rfl) (by omega) (by omega) (by omega) (by omega) (Lib.hid par_fix15) (HTAB.out.ext kA)).mono ?_
 rintro e w1 ⟨A, c, rfl, hb, k1⟩
 have hbx := BsR_bx hb
 have HBX := Lib.hid hbx
 have K1 := Lib.hid (kA.trans k1)
 have hL : (dgs 1 1 ++ parB 8 17 1 [97]).length = 17 := by decide
 rw [hL]
 clear hb k1 hbx
 go_wp2_with fail
 have hr := (rdN_any 17 c A _ w1 (Lib.hid (by have := HBX.out; rw [hL] at this; exact this)) (Lib.hid fun _ ad e => by
  subst e
  obtain ⟨ad', e', h, _⟩ := HBX.out.cells (by rw [hL]; omega)
  injection e' with e'
  subst e'
  exact h) (by omega) (HTAB.out.ext K1.out))
 rw [head_fix] at hr
 refine hr.mono ?_
 clear hr
 rintro e2 w2 h2
 obtain ⟨AQ, cQ, rfl, k2⟩ : ∃ AQ cQ, e2 = .returned (.tuple #[.agg #[.int .i64 8, .int .u64 17, .slice AQ 1 cQ, .int .i64 1], .int .i64 0]) ∧ Ext w1 w2 := by
  rcases h2 with ⟨pv, AQ, cQ, h1, h3, _, h4⟩ | ⟨cc, h1, _⟩
  ·simp [endP] at h1
   subst h1
   exact ⟨AQ, cQ, h3, h4⟩
  ·simp [endP] at h1
 have hcv := BX.conv ((HBX.out.ext k2).ext ((Ext.refl w2).alloc (.cells #[.int .i64 8, .int .u64 17, .slice AQ 1 cQ, .int .i64 1] 25)))
 rw [hL, str_fix] at hcv
 have K2 := Lib.hid (K1.out.trans k2)
 clear h2 k2
 go_wp2
 go_ret
 exact ⟨rfl, K2.out.alloc _⟩
end Go.Proofs.YtkbcobjhlpjieaaGreatDoor
