/-
  A graph's nodes in memory; the block of shapes that Check fills.
-/
import Derived.Test.YtdnjjpkajiehgaaZ11
import Derived.Test.YtdnjjpkajiehgaaZVTape
import Derived.Deep.QuietTactic
import Derived.Deep.RegionHeld3
import Derived.BigQuiet
namespace Go.Proofs.Ytdnjjpkajiehgaa
open Go.RowKit
set_option linter.unusedVariables false
set_option maxRecDepth 100000

/-- A row of cells in block g. -/
def RJ (w : World) (g : Nat) (t : TypeId) (n : Nat) (F : Nat → Value) : Prop := w.heap[g]? = some (.cells ((List.range n).map F).toArray t (0, 0))
section
variable {w w' : World} {g n : Nat} {t : TypeId} {F G : Nat → Value}
theorem RJ.lt (h : RJ w g t n F) : g < w.heap.size := (Array.getElem?_eq_some_iff.1 h).1
theorem RJ.cell (h : RJ w g t n F) {i : Nat} (hi : i < n) : w.cell? ⟨g, i, none⟩ = some (F i) := by
  unfold RJ at h
  simp [World.cell?, h, hi]
theorem RJ.frozen (h : RJ w g t n F) (i : Nat) : w.frozen? ⟨g, i, none⟩ = false := by
  unfold RJ at h
  simp [World.frozen?, h]
theorem RJ.keep (h : RJ w g t n F) (hg : w'.heap[g]? = w.heap[g]?) : RJ w' g t n F := hg.trans h
theorem RJ.ext (h : RJ w g t n F) (k : Ext w w') : RJ w' g t n F := h.keep (k.block g h.lt)
theorem RJ.set (h : RJ w g t n F) {i : Nat} (hi : i < n) (v : Value) : RJ (w.setCell ⟨g, i, none⟩ v) g t n (fun j => if j = i then v else F j) := by
  unfold RJ at h ⊢
  simp only [World.setCell, Array.getElem?_modify, h]
  simp only [if_true, Option.map_some, List.setIfInBounds_toArray]
  have e : (List.map F (List.range n)).set i v = List.map (fun j => if j = i then v else F j) (List.range n) := by
    apply List.ext_getElem?
    intro j
    rw [List.getElem?_set, List.getElem?_map, List.getElem?_map]
    by_cases hj : j < n
    · by_cases hij : i = j
      · subst hij; simp [hj]
      · have : ¬ j = i := fun e => hij e.symm
        simp [hj, hij, this]
    · by_cases hij : i = j
      · omega
      · simp [hj, hij]
  rw [← e]
  rfl
theorem RJ.new (w : World) (t : TypeId) (n : Nat) (F : Nat → Value) : RJ (w.alloc (.cells ((List.range n).map F).toArray t)) w.heap.size t n F := heap_alloc_new w _
end
/-- A graph's nodes. -/
structure GX (w : World) (A : Option Addr) (c : Nat) (nodes : List Nd) : Prop where
  room : nodes.length ≤ c
  cells : 0 < nodes.length → ∃ ad, A = some ad ∧ ∀ (j : Nat) (x : Nd), nodes[j]? = some x → ∃ As Ad Ab cs cd cb, NdX w x As Ad Ab cs cd cb ∧
    (∀ (f : Nat) (v : Value), [Value.int .i64 x.k, .int .i64 x.a, .int .i64 x.b, .slice As x.sh.length cs, .int .i64 x.lo, .int .i64 x.hi, .int .i64 x.sz, .slice Ad x.da.length cd, .slice Ab x.bi.length cb][f]? = some v → w.cell? ((ad.add (j * 9)).add f) = some v)
theorem GX.ext {w w' : World} {A : Option Addr} {c : Nat} {nodes : List Nd} (h : GX w A c nodes) (k : Ext w w') : GX w' A c nodes :=
  ⟨h.room, fun hn => by
    obtain ⟨ad, e, hc⟩ := h.cells hn
    exact ⟨ad, e, fun j x hx => by
      obtain ⟨As, Ad, Ab, cs, cd, cb, h1, h2⟩ := hc j x hx
      exact ⟨As, Ad, Ab, cs, cd, cb, h1.ext k, fun f v hv => cell_ext k (h2 f v hv)⟩⟩⟩
/-- The nodes one behind the other. -/
def chkR : List Nd → List (List Int) → Except Nat (List (List Int))
  | [], shs => .ok shs
  | x :: r, shs => match nodeR x shs with | .error n => .error n | .ok s => chkR r (shs ++ [s])
/-- What Check answers. -/
def checkR (nodes : List Nd) (out : Int) : Except Nat (List (List Int)) :=
  if nodes.length = 0 ∨ 24 < nodes.length ∨ out < 0 ∨ (nodes.length : Int) ≤ out then .error 3 else chkR nodes []
theorem info_shJ : (Try.prog.info? 38).map (fun i => (i.zero, i.size, i.bytes)) = some (some (.slice none 0 0), 1, 24) := by kernel_rfl
theorem make_ssJ (c : Nat) (hc : c ≤ 1000) (w : World) :
    (Instr.makeSlice 31 (.int .i64 (c : Int)) (.int .i64 (c : Int))).run Try.prog w = .ok (.slice (some ⟨w.heap.size, 0, none⟩) c c) (w.alloc (.cells ((List.range c).map fun _ => Value.slice none 0 0).toArray 38)) := by
  obtain ⟨i0, hi, hz0, hz1, hz2⟩ := info_partsJ info_shJ
  have hr := run_make (P := Try.prog) w 31 38 i0 (.slice none 0 0) Try.underlying31 hi hz0 .i64 .i64 (c : Int) (c : Int) (by omega) (by omega) (by rw [hz2]; omega) (by omega)
  rw [hz1] at hr
  simp only [Int.toNat_natCast] at hr
  rw [hr]
  have e : madeCells (Value.slice none 0 0).cells (c * 1) = ((List.range c).map fun _ => Value.slice none 0 0).toArray := by
    unfold madeCells
    apply Array.toList_inj.1
    apply List.ext_getElem?
    intro j
    by_cases hj : j < c
    · simp [hj, Value.cells, Nat.mod_one]
    · simp [hj]
  rw [e]
theorem nine_at (w : World) (a0 a1 a2 a3 a4 a5 a6 a7 a8 : Value) (t : TypeId) : (w.alloc (.cells #[a0, a1, a2, a3, a4, a5, a6, a7, a8] t)).cell? ⟨w.heap.size, 0, none⟩ = some a0 ∧ (w.alloc (.cells #[a0, a1, a2, a3, a4, a5, a6, a7, a8] t)).cell? ⟨w.heap.size, 1, none⟩ = some a1 ∧ (w.alloc (.cells #[a0, a1, a2, a3, a4, a5, a6, a7, a8] t)).cell? ⟨w.heap.size, 2, none⟩ = some a2 ∧ (w.alloc (.cells #[a0, a1, a2, a3, a4, a5, a6, a7, a8] t)).cell? ⟨w.heap.size, 3, none⟩ = some a3 ∧ (w.alloc (.cells #[a0, a1, a2, a3, a4, a5, a6, a7, a8] t)).cell? ⟨w.heap.size, 4, none⟩ = some a4 ∧ (w.alloc (.cells #[a0, a1, a2, a3, a4, a5, a6, a7, a8] t)).cell? ⟨w.heap.size, 5, none⟩ = some a5 ∧ (w.alloc (.cells #[a0, a1, a2, a3, a4, a5, a6, a7, a8] t)).cell? ⟨w.heap.size, 6, none⟩ = some a6 ∧ (w.alloc (.cells #[a0, a1, a2, a3, a4, a5, a6, a7, a8] t)).cell? ⟨w.heap.size, 7, none⟩ = some a7 ∧ (w.alloc (.cells #[a0, a1, a2, a3, a4, a5, a6, a7, a8] t)).cell? ⟨w.heap.size, 8, none⟩ = some a8 := by
  refine ⟨?_, ?_, ?_, ?_, ?_, ?_, ?_, ?_, ?_⟩ <;> simp
end Go.Proofs.Ytdnjjpkajiehgaa

/-
  Most of package interval: the greatest size of an end.
-/
namespace Go.Proofs.Ytdnjjpkajiehgaa
open Go.RowKit
set_option linter.unusedVariables false
set_option maxRecDepth 100000

/-- Ends of which sums and signs pass no word. -/
def EndOk (v : Int) : Prop := -4611686018427387904 ≤ v ∧ v ≤ 4611686018427387904
theorem size_any (v : Int) (w : World) (h : EndOk v) : Calls Try.prog 55 #[.int .i64 v] w fun e w' => e = .returned (.int .i64 (max v (-v))) ∧ w' = w := by
  obtain ⟨h0, h1⟩ := h
  have h2 : ¬ v = -9223372036854775808 := by omega
  go_enter Try.func55, Try.ntmps55
  go_wp2
  go_ret
  exact ⟨by first | rfl | go_num, rfl⟩
/-- Spans, wherever they lie. -/
structure SpX (w : World) (A : Option Addr) (c : Nat) (l : List (Int × Int)) : Prop where
  room : l.length ≤ c
  cells : 0 < l.length → ∃ ad, A = some ad ∧ ∀ (j : Nat) (p : Int × Int), l[j]? = some p → w.cell? (ad.add (j * 2)) = some (.int .i64 p.1) ∧ w.cell? ⟨(ad.add (j * 2)).block, (ad.add (j * 2)).off + 1, none⟩ = some (.int .i64 p.2)
theorem SpX.ext {w w' : World} {A : Option Addr} {c : Nat} {l : List (Int × Int)} (h : SpX w A c l) (k : Ext w w') : SpX w' A c l :=
  ⟨h.room, fun hn => by
    obtain ⟨ad, e, hc⟩ := h.cells hn
    exact ⟨ad, e, fun j p hp => ⟨cell_ext k (hc j p hp).1, cell_ext k (hc j p hp).2⟩⟩⟩
/-- The greatest size of an end, and one so far. -/
def mostF : List (Int × Int) → Int → Int
  | [], m => m
  | p :: r, m => mostF r (max (max m (max p.1 (-p.1))) (max p.2 (-p.2)))
set_option maxHeartbeats 4000000 in
theorem most_any (A : Option Addr) (c : Nat) (l : List (Int × Int)) (w : World) (hX : Hid (SpX w A c l)) (hl : l.length ≤ 9223372036854775807) (ho : Hid (∀ p ∈ l, EndOk p.1 ∧ EndOk p.2)) :
    Calls Try.prog 29 #[.slice A l.length c] w fun e w' => e = .returned (.int .i64 (mostF l 0)) ∧ Ext w w' := by
  go_enter Try.func29, Try.ntmps29
  go_wp2_with fail
  go_loopw [3, 8] (fun m i wr => ∃ (k : Nat) (z : Int), k ≤ l.length ∧ i = .int .i64 (k : Int) ∧ m = .int .i64 z ∧ 0 ≤ z ∧ z ≤ 4611686018427387904 ∧ Hid (Ext w wr) ∧ Hid (mostF l 0 = mostF (l.drop k) z)) (fun _ i _ => l.length - (intOf i).toNat)
  case atStart => exact ⟨0, 0, by omega, rfl, rfl, by omega, by omega, Lib.hid (Ext.refl _), Lib.hid rfl⟩
  case round =>
    obtain ⟨k, z, hk, rfl, rfl, hz0, hz1, hE, hP⟩ := hrel
    by_cases hlt : k < l.length
    · obtain ⟨⟨lo, hv⟩, hp⟩ : ∃ p, l[k]? = some p := ⟨_, List.getElem?_eq_getElem hlt⟩
      obtain ⟨ad, rfl, hc⟩ := (hX.out.ext hE.out).cells (by omega)
      obtain ⟨c0, c1⟩ := hc k _ hp
      obtain ⟨ho1, ho2⟩ := ho.out _ (List.mem_of_getElem? hp)
      have HP := Lib.hid hp
      clear hc hp
      dsimp only at c0 c1 ho1 ho2
      have j0 : (0 : Int) ≤ (k : Int) := by omega
      have j1 : (k : Int) < (l.length : Int) := by omega
      have n0 : (wr.alloc (.cells #[.int .i64 lo, .int .i64 hv] 53)).cell? ⟨wr.heap.size, 0, none⟩ = some (.int .i64 lo) := by simp
      have n1 : (wr.alloc (.cells #[.int .i64 lo, .int .i64 hv] 53)).cell? ⟨wr.heap.size, 1, none⟩ = some (.int .i64 hv) := by simp
      have ka : Ext wr (wr.alloc (.cells #[.int .i64 lo, .int .i64 hv] 53)) := (Ext.refl wr).alloc _
      go_wp2_with fail
      generalize wr.alloc (.cells #[.int .i64 lo, .int .i64 hv] 53) = W at *
      refine wp_region_held_drew (S := (fun w' => Ext W w')) (by kernel_rfl) ?_ (fun hHeld => ?_)
      · (try dsimp only); repeat (first | exact Ext.refl _ | assumption | refine Ext.drew ?_ | refine Ext.drewN ?_ _ | refine Ext.alloc ?_ _)
      refine wpAnyH_take (i := 0) (oi := _) (v := ?_) rfl (by kernel_rfl) (by kernel_rfl) (by kernel_rfl) (fun _ _ _ h => h) (Or.inl ⟨by first | kernel_rfl | rfl, ?_⟩) (by assumption) ?_
      rotate_left
      · (intro wS hSw; (try dsimp only at hSw); have z0 := cell_ext hSw n0; have z1 := cell_ext hSw n1; (try go_simp); (try with_reducible rfl))
      try simp only [Act.put, s1, s2, s3]
      refine wpAnyH_take (i := 1) (oi := _) (v := ?_) rfl (by kernel_rfl) (by kernel_rfl) (by kernel_rfl) (fun _ _ _ h => h) (Or.inl ⟨by first | kernel_rfl | rfl, ?_⟩) (by assumption) ?_
      rotate_left
      · (intro wS hSw; (try dsimp only at hSw); have z0 := cell_ext hSw n0; have z1 := cell_ext hSw n1; (try go_simp); (try with_reducible rfl))
      try simp only [Act.put, s1, s2, s3]
      refine wpAnyH_take (i := 2) (oi := _) (v := ?_) rfl (by kernel_rfl) (by kernel_rfl) (by kernel_rfl) (fun _ _ _ h => h) (Or.inl ⟨by first | kernel_rfl | rfl, ?_⟩) (by assumption) ?_
      rotate_left
      · (intro wS hSw; (try dsimp only at hSw); have z0 := cell_ext hSw n0; have z1 := cell_ext hSw n1; (try go_simp); (try with_reducible rfl))
      try simp only [Act.put, s1, s2, s3]
      refine wpAnyH_take (i := 4) (oi := _) (v := ?_) rfl (by kernel_rfl) (by kernel_rfl) (by kernel_rfl) (fun _ _ _ h => h) (Or.inl ⟨by first | kernel_rfl | rfl, ?_⟩) (by assumption) ?_
      rotate_left
      · (intro wS hSw; (try dsimp only at hSw); have z0 := cell_ext hSw n0; have z1 := cell_ext hSw n1; (try go_simp); (try with_reducible rfl))
      try simp only [Act.put, s1, s2, s3]
      refine wpAnyH_take (i := 5) (oi := _) (v := ?_) rfl (by kernel_rfl) (by kernel_rfl) (by kernel_rfl) (fun _ _ _ h => h) (Or.inl ⟨by first | kernel_rfl | rfl, ?_⟩) (by assumption) ?_
      rotate_left
      · (intro wS hSw; (try dsimp only at hSw); have z0 := cell_ext hSw n0; have z1 := cell_ext hSw n1; (try go_simp); (try with_reducible rfl))
      try simp only [Act.put, s1, s2, s3]
      refine wpAnyH_ready (rs := [3]) (by kernel_rfl) (by simp) ?_
      refine AllReadyH.cons rfl (fun KQ hKQ => ?_) AllReadyH.nil
      go_simp
      (refine (size_any lo _ ho1).mono ?_; rintro e7 w7 ⟨rfl, rfl⟩)
      refine hKQ.out _ _ ?_ (fun hHeld => ?_)
      · (try dsimp only); repeat (first | exact Ext.refl _ | assumption | refine Ext.drew ?_ | refine Ext.drewN ?_ _ | refine Ext.alloc ?_ _)
      clear hKQ KQ
      try simp only [Act.put, s1, s2, s3]
      refine wpAnyH_ready (rs := [6]) (by kernel_rfl) (by simp) ?_
      refine AllReadyH.cons rfl (fun KQ hKQ => ?_) AllReadyH.nil
      go_simp
      (refine (size_any hv _ ho2).mono ?_; rintro e7 w7 ⟨rfl, rfl⟩)
      refine hKQ.out _ _ ?_ (fun hHeld => ?_)
      · (try dsimp only); repeat (first | exact Ext.refl _ | assumption | refine Ext.drew ?_ | refine Ext.drewN ?_ _ | refine Ext.alloc ?_ _)
      clear hKQ KQ
      try simp only [Act.put, s1, s2, s3]
      refine wpAnyH_ready (rs := [7]) (by kernel_rfl) (by simp) ?_
      refine AllReadyH.cons rfl (fun KQ hKQ => ?_) AllReadyH.nil
      go_simp
      refine hKQ.out _ _ ?_ (fun hHeld => ?_)
      · (try dsimp only); repeat (first | exact Ext.refl _ | assumption | refine Ext.drew ?_ | refine Ext.drewN ?_ _ | refine Ext.alloc ?_ _)
      clear hKQ KQ
      try simp only [Act.put, s1, s2, s3]
      refine wpAnyH_ready (rs := [8]) (by kernel_rfl) (by simp) ?_
      refine AllReadyH.cons rfl (fun KQ hKQ => ?_) AllReadyH.nil
      go_simp
      refine hKQ.out _ _ ?_ (fun hHeld => ?_)
      · (try dsimp only); repeat (first | exact Ext.refl _ | assumption | refine Ext.drew ?_ | refine Ext.drewN ?_ _ | refine Ext.alloc ?_ _)
      clear hKQ KQ
      try simp only [Act.put, s1, s2, s3]
      refine wpAnyH_done (by kernel_rfl) ?_ _
      go_wp2
      refine ⟨⟨k + 1, max (max z (max lo (-lo))) (max hv (-hv)), by omega, by go_num, ?_, by omega, ?_, Lib.hid (hE.out.trans (ka.trans (by repeat (first | exact Ext.refl _ | refine Ext.drew ?_ | refine Ext.drewN ?_ _)))), Lib.hid ?_⟩, by simp [intOf]; omega⟩
      · congr 1
        (repeat' split) <;> omega
      · obtain ⟨u0, u1⟩ := ho1
        obtain ⟨u2, u3⟩ := ho2
        omega
      · obtain ⟨hl2, e2⟩ := List.getElem?_eq_some_iff.1 HP.out
        rw [hP.out, List.drop_eq_getElem_cons hl2, e2, mostF]
    · have hkn : k = l.length := by omega
      have HR := Lib.hid (show mostF l 0 = z by rw [hP.out, List.drop_eq_nil_of_le (by omega)]; rfl)
      go_wp2
      go_ret
      exact ⟨by rw [HR.out]; rfl, hE.out⟩
end Go.Proofs.Ytdnjjpkajiehgaa

/-
  Places of package interval; a power's number; least and greatest of numbers.
-/
namespace Go.Proofs.Ytdnjjpkajiehgaa
open Go.RowKit
set_option linter.unusedVariables false
set_option maxRecDepth 100000

theorem twelve_at (w : World) (a0 a1 a2 a3 a4 a5 a6 a7 a8 a9 a10 a11 : Value) (t : TypeId) : (w.alloc (.cells #[a0, a1, a2, a3, a4, a5, a6, a7, a8, a9, a10, a11] t)).cell? ⟨w.heap.size, 0, none⟩ = some a0 ∧ (w.alloc (.cells #[a0, a1, a2, a3, a4, a5, a6, a7, a8, a9, a10, a11] t)).cell? ⟨w.heap.size, 1, none⟩ = some a1 ∧ (w.alloc (.cells #[a0, a1, a2, a3, a4, a5, a6, a7, a8, a9, a10, a11] t)).cell? ⟨w.heap.size, 2, none⟩ = some a2 ∧ (w.alloc (.cells #[a0, a1, a2, a3, a4, a5, a6, a7, a8, a9, a10, a11] t)).cell? ⟨w.heap.size, 3, none⟩ = some a3 ∧ (w.alloc (.cells #[a0, a1, a2, a3, a4, a5, a6, a7, a8, a9, a10, a11] t)).cell? ⟨w.heap.size, 4, none⟩ = some a4 ∧ (w.alloc (.cells #[a0, a1, a2, a3, a4, a5, a6, a7, a8, a9, a10, a11] t)).cell? ⟨w.heap.size, 5, none⟩ = some a5 ∧ (w.alloc (.cells #[a0, a1, a2, a3, a4, a5, a6, a7, a8, a9, a10, a11] t)).cell? ⟨w.heap.size, 6, none⟩ = some a6 ∧ (w.alloc (.cells #[a0, a1, a2, a3, a4, a5, a6, a7, a8, a9, a10, a11] t)).cell? ⟨w.heap.size, 7, none⟩ = some a7 ∧ (w.alloc (.cells #[a0, a1, a2, a3, a4, a5, a6, a7, a8, a9, a10, a11] t)).cell? ⟨w.heap.size, 8, none⟩ = some a8 ∧ (w.alloc (.cells #[a0, a1, a2, a3, a4, a5, a6, a7, a8, a9, a10, a11] t)).cell? ⟨w.heap.size, 9, none⟩ = some a9 ∧ (w.alloc (.cells #[a0, a1, a2, a3, a4, a5, a6, a7, a8, a9, a10, a11] t)).cell? ⟨w.heap.size, 10, none⟩ = some a10 ∧ (w.alloc (.cells #[a0, a1, a2, a3, a4, a5, a6, a7, a8, a9, a10, a11] t)).cell? ⟨w.heap.size, 11, none⟩ = some a11 := by
  refine ⟨?_, ?_, ?_, ?_, ?_, ?_, ?_, ?_, ?_, ?_, ?_, ?_⟩ <;> simp
/-- A place's lists in memory. -/
structure PcX (w : World) (x : Nd) (As Ad Ab Ah At : Option Addr) (cs cd cb ch ct : Nat) (s t : List Int) : Prop where
  nd : NdX w x As Ad Ab cs cd cb
  sh : ZX w Ah s.length ch s
  tk : ZX w At t.length ct t
  ls : s.length ≤ 3
  lt : t.length ≤ 3
theorem PcX.ext {w w' : World} {x : Nd} {As Ad Ab Ah At : Option Addr} {cs cd cb ch ct : Nat} {s t : List Int} (h : PcX w x As Ad Ab Ah At cs cd cb ch ct s t) (k : Ext w w') : PcX w' x As Ad Ab Ah At cs cd cb ch ct s t := ⟨h.nd.ext k, h.sh.ext k, h.tk.ext k, h.ls, h.lt⟩
theorem abs_mul {a v A B : Int} (h1 : -A ≤ a) (h2 : a ≤ A) (h3 : -B ≤ v) (h4 : v ≤ B) : -(A * B) ≤ a * v ∧ a * v ≤ A * B := by
  have e : (a * v).natAbs = a.natAbs * v.natAbs := Int.natAbs_mul a v
  have e2 : (A * B).natAbs = A.natAbs * B.natAbs := Int.natAbs_mul A B
  have m : a.natAbs * v.natAbs ≤ A.natAbs * B.natAbs := Nat.mul_le_mul (by omega) (by omega)
  have p : 0 ≤ A * B := Int.mul_nonneg (by omega) (by omega)
  rw [← e, ← e2] at m
  generalize a * v = u at *
  generalize A * B = z at *
  omega
/-- Numbers within MaxValue. -/
def In20 (v : Int) : Prop := -1048576 ≤ v ∧ v ≤ 1048576
/-- A power's number. -/
def pwF (da : List Int) (v : Int) : Int := (da.getD 2 0 * v + da.getD 1 0) * v + da.getD 0 0
theorem pw_in {c0 c1 c2 v : Int} (h0 : In20 c0) (h1 : In20 c1) (h2 : In20 c2) (hv : In20 v) :
    (-1099511627776 ≤ c2 * v ∧ c2 * v ≤ 1099511627776) ∧ (-1152922604118474752 ≤ (c2 * v + c1) * v ∧ (c2 * v + c1) * v ≤ 1152922604118474752) := by
  obtain ⟨a1, a2⟩ := h1
  have m := abs_mul h2.1 h2.2 hv.1 hv.2
  have m2 := abs_mul (A := 1099512676352) (show -1099512676352 ≤ c2 * v + c1 by omega) (show c2 * v + c1 ≤ 1099512676352 by omega) hv.1 hv.2
  omega
set_option maxHeartbeats 1000000 in
theorem ipower_any (x : Nd) (As Ad Ab Ah At : Option Addr) (cs cd cb ch ct : Nat) (s t : List Int) (S : Value) (w : World) (hX : Hid (PcX w x As Ad Ab Ah At cs cd cb ch ct s t)) (c0 c1 c2 v : Int) (hd : x.da = [c0, c1, c2]) (hb : Hid ((In20 c0 ∧ In20 c1 ∧ In20 c2) ∧ In20 v)) :
    Calls Try.prog 78 #[.agg #[.int .i64 x.k, .int .i64 x.a, .int .i64 x.b, .slice As x.sh.length cs, .int .i64 x.lo, .int .i64 x.hi, .int .i64 x.sz, .slice Ad x.da.length cd, .slice Ab x.bi.length cb, .slice Ah s.length ch, .slice At t.length ct, S], .int .i64 v] w fun e w' => e = .returned (.int .i64 (pwF x.da v)) ∧ Ext w w' := by
  obtain ⟨y0, y1, y2, y3, y4, y5, y6, y7, y8, y9, y10, y11⟩ := twelve_at w (.int .i64 x.k) (.int .i64 x.a) (.int .i64 x.b) (.slice As x.sh.length cs) (.int .i64 x.lo) (.int .i64 x.hi) (.int .i64 x.sz) (.slice Ad x.da.length cd) (.slice Ab x.bi.length cb) (.slice Ah s.length ch) (.slice At t.length ct) S 83
  obtain ⟨⟨b0, b1, b2⟩, bv⟩ := hb.out
  obtain ⟨⟨q0, q1⟩, q2, q3⟩ := pw_in b0 b1 b2 bv
  obtain ⟨p0, p1⟩ := b0
  obtain ⟨p2, p3⟩ := b1
  obtain ⟨ad, rfl, hc⟩ := (hX.out.ext ((Ext.refl w).alloc (.cells #[.int .i64 x.k, .int .i64 x.a, .int .i64 x.b, .slice As x.sh.length cs, .int .i64 x.lo, .int .i64 x.hi, .int .i64 x.sz, .slice Ad x.da.length cd, .slice Ab x.bi.length cb, .slice Ah s.length ch, .slice At t.length ct, S] 83))).nd.da.cells (by rw [hd]; simp)
  have g0 := hc 0 c0 (by rw [hd]; rfl)
  have g1 : (w.alloc (.cells #[.int .i64 x.k, .int .i64 x.a, .int .i64 x.b, .slice As x.sh.length cs, .int .i64 x.lo, .int .i64 x.hi, .int .i64 x.sz, .slice (some ad) x.da.length cd, .slice Ab x.bi.length cb, .slice Ah s.length ch, .slice At t.length ct, S] 83)).cell? ⟨ad.block, ad.off + 1, none⟩ = some (.int .i64 c1) := hc 1 c1 (by rw [hd]; rfl)
  have g2 : (w.alloc (.cells #[.int .i64 x.k, .int .i64 x.a, .int .i64 x.b, .slice As x.sh.length cs, .int .i64 x.lo, .int .i64 x.hi, .int .i64 x.sz, .slice (some ad) x.da.length cd, .slice Ab x.bi.length cb, .slice Ah s.length ch, .slice At t.length ct, S] 83)).cell? ⟨ad.block, ad.off + 2, none⟩ = some (.int .i64 c2) := hc 2 c2 (by rw [hd]; rfl)
  rw [add0J] at g0
  have hl : x.da.length = 3 := by rw [hd]; rfl
  have e9 : pwF x.da v = (c2 * v + c1) * v + c0 := by rw [hd]; rfl
  rw [e9]
  clear e9 hc hb b2 bv
  have l2 : (2 : Int) < (x.da.length : Int) := by omega
  have l1 : (1 : Int) < (x.da.length : Int) := by omega
  have l0 : (0 : Int) < (x.da.length : Int) := by omega
  clear hd hl
  go_enter Try.func78, Try.ntmps78
  go_wp2
  go_quiet (fail)
  go_wp2
  go_ret
  exact ⟨by first | rfl | go_num, ((Ext.refl w).alloc _).drewN _⟩
def minR : List Int → Int → Int
  | [], m => m
  | z :: r, m => minR r (min m z)
def maxR : List Int → Int → Int
  | [], m => m
  | z :: r, m => maxR r (max m z)
/-- From the least number to the greatest. -/
def aroundF (l : List Int) : Int × Int := (minR l (l.getD 0 0), maxR l (l.getD 0 0))
theorem minR_head (l : List Int) (h : l.length ≠ 0) : minR l (l.getD 0 0) = minR (l.drop 1) (l.getD 0 0) := by
  cases l with
  | nil => exact absurd rfl h
  | cons z r => show minR r (min z z) = minR r z; rw [show min z z = z by omega]
theorem maxR_head (l : List Int) (h : l.length ≠ 0) : maxR l (l.getD 0 0) = maxR (l.drop 1) (l.getD 0 0) := by
  cases l with
  | nil => exact absurd rfl h
  | cons z r => show maxR r (max z z) = maxR r z; rw [show max z z = z by omega]
set_option maxHeartbeats 1000000 in
theorem imin_any (A : Option Addr) (n c : Nat) (l : List Int) (w : World) (hX : Hid (ZX w A n c l)) (h0 : 0 < n) (hn : n ≤ 100000) :
    Calls Try.prog 136 #[.slice A n c] w fun e w' => e = .returned (.int .i64 (minR l (l.getD 0 0))) ∧ w' = w := by
  have hlen := hX.out.len
  have HH := Lib.hid (minR_head l (by omega))
  obtain ⟨ad, d0, rfl, hd0, c0⟩ := hX.out.at_ h0
  have e0 : l.getD 0 0 = d0 := by rw [List.getD_eq_getElem?_getD, hd0]; rfl
  rw [HH.out, e0]
  clear HH hd0 e0
  rw [add0J] at c0
  have b0 : ¬ ((n : Int) < 1) := by omega
  go_enter Try.func136, Try.ntmps136
  go_wp2
  go_loop [3, 4] (fun m i => ∃ (k : Nat) (z : Int), 0 < k ∧ k ≤ n ∧ i = .int .i64 (k : Int) ∧ m = .int .i64 z ∧ Hid (minR (l.drop 1) d0 = minR (l.drop k) z)) (fun _ i => n - (intOf i).toNat)
  case atStart => exact ⟨1, d0, by omega, by omega, rfl, rfl, Lib.hid rfl⟩
  case round =>
    obtain ⟨k, z, hk0, hk, rfl, rfl, hF⟩ := hrel
    by_cases hlt : k < n
    · obtain ⟨ad', d, e, hd, hc⟩ := hX.out.at_ hlt
      injection e with e
      subst e
      have hS := Lib.hid (show minR (l.drop 1) d0 = minR (l.drop (k + 1)) (min z d) by rw [hF.out, drop_at hd]; rfl)
      clear hd hF
      have j0 : (0 : Int) ≤ (k : Int) := by omega
      have j1 : (k : Int) < (n : Int) := by omega
      go_wp2
      all_goals
        go_round
        case rel => exact ⟨k + 1, min z d, by omega, by omega, by go_num, by first | rfl | go_num | (congr 1; omega), hS⟩
        case measure => simp [intOf]; omega
    · obtain rfl : k = n := by omega
      have hS := Lib.hid (show minR (l.drop 1) d0 = z by rw [hF.out, List.drop_eq_nil_of_le (by omega)]; rfl)
      clear hF
      go_wp2
      go_ret
      exact ⟨by show Ending.returned (.int .i64 z) = Ending.returned (.int .i64 _); congr 2; simpa using hS.out.symm, rfl⟩
set_option maxHeartbeats 1000000 in
theorem imax_any (A : Option Addr) (n c : Nat) (l : List Int) (w : World) (hX : Hid (ZX w A n c l)) (h0 : 0 < n) (hn : n ≤ 100000) :
    Calls Try.prog 137 #[.slice A n c] w fun e w' => e = .returned (.int .i64 (maxR l (l.getD 0 0))) ∧ w' = w := by
  have hlen := hX.out.len
  have HH := Lib.hid (maxR_head l (by omega))
  obtain ⟨ad, d0, rfl, hd0, c0⟩ := hX.out.at_ h0
  have e0 : l.getD 0 0 = d0 := by rw [List.getD_eq_getElem?_getD, hd0]; rfl
  rw [HH.out, e0]
  clear HH hd0 e0
  rw [add0J] at c0
  have b0 : ¬ ((n : Int) < 1) := by omega
  go_enter Try.func137, Try.ntmps137
  go_wp2
  go_loop [3, 4] (fun m i => ∃ (k : Nat) (z : Int), 0 < k ∧ k ≤ n ∧ i = .int .i64 (k : Int) ∧ m = .int .i64 z ∧ Hid (maxR (l.drop 1) d0 = maxR (l.drop k) z)) (fun _ i => n - (intOf i).toNat)
  case atStart => exact ⟨1, d0, by omega, by omega, rfl, rfl, Lib.hid rfl⟩
  case round =>
    obtain ⟨k, z, hk0, hk, rfl, rfl, hF⟩ := hrel
    by_cases hlt : k < n
    · obtain ⟨ad', d, e, hd, hc⟩ := hX.out.at_ hlt
      injection e with e
      subst e
      have hS := Lib.hid (show maxR (l.drop 1) d0 = maxR (l.drop (k + 1)) (max z d) by rw [hF.out, drop_at hd]; rfl)
      clear hd hF
      have j0 : (0 : Int) ≤ (k : Int) := by omega
      have j1 : (k : Int) < (n : Int) := by omega
      go_wp2
      all_goals
        go_round
        case rel => exact ⟨k + 1, max z d, by omega, by omega, by go_num, by first | rfl | go_num | (congr 1; omega), hS⟩
        case measure => simp [intOf]; omega
    · obtain rfl : k = n := by omega
      have hS := Lib.hid (show maxR (l.drop 1) d0 = z by rw [hF.out, List.drop_eq_nil_of_le (by omega)]; rfl)
      clear hF
      go_wp2
      go_ret
      exact ⟨by show Ending.returned (.int .i64 z) = Ending.returned (.int .i64 _); congr 2; simpa using hS.out.symm, rfl⟩
set_option maxHeartbeats 1000000 in
theorem around_any (A : Option Addr) (n c : Nat) (l : List Int) (w : World) (hX : Hid (ZX w A n c l)) (h0 : 0 < n) (hn : n ≤ 100000) :
    Calls Try.prog 131 #[.slice A n c] w fun e w' => e = .returned (.agg #[.int .i64 (aroundF l).1, .int .i64 (aroundF l).2]) ∧ Ext w w' := by
  have y0 : (w.alloc (.cells #[.int .i64 0, .int .i64 0] 53)).cell? ⟨w.heap.size, 0, none⟩ = some (.int .i64 0) := by simp
  go_enter Try.func131, Try.ntmps131
  go_wp2_with fail
  refine (imin_any A n c l _ (Lib.hid (hX.out.ext (by repeat (first | exact Ext.refl _ | assumption | refine Ext.drew ?_ | refine Ext.drewN ?_ _ | refine Ext.alloc ?_ _)))) h0 hn).mono ?_
  rintro e1 w1 ⟨rfl, rfl⟩
  go_wp2_with fail
  refine (imax_any A n c l _ (Lib.hid (hX.out.ext (by repeat (first | exact Ext.refl _ | assumption | refine Ext.drew ?_ | refine Ext.drewN ?_ _ | refine Ext.alloc ?_ _)))) h0 hn).mono ?_
  rintro e1 w1 ⟨rfl, rfl⟩
  go_wp2
  refine bodyPost_ret (v := .agg #[.int .i64 (aroundF l).1, .int .i64 (aroundF l).2]) (by simp [results, Try.results131, go_sem, aroundF]) rfl ⟨rfl, ?_⟩
  exact (Ext.refl w).alloc _
end Go.Proofs.Ytdnjjpkajiehgaa

/-
  How a place's span comes: an input's is told, a power's is bent.
-/
namespace Go.Proofs.Ytdnjjpkajiehgaa
open Go.RowKit
set_option linter.unusedVariables false
set_option maxRecDepth 100000

set_option maxHeartbeats 1000000 in
theorem way1_any (x : Nd) (As Ad Ab Ah At : Option Addr) (cs cd cb ch ct : Nat) (s t : List Int) (S : Value) (w : World) (hk : Hid (x.k = 1)) :
    Calls Try.prog 74 #[.agg #[.int .i64 x.k, .int .i64 x.a, .int .i64 x.b, .slice As x.sh.length cs, .int .i64 x.lo, .int .i64 x.hi, .int .i64 x.sz, .slice Ad x.da.length cd, .slice Ab x.bi.length cb, .slice Ah s.length ch, .slice At t.length ct, S]] w fun e w' => e = .returned (.func (.func 116) #[.agg #[.int .i64 x.k, .int .i64 x.a, .int .i64 x.b, .slice As x.sh.length cs, .int .i64 x.lo, .int .i64 x.hi, .int .i64 x.sz, .slice Ad x.da.length cd, .slice Ab x.bi.length cb, .slice Ah s.length ch, .slice At t.length ct, S]] #[]) ∧ Ext w w' := by
  obtain ⟨k, a, b, sh, lo, hv, sz, da, bi⟩ := x
  dsimp only at *
  obtain rfl := hk.out
  obtain ⟨y0, y1, y2, y3, y4, y5, y6, y7, y8, y9, y10, y11⟩ := twelve_at w (.int .i64 1) (.int .i64 a) (.int .i64 b) (.slice As sh.length cs) (.int .i64 lo) (.int .i64 hv) (.int .i64 sz) (.slice Ad da.length cd) (.slice Ab bi.length cb) (.slice Ah s.length ch) (.slice At t.length ct) S 83
  go_enter Try.func74, Try.ntmps74
  go_wp2
  go_ret
  exact ⟨rfl, (Ext.refl w).alloc _⟩
set_option maxHeartbeats 1000000 in
theorem way8_any (x : Nd) (As Ad Ab Ah At : Option Addr) (cs cd cb ch ct : Nat) (s t : List Int) (S : Value) (w : World) (hk : Hid (x.k = 8)) :
    Calls Try.prog 74 #[.agg #[.int .i64 x.k, .int .i64 x.a, .int .i64 x.b, .slice As x.sh.length cs, .int .i64 x.lo, .int .i64 x.hi, .int .i64 x.sz, .slice Ad x.da.length cd, .slice Ab x.bi.length cb, .slice Ah s.length ch, .slice At t.length ct, S]] w fun e w' => e = .returned (.func (.func 117) #[.agg #[.int .i64 x.k, .int .i64 x.a, .int .i64 x.b, .slice As x.sh.length cs, .int .i64 x.lo, .int .i64 x.hi, .int .i64 x.sz, .slice Ad x.da.length cd, .slice Ab x.bi.length cb, .slice Ah s.length ch, .slice At t.length ct, S]] #[]) ∧ Ext w w' := by
  obtain ⟨k, a, b, sh, lo, hv, sz, da, bi⟩ := x
  dsimp only at *
  obtain rfl := hk.out
  obtain ⟨y0, y1, y2, y3, y4, y5, y6, y7, y8, y9, y10, y11⟩ := twelve_at w (.int .i64 8) (.int .i64 a) (.int .i64 b) (.slice As sh.length cs) (.int .i64 lo) (.int .i64 hv) (.int .i64 sz) (.slice Ad da.length cd) (.slice Ab bi.length cb) (.slice Ah s.length ch) (.slice At t.length ct) S 83
  go_enter Try.func74, Try.ntmps74
  go_wp2
  go_ret
  exact ⟨rfl, (Ext.refl w).alloc _⟩
set_option maxHeartbeats 1000000 in
theorem way0_any (x : Nd) (As Ad Ab Ah At : Option Addr) (cs cd cb ch ct : Nat) (s t : List Int) (S : Value) (w : World) (hk : Hid (x.k ≠ 1 ∧ x.k ≠ 8)) :
    Calls Try.prog 74 #[.agg #[.int .i64 x.k, .int .i64 x.a, .int .i64 x.b, .slice As x.sh.length cs, .int .i64 x.lo, .int .i64 x.hi, .int .i64 x.sz, .slice Ad x.da.length cd, .slice Ab x.bi.length cb, .slice Ah s.length ch, .slice At t.length ct, S]] w fun e w' => e = .returned (.func (.func 118) #[.agg #[.int .i64 x.k, .int .i64 x.a, .int .i64 x.b, .slice As x.sh.length cs, .int .i64 x.lo, .int .i64 x.hi, .int .i64 x.sz, .slice Ad x.da.length cd, .slice Ab x.bi.length cb, .slice Ah s.length ch, .slice At t.length ct, S]] #[]) ∧ Ext w w' := by
  obtain ⟨n1, n8⟩ := hk.out
  obtain ⟨y0, y1, y2, y3, y4, y5, y6, y7, y8, y9, y10, y11⟩ := twelve_at w (.int .i64 x.k) (.int .i64 x.a) (.int .i64 x.b) (.slice As x.sh.length cs) (.int .i64 x.lo) (.int .i64 x.hi) (.int .i64 x.sz) (.slice Ad x.da.length cd) (.slice Ab x.bi.length cb) (.slice Ah s.length ch) (.slice At t.length ct) S 83
  go_enter Try.func74, Try.ntmps74
  go_wp2
  go_ret
  exact ⟨rfl, (Ext.refl w).alloc _⟩
set_option maxHeartbeats 1000000 in
theorem told_any (x : Nd) (As Ad Ab Ah At : Option Addr) (cs cd cb ch ct : Nat) (s t : List Int) (S : Value) (v : Value) (w : World) :
    Calls Try.prog 116 #[.agg #[.int .i64 x.k, .int .i64 x.a, .int .i64 x.b, .slice As x.sh.length cs, .int .i64 x.lo, .int .i64 x.hi, .int .i64 x.sz, .slice Ad x.da.length cd, .slice Ab x.bi.length cb, .slice Ah s.length ch, .slice At t.length ct, S], v] w fun e w' => e = .returned (.agg #[.int .i64 x.lo, .int .i64 x.hi]) ∧ Ext w w' := by
  obtain ⟨y0, y1, y2, y3, y4, y5, y6, y7, y8, y9, y10, y11⟩ := twelve_at w (.int .i64 x.k) (.int .i64 x.a) (.int .i64 x.b) (.slice As x.sh.length cs) (.int .i64 x.lo) (.int .i64 x.hi) (.int .i64 x.sz) (.slice Ad x.da.length cd) (.slice Ab x.bi.length cb) (.slice Ah s.length ch) (.slice At t.length ct) S 83
  go_enter Try.func116, Try.ntmps116
  go_wp2
  refine bodyPost_ret (v := .agg #[.int .i64 x.lo, .int .i64 x.hi]) (by simp [results, Try.results116, go_sem]) rfl ⟨rfl, ?_⟩
  exact ((Ext.refl w).alloc _).alloc _
/-- The numbers at n whole numbers from v on. -/
def pwsF (da : List Int) (v : Int) (n : Nat) : List Int := (List.range n).map fun (j : Nat) => pwF da (v + j)
/-- Where a power turns, nearly. -/
def turnF (da : List Int) : Int := (-(da.getD 1 0)).tdiv (2 * da.getD 2 0)
/-- What a power's span is asked of. -/
def bendsF (da : List Int) (lo hi : Int) : List Int :=
  [pwF da lo, pwF da hi] ++ (if da.getD 2 0 = 0 then [] else pwsF da (max (turnF da - 1) lo) (min (turnF da + 1) hi - max (turnF da - 1) lo + 1).toNat)
theorem two_atJ0 (w : World) (v u : Value) (t : TypeId) : (w.alloc (.cells #[v, u] t)).cell? ⟨w.heap.size, 0, none⟩ = some v := by simp
theorem two_atJ1 (w : World) (v u : Value) (t : TypeId) : (w.alloc (.cells #[v, u] t)).cell? ⟨w.heap.size, 1, none⟩ = some u := by simp
theorem two_fzJ (w : World) (v u : Value) (t : TypeId) (i : Nat) : (w.alloc (.cells #[v, u] t)).frozen? ⟨w.heap.size, i, none⟩ = false := by simp
theorem own_newJ (w0 : World) (t : TypeId) (size n : Nat) (xs : List Value) (h : xs.length = n * size) (hn : n ≤ maxLen) : (w0.alloc (.cells xs.toArray t)).ownsRow w0.heap.size t size (.slice (some ⟨w0.heap.size, 0, none⟩) n n) n xs :=
  ⟨h, .inr ⟨w0.heap.size, n, xs.toArray, rfl, Nat.le_refl _, heap_alloc_new w0 _, Nat.le_refl _, hn, by simpa using h, by rw [← h]; simp⟩⟩
theorem own_extJ {w w' : World} {B : Nat} {t : TypeId} {s : Nat} {v : Value} {n : Nat} {xs : List Value} (h : w.ownsRow B t s v n xs) (k : Ext w w') : w'.ownsRow B t s v n xs := by
  refine ⟨h.1, ?_⟩
  rcases h.2 with h0 | ⟨g, cap, cur, e, hg, hh, h1⟩
  · exact .inl h0
  · exact .inr ⟨g, cap, cur, e, hg, (k.block g (Array.getElem?_eq_some_iff.1 hh).1).trans hh, h1⟩
theorem own_lowJ {w : World} {B B' : Nat} {t : TypeId} {s : Nat} {v : Value} {n : Nat} {xs : List Value} (h : w.ownsRow B t s v n xs) (hb : B' ≤ B) : w.ownsRow B' t s v n xs := by
  refine ⟨h.1, ?_⟩
  rcases h.2 with h0 | ⟨g, cap, cur, e, hg, h1⟩
  · exact .inl h0
  · exact .inr ⟨g, cap, cur, e, by omega, h1⟩
theorem one_cellJ {w : World} {u : Value} {t : TypeId} : ∀ (j : Nat) (x : Value), [u][j]? = some x → (w.alloc (.cells #[u] t)).cell? ((⟨w.heap.size, 0, none⟩ : Addr).add j) = some x := by
  intro j x hx
  rcases j with _ | j
  · simp at hx; subst hx; simp [Addr.add]
  · simp at hx
theorem one_intZ {z : Int} : ∀ u ∈ [Value.int .i64 z], u.oneCell' = true := by
  intro u hu; simp at hu; subst hu; rfl
theorem ext_grown {w0 w w' : World} {B : Nat} {t : TypeId} {s : Nat} {v : Value} {n : Nat} {xs : List Value} (h : Ext w0 w) (ho : w.ownsRow B t s v n xs) (hb : w0.heap.size ≤ B) (hg : w.grownBy w' v.ownBlock) : Ext w0 w' :=
  Below.grown h hg h.size (fun k e => by have := (ho.lt k e).1; omega)
theorem i64s_snoc (l : List Int) (z : Int) : i64s (l ++ [z]) = i64s l ++ [Value.int .i64 z] := by simp [i64s]
theorem pws_succ (da : List Int) (v : Int) (n : Nat) : pwsF da v (n + 1) = pwsF da v n ++ [pwF da (v + n)] := by
  unfold pwsF
  rw [List.range_succ, List.map_append]
  rfl
set_option maxHeartbeats 4000000 in
theorem ibent_any (x : Nd) (As Ad Ab Ah At : Option Addr) (cs cd cb ch ct : Nat) (s t : List Int) (S : Value) (Ak : Option Addr) (ck : Nat) (ks : List (Int × Int)) (w : World) (hX : Hid (PcX w x As Ad Ab Ah At cs cd cb ch ct s t)) (hK : Hid (SpX w Ak ck ks)) (hl : ks.length ≤ 100000) (i : Nat) (hi : x.a = (i : Int)) (lo hv : Int) (hp : Hid (ks[i]? = some (lo, hv))) (c0 c1 c2 : Int) (hd : Hid (x.da = [c0, c1, c2])) (hC : In20 c0 ∧ In20 c1 ∧ In20 c2) (hL : In20 lo) (hH : In20 hv) :
    Calls Try.prog 117 #[.agg #[.int .i64 x.k, .int .i64 x.a, .int .i64 x.b, .slice As x.sh.length cs, .int .i64 x.lo, .int .i64 x.hi, .int .i64 x.sz, .slice Ad x.da.length cd, .slice Ab x.bi.length cb, .slice Ah s.length ch, .slice At t.length ct, S], .slice Ak ks.length ck] w fun e w' => e = .returned (.agg #[.int .i64 (aroundF (bendsF x.da lo hv)).1, .int .i64 (aroundF (bendsF x.da lo hv)).2]) ∧ Ext w w' := by
  obtain ⟨k, a, b, sh, lo_, hi_, sz, da, bi⟩ := x
  dsimp only at *
  subst hi
  obtain ⟨y0, y1, y2, y3, y4, y5, y6, y7, y8, y9, y10, y11⟩ := twelve_at w (.int .i64 k) (.int .i64 (i : Int)) (.int .i64 b) (.slice As sh.length cs) (.int .i64 lo_) (.int .i64 hi_) (.int .i64 sz) (.slice Ad da.length cd) (.slice Ab bi.length cb) (.slice Ah s.length ch) (.slice At t.length ct) S 83
  obtain ⟨ad, rfl, hc⟩ := hX.out.nd.da.cells (by show 0 < da.length; rw [hd.out]; simp)
  obtain ⟨ak, rfl, hkc⟩ := (hK.out.ext (((Ext.refl w).alloc (.cells #[.int .i64 k, .int .i64 (i : Int), .int .i64 b, .slice As sh.length cs, .int .i64 lo_, .int .i64 hi_, .int .i64 sz, .slice (some ad) da.length cd, .slice Ab bi.length cb, .slice Ah s.length ch, .slice At t.length ct, S] 83)).alloc (.cells #[.int .i64 0, .int .i64 0] 53))).cells (by have := (List.getElem?_eq_some_iff.1 hp.out).1; omega)
  obtain ⟨u0, u1⟩ := hkc i (lo, hv) hp.out
  have hil := (List.getElem?_eq_some_iff.1 hp.out).1
  dsimp only at u0 u1
  have HC := Lib.hid hc
  have i0 : (0 : Int) ≤ (i : Int) := by omega
  have i1 : (i : Int) < (ks.length : Int) := by omega
  clear hc hkc
  obtain ⟨W1, hW1⟩ : ∃ W1, W1 = w.alloc (.cells #[.int .i64 k, .int .i64 (i : Int), .int .i64 b, .slice As sh.length cs, .int .i64 lo_, .int .i64 hi_, .int .i64 sz, .slice (some ad) da.length cd, .slice Ab bi.length cb, .slice Ah s.length ch, .slice At t.length ct, S] 83) := ⟨_, rfl⟩
  have s1 : W1.heap.size = w.heap.size + 1 := by rw [hW1]; simp
  have s2 : (W1.alloc (.cells #[.int .i64 0, .int .i64 0] 53)).heap.size = w.heap.size + 2 := by simp [s1]
  have e1 : Ext (W1.alloc (.cells #[.int .i64 0, .int .i64 0] 53)) ((W1.alloc (.cells #[.int .i64 0, .int .i64 0] 53)).alloc (.cells #[.int .i64 lo, .int .i64 hv] 53)) := (Ext.refl _).alloc _
  have n0 : ((W1.alloc (.cells #[.int .i64 0, .int .i64 0] 53)).alloc (.cells #[.int .i64 lo, .int .i64 hv] 53)).cell? ⟨w.heap.size + 2, 0, none⟩ = some (.int .i64 lo) := by rw [← s2]; exact two_atJ0 _ _ _ _
  have n1 : ((W1.alloc (.cells #[.int .i64 0, .int .i64 0] 53)).alloc (.cells #[.int .i64 lo, .int .i64 hv] 53)).cell? ⟨w.heap.size + 2, 1, none⟩ = some (.int .i64 hv) := by rw [← s2]; exact two_atJ1 _ _ _ _
  have r0 := cell_ext e1 (show (W1.alloc (.cells #[.int .i64 0, .int .i64 0] 53)).cell? ⟨w.heap.size + 1, 0, none⟩ = some (.int .i64 0) by rw [← s1]; exact two_atJ0 _ _ _ _)
  have r1 := cell_ext e1 (show (W1.alloc (.cells #[.int .i64 0, .int .i64 0] 53)).cell? ⟨w.heap.size + 1, 1, none⟩ = some (.int .i64 0) by rw [← s1]; exact two_atJ1 _ _ _ _)
  have q0 : ((W1.alloc (.cells #[.int .i64 0, .int .i64 0] 53)).alloc (.cells #[.int .i64 lo, .int .i64 hv] 53)).frozen? ⟨w.heap.size + 1, 0, none⟩ = false := (World.frozen?_of_block (w := W1.alloc (.cells #[.int .i64 0, .int .i64 0] 53)) (w' := (W1.alloc (.cells #[.int .i64 0, .int .i64 0] 53)).alloc (.cells #[.int .i64 lo, .int .i64 hv] 53)) (a := ⟨w.heap.size + 1, 0, none⟩) (e1.block _ (by show w.heap.size + 1 < _; omega))).trans (by rw [← s1]; exact two_fzJ _ _ _ _ _)
  have q1 : ((W1.alloc (.cells #[.int .i64 0, .int .i64 0] 53)).alloc (.cells #[.int .i64 lo, .int .i64 hv] 53)).frozen? ⟨w.heap.size + 1, 1, none⟩ = false := (World.frozen?_of_block (w := W1.alloc (.cells #[.int .i64 0, .int .i64 0] 53)) (w' := (W1.alloc (.cells #[.int .i64 0, .int .i64 0] 53)).alloc (.cells #[.int .i64 lo, .int .i64 hv] 53)) (a := ⟨w.heap.size + 1, 1, none⟩) (e1.block _ (by show w.heap.size + 1 < _; omega))).trans (by rw [← s1]; exact two_fzJ _ _ _ _ _)
  subst hW1
  clear s1 s2 e1
  have KA : Ext w (((w.alloc (.cells #[.int .i64 k, .int .i64 (i : Int), .int .i64 b, .slice As sh.length cs, .int .i64 lo_, .int .i64 hi_, .int .i64 sz, .slice (some ad) da.length cd, .slice Ab bi.length cb, .slice Ah s.length ch, .slice At t.length ct, S] 83)).alloc (.cells #[.int .i64 0, .int .i64 0] 53)).alloc (.cells #[.int .i64 lo, .int .i64 hv] 53)) := (((Ext.refl w).alloc _).alloc _).alloc _
  have hsz : (((w.alloc (.cells #[.int .i64 k, .int .i64 (i : Int), .int .i64 b, .slice As sh.length cs, .int .i64 lo_, .int .i64 hi_, .int .i64 sz, .slice (some ad) da.length cd, .slice Ab bi.length cb, .slice Ah s.length ch, .slice At t.length ct, S] 83)).alloc (.cells #[.int .i64 0, .int .i64 0] 53)).alloc (.cells #[.int .i64 lo, .int .i64 hv] 53)).heap.size = w.heap.size + 3 := by simp
  have k2 : Ext (w.alloc (.cells #[.int .i64 k, .int .i64 (i : Int), .int .i64 b, .slice As sh.length cs, .int .i64 lo_, .int .i64 hi_, .int .i64 sz, .slice (some ad) da.length cd, .slice Ab bi.length cb, .slice Ah s.length ch, .slice At t.length ct, S] 83)) (((w.alloc (.cells #[.int .i64 k, .int .i64 (i : Int), .int .i64 b, .slice As sh.length cs, .int .i64 lo_, .int .i64 hi_, .int .i64 sz, .slice (some ad) da.length cd, .slice Ab bi.length cb, .slice Ah s.length ch, .slice At t.length ct, S] 83)).alloc (.cells #[.int .i64 0, .int .i64 0] 53)).alloc (.cells #[.int .i64 lo, .int .i64 hv] 53)) := ((Ext.refl _).alloc _).alloc _
  go_enter Try.func117, Try.ntmps117
  go_wp2_with fail
  have hXW := Lib.hid ((hX.out.ext ((Ext.refl w).alloc (.cells #[.int .i64 k, .int .i64 (i : Int), .int .i64 b, .slice As sh.length cs, .int .i64 lo_, .int .i64 hi_, .int .i64 sz, .slice (some ad) da.length cd, .slice Ab bi.length cb, .slice Ah s.length ch, .slice At t.length ct, S] 83))).ext k2)
  generalize ((w.alloc (.cells #[.int .i64 k, .int .i64 (i : Int), .int .i64 b, .slice As sh.length cs, .int .i64 lo_, .int .i64 hi_, .int .i64 sz, .slice (some ad) da.length cd, .slice Ab bi.length cb, .slice Ah s.length ch, .slice At t.length ct, S] 83)).alloc (.cells #[.int .i64 0, .int .i64 0] 53)).alloc (.cells #[.int .i64 lo, .int .i64 hv] 53) = W at *
  replace y0 := cell_ext k2 y0
  replace y1 := cell_ext k2 y1
  replace y2 := cell_ext k2 y2
  replace y3 := cell_ext k2 y3
  replace y4 := cell_ext k2 y4
  replace y5 := cell_ext k2 y5
  replace y6 := cell_ext k2 y6
  replace y7 := cell_ext k2 y7
  replace y8 := cell_ext k2 y8
  replace y9 := cell_ext k2 y9
  replace y10 := cell_ext k2 y10
  replace y11 := cell_ext k2 y11
  clear u0 u1 k2
  refine wp_region_held_drew (S := (fun w' => Ext W w')) (by kernel_rfl) ?_ (fun hHeld => ?_)
  · (try dsimp only); repeat (first | exact Ext.refl _ | assumption | refine Ext.drew ?_ | refine Ext.drewN ?_ _ | refine Ext.alloc ?_ _)
  refine wpAnyH_take (i := 0) (oi := _) (v := ?_) rfl (by kernel_rfl) (by kernel_rfl) (by kernel_rfl) (fun _ _ _ h => h) (Or.inl ⟨by first | kernel_rfl | rfl, ?_⟩) (by assumption) ?_
  rotate_left
  · (intro wS hSw; (try dsimp only at hSw); have z0 := cell_ext hSw y0; have z1 := cell_ext hSw y1; have z2 := cell_ext hSw y2; have z3 := cell_ext hSw y3; have z4 := cell_ext hSw y4; have z5 := cell_ext hSw y5; have z6 := cell_ext hSw y6; have z7 := cell_ext hSw y7; have z8 := cell_ext hSw y8; have z9 := cell_ext hSw y9; have z10 := cell_ext hSw y10; have z11 := cell_ext hSw y11; have z12 := cell_ext hSw n0; have z13 := cell_ext hSw n1; (try go_simp); (try with_reducible rfl))
  try simp only [Act.put, s1, s2, s3]
  refine wpAnyH_take (i := 1) (oi := _) (v := ?_) rfl (by kernel_rfl) (by kernel_rfl) (by kernel_rfl) (fun _ _ _ h => h) (Or.inl ⟨by first | kernel_rfl | rfl, ?_⟩) (by assumption) ?_
  rotate_left
  · (intro wS hSw; (try dsimp only at hSw); have z0 := cell_ext hSw y0; have z1 := cell_ext hSw y1; have z2 := cell_ext hSw y2; have z3 := cell_ext hSw y3; have z4 := cell_ext hSw y4; have z5 := cell_ext hSw y5; have z6 := cell_ext hSw y6; have z7 := cell_ext hSw y7; have z8 := cell_ext hSw y8; have z9 := cell_ext hSw y9; have z10 := cell_ext hSw y10; have z11 := cell_ext hSw y11; have z12 := cell_ext hSw n0; have z13 := cell_ext hSw n1; (try go_simp); (try with_reducible rfl))
  try simp only [Act.put, s1, s2, s3]
  refine wpAnyH_take (i := 2) (oi := _) (v := ?_) rfl (by kernel_rfl) (by kernel_rfl) (by kernel_rfl) (fun _ _ _ h => h) (Or.inl ⟨by first | kernel_rfl | rfl, ?_⟩) (by assumption) ?_
  rotate_left
  · (intro wS hSw; (try dsimp only at hSw); have z0 := cell_ext hSw y0; have z1 := cell_ext hSw y1; have z2 := cell_ext hSw y2; have z3 := cell_ext hSw y3; have z4 := cell_ext hSw y4; have z5 := cell_ext hSw y5; have z6 := cell_ext hSw y6; have z7 := cell_ext hSw y7; have z8 := cell_ext hSw y8; have z9 := cell_ext hSw y9; have z10 := cell_ext hSw y10; have z11 := cell_ext hSw y11; have z12 := cell_ext hSw n0; have z13 := cell_ext hSw n1; (try go_simp); (try with_reducible rfl))
  try simp only [Act.put, s1, s2, s3]
  refine wpAnyH_take (i := 4) (oi := _) (v := ?_) rfl (by kernel_rfl) (by kernel_rfl) (by kernel_rfl) (fun _ _ _ h => h) (Or.inl ⟨by first | kernel_rfl | rfl, ?_⟩) (by assumption) ?_
  rotate_left
  · (intro wS hSw; (try dsimp only at hSw); have z0 := cell_ext hSw y0; have z1 := cell_ext hSw y1; have z2 := cell_ext hSw y2; have z3 := cell_ext hSw y3; have z4 := cell_ext hSw y4; have z5 := cell_ext hSw y5; have z6 := cell_ext hSw y6; have z7 := cell_ext hSw y7; have z8 := cell_ext hSw y8; have z9 := cell_ext hSw y9; have z10 := cell_ext hSw y10; have z11 := cell_ext hSw y11; have z12 := cell_ext hSw n0; have z13 := cell_ext hSw n1; (try go_simp); (try with_reducible rfl))
  try simp only [Act.put, s1, s2, s3]
  refine wpAnyH_take (i := 5) (oi := _) (v := ?_) rfl (by kernel_rfl) (by kernel_rfl) (by kernel_rfl) (fun _ _ _ h => h) (Or.inl ⟨by first | kernel_rfl | rfl, ?_⟩) (by assumption) ?_
  rotate_left
  · (intro wS hSw; (try dsimp only at hSw); have z0 := cell_ext hSw y0; have z1 := cell_ext hSw y1; have z2 := cell_ext hSw y2; have z3 := cell_ext hSw y3; have z4 := cell_ext hSw y4; have z5 := cell_ext hSw y5; have z6 := cell_ext hSw y6; have z7 := cell_ext hSw y7; have z8 := cell_ext hSw y8; have z9 := cell_ext hSw y9; have z10 := cell_ext hSw y10; have z11 := cell_ext hSw y11; have z12 := cell_ext hSw n0; have z13 := cell_ext hSw n1; (try go_simp); (try with_reducible rfl))
  try simp only [Act.put, s1, s2, s3]
  refine wpAnyH_take (i := 6) (oi := _) (v := ?_) rfl (by kernel_rfl) (by kernel_rfl) (by kernel_rfl) (fun _ _ _ h => h) (Or.inl ⟨by first | kernel_rfl | rfl, ?_⟩) (by assumption) ?_
  rotate_left
  · (intro wS hSw; (try dsimp only at hSw); have z0 := cell_ext hSw y0; have z1 := cell_ext hSw y1; have z2 := cell_ext hSw y2; have z3 := cell_ext hSw y3; have z4 := cell_ext hSw y4; have z5 := cell_ext hSw y5; have z6 := cell_ext hSw y6; have z7 := cell_ext hSw y7; have z8 := cell_ext hSw y8; have z9 := cell_ext hSw y9; have z10 := cell_ext hSw y10; have z11 := cell_ext hSw y11; have z12 := cell_ext hSw n0; have z13 := cell_ext hSw n1; (try go_simp); (try with_reducible rfl))
  try simp only [Act.put, s1, s2, s3]
  refine wpAnyH_ready (rs := [3]) (by kernel_rfl) (by simp) ?_
  refine AllReadyH.cons rfl (fun KQ hKQ => ?_) AllReadyH.nil
  go_simp
  (refine (ipower_any ⟨k, (i : Int), b, sh, lo_, hi_, sz, da, bi⟩ As (some ad) Ab Ah At cs cd cb ch ct s t S _ (Lib.hid (hXW.out.ext (by repeat (first | exact Ext.refl _ | assumption | refine Ext.drew ?_ | refine Ext.drewN ?_ _ | refine Ext.alloc ?_ _)))) c0 c1 c2 lo hd.out (Lib.hid ⟨hC, hL⟩)).mono ?_; rintro e5 w4 ⟨rfl, k4⟩); replace k4 : Ext W w4 := Ext.trans (by repeat (first | exact Ext.refl _ | assumption | refine Ext.drew ?_ | refine Ext.drewN ?_ _ | refine Ext.alloc ?_ _)) k4
  refine hKQ.out _ _ ?_ (fun hHeld => ?_)
  · (try dsimp only); repeat (first | exact Ext.refl _ | assumption | refine Ext.drew ?_ | refine Ext.drewN ?_ _ | refine Ext.alloc ?_ _)
  clear hKQ KQ
  try simp only [Act.put, s1, s2, s3]
  refine wpAnyH_ready (rs := [7]) (by kernel_rfl) (by simp) ?_
  refine AllReadyH.cons rfl (fun KQ hKQ => ?_) AllReadyH.nil
  go_simp
  (refine (ipower_any ⟨k, (i : Int), b, sh, lo_, hi_, sz, da, bi⟩ As (some ad) Ab Ah At cs cd cb ch ct s t S _ (Lib.hid (hXW.out.ext (by repeat (first | exact Ext.refl _ | assumption | refine Ext.drew ?_ | refine Ext.drewN ?_ _ | refine Ext.alloc ?_ _)))) c0 c1 c2 hv hd.out (Lib.hid ⟨hC, hH⟩)).mono ?_; rintro e5 w5 ⟨rfl, k5⟩); replace k5 : Ext W w5 := Ext.trans (by repeat (first | exact Ext.refl _ | assumption | refine Ext.drew ?_ | refine Ext.drewN ?_ _ | refine Ext.alloc ?_ _)) k5
  refine hKQ.out _ _ ?_ (fun hHeld => ?_)
  · (try dsimp only); repeat (first | exact Ext.refl _ | assumption | refine Ext.drew ?_ | refine Ext.drewN ?_ _ | refine Ext.alloc ?_ _)
  clear hKQ KQ
  try simp only [Act.put, s1, s2, s3]
  refine wpAnyH_ready (rs := [8]) (by kernel_rfl) (by simp) ?_
  refine AllReadyH.cons rfl (fun KQ hKQ => ?_) AllReadyH.nil
  go_simp
  refine hKQ.out _ _ ?_ (fun hHeld => ?_)
  · (try dsimp only); repeat (first | exact Ext.refl _ | assumption | refine Ext.drew ?_ | refine Ext.drewN ?_ _ | refine Ext.alloc ?_ _)
  clear hKQ KQ
  try simp only [Act.put, s1, s2, s3]
  refine wpAnyH_ready (rs := [9]) (by kernel_rfl) (by simp) ?_
  refine AllReadyH.cons rfl (fun KQ hKQ => ?_) AllReadyH.nil
  go_simp
  refine hKQ.out _ _ ?_ (fun hHeld => ?_)
  · (try dsimp only); repeat (first | exact Ext.refl _ | assumption | refine Ext.drew ?_ | refine Ext.drewN ?_ _ | refine Ext.alloc ?_ _)
  clear hKQ KQ
  try simp only [Act.put, s1, s2, s3]
  refine wpAnyH_done (by kernel_rfl) ?_ _
  obtain ⟨W6, hW6⟩ : ∃ W6, W6 = w5.alloc (.cells #[.int .i64 (pwF da lo), .int .i64 (pwF da hv)] 3) := ⟨_, rfl⟩
  have hE6 : Ext W W6 := by rw [hW6]; exact k5.alloc _
  have hW5 := k5.size
  have ho6 : W6.ownsRow w5.heap.size 3 1 (.slice (some ⟨w5.heap.size, 0, none⟩) 2 2) 2 (i64s [pwF da lo, pwF da hv]) := by rw [hW6]; exact own_newJ w5 _ 1 2 (i64s [pwF da lo, pwF da hv]) rfl (by unfold maxLen; omega)
  rw [← hW6]
  clear hW6 hHeld
  have HO := Lib.hid ho6
  clear ho6
  have z7 := cell_ext hE6 y7
  have z12 := cell_ext hE6 n0
  have z13 := cell_ext hE6 n1
  have g1 : W6.cell? ⟨ad.block, ad.off + 1, none⟩ = some (.int .i64 c1) := cell_ext (KA.trans hE6) (HC.out 1 c1 (by rw [hd.out]; rfl))
  have g2 : W6.cell? ⟨ad.block, ad.off + 2, none⟩ = some (.int .i64 c2) := cell_ext (KA.trans hE6) (HC.out 2 c2 (by rw [hd.out]; rfl))
  have l2 : (2 : Int) < (da.length : Int) := by rw [hd.out]; simp
  have l1 : (1 : Int) < (da.length : Int) := by omega
  by_cases hz : c2 = 0
  · have HL9 := Lib.hid (show aroundF [pwF da lo, pwF da hv] = aroundF (bendsF da lo hv) by unfold bendsF; rw [if_pos (by rw [hd.out]; exact hz)]; rfl)
    subst hz
    obtain ⟨A9, c9, e9, h9, _⟩ := rdZ_of_own HO.out
    injection e9 with e9 _ e99
    subst e9
    subst e99
    have hE9 := hE6
    go_wp2_with fail
    refine (around_any (some ⟨w5.heap.size, 0, none⟩) 2 2 [pwF da lo, pwF da hv] _ (Lib.hid h9) (by omega) (by omega)).mono ?_
    rintro e6 w6 ⟨rfl, k6⟩
    have k7 := Ext.trans hE9 k6
    have d0 := cell_ext k7 r0
    have d1 := cell_ext k7 r1
    have f0 : w6.frozen? ⟨w.heap.size + 1, 0, none⟩ = false := (World.frozen?_of_block (k7.block _ (by show w.heap.size + 1 < _; omega))).trans q0
    have f1 : w6.frozen? ⟨w.heap.size + 1, 1, none⟩ = false := (World.frozen?_of_block (k7.block _ (by show w.heap.size + 1 < _; omega))).trans q1
    go_wp2
    refine bodyPost_ret (v := .agg #[.int .i64 (aroundF [pwF da lo, pwF da hv]).1, .int .i64 (aroundF [pwF da lo, pwF da hv]).2]) (by simp [results, Try.results117, go_sem, d0, d1]) rfl ⟨by rw [HL9.out], ?_⟩
    exact Ext.set (p := ⟨w.heap.size + 1, 1, none⟩) (Ext.set (p := ⟨w.heap.size + 1, 0, none⟩) (KA.trans k7) (by simp) _) (by simp) _
  · obtain ⟨tn, htn⟩ : ∃ tn, tn = -(c1.tdiv (2 * c2)) := ⟨_, rfl⟩
    have tb : -1048576 ≤ tn ∧ tn ≤ 1048576 := by
      have m := Int.natAbs_tdiv_le_natAbs c1 (2 * c2)
      generalize c1.tdiv (2 * c2) = q at *
      obtain ⟨⟨_, _⟩, ⟨b1, b2⟩, _⟩ := hC
      omega
    obtain ⟨b1, b2⟩ := hC.2.1
    obtain ⟨b3, b4⟩ := hC.2.2
    obtain ⟨t0, t1⟩ := tb
    have hz2 : ¬ (2 * c2 = 0) := by omega
    have HT := Lib.hid (show turnF da = tn by rw [htn]; unfold turnF; rw [hd.out]; show (-c1).tdiv (2 * c2) = _; rw [Int.neg_tdiv])
    have hw : wrap64 (-(c1.tdiv (2 * c2))) = tn := by rw [← htn]; unfold wrap64; omega
    clear htn
    obtain ⟨v0, hv0⟩ : ∃ v0, v0 = max (tn - 1) lo := ⟨_, rfl⟩
    obtain ⟨N, hN⟩ : ∃ N, N = (min (tn + 1) hv - v0 + 1).toNat := ⟨_, rfl⟩
    obtain ⟨h3, h4⟩ := hL
    obtain ⟨h5, h6⟩ := hH
    have hN3 : N ≤ 3 := by omega
    have HL9 := Lib.hid (show aroundF ([pwF da lo, pwF da hv] ++ pwsF da v0 N) = aroundF (bendsF da lo hv) by unfold bendsF; rw [if_neg (by rw [hd.out]; exact hz), HT.out, ← hv0, ← hN])
    have HV := Lib.hid hv0
    have HN := Lib.hid hN
    have hv1 : lo ≤ v0 := by omega
    have hv2 : v0 ≤ 1048576 := by omega
    clear hv0 hN
    obtain ⟨i0', hii, hz0, hz1, hz2⟩ := info_partsJ info_intJ
    go_wp2_with fail
    go_quiet (fail)
    simp only [hw, show (c2 != 0) = true from by simp [hz]]
    clear hw
    go_wp2_with fail
    go_loopw [6, 8] (fun es v wr => ∃ j : Nat, j ≤ N ∧ v = .int .i64 (v0 + (j : Int)) ∧ Hid (Ext W wr) ∧ Hid (wr.ownsRow W.heap.size 3 1 es (2 + j) (i64s ([pwF da lo, pwF da hv] ++ pwsF da v0 j)))) (fun _ v _ => (v0 + N - intOf v).toNat)
    case atStart =>
      refine ⟨0, by omega, ?_, Lib.hid (by repeat (first | exact hE6 | refine Ext.drewN ?_ _)), Lib.hid (own_lowJ (own_extJ HO.out (by repeat (first | exact Ext.refl _ | refine Ext.drewN ?_ _))) (by omega))⟩
      have := HV.out
      congr 1
      (repeat' split) <;> omega
    case round =>
      obtain ⟨j, hj, rfl, hE, hO⟩ := hrel
      have z7 := cell_ext hE.out y7
      have z12 := cell_ext hE.out n0
      have z13 := cell_ext hE.out n1
      have z0 := cell_ext hE.out y0
      have z1 := cell_ext hE.out y1
      have z2 := cell_ext hE.out y2
      have z3 := cell_ext hE.out y3
      have z4 := cell_ext hE.out y4
      have z5 := cell_ext hE.out y5
      have z6 := cell_ext hE.out y6
      have z8 := cell_ext hE.out y8
      have z9 := cell_ext hE.out y9
      have z10 := cell_ext hE.out y10
      have z11 := cell_ext hE.out y11
      by_cases hlt : j < N
      · have hge : v0 + (j : Int) ≤ min (tn + 1) hv := by have := HN.out; omega
        go_wp2_with fail
        refine (ipower_any ⟨k, (i : Int), b, sh, lo_, hi_, sz, da, bi⟩ As (some ad) Ab Ah At cs cd cb ch ct s t S _ (Lib.hid (hXW.out.ext hE.out)) c0 c1 c2 (v0 + (j : Int)) hd.out (Lib.hid ⟨hC, by constructor <;> omega⟩)).mono ?_
        rintro e7 w7 ⟨rfl, k7⟩
        have hW7 := (hE.out.trans k7).size
        go_wp2_with (at_builtin; go_loud (refine wpList_append_own _ rfl _ _ 38 rfl W.heap.size 3 i0' (.int .i64 0) 1 8 Try.underlying38 hii hz0 hz1 hz2 rfl (by decide) _ _ _ rfl ((own_extJ hO.out k7).alloc _) ⟨_, 0, none⟩ 1 1 [.int .i64 (pwF da (v0 + (j : Int)))] rfl rfl one_cellJ one_intZ (by unfold maxLen; omega) (by omega) (by simp; omega) ?_; intro v3 w3 hown3 hgrow3 _))
        go_roundw
        case rel =>
          refine ⟨j + 1, by omega, by first | rfl | go_num | (congr 1; omega), Lib.hid (ext_grown ((hE.out.trans k7).alloc _) ((own_extJ hO.out k7).alloc _) (Nat.le_refl _) hgrow3), Lib.hid ?_⟩
          rw [pws_succ, ← List.append_assoc, i64s_snoc]
          exact hown3
        case measure => simp [intOf]; omega
      · obtain rfl : j = N := by omega
        obtain ⟨A9, c9, rfl, h9, _⟩ := rdZ_of_own hO.out
        have hE9 := hE.out
        have hge : min (tn + 1) hv < v0 + (j : Int) := by have := HN.out; omega
        clear hO
        go_wp2_with fail
        refine (around_any A9 (2 + j) c9 ([pwF da lo, pwF da hv] ++ pwsF da v0 j) _ (Lib.hid h9) (by omega) (by omega)).mono ?_
        rintro e6 w6 ⟨rfl, k6⟩
        have k7 := Ext.trans hE9 k6
        have d0 := cell_ext k7 r0
        have d1 := cell_ext k7 r1
        have f0 : w6.frozen? ⟨w.heap.size + 1, 0, none⟩ = false := (World.frozen?_of_block (k7.block _ (by show w.heap.size + 1 < _; omega))).trans q0
        have f1 : w6.frozen? ⟨w.heap.size + 1, 1, none⟩ = false := (World.frozen?_of_block (k7.block _ (by show w.heap.size + 1 < _; omega))).trans q1
        go_wp2
        refine bodyPost_ret (v := .agg #[.int .i64 (aroundF ([pwF da lo, pwF da hv] ++ pwsF da v0 j)).1, .int .i64 (aroundF ([pwF da lo, pwF da hv] ++ pwsF da v0 j)).2]) (by simp [results, Try.results117, go_sem, d0, d1]) rfl ⟨by rw [HL9.out], ?_⟩
        exact Ext.set (p := ⟨w.heap.size + 1, 1, none⟩) (Ext.set (p := ⟨w.heap.size + 1, 0, none⟩) (KA.trans k7) (by simp) _) (by simp) _
end Go.Proofs.Ytdnjjpkajiehgaa
