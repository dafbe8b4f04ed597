import Derived.RangeFuncNested
import Derived.RangeFuncBound
import Derived.RangeFuncCalls
import Derived.RangeFuncLeaves
import Derived.RangeFuncFrom
import Derived.Shelf.Abstract
import Derived.WalkKit
import Derived.OwnWalkIn
import Derived.TacticsInMore
import Derived.LoopNIn
import Derived.LoopIn
import Derived.OrdersIn
import Derived.OrdersHeld
import Derived.Test.YtopbibfpjgjalaaGreatDoorZ38
import Derived.Test.YtopbibfpjgjalaaGreatDoorZ43
import Derived.Test.YtopbibfpjgjalaaGreatDoorZCHidn
namespace Go.Proofs.YtopbibfpjgjalaaGreatDoor
open Go.RowKit Go.Shelf
set_option linter.unusedVariables false
set_option maxRecDepth 100000
def KpB (b : Nat) (W W' : World) : Prop := ∀ (p : Addr) (v : Value), p.block ≠ b → W.cell? p = some v → W'.cell? p = some v
theorem KpB.refl (b : Nat) (W : World) : KpB b W W := fun _ _ _ h => h
theorem KpB.trans {b : Nat} {A B C : World} (h : KpB b A B) (k : KpB b B C) : KpB b A C := fun p v hp hv => k p v hp (h p v hp hv)
theorem KpB.put {b : Nat} (W : World) (l : Nat) (o o' : Obj) (h : W.heap[l]? = some o) (hc : o.isCells = false) : KpB b W (W.putObj l o') := fun p v _ hv =>
 cell_kept hv (grownBy_putObj' W l o') (fun r e => by cases e; exact ⟨o, h, hc⟩)
theorem KpB.of {b : Nat} {W W' : World} (k : Ext W W') : KpB b W W' := fun p v _ hv => cE k hv
theorem KpB.set {b : Nat} {W W' : World} (h : KpB b W W') (i : Nat) (v : Value) : KpB b W (W'.setCell ⟨b, i, none⟩ v) := fun p u hp hu => by
 rw [World.cell?_setCell_far _ _ _ _ (fun e => hp e.symm)]
 exact h p u hp hu
def dnB (m k : Nat) : List Nat := (List.range k).map fun j => m - 1 - j
theorem zv9 (m k : Nat) : dnB m (k + 1) = dnB m k ++ [m - 1 - k] := by simp [dnB, List.range_succ]
theorem zn8 (m k : Nat) : (dnB m k).length = k := by simp [dnB]
section
attribute [local go_sem] Oper.semAt_some
set_option maxHeartbeats 4000000 in
theorem zuh (F : Fence) (n : Nat) (hf : F.fn 176) (hro : F.round = none) (hn : 1 ≤ n) (l B1 b x len cap L : Nat) (Gs : Nat → Nat) (hlen : len ≤ 100) (hB1 : B1 ≠ b) (hx : x ≠ b) (J Jx : List Nat → World → Prop)
    (hY : ∀ (pre : List Nat) (y : Nat) (W : World), J pre W → pre.length < len → YieldAt F (n - 1) Tryz.prog l #[.int .i64 (y : Int), .agg #[.slice (some ⟨Gs y, 0, none⟩) L L]] W fun e W' =>
     (e = .returned (.bool true) ∧ J (pre ++ [y]) W' ∧ KpB b W W') ∨ (e = .returned (.bool false) ∧ Jx (pre ++ [y]) W'))
    (W : World) (hBs : W.cell? ⟨B1, 0, none⟩ = some (.slice (some ⟨x, 0, none⟩) len cap)) (hc : ∀ j, j < len → W.cell? ⟨x, j, none⟩ = some (.slice (some ⟨Gs j, 0, none⟩) L L)) (h0 : J [] W) :
    CallsIn F n Tryz.prog 176 #[.func (.yield l) #[] #[], .pointer (some ⟨B1, 0, none⟩)] W fun e W' => (∃ v, e = .returned v) ∧
     ((∃ ys, ys = dnB len len ∧ J ys W') ∨ (∃ pre : List Nat, True ∧ Jx pre W')) := by
 refine callsIn_of_wp Tryz.func176 rfl hf ?_ hro
 simp only [Tryz.ntmps176, List.size_toArray, List.length_cons, List.length_nil, Nat.reduceAdd, Nat.reduceSub, Array.replicate_succ, Array.replicate_zero, List.push_toArray, List.append_toArray, List.nil_append, List.cons_append]
 gi_wp2
 gi_loopw [3] (fun i wr => ∃ y : Nat, y ≤ len ∧ i = .int .i64 ((y : Int) - 1) ∧ J (dnB len (len - y)) wr ∧ KpB b W wr) (fun i _ => (intOf i + 1).toNat)
 case atStart => exact ⟨len, Nat.le_refl _, rfl, by rw [Nat.sub_self]; exact h0, KpB.refl b W⟩
 case round =>
  obtain ⟨y, hy, rfl, hJs, hnx⟩ := hrel
  have hBr := hnx ⟨B1, 0, none⟩ _ hB1 hBs
  by_cases hlt : 0 < y
  ·obtain ⟨z, rfl⟩ : ∃ z, y = z + 1 := ⟨y - 1, by omega⟩
   have hcx := hnx ⟨x, z, none⟩ _ hx (hc z (by omega))
   have ez : (((z + 1 : Nat) : Int) - 1) = (z : Int) := by omega
   have i0 : (0 : Int) ≤ (z : Int) := by omega
   have i1 : (z : Int) < (len : Int) := by omega
   have hJz : dnB len (len - (z + 1)) ++ [z] = dnB len (len - z) := by
    rw [show len - z = (len - (z + 1)) + 1 by omega, zv9]
    congr 2
    omega
   rw [ez]
   obtain ⟨fn, tmps, assign, body, hyd, hR⟩ := hY _ z wr hJs (by rw [zn8]; omega)
   rw [hJz] at hR
   clear ez hJz
   gi_wp2
   refine hR.mono ?_
   rintro e W3 (⟨rfl, hJ3, hk3⟩ | ⟨rfl, hJx3⟩)
   ·gi_wp2
    go_roundw
    case rel => exact ⟨z, by omega, rfl, hJ3, hnx.trans hk3⟩
    case measure => simp [intOf] <;> omega
   ·gi_wp2
    refine bodyPost_ret (results_none rfl _ _ _) rfl ?_
    exact ⟨⟨_, rfl⟩, .inr ⟨_, trivial, hJx3⟩⟩
  ·obtain rfl : y = 0 := by omega
   gi_wp2
   go_end0
   exact ⟨⟨_, rfl⟩, .inl ⟨_, rfl, hJs⟩⟩
end
theorem zzp (a : Option Addr) (len cap : Nat) (w : World) :
    Calls Tryz.prog 108 #[.slice a len cap] w fun e w' => e = .returned (.func (.func 176) #[] #[.pointer (some ⟨w.heap.size, 0, none⟩)]) ∧ w' = w.alloc (.cells #[.slice a len cap] 40) := by
 go_enter Tryz.func108, Tryz.ntmps108
 go_wp2
 go_ret
 exact ⟨rfl, rfl⟩
theorem zn6 (n B1 b x len cap L : Nat) (Gs : Nat → Nat) (hn : 1 ≤ n) (hlen : len ≤ 100) (hB1 : B1 ≠ b) (hx : x ≠ b) (w : World) (hBs : w.cell? ⟨B1, 0, none⟩ = some (.slice (some ⟨x, 0, none⟩) len cap)) (hc : ∀ j, j < len → w.cell? ⟨x, j, none⟩ = some (.slice (some ⟨Gs j, 0, none⟩) L L)) :
    SeqStopsK Fence.wide n Tryz.prog 176 #[.pointer (some ⟨B1, 0, none⟩)] (fun y : Nat => #[Value.int .i64 (y : Int), .agg #[.slice (some ⟨Gs y, 0, none⟩) L L]]) (KpB b) (fun ys => ys = dnB len len) (fun _ => True) len w := fun l J Jx W hW _ _ hY h0 =>
 (zuh Fence.wide n trivial rfl hn l B1 b x len cap L Gs hlen hB1 hx J Jx hY W ((hW.cell (p := ⟨B1, 0, none⟩) (World.block_lt_of_cell? _ _ hBs)).trans hBs) (fun j hj => (hW.cell (p := ⟨x, j, none⟩) (World.block_lt_of_cell? _ _ (hc j hj))).trans (hc j hj)) h0)
section
variable {P : Program} {ops : Array Oper} {Q : Exit → Act → World → Prop} {md : Region.Mode} {S : World → Prop} {l n : Nat}
theorem zpk {o : Oper} {a : Act} {w : World} {K : Act → World → Prop} (hnd : ∀ c, o.op ≠ .defer c) (h : o.wp P a w K Q) : o.wpIn (Fence.wide.inRound l) n P a w K Q := by
 refine ⟨fun _ _ => trivial, ?_⟩
 rw [Oper.semAt_eq _ _ _ hnd]
 unfold Oper.wp at h
 generalize (execOp a.eval o).run P w = r at *
 cases r with
 | ok y w' =>
  cases y <;> simp only [Oper.upon, Oper.uponIn] at h ⊢
  case value => exact h
  case skip => exact h
  case defer => exact h
  case enter f args => exact ⟨fun hd => by simp [Fence.wide] at hd, CallsIn.inRound l (callsIn_wide.2 h)⟩
  case row row args => exact ⟨fun hd => by simp [Fence.wide] at hd, fun c cs _ => let ⟨v, w'', r, s⟩ := h c cs; ⟨v, w'', r, stepsIn_wide.2 s⟩⟩
 | halt y w' => cases y <;> simp only [Oper.upon, Oper.uponIn] at h ⊢ <;> exact h
def ndB (ops : Array Oper) : Bool := ops.all fun o => match o.op with | .defer _ => false | _ => true
theorem z2f (h : ndB ops = true) {i : Nat} {o : Oper} (ho : ops[i]? = some o) : ∀ c, o.op ≠ .defer c := fun c e => by
 have h1 := Array.all_eq_true'.1 h o (Array.mem_of_getElem? ho)
 simp [e] at h1
theorem zcm (hnd : ndB ops = true) (hL : ¬ LetsOut Q) : ∀ (fuel : Nat) (listed : Array Bool) (a : Act) (w : World), wpAny P md ops Q fuel listed a w → wpAnyIn (Fence.wide.inRound l) n P md ops Q fuel listed a w
 | 0, _, _, _, h => h
 | fuel + 1, listed, a, w, h => ⟨h.1, fun i hi => by
  have h1 := h.2 i hi
  unfold wpOp at h1
  unfold wpOpIn
  cases ho : ops[i]? with
  | none => rw [ho] at h1; exact zcm hnd hL fuel _ _ _ h1
  | some o =>
   rw [ho] at h1
   dsimp only at h1 ⊢
   split
   ·rename_i hw
    rw [if_pos hw] at h1
    rcases h1 with h1 | ⟨_, h1⟩
    ·exact zpk (z2f hnd ho) (Oper.wp_mono (fun a' w' h2 => zcm hnd hL fuel _ _ _ h2) h1)
    ·exact absurd h1 hL
   ·rename_i hw
    rw [if_neg hw] at h1
    exact ⟨fun _ _ => trivial, zcm hnd hL fuel _ _ _ h1⟩⟩
theorem zi6 {id : Nat} {a : Act} {w : World} (hm : P.follows .mixedOrders = true) (hnd : ndB ops = true) (hL : ¬ LetsOut Q) (hS : S w.drew)
    (h : S w.drew → wpAnyH P .any ops Q S ops.size (Array.replicate ops.size false) a w.drew) : (Code.region id ops true).wpIn (Fence.wide.inRound l) n P Q a w :=
 wpIn_region_any hm (zcm hnd hL _ _ _ _ (wpAny_of_held _ _ _ _ (h hS)))
end
end Go.Proofs.YtopbibfpjgjalaaGreatDoor
namespace Go.Proofs.YtopbibfpjgjalaaGreatDoor
open Go.RowKit Go.Shelf
set_option linter.unusedVariables false
set_option linter.unusedSimpArgs false
set_option maxRecDepth 100000
attribute [local go_sem] Oper.semAt_some
def HornV (n L : Nat) (q : Nat → Nat) (S FL : Nat → Nat → Nat) (Ft : Nat → Nat → Nat → Nat) : List Nat → (Nat → Nat → Nat) → Prop
 | [], F => F = FL
 | y :: l, F => ∃ F0 F1, HornV n L q S FL Ft l F0 ∧ JoinR L (RMul n q) S (fun _ => F0) 1 F1 ∧ JoinR L (RAdd n q) (Ft y) (fun _ => F1) 1 F
theorem zn0 (N : Int) (T Lq cq r n c : Nat) (Aq : Option Addr) (Wd : Int) (A : Option Addr) (v : Nat → Int) (w : World) (hX : VX w A n c v) (hn : n ≤ 100000) (hv : Hid (∀ i, i < n → -9223372036854775808 ≤ v i ∧ v i < 9223372036854775808)) (hN : N = (n : Int)) (hs : Hid (Tern n v)) :
    Calls Tryz.prog 107 #[.agg #[.int .i64 N, .int .u64 (T : Int), .slice Aq Lq cq, .int .i64 Wd, .pointer (some ⟨r, 0, none⟩)], .slice A n c] w fun ee w' => ee = .returned (.bool true) ∧ Ext w w' := by
 subst hN
 have k0 : Ext w (w.alloc (.cells #[.int .i64 (n : Int), .int .u64 (T : Int), .slice Aq Lq cq, .int .i64 Wd, .pointer (some ⟨r, 0, none⟩)] 114)) := (Ext.refl w).alloc _
 obtain ⟨x0, _, _, _, _⟩ := zbt w (.int .i64 (n : Int)) (.int .u64 (T : Int)) (.slice Aq Lq cq) (.int .i64 Wd) (.pointer (some ⟨r, 0, none⟩)) 114
 have HX := Lib.hid (hX.ext k0)
 clear hX
 go_enter Tryz.func107, Tryz.ntmps107
 go_wp2_with fail
 generalize (w.alloc (.cells #[.int .i64 (n : Int), .int .u64 (T : Int), .slice Aq Lq cq, .int .i64 Wd, .pointer (some ⟨r, 0, none⟩)] 114)) = V at *
 refine (zlh n c (n : Int) A v (-1) 1 V HX.out hn hv).mono ?_
 rintro ee V1 h
 obtain ⟨rfl, k1⟩ := TellsXI.yes h ⟨rfl, hs.out⟩
 have K := Lib.hid (k0.trans k1)
 clear k1 h
 go_wp2
 go_ret
 exact ⟨rfl, K.out⟩
def HeldR (n L m : Nat) (q : Nat → Nat) (v : Nat → Int) (Fs : Nat → Nat → Nat → Nat) (F : Nat → Nat → Nat) : Prop := ∃ S : Nat → Nat → Nat, (∀ j, j < L → S j = fun i => lif (v i) (q j)) ∧ HornV n L q S (Fs (m - 1)) (fun y => Fs (min y (m - 1))) (dnB (m - 1) (m - 1)).reverse F ∧ ∀ j, j < L → ∀ i, i < n → F j i < q j
def ztw (w : World) (n L : Nat) (R : (Nat → Nat → Nat) → Prop) (ee : Ending) (w' : World) : Prop := ∃ (G : Nat) (As : Nat → Option Addr) (cs : Nat → Nat) (F : Nat → Nat → Nat), ee = .returned (.tuple #[.agg #[.slice (some ⟨G, 0, none⟩) L L], .int .i64 ((L - 1 : Nat) : Int), .int .i64 0]) ∧ PM w' G L n As cs F ∧ Hid (R F) ∧ Ext w w'
theorem qp_of {w : World} {x m L n : Nat} {Gs : Nat → Nat} {As : Nat → Nat → Option Addr} {cs : Nat → Nat → Nat} {Fs : Nat → Nat → Nat → Nat} (h : RW w x 56 m (fun i => .slice (some ⟨Gs i, 0, none⟩) L L)) (hp : ∀ i, i < m → PM w (Gs i) L n (As i) (cs i) (Fs i)) (hL : L ≤ 1000) (hn : n ≤ 1000) : QP w (some ⟨x, 0, none⟩) m m (fun i => some ⟨Gs i, 0, none⟩) (fun _ => L) (fun _ => L) As (fun _ _ => n) cs Fs :=
 ⟨⟨Nat.le_refl _, fun _ => ⟨_, rfl, fun j hj => by rw [Addr.add_lit, Nat.zero_add]; exact h.cell hj⟩⟩, fun j hj => ⟨(hp j hj).px, by omega, fun _ _ => (show n ≤ 1000000000000000 by omega)⟩⟩
theorem zs7 {W W' : World} (k : Ext W W') : KeepsOthers W W' := ⟨k.size, fun i o hi _ => (k.block i (Array.getElem?_eq_some_iff.1 hi).1).trans hi⟩
def HeldI (Vs : World) (b13 n L : Nat) (q : Nat → Nat) (S FL : Nat → Nat → Nat) (Ft : Nat → Nat → Nat → Nat) (pre : List Nat) (W : World) : Prop := Below Vs.heap.size Vs W ∧ ∃ (G : Nat) (As : Nat → Option Addr) (cs : Nat → Nat) (F : Nat → Nat → Nat), RW W b13 56 1 (fun _ => .slice (some ⟨G, 0, none⟩) L L) ∧ PM W G L n As cs F ∧ HornV n L q S FL Ft pre.reverse F ∧ ∀ j, j < L → ∀ i, i < n → F j i < q j
theorem zwz {A B : World} {row : Option Nat} (hg : A.grownBy B row) (hr : ∀ r, row = some r → ∃ o : Obj, A.heap[r]? = some o ∧ o.isCells = false) {G L n : Nat} {As : Nat → Option Addr} {cs : Nat → Nat} {F : Nat → Nat → Nat} (h : PM A G L n As cs F) : PM B G L n As cs F :=
 ⟨(grownBy_keeps_cells hg hr h.row rfl).trans h.row, fun j hj => ⟨(h.lists j hj).room, fun h0 => by
  obtain ⟨ad, e, hc⟩ := (h.lists j hj).cells h0
  exact ⟨ad, e, fun i hi => cell_kept (hc i hi) hg hr⟩⟩⟩
theorem zte {Vs : World} {B b13 n L : Nat} {q : Nat → Nat} {S FL : Nat → Nat → Nat} {Ft : Nat → Nat → Nat → Nat} (hB : Vs.heap.size ≤ B) : OwnFrom B (HeldI Vs b13 n L q S FL Ft) := fun s A X row hs hg hr => by
 obtain ⟨h1, G, As, cs, F, h2, h3, h4⟩ := hs
 exact ⟨h1.grown hg h1.size (fun k e => Nat.le_trans hB (hr k e).1), G, As, cs, F, (grownBy_keeps_cells hg (fun r e => (hr r e).2) h2 rfl).trans h2, zwz hg (fun r e => (hr r e).2) h3, h4⟩
theorem zlm {Vs W : World} {b13 n L : Nat} {q : Nat → Nat} {S FL : Nat → Nat → Nat} {Ft : Nat → Nat → Nat → Nat} {pre : List Nat} (o : Obj) (h : HeldI Vs b13 n L q S FL Ft pre W) : HeldI Vs b13 n L q S FL Ft pre (W.alloc o) := by
 obtain ⟨h1, G, As, cs, F, h2, h3, h4⟩ := h
 have k : Ext W (W.alloc o) := (Ext.refl W).alloc o
 exact ⟨h1.alloc h1.size o, G, As, cs, F, h2.ext k, h3.ext k, h4⟩
def HeldX (Vs : World) (b13 : Nat) (v : Value) (fr : Nat → Act) (a' : Act) (W : World) : Prop := ∃ Bx, Vs.heap.size ≤ Bx ∧ Bx ≠ b13 ∧ W.cell? ⟨Bx, 0, none⟩ = some v ∧ a' = fr Bx
theorem zqj {Vs : World} {B b13 : Nat} {v : Value} {fr : Nat → Act} {a' : Act} : OwnFrom B (fun (_ : Unit) W => HeldX Vs b13 v fr a' W) := fun s A X row hs hg hr => by
 obtain ⟨Bx, h1, h2, h3, h4⟩ := hs
 exact ⟨Bx, h1, h2, cell_kept h3 hg (fun r e => (hr r e).2), h4⟩
set_option maxHeartbeats 16000000 in
theorem zuz (r n MM m L x c : Nat) (Wd : Int) (T Lq cq : Nat) (Aq Bs : Option Addr) (q pp : Nat → Nat) (a e : Nat → Nat → Nat) (Gs : Nat → Nat) (As : Nat → Nat → Option Addr) (cs : Nat → Nat → Nat) (Fs : Nat → Nat → Nat → Nat) (v : Nat → Int) (w : World) (hn0 : 2 ≤ n) (hn : n ≤ 32) (hL0 : 1 ≤ L) (hL : L ≤ 24) (hLM : L ≤ MM) (hm2 : 2 ≤ m) (hm3 : m ≤ 3) (hR : Rg w r n MM q pp a e)
    (hx : RW w x 56 m (fun i => .slice (some ⟨Gs i, 0, none⟩) L L)) (hp : Hid (∀ i, i < m → PM w (Gs i) L n (As i) (cs i) (Fs i))) (hq : Hid (∀ i, i < m → ∀ j, j < L → ∀ t, t < n → Fs i j t < q j)) (hX : VX w Bs n c v) (hv : Hid (∀ i, i < n → -9223372036854775808 ≤ v i ∧ v i < 9223372036854775808)) (hs : Hid (Tern n v)) (hsq : Hid (∀ j, j < L → ∃ x, x < q j ∧ noSq (q j) x = true)) :
    Calls Tryz.prog 57 #[.agg #[.int .i64 (n : Int), .int .u64 (T : Int), .slice Aq Lq cq, .int .i64 Wd, .pointer (some ⟨r, 0, none⟩)], .slice Bs n c, .agg #[.slice (some ⟨x, 0, none⟩) m m]] w (ztw w n L (HeldR n L m q v Fs)) := by
 have HR := Lib.hid hR
 have HX := Lib.hid hX
 have HC := Lib.hid hx
 clear hR hX hx
 have k0 : Ext w (((w.alloc (.cells #[.int .i64 (n : Int), .int .u64 (T : Int), .slice Aq Lq cq, .int .i64 Wd, .pointer (some ⟨r, 0, none⟩)] 114)).alloc (.cells #[.slice (some ⟨x, 0, none⟩) m m] 62)).alloc (.cells #[.slice none 0 0] 56)) := (((Ext.refl w).alloc _).alloc _).alloc _
 have ka : Ext (w.alloc (.cells #[.int .i64 (n : Int), .int .u64 (T : Int), .slice Aq Lq cq, .int .i64 Wd, .pointer (some ⟨r, 0, none⟩)] 114)) (((w.alloc (.cells #[.int .i64 (n : Int), .int .u64 (T : Int), .slice Aq Lq cq, .int .i64 Wd, .pointer (some ⟨r, 0, none⟩)] 114)).alloc (.cells #[.slice (some ⟨x, 0, none⟩) m m] 62)).alloc (.cells #[.slice none 0 0] 56)) := ((Ext.refl _).alloc _).alloc _
 obtain ⟨x0, x1, x2, x3, x4⟩ := zbt w (.int .i64 (n : Int)) (.int .u64 (T : Int)) (.slice Aq Lq cq) (.int .i64 Wd) (.pointer (some ⟨r, 0, none⟩)) 114
 have xc := zam (w.alloc (.cells #[.int .i64 (n : Int), .int .u64 (T : Int), .slice Aq Lq cq, .int .i64 Wd, .pointer (some ⟨r, 0, none⟩)] 114)) (.slice (some ⟨x, 0, none⟩) m m) 62
 rw [show (w.alloc (.cells #[.int .i64 (n : Int), .int .u64 (T : Int), .slice Aq Lq cq, .int .i64 Wd, .pointer (some ⟨r, 0, none⟩)] 114)).heap.size = w.heap.size + 1 by simp] at xc
 replace x0 := cE ka x0
 replace x1 := cE ka x1
 replace x2 := cE ka x2
 replace x3 := cE ka x3
 replace x4 := cE ka x4
 replace xc := cE ((Ext.refl _).alloc (.cells #[.slice none 0 0] 56)) xc
 have hr : RW (((w.alloc (.cells #[.int .i64 (n : Int), .int .u64 (T : Int), .slice Aq Lq cq, .int .i64 Wd, .pointer (some ⟨r, 0, none⟩)] 114)).alloc (.cells #[.slice (some ⟨x, 0, none⟩) m m] 62)).alloc (.cells #[.slice none 0 0] 56)) (w.heap.size + 2) 56 1 (fun _ => .slice none 0 0) := by
  have : RW (((w.alloc (.cells #[.int .i64 (n : Int), .int .u64 (T : Int), .slice Aq Lq cq, .int .i64 Wd, .pointer (some ⟨r, 0, none⟩)] 114)).alloc (.cells #[.slice (some ⟨x, 0, none⟩) m m] 62)).alloc (.cells #[.slice none 0 0] 56)) ((w.alloc (.cells #[.int .i64 (n : Int), .int .u64 (T : Int), .slice Aq Lq cq, .int .i64 Wd, .pointer (some ⟨r, 0, none⟩)] 114)).alloc (.cells #[.slice (some ⟨x, 0, none⟩) m m] 62)).heap.size 56 1 (fun _ => .slice none 0 0) := heap_alloc_new _ _
  rwa [show ((w.alloc (.cells #[.int .i64 (n : Int), .int .u64 (T : Int), .slice Aq Lq cq, .int .i64 Wd, .pointer (some ⟨r, 0, none⟩)] 114)).alloc (.cells #[.slice (some ⟨x, 0, none⟩) m m] 62)).heap.size = w.heap.size + 2 by simp] at this
 clear ka
 refine callsIn_wide.1 (callsIn_of_wp_marks (F := Fence.wide) (n := 5) Tryz.func57 rfl trivial ?_ rfl)
 simp only [Tryz.ntmps57, List.size_toArray, List.length_cons, List.length_nil, Nat.reduceAdd, Nat.reduceSub, Array.replicate_succ, Array.replicate_zero, List.push_toArray, List.append_toArray, List.nil_append, List.cons_append]
 refine wpIn_wide.2 ?_
 go_wp2_with fail
 generalize (((w.alloc (.cells #[.int .i64 (n : Int), .int .u64 (T : Int), .slice Aq Lq cq, .int .i64 Wd, .pointer (some ⟨r, 0, none⟩)] 114)).alloc (.cells #[.slice (some ⟨x, 0, none⟩) m m] 62)).alloc (.cells #[.slice none 0 0] 56)) = V at *
 obtain ⟨D, hD⟩ : ∃ D, D = w.heap.size := ⟨_, rfl⟩
 obtain ⟨E, hE⟩ : ∃ E, E = w.heap.size + 1 := ⟨_, rfl⟩
 obtain ⟨R6, hR6⟩ : ∃ E, E = w.heap.size + 2 := ⟨_, rfl⟩
 have hR6w : w.heap.size ≤ R6 := by omega
 rw [← hD] at x0 x1 x2 x3 x4
 rw [← hE] at xc
 rw [← hR6] at hr
 simp only [← hR6]
 simp only [← hE]
 simp only [← hD]
 clear hD hE hR6
 refine (zpw m m L n MM r (n : Int) Wd T Lq cq Aq (some ⟨x, 0, none⟩) q pp a e _ _ _ _ _ _ _ V (HR.out.ext k0) ((qp_of HC.out hp.out (by omega) (by omega)).ext k0) hm2 hm3 (Lib.hid fun i hi => ⟨⟨hL0, hLM, fun j hj => ⟨rfl, hq.out i hi j hj⟩⟩, rfl⟩)).mono ?_
 rintro ee V1 ⟨rfl, k1⟩
 replace x0 := cE k1 x0
 replace x1 := cE k1 x1
 replace x2 := cE k1 x2
 replace x3 := cE k1 x3
 replace x4 := cE k1 x4
 replace xc := cE k1 xc
 replace hr := hr.ext k1
 replace k0 := k0.trans k1
 clear k1
 go_wp2_with fail
 refine (zn0 (n : Int) T Lq cq r n c Aq Wd Bs v V1 (HX.out.ext k0) (by omega) hv rfl hs).mono ?_
 rintro ee V2 ⟨rfl, k1⟩
 replace x0 := cE k1 x0
 replace x1 := cE k1 x1
 replace x2 := cE k1 x2
 replace x3 := cE k1 x3
 replace x4 := cE k1 x4
 replace xc := cE k1 xc
 replace hr := hr.ext k1
 replace k0 := k0.trans k1
 clear k1
 have e1 : ((L : Int) - 1) = ((L - 1 : Nat) : Int) := by omega
 go_wp2_with fail
 refine (zdx r n MM (L - 1) c (n : Int) Wd T Lq cq Aq Bs q pp a e v V2 (HR.out.ext k0) (by omega) (HX.out.ext k0) hv).mono ?_
 rintro ee V3 ⟨GS, AS, cS, FS, rfl, hpS, hFS, k1⟩
 have eL : L - 1 + 1 = L := by omega
 simp only [eL] at *
 clear eL
 have HPS := Lib.hid hpS
 replace x0 := cE k1 x0
 replace x1 := cE k1 x1
 replace x2 := cE k1 x2
 replace x3 := cE k1 x3
 replace x4 := cE k1 x4
 replace xc := cE k1 xc
 replace hr := hr.ext k1
 replace k0 := k0.trans k1
 clear k1 hpS
 have ka : Ext V3 (V3.alloc (.cells #[.slice (some ⟨GS, 0, none⟩) L L] 56)) := (Ext.refl _).alloc _
 have xs := zam V3 (.slice (some ⟨GS, 0, none⟩) L L) 56
 replace x0 := cE ka x0
 replace x1 := cE ka x1
 replace x2 := cE ka x2
 replace x3 := cE ka x3
 replace x4 := cE ka x4
 replace xc := cE ka xc
 replace hr := hr.ext ka
 replace k0 := k0.trans ka
 have HPS := Lib.hid (HPS.out.ext ka)
 clear ka
 have i0 : (0 : Int) ≤ (m : Int) - 1 := by omega
 have i1 : (m : Int) - 1 < (m : Int) := by omega
 have i2 : (m : Int) - 1 ≤ (m : Int) := by omega
 have im : ((m : Int) - 1).toNat = m - 1 := by omega
 have xlast := (HC.out.ext k0).cell (i := m - 1) (by omega)
 clear e1
 have hVs : V3.heap.size < (V3.alloc (.cells #[.slice (some ⟨GS, 0, none⟩) L L] 56)).heap.size := by simp
 go_upto_region 8 with fail
 generalize (V3.alloc (.cells #[.slice (some ⟨GS, 0, none⟩) L L] 56)) = Vs at *
 obtain ⟨S11, hS11⟩ : ∃ E, E = V3.heap.size := ⟨_, rfl⟩
 rw [← hS11] at xs hVs
 simp only [← hS11]
 clear hS11
 have ka : Ext Vs (Vs.alloc (.cells #[.slice (some ⟨Gs (m - 1), 0, none⟩) L L] 56)) := (Ext.refl _).alloc _
 have yc := cE ka xc
 have y4 := cE ka x4
 have hb13 := zab Vs (.slice (some ⟨Gs (m - 1), 0, none⟩) L L)
 go_wp2_with fail
 refine (zzp (some ⟨x, 0, none⟩) (m - 1) m _).mono ?_
 rintro ee V6 ⟨rfl, rfl⟩
 go_wp2_with fail
 have hb13 : RW ((Vs.alloc (.cells #[.slice (some ⟨Gs (m - 1), 0, none⟩) L L] 56)).alloc (.cells #[.slice (some ⟨x, 0, none⟩) (m - 1) m] 40)) Vs.heap.size 56 1 (fun _ => .slice (some ⟨Gs (m - 1), 0, none⟩) L L) := hb13.ext ((Ext.refl _).alloc _)
 have hB1c := zam (Vs.alloc (.cells #[.slice (some ⟨Gs (m - 1), 0, none⟩) L L] 56)) (.slice (some ⟨x, 0, none⟩) (m - 1) m) 40
 rw [show (Vs.alloc (.cells #[.slice (some ⟨Gs (m - 1), 0, none⟩) L L] 56)).heap.size = Vs.heap.size + 1 by simp] at hB1c
 have kW : Ext Vs ((Vs.alloc (.cells #[.slice (some ⟨Gs (m - 1), 0, none⟩) L L] 56)).alloc (.cells #[.slice (some ⟨x, 0, none⟩) (m - 1) m] 40)) := ((Ext.refl _).alloc _).alloc _
 have hxw : x < w.heap.size := HC.out.lt
 have hVw := k0.size
 have hDV : D < Vs.heap.size := by have := World.block_lt_of_cell? _ _ x4; simpa using this
 have hRV : R6 < Vs.heap.size := hr.lt
 generalize hW6 : (Vs.alloc (.cells #[.slice (some ⟨Gs (m - 1), 0, none⟩) L L] 56)).alloc (.cells #[.slice (some ⟨x, 0, none⟩) (m - 1) m] 40) = W6 at *
 have hs6 : Vs.heap.size ≤ W6.heap.size := kW.size
 clear hW6
 obtain ⟨B1, hB1⟩ : ∃ b, b = Vs.heap.size + 1 := ⟨_, rfl⟩
 obtain ⟨b13, hb13e⟩ : ∃ b, b = Vs.heap.size := ⟨_, rfl⟩
 have h113 : B1 ≠ b13 := by omega
 have hx13 : x ≠ b13 := by omega
 have hD13 : D ≠ b13 := by omega
 have hS13 : S11 ≠ b13 := by omega
 have hR13 : R6 ≠ b13 := by omega
 have hV13 : Vs.heap.size ≤ b13 := by omega
 rw [← hB1] at hB1c
 rw [← hb13e] at hb13
 try simp only [← hB1]
 try simp only [← hb13e]
 clear hB1 hb13e
 have HPT := Lib.hid (show ∀ y, PM Vs (Gs (min y (m - 1))) L n (As (min y (m - 1))) (cs (min y (m - 1))) (Fs (min y (m - 1))) from fun y => (hp.out _ (by omega)).ext k0)
 have HQT := Lib.hid (show ∀ y, ∀ j, j < L → ∀ t, t < n → Fs (min y (m - 1)) j t < q j from fun y => hq.out _ (by omega))
 have HRV := Lib.hid (HR.out.ext k0)
 have HSQ := Lib.hid (show ∀ j, j < L → ∀ t, t < n → FS j t < q j from fun j hj t ht => by rw [hFS.out j hj]; exact ze5 (by have := (HR.out.ql j (by omega)).1; omega))
 have eFS : Hid (∀ j, j < L → FS j = fun i => lif (v i) (q j)) := hFS
 have hmx := HC.out.ext k0
 have hcs : ∀ j, j < m - 1 → W6.cell? ⟨x, j, none⟩ = some (.slice (some ⟨Gs (min j (m - 1)), 0, none⟩) L L) := fun j hj => by
  rw [show min j (m - 1) = j by omega]
  exact cE kW (hmx.cell (i := j) (by omega))
 refine (wpIn_wide (n := 5)).1 ?_
 refine wpIn_rangeFunc_ownH (F := Fence.wide) (n := 5) rfl (by omega) (gf := 176) (lb := #[.pointer (some ⟨B1, 0, none⟩)]) rfl trivial (enters_of Tryz.func176 (by kernel_rfl) rfl)
  (zn6 4 B1 b13 x (m - 1) m L (fun y => Gs (min y (m - 1))) (by omega) (by omega) h113 hx13 W6 hB1c hcs) (fun h k => KpB.trans h k) (fun W l o o' _ h hc _ => KpB.put W l o o' h hc) (Below.refl _ _) (fun _ => rfl)
  (HeldI Vs b13 n L q FS (Fs (m - 1)) (fun y => Fs (min y (m - 1)))) (fun _ _ _ => False) (zte hs6) (fun _ _ _ _ _ h _ _ => h) ?h0
  (fun (y : Nat) a' W => HeldX Vs b13 (.slice (some ⟨Gs (min y (m - 1)), 0, none⟩) L L) (fun Bx => { tmps := #[.agg #[.int .i64 (n : Int), .int .u64 (T : Int), .slice Aq Lq cq, .int .i64 Wd, .pointer (some ⟨r, 0, none⟩)], .slice Bs n c, .agg #[.slice (some ⟨x, 0, none⟩) m m], .pointer (some ⟨D, 0, none⟩), undef, .pointer (some ⟨E, 0, none⟩), .pointer (some ⟨R6, 0, none⟩), .int .i64 0, .int .i64 0, .int .i64 ((L - 1 : Nat) : Int), .int .i64 0, .pointer (some ⟨S11, 0, none⟩), .int .i64 ((m : Int) - 1), .pointer (some ⟨b13, 0, none⟩), undef, .pointer (some ⟨Bx, 0, none⟩), .tuple #[.int .i64 ((L - 1 : Nat) : Int), .int .i64 0], .agg #[.int .i64 (n : Int), .int .u64 (T : Int), .slice Aq Lq cq, .int .i64 Wd, .pointer (some ⟨r, 0, none⟩)], .agg #[.slice (some ⟨x, 0, none⟩) m m], .tuple #[.int .i64 ((L - 1 : Nat) : Int), .int .i64 0], .int .i64 ((L - 1 : Nat) : Int), .int .i64 0, .int .i64 0, .bool false, undef, undef, .agg #[.int .i64 (n : Int), .int .u64 (T : Int), .slice Aq Lq cq, .int .i64 Wd, .pointer (some ⟨r, 0, none⟩)], .slice Bs n c, .bool true, .bool false, undef, .agg #[.int .i64 (n : Int), .int .u64 (T : Int), .slice Aq Lq cq, .int .i64 Wd, .pointer (some ⟨r, 0, none⟩)], .slice Bs n c, .int .i64 ((L - 1 : Nat) : Int), .agg #[.slice (some ⟨GS, 0, none⟩) L L], .pointer (some ⟨E, 0, none⟩), .slice (some ⟨x, 0, none⟩) m m, .int .i64 (m : Int), .int .i64 ((m : Int) - 1), .pointer (some ⟨E, 0, none⟩), .slice (some ⟨x, 0, none⟩) m m, .int .i64 ((m : Int) - 1), .pointer (some ⟨x, m - 1, none⟩), .agg #[.slice (some ⟨Gs (m - 1), 0, none⟩) L L], .pointer (some ⟨E, 0, none⟩), .slice (some ⟨x, 0, none⟩) m m, .int .i64 ((m : Int) - 1), .slice (some ⟨x, 0, none⟩) (m - 1) m, .func (.func 176) #[] #[.pointer (some ⟨B1, 0, none⟩)], .int .i64 (y : Int), .agg #[.slice (some ⟨Gs (min y (m - 1)), 0, none⟩) L L], undef, undef, undef, undef, undef, undef, undef, undef, undef, undef, undef, undef, undef, undef, undef], defers := [] }) a' W) (fun y a' => zqj) ?assign ?body ?done ?stop
 case h0 =>
  exact ⟨kW, Gs (m - 1), _, _, Fs (m - 1), hb13, ((hp.out (m - 1) (by omega)).ext k0).ext kW, rfl, hq.out (m - 1) (by omega)⟩
 case assign =>
  intro l pre y W K hI hK
  have hb := hI.2
  have hsz := hI.1.size
  have h13 : b13 < W.heap.size := by obtain ⟨_, _, _, _, h, _⟩ := hb; exact h.lt
  have HI := Lib.hid hI
  clear hb hI
  gi_wp2
  exact hK _ _ ((KeepsOthers.alloc _ _).from _) (KpB.of ((Ext.refl W).alloc _)) (zlm _ HI.out) ⟨W.heap.size, hsz, by omega, zam _ _ _, rfl⟩
 case body =>
  rintro l pre y a' W hl ⟨rr, hrr⟩ hI ⟨Bx, hBx1, hBx2, bX, rfl⟩ hlt
  obtain ⟨hI1, G0, A0, c0, F0, hb0, hp0, hH0, hq0⟩ := hI
  have y4 := cE (show Ext Vs W from hI1) x4
  have ys := cE (show Ext Vs W from hI1) xs
  have y13 := hb0.cell (i := 0) (by omega)
  have HRW := Lib.hid (HRV.out.ext (show Ext Vs W from hI1))
  have HSW := Lib.hid (HPS.out.ext (show Ext Vs W from hI1))
  have HTW := Lib.hid ((HPT.out y).ext (show Ext Vs W from hI1))
  have HP0 := Lib.hid hp0
  have HQ0 := Lib.hid hq0
  have HQY := Lib.hid (HQT.out y)
  have kk : Ext W W := Ext.refl W
  have HJM := Lib.hid (fun w' (h : Ext W w') z (hr1 : RW w' z 56 1 (fun _ => .slice (some ⟨G0, 0, none⟩) L L)) => zbm n MM L r z 1 GS q pp a e AS cS FS (fun _ => G0) (fun _ => A0) (fun _ => c0) (fun _ => F0) w' hn0 hn hL0 hL hLM (by omega) (HRW.out.ext h) (HSW.out.ext h) HSQ ⟨hr1, fun _ _ => HP0.out.ext h⟩ (Lib.hid fun _ _ => HQ0.out) hsq)
  have HJA := Lib.hid (fun w' (h : Ext W w') z G1 A1 c1 F1 (hp1 : PM w' G1 L n A1 c1 F1) (hq1 : Hid (∀ j, j < L → ∀ i, i < n → F1 j i < q j)) (hr1 : RW w' z 56 1 (fun _ => .slice (some ⟨G1, 0, none⟩) L L)) => zcn n MM L r z 1 (Gs (min y (m - 1))) q pp a e _ _ (Fs (min y (m - 1))) (fun _ => G1) (fun _ => A1) (fun _ => c1) (fun _ => F1) w' hn0 hn hL0 hL hLM (by omega) (HRW.out.ext h) (HTW.out.ext h) HQY ⟨hr1, fun _ _ => hp1⟩ (Lib.hid fun _ _ => hq1.out))
  have HLT := Lib.hid (fun F1 (h : JoinR L (RMul n q) FS (fun _ => F0) 1 F1) => h.lt (n := n) (q := q) (fun j f f' F hj h i hi => (h i hi).1) HSQ.out)
  have HLA := Lib.hid (fun F1 F2 (h : JoinR L (RAdd n q) (Fs (min y (m - 1))) (fun _ => F1) 1 F2) => h.lt (n := n) (q := q) (fun j f f' F hj h i hi => (h i hi).1) HQY.out)
  refine wpIn_block ?_
  refine zi6 (S := fun w' => KpB b13 W w') (by kernel_rfl) (by kernel_rfl) (fun ⟨_, _, h⟩ => h) (KpB.of ((Ext.refl W).drew)) (fun hHeld => ?_)
  refine wpAnyH_take (i := 0) (oi := _) (v := ?_) rfl (by kernel_rfl) (by kernel_rfl) (by kernel_rfl) (fun _ _ _ h => h) (Or.inl ⟨by rfl, ?_⟩) (by assumption) ?_
  rotate_left
  ·(intro wS hSw; (try dsimp only at hSw); have t0 := hSw ⟨D, 4, none⟩ _ hD13 y4; have t1 := hSw ⟨Bx, 0, none⟩ _ hBx2 bX; have t2 := hSw ⟨S11, 0, none⟩ _ hS13 ys; (try go_simp); (try with_reducible rfl))
  try simp only [Act.put, s1, s2, s3]
  refine wpAnyH_take (i := 1) (oi := _) (v := ?_) rfl (by kernel_rfl) (by kernel_rfl) (by kernel_rfl) (fun _ _ _ h => h) (Or.inl ⟨by rfl, ?_⟩) (by assumption) ?_
  rotate_left
  ·(intro wS hSw; (try dsimp only at hSw); have t0 := hSw ⟨D, 4, none⟩ _ hD13 y4; have t1 := hSw ⟨Bx, 0, none⟩ _ hBx2 bX; have t2 := hSw ⟨S11, 0, none⟩ _ hS13 ys; (try go_simp); (try with_reducible rfl))
  try simp only [Act.put, s1, s2, s3]
  refine wpAnyH_take (i := 2) (oi := _) (v := ?_) rfl (by kernel_rfl) (by kernel_rfl) (by kernel_rfl) (fun _ _ _ h => h) (Or.inl ⟨by rfl, ?_⟩) (by assumption) ?_
  rotate_left
  ·(intro wS hSw; (try dsimp only at hSw); have t0 := hSw ⟨D, 4, none⟩ _ hD13 y4; have t1 := hSw ⟨Bx, 0, none⟩ _ hBx2 bX; have t2 := hSw ⟨S11, 0, none⟩ _ hS13 ys; (try go_simp); (try with_reducible rfl))
  try simp only [Act.put, s1, s2, s3]
  refine wpAnyH_take (i := 3) (oi := _) (v := ?_) rfl (by kernel_rfl) (by kernel_rfl) (by kernel_rfl) (fun _ _ _ h => h) (Or.inl ⟨by rfl, ?_⟩) (by assumption) ?_
  rotate_left
  ·(intro wS hSw; (try dsimp only at hSw); have t0 := hSw ⟨D, 4, none⟩ _ hD13 y4; have t1 := hSw ⟨Bx, 0, none⟩ _ hBx2 bX; have t2 := hSw ⟨S11, 0, none⟩ _ hS13 ys; (try go_simp); (try with_reducible rfl))
  try simp only [Act.put, s1, s2, s3]
  refine wpAnyH_take (i := 4) (oi := _) (v := ?_) rfl (by kernel_rfl) (by kernel_rfl) (by kernel_rfl) (fun _ _ _ h => h) (Or.inl ⟨by rfl, ?_⟩) (by assumption) ?_
  rotate_left
  ·(intro wS hSw; (try dsimp only at hSw); have t0 := hSw ⟨D, 4, none⟩ _ hD13 y4; have t1 := hSw ⟨Bx, 0, none⟩ _ hBx2 bX; have t2 := hSw ⟨S11, 0, none⟩ _ hS13 ys; (try go_simp); (try with_reducible rfl))
  try simp only [Act.put, s1, s2, s3]
  refine wpAnyH_take (i := 5) (oi := _) (v := ?_) rfl (by kernel_rfl) (by kernel_rfl) (by kernel_rfl) (fun _ _ _ h => h) (Or.inl ⟨by rfl, ?_⟩) (by assumption) ?_
  rotate_left
  ·(intro wS hSw; (try dsimp only at hSw); have t0 := hSw ⟨D, 4, none⟩ _ hD13 y4; have t1 := hSw ⟨Bx, 0, none⟩ _ hBx2 bX; have t2 := hSw ⟨S11, 0, none⟩ _ hS13 ys; (try go_simp); (try with_reducible rfl))
  try simp only [Act.put, s1, s2, s3]
  refine wpAnyH_take (i := 6) (oi := _) (v := ?_) rfl (by kernel_rfl) (by kernel_rfl) (by kernel_rfl) (fun _ _ _ h => h) (Or.inl ⟨by rfl, ?_⟩) (by assumption) ?_
  rotate_left
  ·(intro wS hSw; (try dsimp only at hSw); have t0 := hSw ⟨D, 4, none⟩ _ hD13 y4; have t1 := hSw ⟨Bx, 0, none⟩ _ hBx2 bX; have t2 := hSw ⟨S11, 0, none⟩ _ hS13 ys; (try go_simp); (try with_reducible rfl))
  try simp only [Act.put, s1, s2, s3]
  refine wpAnyH_take (i := 7) (oi := _) (v := ?_) rfl (by kernel_rfl) (by kernel_rfl) (by kernel_rfl) (fun _ _ _ h => h) (Or.inl ⟨by rfl, ?_⟩) (by assumption) ?_
  rotate_left
  ·(intro wS hSw; (try dsimp only at hSw); have t0 := hSw ⟨D, 4, none⟩ _ hD13 y4; have t1 := hSw ⟨Bx, 0, none⟩ _ hBx2 bX; have t2 := hSw ⟨S11, 0, none⟩ _ hS13 ys; (try go_simp); (try with_reducible rfl))
  try simp only [Act.put, s1, s2, s3]
  refine wpAnyH_ready (rs := [8]) (by kernel_rfl) (by simp) ?_
  refine AllReadyH.cons rfl (fun KQ hKQ => ?_) ?_
  ·go_simp
   refine hKQ.out _ _ ?_ (fun hHeld => ?_)
   ·(try dsimp only); (first | exact KpB.of (by first | with_reducible exact kk | with_reducible exact Ext.alloc (kk) _ | with_reducible exact Ext.alloc (Ext.alloc (kk) _) _ | with_reducible exact Ext.drew (kk) | with_reducible exact Ext.drew (Ext.alloc (kk) _) | with_reducible exact Ext.drew (Ext.alloc (Ext.alloc (kk) _) _)) | exact KpB.set (KpB.of (by first | with_reducible exact kk | with_reducible exact Ext.alloc (kk) _ | with_reducible exact Ext.alloc (Ext.alloc (kk) _) _ | with_reducible exact Ext.drew (kk) | with_reducible exact Ext.drew (Ext.alloc (kk) _) | with_reducible exact Ext.drew (Ext.alloc (Ext.alloc (kk) _) _))) 0 _)
   clear hKQ KQ
   try simp only [Act.put, s1, s2, s3]
   refine wpAnyH_ready (rs := [9]) (by kernel_rfl) (by simp) ?_
   refine AllReadyH.cons rfl (fun KQ hKQ => ?_) ?_
   ·go_simp
    refine hKQ.out _ _ ?_ (fun hHeld => ?_)
    ·(try dsimp only); (first | exact KpB.of (by first | with_reducible exact kk | with_reducible exact Ext.alloc (kk) _ | with_reducible exact Ext.alloc (Ext.alloc (kk) _) _ | with_reducible exact Ext.drew (kk) | with_reducible exact Ext.drew (Ext.alloc (kk) _) | with_reducible exact Ext.drew (Ext.alloc (Ext.alloc (kk) _) _)) | exact KpB.set (KpB.of (by first | with_reducible exact kk | with_reducible exact Ext.alloc (kk) _ | with_reducible exact Ext.alloc (Ext.alloc (kk) _) _ | with_reducible exact Ext.drew (kk) | with_reducible exact Ext.drew (Ext.alloc (kk) _) | with_reducible exact Ext.drew (Ext.alloc (Ext.alloc (kk) _) _))) 0 _)
    clear hKQ KQ
    try simp only [Act.put, s1, s2, s3]
    refine wpAnyH_ready (rs := [10]) (by kernel_rfl) (by simp) ?_
    refine AllReadyH.cons rfl (fun KQ hKQ => ?_) ?_
    ·go_simp
     (with_reducible refine (HJM.out _ ?_ _ ?_).mono ?_); (exact (by first | with_reducible exact kk | with_reducible exact Ext.alloc (kk) _ | with_reducible exact Ext.alloc (Ext.alloc (kk) _) _ | with_reducible exact Ext.drew (kk) | with_reducible exact Ext.drew (Ext.alloc (kk) _) | with_reducible exact Ext.drew (Ext.alloc (Ext.alloc (kk) _) _))); (exact (by first | with_reducible exact RW.ext (zae _ (.slice (some ⟨G0, 0, none⟩) L L) _ (by simp)) (Ext.refl _) | with_reducible exact RW.ext (zae _ (.slice (some ⟨G0, 0, none⟩) L L) _ (by simp)) (Ext.alloc (Ext.refl _) _) | with_reducible exact RW.ext (zae _ (.slice (some ⟨G0, 0, none⟩) L L) _ (by simp)) (Ext.alloc (Ext.alloc (Ext.refl _) _) _) | with_reducible exact RW.ext (zae _ (.slice (some ⟨G0, 0, none⟩) L L) _ (by simp)) (Ext.drew (Ext.refl _)) | with_reducible exact RW.ext (zae _ (.slice (some ⟨G0, 0, none⟩) L L) _ (by simp)) (Ext.drew (Ext.alloc (Ext.refl _) _)) | with_reducible exact RW.ext (zae _ (.slice (some ⟨G0, 0, none⟩) L L) _ (by simp)) (Ext.drew (Ext.alloc (Ext.alloc (Ext.refl _) _) _)))); rintro e5 w5 ⟨G5, A5, c5, F5, rfl, hp5, hF5, k5⟩; replace kk : Ext W w5 := (by first | with_reducible exact Ext.trans (kk) k5 | with_reducible exact Ext.trans (Ext.alloc (kk) _) k5 | with_reducible exact Ext.trans (Ext.alloc (Ext.alloc (kk) _) _) k5 | with_reducible exact Ext.trans (Ext.drew (kk)) k5 | with_reducible exact Ext.trans (Ext.drew (Ext.alloc (kk) _)) k5 | with_reducible exact Ext.trans (Ext.drew (Ext.alloc (Ext.alloc (kk) _) _)) k5); dsimp only
     refine hKQ.out _ _ ?_ (fun hHeld => ?_)
     ·(try dsimp only); (first | exact KpB.of (by first | with_reducible exact kk | with_reducible exact Ext.alloc (kk) _ | with_reducible exact Ext.alloc (Ext.alloc (kk) _) _ | with_reducible exact Ext.drew (kk) | with_reducible exact Ext.drew (Ext.alloc (kk) _) | with_reducible exact Ext.drew (Ext.alloc (Ext.alloc (kk) _) _)) | exact KpB.set (KpB.of (by first | with_reducible exact kk | with_reducible exact Ext.alloc (kk) _ | with_reducible exact Ext.alloc (Ext.alloc (kk) _) _ | with_reducible exact Ext.drew (kk) | with_reducible exact Ext.drew (Ext.alloc (kk) _) | with_reducible exact Ext.drew (Ext.alloc (Ext.alloc (kk) _) _))) 0 _)
     clear hKQ KQ
     try simp only [Act.put, s1, s2, s3]
     refine wpAnyH_ready (rs := [11]) (by kernel_rfl) (by simp) ?_
     refine AllReadyH.cons rfl (fun KQ hKQ => ?_) ?_
     ·go_simp
      refine hKQ.out _ _ ?_ (fun hHeld => ?_)
      ·(try dsimp only); (first | exact KpB.of (by first | with_reducible exact kk | with_reducible exact Ext.alloc (kk) _ | with_reducible exact Ext.alloc (Ext.alloc (kk) _) _ | with_reducible exact Ext.drew (kk) | with_reducible exact Ext.drew (Ext.alloc (kk) _) | with_reducible exact Ext.drew (Ext.alloc (Ext.alloc (kk) _) _)) | exact KpB.set (KpB.of (by first | with_reducible exact kk | with_reducible exact Ext.alloc (kk) _ | with_reducible exact Ext.alloc (Ext.alloc (kk) _) _ | with_reducible exact Ext.drew (kk) | with_reducible exact Ext.drew (Ext.alloc (kk) _) | with_reducible exact Ext.drew (Ext.alloc (Ext.alloc (kk) _) _))) 0 _)
      clear hKQ KQ
      try simp only [Act.put, s1, s2, s3]
      refine wpAnyH_ready (rs := [12]) (by kernel_rfl) (by simp) ?_
      refine AllReadyH.cons rfl (fun KQ hKQ => ?_) ?_
      ·go_simp
       (with_reducible refine (HJA.out _ ?_ _ G5 A5 c5 F5 ?_ (Lib.hid (HLT.out _ hF5.out)) ?_).mono ?_); (exact (by first | with_reducible exact kk | with_reducible exact Ext.alloc (kk) _ | with_reducible exact Ext.alloc (Ext.alloc (kk) _) _ | with_reducible exact Ext.drew (kk) | with_reducible exact Ext.drew (Ext.alloc (kk) _) | with_reducible exact Ext.drew (Ext.alloc (Ext.alloc (kk) _) _))); (exact (PM.ext hp5 (by first | with_reducible exact Ext.refl _ | with_reducible exact Ext.alloc (Ext.refl _) _ | with_reducible exact Ext.alloc (Ext.alloc (Ext.refl _) _) _ | with_reducible exact Ext.drew (Ext.refl _) | with_reducible exact Ext.drew (Ext.alloc (Ext.refl _) _) | with_reducible exact Ext.drew (Ext.alloc (Ext.alloc (Ext.refl _) _) _)))); (exact (by first | with_reducible exact RW.ext (zae _ (.slice (some ⟨G5, 0, none⟩) L L) _ (by simp)) (Ext.refl _) | with_reducible exact RW.ext (zae _ (.slice (some ⟨G5, 0, none⟩) L L) _ (by simp)) (Ext.alloc (Ext.refl _) _) | with_reducible exact RW.ext (zae _ (.slice (some ⟨G5, 0, none⟩) L L) _ (by simp)) (Ext.alloc (Ext.alloc (Ext.refl _) _) _) | with_reducible exact RW.ext (zae _ (.slice (some ⟨G5, 0, none⟩) L L) _ (by simp)) (Ext.drew (Ext.refl _)) | with_reducible exact RW.ext (zae _ (.slice (some ⟨G5, 0, none⟩) L L) _ (by simp)) (Ext.drew (Ext.alloc (Ext.refl _) _)) | with_reducible exact RW.ext (zae _ (.slice (some ⟨G5, 0, none⟩) L L) _ (by simp)) (Ext.drew (Ext.alloc (Ext.alloc (Ext.refl _) _) _)))); rintro e6 w6 ⟨G6, A6, c6, F6, rfl, hp6, hF6, k6⟩; replace kk : Ext W w6 := (by first | with_reducible exact Ext.trans (kk) k6 | with_reducible exact Ext.trans (Ext.alloc (kk) _) k6 | with_reducible exact Ext.trans (Ext.alloc (Ext.alloc (kk) _) _) k6 | with_reducible exact Ext.trans (Ext.drew (kk)) k6 | with_reducible exact Ext.trans (Ext.drew (Ext.alloc (kk) _)) k6 | with_reducible exact Ext.trans (Ext.drew (Ext.alloc (Ext.alloc (kk) _) _)) k6); have hb6 := RW.ext hb0 kk; have c6b := hb6.cell (i := 0) (by omega); have z6b := hb6.frozen 0; have s6b := hb6.lt; dsimp only
       refine hKQ.out _ _ ?_ (fun hHeld => ?_)
       ·(try dsimp only); (first | exact KpB.of (by first | with_reducible exact kk | with_reducible exact Ext.alloc (kk) _ | with_reducible exact Ext.alloc (Ext.alloc (kk) _) _ | with_reducible exact Ext.drew (kk) | with_reducible exact Ext.drew (Ext.alloc (kk) _) | with_reducible exact Ext.drew (Ext.alloc (Ext.alloc (kk) _) _)) | exact KpB.set (KpB.of (by first | with_reducible exact kk | with_reducible exact Ext.alloc (kk) _ | with_reducible exact Ext.alloc (Ext.alloc (kk) _) _ | with_reducible exact Ext.drew (kk) | with_reducible exact Ext.drew (Ext.alloc (kk) _) | with_reducible exact Ext.drew (Ext.alloc (Ext.alloc (kk) _) _))) 0 _)
       clear hKQ KQ
       try simp only [Act.put, s1, s2, s3]
       refine wpAnyH_ready (rs := [13]) (by kernel_rfl) (by simp) ?_
       refine AllReadyH.cons rfl (fun KQ hKQ => ?_) ?_
       ·go_simp
        refine hKQ.out _ _ ?_ (fun hHeld => ?_)
        ·(try dsimp only); (first | exact KpB.of (by first | with_reducible exact kk | with_reducible exact Ext.alloc (kk) _ | with_reducible exact Ext.alloc (Ext.alloc (kk) _) _ | with_reducible exact Ext.drew (kk) | with_reducible exact Ext.drew (Ext.alloc (kk) _) | with_reducible exact Ext.drew (Ext.alloc (Ext.alloc (kk) _) _)) | exact KpB.set (KpB.of (by first | with_reducible exact kk | with_reducible exact Ext.alloc (kk) _ | with_reducible exact Ext.alloc (Ext.alloc (kk) _) _ | with_reducible exact Ext.drew (kk) | with_reducible exact Ext.drew (Ext.alloc (kk) _) | with_reducible exact Ext.drew (Ext.alloc (Ext.alloc (kk) _) _))) 0 _)
        clear hKQ KQ
        try simp only [Act.put, s1, s2, s3]
        refine wpAnyH_done (by kernel_rfl) ?_ _
        have hnew := hb6.set (show 0 < 1 by omega) (.slice (some ⟨G6, 0, none⟩) L L)
        exact ⟨(KeepsOthers.trans (zs7 kk) (KeepsOthers.setCell _ _ _)).from _, KpB.set (KpB.of kk) 0 _, (hI1.trans (kk.mono hI1.size)).setCell (p := ⟨b13, 0, none⟩) hV13 _, G6, A6, c6, F6, hnew.congr (fun i hi => by rw [if_pos (by omega)]), hp6.aside hb6 rfl _, (by rw [List.reverse_append]; exact ⟨F0, F5, hH0, hF5.out, hF6.out⟩), HLA.out _ _ hF6.out⟩
       exact AllReadyH.nil
      exact AllReadyH.nil
     exact AllReadyH.nil
    exact AllReadyH.nil
   exact AllReadyH.nil
  exact AllReadyH.nil
 case done =>
  rintro D' xs' W hD' rfl hI hK
  obtain ⟨hI1, G0, A0, c0, F0, hb0, hp0, hH0, hq0⟩ := hI
  have y13 := hb0.cell (i := 0) (by omega)
  have hrW := hr.ext (show Ext Vs W from hI1)
  have c6 := hrW.cell (i := 0) (by omega)
  have z6 := hrW.frozen 0
  have s6 := hrW.lt
  have HRW := Lib.hid hrW
  have HP0 := Lib.hid hp0
  have HH0 := Lib.hid hH0
  have HQ9 := Lib.hid hq0
  have KW := Lib.hid (k0.trans (show Ext Vs W from hI1))
  have HK := Lib.hid hK
  clear hrW hp0 hH0 hI1 hK hq0
  go_wp2_with fail
  have hd0 := zas HRW.out (.slice (some ⟨G0, 0, none⟩) L L)
  have hp2 := HP0.out.aside HRW.out rfl (.slice (some ⟨G0, 0, none⟩) L L)
  have hk2 := KW.out.set (p := ⟨R6, 0, none⟩) hR6w (.slice (some ⟨G0, 0, none⟩) L L)
  have hK2 := (KeepsOthers.setCell W ⟨R6, 0, none⟩ (.slice (some ⟨G0, 0, none⟩) L L)).same D' _ HK.out rfl
  refine ⟨by simp, .inl ⟨_, _, rfl, run_takeDeferred hK2, ?_⟩⟩
  have hgp := grownBy_putObj' (W.setCell ⟨R6, 0, none⟩ (.slice (some ⟨G0, 0, none⟩) L L)) D' (.deferred none)
  have hgr : ∀ r, some D' = some r → ∃ o : Obj, (W.setCell ⟨R6, 0, none⟩ (.slice (some ⟨G0, 0, none⟩) L L)).heap[r]? = some o ∧ o.isCells = false := fun r e => by cases e; exact ⟨_, hK2, rfl⟩
  have hd1 := cell_kept hd0 hgp hgr
  have hp3 := zwz hgp hgr hp2
  have hwD : w.heap.size ≤ D' := by omega
  have hk3 : Ext w ((W.setCell ⟨R6, 0, none⟩ (.slice (some ⟨G0, 0, none⟩) L L)).putObj D' (.deferred none)) := Below.grown hk2 hgp hk2.size (fun k e => by cases e; exact hwD)
  generalize (W.setCell ⟨R6, 0, none⟩ (.slice (some ⟨G0, 0, none⟩) L L)).putObj D' (.deferred none) = W9 at *
  exact ⟨.tuple #[.agg #[.slice (some ⟨G0, 0, none⟩) L L], .int .i64 ((L - 1 : Nat) : Int), .int .i64 0], by simp [results, Tryz.results57, go_sem, hd1], G0, A0, c0, F0, rfl, hp3, Lib.hid ⟨FS, eFS.out, HH0.out, HQ9.out⟩, hk3⟩
 case stop =>
  rintro D' c' pre W _ _ h _
  exact h.elim
end Go.Proofs.YtopbibfpjgjalaaGreatDoor
namespace Go.Proofs.YtopbibfpjgjalaaGreatDoor
open Go.RowKit
set_option linter.unusedVariables false
set_option maxRecDepth 100000
def zu2 (w : World) (n m L T : Nat) (q : Nat → Nat) (v : Nat → Int) (Fs : Nat → Nat → Nat → Nat) (ee : Ending) (w' : World) : Prop := ∃ (F : Nat → Nat → Nat) (p : Nat → Nat) (B : Option Addr) (c : Nat) (f : Nat → Nat), Hid (HeldR n L m q v Fs F) ∧ Hid (Parts L q p) ∧ ee = .returned (.tuple #[.slice B n c, .int .i64 0]) ∧ FX w' B n c f ∧ Hid (∀ i, i < n → f i = resF (decide (toldZ T L q p F i < 0)) (toldZ T L q p F i).natAbs T) ∧ Ext w w'
set_option maxHeartbeats 8000000 in
theorem zvg (n m L x c : Nat) (Wd : Int) (T Lq cq : Nat) (A Bs : Option Addr) (q : Nat → Nat) (Gs : Nat → Nat) (As : Nat → Nat → Option Addr) (cs : Nat → Nat → Nat) (Fs : Nat → Nat → Nat → Nat) (v : Nat → Int) (w : World) (hn : n ≤ 32) (hL0 : 1 ≤ L) (hLM : L ≤ Lq) (hm2 : 2 ≤ m) (hm3 : m ≤ 3) (hP : Hid (PA w (n : Int) T A Lq cq Wd q)) (hok : Hid (ParP (n : Int) T Lq q Wd)) (hLq : Lq ≤ 24) (hT : Tabs w)
    (hx : RW w x 56 m (fun i => .slice (some ⟨Gs i, 0, none⟩) L L)) (hp : Hid (∀ i, i < m → PM w (Gs i) L n (As i) (cs i) (Fs i))) (hq : Hid (∀ i, i < m → ∀ j, j < L → ∀ t, t < n → Fs i j t < q j)) (hX : VX w Bs n c v) (hv : Hid (∀ i, i < n → -9223372036854775808 ≤ v i ∧ v i < 9223372036854775808)) (hs : Hid (Tern n v)) (hsq : Hid (∀ j, j < L → ∃ x, x < q j ∧ noSq (q j) x = true)) (hRT : Hid (RowC 1 (fun _ => T))) :
    Calls Tryz.prog 22 #[.agg #[.int .i64 (n : Int), .int .u64 (T : Int), .slice A Lq cq, .int .i64 Wd], .slice Bs n c, .agg #[.slice (some ⟨x, 0, none⟩) m m]] w (zu2 w n m L T q v Fs) := by
 obtain ⟨ad, rfl, _⟩ := hP.out.fx.cells (by omega)
 obtain ⟨hrow, hn8, hL1, hL8⟩ := zbx hok.out (by omega)
 have hY0 : 0 < prodF q L := by
  have h1 : ∀ k, k ≤ L → 0 < prodF q k := fun k => by
   induction k with
   | zero => intro _; unfold prodF; omega
   | succ k ih =>
    intro hk
    have h2 := ih (by omega)
    have h3 := zm6 (zks hrow (show 0 < L by omega) hLM) k (by omega)
    rw [prodF]
    exact Nat.mul_pos (by first | exact h2 | exact h3.1) (by first | exact h3.1 | exact h2)
  exact h1 L (Nat.le_refl _)
 have HT := Lib.hid hT
 have HX := Lib.hid hX
 have HC := Lib.hid hx
 clear hT hX hx hrow
 have k0 : Ext w ((w.alloc (.cells #[.int .i64 (n : Int), .int .u64 (T : Int), .slice (some ad) Lq cq, .int .i64 Wd] 28)).alloc (.cells #[.slice (some ⟨x, 0, none⟩) m m] 62)) := ((Ext.refl w).alloc _).alloc _
 have ka : Ext (w.alloc (.cells #[.int .i64 (n : Int), .int .u64 (T : Int), .slice (some ad) Lq cq, .int .i64 Wd] 28)) ((w.alloc (.cells #[.int .i64 (n : Int), .int .u64 (T : Int), .slice (some ad) Lq cq, .int .i64 Wd] 28)).alloc (.cells #[.slice (some ⟨x, 0, none⟩) m m] 62)) := (Ext.refl _).alloc _
 obtain ⟨x0, x1, x2, x3⟩ := za6 w (.int .i64 (n : Int)) (.int .u64 (T : Int)) (.slice (some ad) Lq cq) (.int .i64 Wd) 28
 replace x0 := cE ka x0
 replace x1 := cE ka x1
 replace x2 := cE ka x2
 replace x3 := cE ka x3
 have xc := zam (w.alloc (.cells #[.int .i64 (n : Int), .int .u64 (T : Int), .slice (some ad) Lq cq, .int .i64 Wd] 28)) (.slice (some ⟨x, 0, none⟩) m m) 62
 rw [show (w.alloc (.cells #[.int .i64 (n : Int), .int .u64 (T : Int), .slice (some ad) Lq cq, .int .i64 Wd] 28)).heap.size = w.heap.size + 1 by simp] at xc
 clear ka
 go_enter Tryz.func22, Tryz.ntmps22
 go_wp2_with fail
 generalize ((w.alloc (.cells #[.int .i64 (n : Int), .int .u64 (T : Int), .slice (some ad) Lq cq, .int .i64 Wd] 28)).alloc (.cells #[.slice (some ⟨x, 0, none⟩) m m] 62)) = V at *
 refine (zdd V (Lib.hid (hP.out.ext k0)) (by omega) hn (HT.out.ext k0) hok).mono ?_
 rintro ee V1 ⟨r, pp, a, e, rfl, hrg, k1⟩
 have ka : Ext V1 (V1.alloc (.cells #[.int .i64 (n : Int), .int .u64 (T : Int), .slice (some ad) Lq cq, .int .i64 Wd, .pointer (some ⟨r, 0, none⟩)] 114)) := (Ext.refl _).alloc _
 obtain ⟨y0, y1, y2, y3, y4⟩ := zbt V1 (.int .i64 (n : Int)) (.int .u64 (T : Int)) (.slice (some ad) Lq cq) (.int .i64 Wd) (.pointer (some ⟨r, 0, none⟩)) 114
 have HR := Lib.hid (hrg.ext ka)
 replace xc := cE (k1.trans ka) xc
 replace k0 := k0.trans (k1.trans ka)
 clear hrg k1 ka x0 x1 x2 x3
 go_wp2_with fail
 generalize V1.alloc (.cells #[.int .i64 (n : Int), .int .u64 (T : Int), .slice (some ad) Lq cq, .int .i64 Wd, .pointer (some ⟨r, 0, none⟩)] 114) = V2 at *
 generalize V1.heap.size = D at *
 refine (zuz r n Lq m L x c Wd T Lq cq (some ad) Bs q pp a e Gs As cs Fs v V2 (by omega) hn hL0 (by omega) hLM hm2 hm3 HR.out (HC.out.ext k0) (Lib.hid fun i hi => (hp.out i hi).ext k0) hq (HX.out.ext k0) hv hs hsq).mono ?_
 rintro ee V3 ⟨G, A3, c3, F, rfl, hpm, hF, k3⟩
 have ka : Ext V3 (V3.alloc (.cells #[.slice (some ⟨G, 0, none⟩) L L] 56)) := (Ext.refl _).alloc _
 have xg := zam V3 (.slice (some ⟨G, 0, none⟩) L L) 56
 have HPM := Lib.hid (hpm.ext ka)
 replace y0 := cE (k3.trans ka) y0
 replace y1 := cE (k3.trans ka) y1
 replace y2 := cE (k3.trans ka) y2
 replace y3 := cE (k3.trans ka) y3
 replace y4 := cE (k3.trans ka) y4
 replace k0 := k0.trans (k3.trans ka)
 clear hpm k3 ka xc
 go_wp2_with fail
 generalize V3.alloc (.cells #[.slice (some ⟨G, 0, none⟩) L L] 56) = V4 at *
 obtain ⟨k, rfl⟩ : ∃ k, L = k + 1 := ⟨L - 1, by omega⟩
 have ek : (((k + 1 - 1 : Nat)) : Int) = (k : Int) := by omega
 have HQF := Lib.hid (show ∀ j, j < k + 1 → ∀ i, i < n → F j i < q j from by obtain ⟨_, _, _, h⟩ := hF.out; exact h)
 have HTD := Lib.hid (zud r n k G Wd T Lq cq ad q A3 c3 F V4 (by omega) (Lib.hid (hP.out.ext k0)) hok hn (HT.out.ext k0) HPM.out HQF hRT hY0)
 rw [← ek] at HTD
 clear ek
 refine HTD.out.mono ?_
 rintro ee V5 ⟨p, B, c5, f, hPP, rfl, hfx, hf, k5⟩
 have HFX := Lib.hid hfx
 have K := Lib.hid (k0.trans k5)
 clear hfx k5
 go_wp2
 go_ret2
 exact ⟨F, p, B, c5, f, hF, hPP, rfl, HFX.out, hf, K.out⟩
end Go.Proofs.YtopbibfpjgjalaaGreatDoor
