/-
  What grown of package crt answers, by joined.
-/
import Derived.Test.YtpgcapobbmbchaaDoorZ38
import Derived.Test.YtpgcapobbmbchaaDoorZ37
import Derived.Test.YtpgcapobbmbchaaDoorZ31
namespace Go.Proofs.YtpgcapobbmbchaaDoor
open Go.RowKit
set_option linter.unusedVariables false
set_option maxRecDepth 100000

/-- The cells of a row of shares. -/
def shrF (q p r : Nat → Nat) (As : Nat → Option Addr) (ns cs : Nat → Nat) (i : Nat) : Value := if i % 4 = 0 then .int .u64 (q (i / 4) : Int) else if i % 4 = 1 then .slice (As (i / 4)) (ns (i / 4)) (cs (i / 4)) else if i % 4 = 2 then .int .u64 (p (i / 4) : Int) else .int .u64 (r (i / 4) : Int)
/-- The number joined k times. -/
def jnF (q p r : Nat → Nat) (X : Nat) : Nat → Nat
  | 0 => X
  | k + 1 => crtF (jnF q p r X k) (q k) (prodF q k) (p k) (r k)
theorem shr_at {w : World} {G L : Nat} {q p r : Nat → Nat} {As : Nat → Option Addr} {ns cs : Nat → Nat} (h : RW w G 157 (L * 4) (shrF q p r As ns cs)) {k : Nat} (hk : k < L) :
    w.cell? ⟨G, k * 4, none⟩ = some (.int .u64 (q k : Int)) ∧ w.cell? ⟨G, k * 4 + 1, none⟩ = some (.slice (As k) (ns k) (cs k)) ∧ w.cell? ⟨G, k * 4 + 2, none⟩ = some (.int .u64 (p k : Int)) ∧ w.cell? ⟨G, k * 4 + 3, none⟩ = some (.int .u64 (r k : Int)) := by
  refine ⟨?_, ?_, ?_, ?_⟩
  · rw [h.cell (by omega), shrF, if_pos (by omega), Nat.mul_div_cancel _ (by omega)]
  · rw [h.cell (by omega), shrF, if_neg (by omega), if_pos (by omega), show (k * 4 + 1) / 4 = k by omega]
  · rw [h.cell (by omega), shrF, if_neg (by omega), if_neg (by omega), if_pos (by omega), show (k * 4 + 2) / 4 = k by omega]
  · rw [h.cell (by omega), shrF, if_neg (by omega), if_neg (by omega), if_neg (by omega), show (k * 4 + 3) / 4 = k by omega]
set_option maxHeartbeats 4000000 in
theorem grownS_any (A : Option Addr) (n c L G X : Nat) (q p r : Nat → Nat) (As : Nat → Option Addr) (ns cs : Nat → Nat) (w : World) (hn : n ≤ 10) (hL : L ≤ 24) (hA : NX w A n c (nw X)) (hB : RW w G 157 (L * 4) (shrF q p r As ns cs)) (hf : Hid (∀ j, j < L → (ns j ≤ 25 ∧ NX w (As j) (ns j) (cs j) (nw (prodF q j))) ∧ 2 ≤ q j ∧ q j < 2305843009213693952 ∧ p j < q j ∧ r j < q j)) :
    Calls Tryd.prog 120 #[.agg #[.slice A n c], .slice (some ⟨G, 0, none⟩) L L, .func (.func 121) #[] #[]] w fun ee w' => ∃ A2 n2 c2, ee = .returned (.agg #[.slice A2 n2 c2]) ∧ n2 ≤ n + L * 27 ∧ NX w' A2 n2 c2 (nw (jnF q p r X L)) ∧ Ext w w' := by
  have HA := Lib.hid hA
  have HB := Lib.hid hB
  clear hA hB
  go_enter Tryd.func120, Tryd.ntmps120
  go_wp2_with fail
  have hr0 : RW ((w.alloc (.cells #[.slice A n c] 120)).alloc (.cells #[.slice none 0 0] 120)) (w.heap.size + 1) 120 1 (fun _ => .slice none 0 0) := by
    have : RW ((w.alloc (.cells #[.slice A n c] 120)).alloc (.cells #[.slice none 0 0] 120)) (w.alloc (.cells #[.slice A n c] 120)).heap.size 120 1 (fun _ => .slice none 0 0) := heap_alloc_new _ _
    rwa [show (w.alloc (.cells #[.slice A n c] 120)).heap.size = w.heap.size + 1 by simp] at this
  have hx0 : RW ((w.alloc (.cells #[.slice A n c] 120)).alloc (.cells #[.slice none 0 0] 120)) w.heap.size 120 1 (fun _ => .slice A n c) :=
    RW.ext (show RW (w.alloc (.cells #[.slice A n c] 120)) w.heap.size 120 1 (fun _ => .slice A n c) from heap_alloc_new _ _) ((Ext.refl _).alloc _)
  have kV : Ext w ((w.alloc (.cells #[.slice A n c] 120)).alloc (.cells #[.slice none 0 0] 120)) := ((Ext.refl w).alloc _).alloc _
  generalize (w.alloc (.cells #[.slice A n c] 120)).alloc (.cells #[.slice none 0 0] 120) = V at *
  go_loopw [11] (fun i wr => ∃ (k : Nat) (A1 : Option Addr) (n1 c1 : Nat), k ≤ L ∧ i = .int .i64 (k : Int) ∧ n1 ≤ n + k * 27 ∧ RW wr w.heap.size 120 1 (fun _ => .slice A1 n1 c1) ∧ RW wr (w.heap.size + 1) 120 1 (fun _ => .slice none 0 0) ∧ Hid (NX wr A1 n1 c1 (nw (jnF q p r X k))) ∧ Ext w wr) (fun i _ => L - (intOf i).toNat)
  case atStart => exact ⟨0, A, n, c, by omega, rfl, by omega, hx0, hr0, Lib.hid (NX.ext HA.out kV), kV⟩
  case round =>
    obtain ⟨k, A1, n1, c1, hk, rfl, hn1, hx, hr, hall, kr⟩ := hrel
    clear hx0 hr0 kV
    have cx := hx.cell (i := 0) (by omega)
    have zx := hx.frozen 0
    have sx := hx.lt
    have cr := hr.cell (i := 0) (by omega)
    have zr := hr.frozen 0
    have sr := hr.lt
    by_cases hlt : k < L
    · obtain ⟨b0, b1, b2, b3⟩ := shr_at (HB.out.ext kr) hlt
      obtain ⟨⟨hns, hnx⟩, hq2, hq3, hp, hrr⟩ := hf.out k hlt
      have HNk := Lib.hid (hnx.ext kr)
      clear hnx
      have i0 : (0 : Int) ≤ (k : Int) := by omega
      have i1 : (k : Int) < (L : Int) := by omega
      go_wp2_with fail
      have kz : Ext wr (wr.alloc (.cells #[.int .u64 (q k : Int), .slice (As k) (ns k) (cs k), .int .u64 (p k : Int), .int .u64 (r k : Int)] 157)) := (Ext.refl _).alloc _
      refine (joined6_any A1 (As k) n1 c1 (ns k) (cs k) _ (q k) _ (p k) (r k) _ (by omega) (by omega) (NX.ext hall.out kz) (NX.ext HNk.out kz) (by omega) hq3 hp hrr).mono ?_
      rintro ee w2 ⟨A2, n2, c2, rfl, hn2, hnf, k2⟩
      replace k2 : Ext wr w2 := kz.trans k2
      have hx2 := hx.ext k2
      have hr2 := hr.ext k2
      have HN := Lib.hid hnf
      clear hnf
      have cx2 := hx2.cell (i := 0) (by omega)
      have zx2 := hx2.frozen 0
      have sx2 := hx2.lt
      go_wp2_with fail
      have e1 := (hx2.set (show 0 < 1 by omega) (.slice A2 n2 c2)).congr (G := fun _ => .slice A2 n2 c2) fun j hj => by rw [if_pos (by omega)]
      have e2 : RW (w2.setCell ⟨w.heap.size, 0, none⟩ (.slice A2 n2 c2)) (w.heap.size + 1) 120 1 (fun _ => .slice none 0 0) := RW.keep hr2 (Below.heap_setCell _ _ _ _ (by simp))
      have e3 := Lib.hid (show NX (w2.setCell ⟨w.heap.size, 0, none⟩ (.slice A2 n2 c2)) A2 n2 c2 (nw (jnF q p r X (k + 1))) from NX.aside (by
        exact HN.out) cx2 _)
      have e4 := (kr.trans k2).set (p := ⟨w.heap.size, 0, none⟩) (Nat.le_refl _) (.slice A2 n2 c2)
      exact ⟨⟨k + 1, A2, n2, c2, by omega, by go_num, by omega, e1, e2, e3, e4⟩, by simp [intOf]; omega⟩
    · have hkL : k = L := by omega
      subst hkL
      go_wp2
      have d0 := ret_cell hr (.slice A1 n1 c1)
      have d1 := kr.set (p := ⟨w.heap.size + 1, 0, none⟩) (by show w.heap.size ≤ w.heap.size + 1; omega) (.slice A1 n1 c1)
      have d2 := NX.aside hall.out cr (.slice A1 n1 c1)
      generalize wr.setCell ⟨w.heap.size + 1, 0, none⟩ (.slice A1 n1 c1) = w6 at *
      exact bodyPost_ret (v := .agg #[.slice A1 n1 c1]) (by simp [results, Tryd.results120, go_sem, d0]) rfl ⟨A1, n1, c1, rfl, by omega, d2, d1⟩
end Go.Proofs.YtpgcapobbmbchaaDoor

/-
  What plan.whole of package crt answers.
-/
namespace Go.Proofs.YtpgcapobbmbchaaDoor
open Go.RowKit
set_option linter.unusedVariables false
set_option maxRecDepth 100000

/-- What whole is handed: for each place a residue. -/
def Reads (fn : Nat) (cap : Array Value) (w : World) (L : Nat) (r : Nat → Nat) : Prop :=
  ∀ j w1, j < L → Ext w w1 → Calls Tryd.prog fn (#[.int .i64 (j : Int)] ++ cap) w1 fun ee w2 => ee = .returned (.int .u64 (r j : Int)) ∧ Ext w1 w2
theorem stp_at {w : World} {G L : Nat} {q p : Nat → Nat} {As : Nat → Option Addr} {ns cs : Nat → Nat} (h : RW w G 154 (L * 3) (stpF q p As ns cs)) {k : Nat} (hk : k < L) :
    w.cell? ⟨G, k * 3, none⟩ = some (.int .u64 (q k : Int)) ∧ w.cell? ⟨G, k * 3 + 1, none⟩ = some (.slice (As k) (ns k) (cs k)) ∧ w.cell? ⟨G, k * 3 + 2, none⟩ = some (.int .u64 (p k : Int)) := by
  refine ⟨?_, ?_, ?_⟩
  · rw [h.cell (by omega), stpF, if_pos (by omega), Nat.mul_div_cancel _ (by omega)]
  · rw [h.cell (by omega), stpF, if_neg (by omega), if_pos (by omega), show (k * 3 + 1) / 3 = k by omega]
  · rw [h.cell (by omega), stpF, if_neg (by omega), if_neg (by omega), show (k * 3 + 2) / 3 = k by omega]
def shrUp (q p r : Nat → Nat) (As : Nat → Option Addr) (ns cs : Nat → Nat) (k i : Nat) : Value := if i < k * 4 then shrF q p r As ns cs i else zeroH i
theorem shrUp_step (q p r : Nat → Nat) (As : Nat → Option Addr) (ns cs : Nat → Nat) (k i : Nat) :
    (if i = k * 4 + 3 then Value.int .u64 (r k : Int) else if i = k * 4 + 2 then Value.int .u64 (p k : Int) else if i = k * 4 + 1 then .slice (As k) (ns k) (cs k) else if i = k * 4 then .int .u64 (q k : Int) else shrUp q p r As ns cs k i) = shrUp q p r As ns cs (k + 1) i := by
  unfold shrUp
  by_cases h0 : i = k * 4 + 3
  · subst h0
    rw [if_pos rfl, if_pos (by omega), shrF, if_neg (by omega), if_neg (by omega), if_neg (by omega), show (k * 4 + 3) / 4 = k by omega]
  · rw [if_neg h0]
    by_cases h1 : i = k * 4 + 2
    · subst h1
      rw [if_pos rfl, if_pos (by omega), shrF, if_neg (by omega), if_neg (by omega), if_pos (by omega), show (k * 4 + 2) / 4 = k by omega]
    · rw [if_neg h1]
      by_cases h2 : i = k * 4 + 1
      · subst h2
        rw [if_pos rfl, if_pos (by omega), shrF, if_neg (by omega), if_pos (by omega), show (k * 4 + 1) / 4 = k by omega]
      · rw [if_neg h2]
        by_cases h3 : i = k * 4
        · subst h3
          rw [if_pos rfl, if_pos (by omega), shrF, if_pos (by omega), Nat.mul_div_cancel _ (by omega)]
        · rw [if_neg h3]
          by_cases h4 : i < k * 4
          · rw [if_pos h4, if_pos (by omega)]
          · rw [if_neg h4, if_neg (by omega)]
/-- Four stores into block g. -/
def set4 (w : World) (g i : Nat) (a b c d : Value) : World := (((w.setCell ⟨g, i, none⟩ a).setCell ⟨g, i + 1, none⟩ b).setCell ⟨g, i + 2, none⟩ c).setCell ⟨g, i + 3, none⟩ d
theorem RW.keep4 {w : World} {x m : Nat} {t : TypeId} {F : Nat → Value} (h : RW w x t m F) {g : Nat} (hg : x ≠ g) (i : Nat) (a b c d : Value) : RW (set4 w g i a b c d) x t m F :=
  RW.keep (RW.keep (RW.keep (RW.keep h (Below.heap_setCell _ _ _ _ (fun e => hg (by simpa using e)))) (Below.heap_setCell _ _ _ _ (fun e => hg (by simpa using e)))) (Below.heap_setCell _ _ _ _ (fun e => hg (by simpa using e)))) (Below.heap_setCell _ _ _ _ (fun e => hg (by simpa using e)))
theorem Ext.keep4 {a w : World} (h : Ext a w) {g : Nat} (hg : a.heap.size ≤ g) (i : Nat) (x y z u : Value) : Ext a (set4 w g i x y z u) :=
  (((h.set (p := ⟨g, i, none⟩) hg x).set (p := ⟨g, i + 1, none⟩) hg y).set (p := ⟨g, i + 2, none⟩) hg z).set (p := ⟨g, i + 3, none⟩) hg u
theorem shr_set {w : World} {g L k : Nat} {q p r : Nat → Nat} {As : Nat → Option Addr} {ns cs : Nat → Nat} (h : RW w g 157 (L * 4) (shrUp q p r As ns cs k)) (hk : k < L) :
    RW (set4 w g (k * 4) (.int .u64 (q k : Int)) (.slice (As k) (ns k) (cs k)) (.int .u64 (p k : Int)) (.int .u64 (r k : Int))) g 157 (L * 4) (shrUp q p r As ns cs (k + 1)) :=
  ((((h.set (show k * 4 < L * 4 by omega) _).set (show k * 4 + 1 < L * 4 by omega) _).set (show k * 4 + 2 < L * 4 by omega) _).set (show k * 4 + 3 < L * 4 by omega) _).congr fun i _ => shrUp_step q p r As ns cs k i
theorem NX.nil6 (w : World) : NX w none 0 0 (nw 0) := by
  have : nw 0 = [] := dg_zero _
  rw [this]; exact Rd.none_ _ _ _ _ _ _
set_option maxHeartbeats 4000000 in
theorem whole6_any (R G L m d : Nat) (B : Option Addr) (q p r : Nat → Nat) (As : Nat → Option Addr) (ns cs : Nat → Nat) (w : World) (hL : L ≤ 24) (hg : RW w G 154 (L * 3) (stpF q p As ns cs)) (hm : m ≤ 25) (hB : NX w B m d (nw (prodF q L))) (hf : Hid (∀ j, j < L → (ns j ≤ 25 ∧ NX w (As j) (ns j) (cs j) (nw (prodF q j))) ∧ 2 ≤ q j ∧ q j < 2305843009213693952 ∧ p j < q j ∧ r j < q j)) (hX : jnF q p r 0 L < prodF q L) (hR : Hid (Reads 87 #[.pointer (some ⟨R, 0, none⟩)] w L r)) :
    Calls Tryd.prog 86 #[.agg #[.slice (some ⟨G, 0, none⟩) L L, .slice B m d], .func (.func 87) #[] #[.pointer (some ⟨R, 0, none⟩)]] w (Told w 1000 (cenB (jnF q p r 0 L) (prodF q L)) (cenN (jnF q p r 0 L) (prodF q L))) := by
  have HG := Lib.hid hg
  have HB := Lib.hid hB
  have HX := Lib.hid hX
  clear hg hB hX
  have hmk := make_share L (by omega)
  go_enter Tryd.func86, Tryd.ntmps86
  go_wp2_with fail
  clear hmk
  have hs0 : RW (((w.alloc (.cells #[.slice (some ⟨G, 0, none⟩) L L, .slice B m d] 114)).alloc (.cells #[.bool false, .slice none 0 0] 59)).alloc (.cells (newShare L) 157)) (w.heap.size + 1 + 1) 157 (L * 4) zeroH := by
    have := newShare_rw ((w.alloc (.cells #[.slice (some ⟨G, 0, none⟩) L L, .slice B m d] 114)).alloc (.cells #[.bool false, .slice none 0 0] 59)) L
    rwa [show ((w.alloc (.cells #[.slice (some ⟨G, 0, none⟩) L L, .slice B m d] 114)).alloc (.cells #[.bool false, .slice none 0 0] 59)).heap.size = w.heap.size + 1 + 1 by simp] at this
  have hr0 : RW (((w.alloc (.cells #[.slice (some ⟨G, 0, none⟩) L L, .slice B m d] 114)).alloc (.cells #[.bool false, .slice none 0 0] 59)).alloc (.cells (newShare L) 157)) (w.heap.size + 1) 59 2 (two (.bool false) (.slice none 0 0)) := by
    have : RW ((w.alloc (.cells #[.slice (some ⟨G, 0, none⟩) L L, .slice B m d] 114)).alloc (.cells #[.bool false, .slice none 0 0] 59)) (w.alloc (.cells #[.slice (some ⟨G, 0, none⟩) L L, .slice B m d] 114)).heap.size 59 2 (two (.bool false) (.slice none 0 0)) := heap_alloc_new _ _
    rw [show (w.alloc (.cells #[.slice (some ⟨G, 0, none⟩) L L, .slice B m d] 114)).heap.size = w.heap.size + 1 by simp] at this
    exact this.ext ((Ext.refl _).alloc _)
  have hp0 : RW (((w.alloc (.cells #[.slice (some ⟨G, 0, none⟩) L L, .slice B m d] 114)).alloc (.cells #[.bool false, .slice none 0 0] 59)).alloc (.cells (newShare L) 157)) w.heap.size 114 2 (two (.slice (some ⟨G, 0, none⟩) L L) (.slice B m d)) := by
    have : RW (w.alloc (.cells #[.slice (some ⟨G, 0, none⟩) L L, .slice B m d] 114)) w.heap.size 114 2 (two (.slice (some ⟨G, 0, none⟩) L L) (.slice B m d)) := heap_alloc_new _ _
    exact this.ext (((Ext.refl _).alloc _).alloc _)
  have kV : Ext w (((w.alloc (.cells #[.slice (some ⟨G, 0, none⟩) L L, .slice B m d] 114)).alloc (.cells #[.bool false, .slice none 0 0] 59)).alloc (.cells (newShare L) 157)) := (((Ext.refl w).alloc _).alloc _).alloc _
  generalize (((w.alloc (.cells #[.slice (some ⟨G, 0, none⟩) L L, .slice B m d] 114)).alloc (.cells #[.bool false, .slice none 0 0] 59)).alloc (.cells (newShare L) 157)) = V at *
  obtain ⟨S, hS⟩ : ∃ S, S = w.heap.size + 1 + 1 := ⟨_, rfl⟩
  rw [← hS] at hs0 ⊢
  have hSw : w.heap.size + 1 < S := by omega
  clear hS
  go_loopw [15] (fun i wr => ∃ k : Nat, k ≤ L ∧ i = .int .i64 (k : Int) ∧ RW wr S 157 (L * 4) (shrUp q p r As ns cs k) ∧ RW wr (w.heap.size + 1) 59 2 (two (.bool false) (.slice none 0 0)) ∧ RW wr w.heap.size 114 2 (two (.slice (some ⟨G, 0, none⟩) L L) (.slice B m d)) ∧ Ext w wr) (fun i _ => L - (intOf i).toNat)
  case atStart => exact ⟨0, by omega, rfl, hs0.congr fun i _ => by unfold shrUp; rw [if_neg (by omega)], hr0, hp0, kV⟩
  case round =>
    obtain ⟨k, hk, rfl, hs, hr, hp, kr⟩ := hrel
    clear hs0 hr0 hp0 kV
    by_cases hlt : k < L
    · obtain ⟨b0, b1, b2⟩ := stp_at (HG.out.ext kr) hlt
      have i0 : (0 : Int) ≤ (k : Int) := by omega
      have i1 : (k : Int) < (L : Int) := by omega
      go_wp2_with fail
      have kz : Ext wr (wr.alloc (.cells #[.int .u64 (q k : Int), .slice (As k) (ns k) (cs k), .int .u64 (p k : Int)] 154)) := (Ext.refl _).alloc _
      have hy : RW (wr.alloc (.cells #[.int .u64 (q k : Int), .slice (As k) (ns k) (cs k), .int .u64 (p k : Int)] 154)) wr.heap.size 154 3 (fun j => if j = 0 then .int .u64 (q k : Int) else if j = 1 then .slice (As k) (ns k) (cs k) else .int .u64 (p k : Int)) := heap_alloc_new _ _
      have hsV := hs.ext kz
      have hrV := hr.ext kz
      have hpV := hp.ext kz
      have krV := kr.trans kz
      clear kz hs hr hp b0 b1 b2
      generalize (wr.alloc (.cells #[.int .u64 (q k : Int), .slice (As k) (ns k) (cs k), .int .u64 (p k : Int)] 154)) = W at *
      generalize wr.heap.size = Y at *
      have x0 : W.cell? ⟨Y, 0, none⟩ = some (.int .u64 (q k : Int)) := hy.cell (i := 0) (by omega)
      have x1 : W.cell? ⟨Y, 1, none⟩ = some (.slice (As k) (ns k) (cs k)) := hy.cell (i := 1) (by omega)
      have x2 : W.cell? ⟨Y, 2, none⟩ = some (.int .u64 (p k : Int)) := hy.cell (i := 2) (by omega)
      have neY : Y ≠ S := hy.ne hsV (by decide)
      have ne1 : (Y = S) = False := by simp; exact neY
      have ne2 : (S = Y) = False := by simp; exact fun e => neY e.symm
      have kk : Ext W W := Ext.refl W
      go_region_held3 (fun w' => w'.cell? ⟨Y, 0, none⟩ = some (.int .u64 (q k : Int)) ∧ w'.cell? ⟨Y, 1, none⟩ = some (.slice (As k) (ns k) (cs k)) ∧ w'.cell? ⟨Y, 2, none⟩ = some (.int .u64 (p k : Int))) (go_keep)
        (first
          | (go_at_call 87; refine (hR.out k _ hlt (krV.trans (Ext.drew kk))).mono ?_; rintro e5 w5 ⟨rfl, k5⟩; replace kk : Ext W w5 := (Ext.trans (Ext.drew kk) k5); have y50 := cell_ext kk x0; have y51 := cell_ext kk x1; have y52 := cell_ext kk x2; have r5 := hsV.ext kk; have c50 := r5.cell (i := k * 4) (by omega); have c51 := r5.cell (i := k * 4 + 1) (by omega); have c52 := r5.cell (i := k * 4 + 2) (by omega); have c53 := r5.cell (i := k * 4 + 3) (by omega); have z50 := r5.frozen (k * 4); have z51 := r5.frozen (k * 4 + 1); have z52 := r5.frozen (k * 4 + 2); have z53 := r5.frozen (k * 4 + 3); have s5 := r5.lt)
          | fail)
      have hw6 : (((w5.setCell ⟨S, k * 4, none⟩ (.int .u64 (q k : Int))).setCell ⟨S, k * 4 + 1, none⟩ (.slice (As k) (ns k) (cs k))).setCell ⟨S, k * 4 + 2, none⟩ (.int .u64 (p k : Int))).setCell ⟨S, k * 4 + 3, none⟩ (.int .u64 (r k : Int)) = set4 w5 S (k * 4) (.int .u64 (q k : Int)) (.slice (As k) (ns k) (cs k)) (.int .u64 (p k : Int)) (.int .u64 (r k : Int)) := rfl
      rw [hw6]
      have e1 := shr_set r5 hlt
      have e2 := (hrV.ext kk).keep4 (g := S) (by omega) (k * 4) (.int .u64 (q k : Int)) (.slice (As k) (ns k) (cs k)) (.int .u64 (p k : Int)) (.int .u64 (r k : Int))
      have e3 := (hpV.ext kk).keep4 (g := S) (by omega) (k * 4) (.int .u64 (q k : Int)) (.slice (As k) (ns k) (cs k)) (.int .u64 (p k : Int)) (.int .u64 (r k : Int))
      have e4 := (krV.trans kk).keep4 (g := S) (by omega) (k * 4) (.int .u64 (q k : Int)) (.slice (As k) (ns k) (cs k)) (.int .u64 (p k : Int)) (.int .u64 (r k : Int))
      generalize set4 w5 S (k * 4) (.int .u64 (q k : Int)) (.slice (As k) (ns k) (cs k)) (.int .u64 (p k : Int)) (.int .u64 (r k : Int)) = w6 at *
      go_wp2_with fail
      exact ⟨⟨k + 1, by omega, by go_num, e1, e2, e3, e4⟩, by simp [intOf]; omega⟩
    · have hkL : k = L := by omega
      subst hkL
      have HS := Lib.hid (show RW wr S 157 (k * 4) (shrF q p r As ns cs) from hs.congr fun i hi => by unfold shrUp; rw [if_pos hi])
      clear hs
      have x0 : wr.cell? ⟨w.heap.size, 0, none⟩ = some (.slice (some ⟨G, 0, none⟩) k k) := hp.cell (i := 0) (by omega)
      have x1 : wr.cell? ⟨w.heap.size, 1, none⟩ = some (.slice B m d) := hp.cell (i := 1) (by omega)
      have kk : Ext wr wr := Ext.refl wr
      go_wp2_with fail
      go_region_held3 (fun w' => w'.cell? ⟨w.heap.size, 0, none⟩ = some (.slice (some ⟨G, 0, none⟩) k k) ∧ w'.cell? ⟨w.heap.size, 1, none⟩ = some (.slice B m d)) (go_keep)
        (first
          | (go_at_call 119; refine (centered6_any (some ⟨G, 0, none⟩) A1 B k k n1 c1 m d _ _ _ (by omega) (by omega) (NX.ext HN1.out kx) (NX.ext HB.out (kr.trans kk)) HX.out).mono ?_; rintro e5 w5 ⟨A2, n2, c2, rfl, hn2, hx2, k5⟩; replace kk : Ext wr w5 := (Ext.trans kk k5); have y50 := cell_ext kk x0; have y51 := cell_ext kk x1; have r5 := hr.ext kk; have c50 := r5.cell (i := 0) (by omega); have c51 := r5.cell (i := 1) (by omega); have z50 := r5.frozen 0; have z51 := r5.frozen 1; have s5 := r5.lt)
          | (go_at_call 120; refine (grownS_any none 0 0 k S 0 q p r As ns cs _ (by omega) (by omega) (NX.nil6 _) (HS.out.ext (Ext.drew kk)) (Lib.hid fun j hj => ⟨⟨(hf.out j hj).1.1, NX.ext (hf.out j hj).1.2 (kr.trans (Ext.drew kk))⟩, (hf.out j hj).2⟩)).mono ?_; rintro e4 w4 ⟨A1, n1, c1, rfl, hn1, hx1, k4⟩; have HN1 := Lib.hid hx1; clear hx1; replace kk : Ext wr w4 := (Ext.trans (Ext.drew kk) k4); have kx : Ext w4 w4 := Ext.refl w4; have y40 := cell_ext kk x0; have y41 := cell_ext kk x1; have r4 := hr.ext kk; have c40 := r4.cell (i := 0) (by omega); have c41 := r4.cell (i := 1) (by omega); have z40 := r4.frozen 0; have z41 := r4.frozen 1; have s4 := r4.lt)
          | fail)
      go_wp2
      have hb := Lib.hid (rfl : cenB (jnF q p r 0 k) (prodF q k) = cenB (jnF q p r 0 k) (prodF q k))
      have d := two_set r5 (.bool (cenB (jnF q p r 0 k) (prodF q k))) (.slice A2 n2 c2)
      have d0 : ((w5.setCell ⟨w.heap.size + 1, 0, none⟩ (.bool (cenB (jnF q p r 0 k) (prodF q k)))).setCell ⟨w.heap.size + 1, 1, none⟩ (.slice A2 n2 c2)).cell? ⟨w.heap.size + 1, 0, none⟩ = some (.bool (cenB (jnF q p r 0 k) (prodF q k))) := d.cell (i := 0) (by omega)
      have d1 : ((w5.setCell ⟨w.heap.size + 1, 0, none⟩ (.bool (cenB (jnF q p r 0 k) (prodF q k)))).setCell ⟨w.heap.size + 1, 1, none⟩ (.slice A2 n2 c2)).cell? ⟨w.heap.size + 1, 1, none⟩ = some (.slice A2 n2 c2) := d.cell (i := 1) (by omega)
      have d2 := two_nx (b' := (cenB (jnF q p r 0 k) (prodF q k))) (A2 := A2) (n2 := n2) (c2 := c2) r5 hx2
      have d3 := ((kr.trans kk).set (p := ⟨w.heap.size + 1, 0, none⟩) (by show w.heap.size ≤ w.heap.size + 1; omega) (.bool (cenB (jnF q p r 0 k) (prodF q k)))).set (p := ⟨w.heap.size + 1, 1, none⟩) (by show w.heap.size ≤ w.heap.size + 1; omega) (.slice A2 n2 c2)
      generalize (w5.setCell ⟨w.heap.size + 1, 0, none⟩ (.bool (cenB (jnF q p r 0 k) (prodF q k)))).setCell ⟨w.heap.size + 1, 1, none⟩ (.slice A2 n2 c2) = w9 at *
      exact bodyPost_ret (v := .agg #[.bool (cenB (jnF q p r 0 k) (prodF q k)), .slice A2 n2 c2]) (by simp [results, Tryd.results86, go_sem, d0, d1]) rfl ⟨A2, n2, c2, rfl, by omega, d2, d3⟩
end Go.Proofs.YtpgcapobbmbchaaDoor

/-
  What Whole and Product of package crt answer.
-/
namespace Go.Proofs.YtpgcapobbmbchaaDoor
open Go.RowKit
set_option linter.unusedVariables false
set_option maxRecDepth 100000

theorem tells_yes {w w' : World} {P : Prop} {ee : Ending} (h : Tells w P ee w') (hP : P) : ee = .returned (.bool true) ∧ Ext w w' := by
  rcases h with ⟨_, h⟩ | ⟨h, _⟩
  · exact h
  · exact absurd hP h
theorem read_any (R n c : Nat) (A : Option Addr) (f : Nat → Nat) (w : World) (hc : w.cell? ⟨R, 0, none⟩ = some (.slice A n c)) (hX : FX w A n c f) : Reads 87 #[.pointer (some ⟨R, 0, none⟩)] w n f := by
  intro j w1 hj k1
  have hx := hX.ext k1
  have hc1 := cell_ext k1 hc
  obtain ⟨ad, rfl, hcs⟩ := hx.cells (by omega)
  have hcell := hcs j hj
  clear hcs hx
  have i0 : (0 : Int) ≤ (j : Int) := by omega
  have i1 : (j : Int) < (n : Int) := by omega
  go_enter Tryd.func87, Tryd.ntmps87
  go_wp2
  go_ret
  exact ⟨rfl, Ext.refl _⟩
set_option maxHeartbeats 4000000 in
theorem Product_any (B : Option Addr) (L d : Nat) (f : Nat → Nat) (w : World) (hL : L ≤ 800) (hB : FX w B L d f) (hf : Hid (∀ j, j < L → f j < 18446744073709551616)) :
    Calls Tryd.prog 43 #[.slice B L d] w fun ee w' => ∃ A2 n2 c2, ee = .returned (.slice A2 n2 c2) ∧ n2 ≤ 1 + L ∧ NX w' A2 n2 c2 (nw (prodF f L)) ∧ Ext w w' := by
  have hfd := field6
  have HB := Lib.hid hB
  clear hB
  go_enter Tryd.func43, Tryd.ntmps43
  go_wp2_with fail
  refine (ofF_any 1 w (by omega)).mono ?_
  rintro e1 w1 ⟨A1, n1, c1, rfl, hn1, hx1, k1, hf1⟩
  replace k1 : Ext w w1 := k1
  clear hf1
  have HN := Lib.hid (show NX w1 A1 n1 c1 (nw 1) from hx1)
  clear hx1
  go_wp2_with fail
  refine (grownU_any A1 B n1 c1 L d 1 f w1 (by omega) hL HN.out (HB.out.ext k1) hf).mono ?_
  rintro e2 w2 ⟨A2, n2, c2, rfl, hn2, hx2, k2⟩
  rw [Nat.mul_one] at hx2
  have H2 := Lib.hid hx2
  clear hx2
  go_wp2
  go_ret
  exact ⟨A2, n2, c2, rfl, by omega, H2.out, k1.trans k2⟩
set_option maxHeartbeats 4000000 in
theorem Whole_any (A B : Option Addr) (n c L d : Nat) (f q : Nat → Nat) (w : World) (hn : n ≤ 1000) (hA : FX w A n c f) (hB : FX w B L d q) (hf : Hid (∀ j, j < n → f j < 18446744073709551616)) (hq : Hid (∀ j, j < L → q j < 18446744073709551616)) (hT : Tabs w) (hR : RowC L q) (hC : ResC n L f q) (hX : ∀ p : Nat → Nat, (∀ j, j < L → PartOk (prodF q j % q j) (q j) (p j)) → jnF q p f 0 L < prodF q L) :
    Calls Tryd.prog 39 #[.slice A n c, .slice B L d] w fun ee w' => ∃ (p : Nat → Nat) (A2 : Option Addr) (n2 c2 : Nat), Hid (∀ j, j < L → PartOk (prodF q j % q j) (q j) (p j)) ∧ ee = .returned (.tuple #[.agg #[.bool (cenB (jnF q p f 0 L) (prodF q L)), .slice A2 n2 c2], .int .i64 0]) ∧ n2 ≤ 1000 ∧ NX w' A2 n2 c2 (nw (cenN (jnF q p f 0 L) (prodF q L))) ∧ Ext w w' := by
  have HA := Lib.hid hA
  have HB := Lib.hid hB
  have HX := Lib.hid hX
  have HT := Lib.hid hT
  have HR := Lib.hid hR
  have HC := Lib.hid hC
  have hL := hR.2.1
  clear hA hB hX hT hR hC
  go_enter Tryd.func39, Tryd.ntmps39
  go_wp2_with fail
  have hr0 : RW ((w.alloc (.cells #[.slice A n c] 22)).alloc (.cells #[.bool false, .slice none 0 0] 59)) (w.heap.size + 1) 59 2 (two (.bool false) (.slice none 0 0)) := by
    have : RW ((w.alloc (.cells #[.slice A n c] 22)).alloc (.cells #[.bool false, .slice none 0 0] 59)) (w.alloc (.cells #[.slice A n c] 22)).heap.size 59 2 (two (.bool false) (.slice none 0 0)) := heap_alloc_new _ _
    rwa [show (w.alloc (.cells #[.slice A n c] 22)).heap.size = w.heap.size + 1 by simp] at this
  have x0 : ((w.alloc (.cells #[.slice A n c] 22)).alloc (.cells #[.bool false, .slice none 0 0] 59)).cell? ⟨w.heap.size, 0, none⟩ = some (.slice A n c) := cell_ext ((Ext.refl _).alloc _) (one_at w _ _)
  have kV : Ext w ((w.alloc (.cells #[.slice A n c] 22)).alloc (.cells #[.bool false, .slice none 0 0] 59)) := ((Ext.refl w).alloc _).alloc _
  generalize ((w.alloc (.cells #[.slice A n c] 22)).alloc (.cells #[.bool false, .slice none 0 0] 59)) = V at *
  refine (isRow_any B L d q V (by omega) (HB.out.ext kV) hq (HT.out.ext kV)).mono ?_
  rintro e1 w1 h1
  obtain ⟨rfl, k1⟩ := tells_yes h1 HR.out
  clear h1
  have x1 := cell_ext k1 x0
  go_wp2_with fail
  refine (areResidues_any A B n c L d f q w1 (by omega) (by omega) (HA.out.ext (kV.trans k1)) (HB.out.ext (kV.trans k1)) hf hq).mono ?_
  rintro e2 w2 h2
  obtain ⟨rfl, k2⟩ := tells_yes h2 HC.out
  clear h2
  go_wp2_with fail
  have HQ := Lib.hid (show ∀ j, j < L → 2 ≤ q j ∧ q j < 18446744073709551616 from fun j hj => by
    have := (HR.out.2.2 j hj).1
    have h1 := this.1
    have h2 := this.2.1
    omega)
  have kw2 := kV.trans (k1.trans k2)
  refine (planOf_any B L d q w2 hL (HB.out.ext kw2) HQ).mono ?_
  rintro e3 w3 ⟨G, p, As, ns, cs, A3, n3, c3, rfl, hg, hn3, hx3, hall, k3⟩
  have HG := Lib.hid hg
  have H3 := Lib.hid hx3
  clear hg hx3
  go_wp2_with fail
  have kw3 := kw2.trans k3
  have k13 := k1.trans (k2.trans k3)
  have x3 := cell_ext k13 x0
  have HP := Lib.hid (show ∀ j, j < L → PartOk (prodF q j % q j) (q j) (p j) from fun j hj => (hall.out j hj).2.2)
  have hnL : n = L := HC.out.1
  subst hnL
  refine (whole6_any w.heap.size G n n3 c3 A3 q p f As ns cs w3 hL HG.out hn3 H3.out (Lib.hid fun j hj => ⟨⟨(hall.out j hj).1, (hall.out j hj).2.1⟩, (HQ.out j hj).1, (HR.out.2.2 j hj).1.2.1, (hall.out j hj).2.2.1, HC.out.2 j hj⟩) (HX.out p HP.out) (Lib.hid (read_any _ n c A f w3 x3 (HA.out.ext kw3)))).mono ?_
  rintro e5 w5 ⟨A5, n5, c5, rfl, hn5, hx5, k5⟩
  have H5 := Lib.hid hx5
  clear hx5
  have r5 := hr0.ext (k13.trans k5)
  have c50 := r5.cell (i := 0) (by omega)
  have c51 := r5.cell (i := 1) (by omega)
  have z50 := r5.frozen 0
  have z51 := r5.frozen 1
  have s5 := r5.lt
  go_wp2
  have d := two_set r5 (.bool (cenB (jnF q p f 0 n) (prodF q n))) (.slice A5 n5 c5)
  have d0 : ((w5.setCell ⟨w.heap.size + 1, 0, none⟩ (.bool (cenB (jnF q p f 0 n) (prodF q n)))).setCell ⟨w.heap.size + 1, 1, none⟩ (.slice A5 n5 c5)).cell? ⟨w.heap.size + 1, 0, none⟩ = some (.bool (cenB (jnF q p f 0 n) (prodF q n))) := d.cell (i := 0) (by omega)
  have d1 : ((w5.setCell ⟨w.heap.size + 1, 0, none⟩ (.bool (cenB (jnF q p f 0 n) (prodF q n)))).setCell ⟨w.heap.size + 1, 1, none⟩ (.slice A5 n5 c5)).cell? ⟨w.heap.size + 1, 1, none⟩ = some (.slice A5 n5 c5) := d.cell (i := 1) (by omega)
  have d2 := two_nx (b' := (cenB (jnF q p f 0 n) (prodF q n))) (A2 := A5) (n2 := n5) (c2 := c5) r5 H5.out
  have d3 := ((kw3.trans k5).set (p := ⟨w.heap.size + 1, 0, none⟩) (by show w.heap.size ≤ w.heap.size + 1; omega) (.bool (cenB (jnF q p f 0 n) (prodF q n)))).set (p := ⟨w.heap.size + 1, 1, none⟩) (by show w.heap.size ≤ w.heap.size + 1; omega) (.slice A5 n5 c5)
  generalize (w5.setCell ⟨w.heap.size + 1, 0, none⟩ (.bool (cenB (jnF q p f 0 n) (prodF q n)))).setCell ⟨w.heap.size + 1, 1, none⟩ (.slice A5 n5 c5) = w9 at *
  exact bodyPost_ret (v := .tuple #[.agg #[.bool (cenB (jnF q p f 0 n) (prodF q n)), .slice A5 n5 c5], .int .i64 0]) (by simp [results, Tryd.results39, go_sem, d0, d1]) rfl ⟨p, A5, n5, c5, HP, rfl, hn5, d2, d3⟩
end Go.Proofs.YtpgcapobbmbchaaDoor

/-
  The calls of layer 6 whose answers the document fixes.
-/
namespace Go.Proofs.YtpgcapobbmbchaaDoor
open Go.RowKit
set_option linter.unusedVariables false
set_option maxRecDepth 100000

theorem is7 : isS 7 = true := by decide +kernel
def q57 (i : Nat) : Nat := if i = 0 then 5 else 7
def r23 (i : Nat) : Nat := if i = 0 then 2 else 3
theorem row57 : RowC 2 q57 := by
  refine ⟨by omega, by omega, fun j hj => ?_⟩
  rcases (show j = 0 ∨ j = 1 by omega) with rfl | rfl
  · exact ⟨⟨by decide, by decide, is5⟩, fun i hi => by omega⟩
  · refine ⟨⟨by decide, by decide, is7⟩, fun i hi => ?_⟩
    obtain rfl : i = 0 := by omega
    decide
theorem res23 : ResC 2 2 r23 q57 := ⟨rfl, all_two (by decide) (by decide)⟩
theorem jn57 (p : Nat → Nat) (h : ∀ j, j < 2 → PartOk (prodF q57 j % q57 j) (q57 j) (p j)) : jnF q57 p r23 0 2 = 17 := by
  have h0 := h 0 (by omega)
  have h1 := h 1 (by omega)
  have e0 : p 0 = 1 := by
    have a := h0.1
    have b := h0.2 (by decide)
    have c : q57 0 = 5 := rfl
    have d : prodF q57 0 % q57 0 = 1 := by decide
    rw [d] at b
    rw [c] at a b
    omega
  have e1 : p 1 = 3 := by
    have a := h1.1
    have b := h1.2 (by decide)
    have c : q57 1 = 7 := rfl
    have d : prodF q57 1 % q57 1 = 5 := by decide
    rw [d] at b
    rw [c] at a b
    omega
  simp only [jnF, e0, e1]
  decide
theorem prod57 : prodF q57 2 = 35 := by decide
theorem sameInt6 {A A' : Option Addr} {n n' c c' : Nat} {b : Bool} {xs : List Nat} {w : World} (h : NX w A n c xs) (h' : NX w A' n' c' xs) (hn : n ≤ 100000) (hn' : n' ≤ 100000) :
    Calls Tryd.prog 41 #[.agg #[.bool b, .slice A n c], .agg #[.bool b, .slice A' n' c']] w fun e w' => e = .returned (.bool true) ∧ Ext w w' :=
  (sameIntX h h' hn hn').mono fun e w' ⟨he, k⟩ => ⟨by rw [he]; simp, k⟩
theorem same6 {A A' : Option Addr} {n n' c c' : Nat} {xs : List Nat} {w : World} (h : NX w A n c xs) (h' : NX w A' n' c' xs) (hn : n ≤ 100000) (hn' : n' ≤ 100000) :
    Calls Tryd.prog 42 #[.slice A n c, .slice A' n' c'] w fun e w' => e = .returned (.bool true) ∧ Ext w w' :=
  (sameX h h' hn hn').mono fun e w' ⟨he, k⟩ => ⟨by rw [he]; simp, k⟩
theorem UW.fx6 {w : World} {g n : Nat} {f : Nat → Nat} (h : UW w g n f) : FX w (some ⟨g, 0, none⟩) n n f :=
  ⟨Nat.le_refl _, fun _ => ⟨_, rfl, fun j hj => by rw [Addr.add_lit, Nat.zero_add]; exact RW.cell h hj⟩⟩
set_option maxHeartbeats 4000000 in
theorem fixed6_any (w : World) (hT : Tabs w) : Calls Tryd.prog 38 #[] w fun e w' => e = .returned (.bool true) ∧ Ext w w' := by
  have HT := Lib.hid hT
  clear hT
  go_enter Tryd.func38, Tryd.ntmps38
  go_wp2_with fail
  have ka : Ext w ((w.alloc (.cells #[.int .u64 2, .int .u64 3] 79)).alloc (.cells #[.int .u64 5, .int .u64 7] 79)) := ((Ext.refl w).alloc _).alloc _
  have hr : FX ((w.alloc (.cells #[.int .u64 2, .int .u64 3] 79)).alloc (.cells #[.int .u64 5, .int .u64 7] 79)) (some ⟨w.heap.size, 0, none⟩) 2 2 r23 := FX.ext (show FX (w.alloc (.cells #[.int .u64 2, .int .u64 3] 79)) (some ⟨w.heap.size, 0, none⟩) 2 2 r23 from fx_two w 2 3 2 3 rfl rfl) ((Ext.refl _).alloc _)
  have hq : FX ((w.alloc (.cells #[.int .u64 2, .int .u64 3] 79)).alloc (.cells #[.int .u64 5, .int .u64 7] 79)) (some ⟨w.heap.size + 1, 0, none⟩) 2 2 q57 := by
    have : FX ((w.alloc (.cells #[.int .u64 2, .int .u64 3] 79)).alloc (.cells #[.int .u64 5, .int .u64 7] 79)) (some ⟨(w.alloc (.cells #[.int .u64 2, .int .u64 3] 79)).heap.size, 0, none⟩) 2 2 q57 := fx_two _ 5 7 5 7 rfl rfl
    rwa [show (w.alloc (.cells #[.int .u64 2, .int .u64 3] 79)).heap.size = w.heap.size + 1 by simp] at this
  generalize (w.alloc (.cells #[.int .u64 2, .int .u64 3] 79)).alloc (.cells #[.int .u64 5, .int .u64 7] 79) = V at *
  refine (Whole_any (some ⟨w.heap.size, 0, none⟩) (some ⟨w.heap.size + 1, 0, none⟩) 2 2 2 2 r23 q57 V (by omega) hr hq (Lib.hid (all_two (by decide) (by decide))) (Lib.hid (all_two (by decide) (by decide))) (HT.out.ext ka) row57 res23 (fun p hp => by rw [jn57 p hp, prod57]; omega)).mono ?_
  rintro ee w1 ⟨p, A1, n1, c1, hp, rfl, hn1, hx1, k1⟩
  have hj := jn57 p hp.out
  rw [hj, prod57, show cenN 17 35 = 17 by decide] at hx1
  rw [hj, prod57, show cenB 17 35 = false by decide]
  rw [nw_one (by omega) (by omega)] at hx1
  have H1 := Lib.hid hx1
  have kw1 := ka.trans k1
  clear hx1 hr hq hp hj k1 ka
  go_wp2_with fail
  have kb : Ext w1 (((w1.alloc (.cells #[.bool false, .slice A1 n1 c1] 59)).alloc (.cells #[.int .u64 1] 79)).alloc (.cells #[.int .u64 5, .int .u64 7] 79)) := (((Ext.refl w1).alloc _).alloc _).alloc _
  have hv : NX (((w1.alloc (.cells #[.bool false, .slice A1 n1 c1] 59)).alloc (.cells #[.int .u64 1] 79)).alloc (.cells #[.int .u64 5, .int .u64 7] 79)) (some ⟨w1.heap.size + 1, 0, none⟩) 1 1 [1] := NX.ext (NXN.one (w1.alloc (.cells #[.bool false, .slice A1 n1 c1] 59)) (w1.heap.size + 1) (by simp) 1 1 rfl (by omega)) ((Ext.refl _).alloc _)
  have hq : FX (((w1.alloc (.cells #[.bool false, .slice A1 n1 c1] 59)).alloc (.cells #[.int .u64 1] 79)).alloc (.cells #[.int .u64 5, .int .u64 7] 79)) (some ⟨w1.heap.size + 1 + 1, 0, none⟩) 2 2 q57 := by
    have : FX (((w1.alloc (.cells #[.bool false, .slice A1 n1 c1] 59)).alloc (.cells #[.int .u64 1] 79)).alloc (.cells #[.int .u64 5, .int .u64 7] 79)) (some ⟨((w1.alloc (.cells #[.bool false, .slice A1 n1 c1] 59)).alloc (.cells #[.int .u64 1] 79)).heap.size, 0, none⟩) 2 2 q57 := fx_two _ 5 7 5 7 rfl rfl
    rwa [show ((w1.alloc (.cells #[.bool false, .slice A1 n1 c1] 59)).alloc (.cells #[.int .u64 1] 79)).heap.size = w1.heap.size + 1 + 1 by simp] at this
  have hi : RW (((w1.alloc (.cells #[.bool false, .slice A1 n1 c1] 59)).alloc (.cells #[.int .u64 1] 79)).alloc (.cells #[.int .u64 5, .int .u64 7] 79)) w1.heap.size 59 2 (two (.bool false) (.slice A1 n1 c1)) := RW.ext (show RW (w1.alloc (.cells #[.bool false, .slice A1 n1 c1] 59)) w1.heap.size 59 2 (two (.bool false) (.slice A1 n1 c1)) from heap_alloc_new _ _) (((Ext.refl _).alloc _).alloc _)
  generalize (((w1.alloc (.cells #[.bool false, .slice A1 n1 c1] 59)).alloc (.cells #[.int .u64 1] 79)).alloc (.cells #[.int .u64 5, .int .u64 7] 79)) = V2 at *
  refine (Residues_any true _ 1 1 [1] _ 2 2 q57 V2 hv (by omega) hq (Lib.hid (all_two (by decide) (by decide))) (HT.out.ext (kw1.trans kb)) row57).mono ?_
  rintro ee w3 ⟨g, rfl, hu, k3⟩
  have HU := Lib.hid hu
  have hi3 := hi.ext k3
  have kw3 := (kw1.trans kb).trans k3
  have H3 := Lib.hid (NX.ext H1.out (kb.trans k3))
  clear hv hq hi hu kb k3
  have x0 : w3.cell? ⟨w1.heap.size, 0, none⟩ = some (.bool false) := hi3.cell (i := 0) (by omega)
  have x1 : w3.cell? ⟨w1.heap.size, 1, none⟩ = some (.slice A1 n1 c1) := hi3.cell (i := 1) (by omega)
  clear hi3
  go_wp2_with fail
  have kc : Ext w3 (w3.alloc (.cells #[.int .u64 17] 79)) := (Ext.refl w3).alloc _
  have h17 : NX (w3.alloc (.cells #[.int .u64 17] 79)) (some ⟨w3.heap.size, 0, none⟩) 1 1 [17] := NXN.one w3 _ rfl 17 17 rfl (by omega)
  generalize w3.alloc (.cells #[.int .u64 17] 79) = V3 at *
  refine (sameInt6 (NX.ext H3.out kc) h17 (by omega) (by omega)).mono ?_
  rintro ee w4 ⟨rfl, k4⟩
  have kw4 := kc.trans k4
  clear h17 kc k4
  go_wp2_with fail
  have kd : Ext w4 (w4.alloc (.cells #[.int .u64 4, .int .u64 6] 79)) := (Ext.refl w4).alloc _
  have h46 := fx_two w4 4 6 4 6 rfl rfl
  generalize w4.alloc (.cells #[.int .u64 4, .int .u64 6] 79) = V4 at *
  refine (same_any _ _ 2 2 2 _ _ V4 (HU.out.fx6.ext (kw4.trans kd)) h46 (by omega) (Lib.hid (all_two (by decide) (by decide)))).mono ?_
  rintro ee w5 ⟨rfl, k5⟩
  have kw5 := kw4.trans (kd.trans k5)
  clear h46 kd k5
  go_wp2_with fail
  have ke : Ext w5 (w5.alloc (.cells #[.int .u64 5, .int .u64 7] 79)) := (Ext.refl w5).alloc _
  have h57 : FX (w5.alloc (.cells #[.int .u64 5, .int .u64 7] 79)) (some ⟨w5.heap.size, 0, none⟩) 2 2 q57 := fx_two w5 5 7 5 7 rfl rfl
  generalize w5.alloc (.cells #[.int .u64 5, .int .u64 7] 79) = V5 at *
  refine (Product_any _ 2 2 q57 V5 (by omega) h57 (Lib.hid (all_two (by decide) (by decide)))).mono ?_
  rintro ee w6 ⟨A6, n6, c6, rfl, hn6, hx6, k6⟩
  rw [prod57, nw_one (by omega) (by omega)] at hx6
  have H6 := Lib.hid hx6
  have kw6 := kw5.trans (ke.trans k6)
  clear h57 ke k6 hx6
  go_wp2_with fail
  have kf : Ext w6 (w6.alloc (.cells #[.int .u64 35] 79)) := (Ext.refl w6).alloc _
  have h35 : NX (w6.alloc (.cells #[.int .u64 35] 79)) (some ⟨w6.heap.size, 0, none⟩) 1 1 [35] := NXN.one w6 _ rfl 35 35 rfl (by omega)
  generalize w6.alloc (.cells #[.int .u64 35] 79) = V6 at *
  refine (same6 (NX.ext H6.out kf) h35 (by omega) (by omega)).mono ?_
  rintro ee w7 ⟨rfl, k7⟩
  have kw7 := kw3.trans (kw6.trans (kf.trans k7))
  go_wp2
  go_ret
  exact ⟨rfl, kw7⟩
end Go.Proofs.YtpgcapobbmbchaaDoor

/-
  The law CrtResidues, walked.
-/
namespace Go.Proofs.YtpgcapobbmbchaaDoor
open Go.RowKit
set_option linter.unusedVariables false
set_option maxRecDepth 100000

set_option maxHeartbeats 4000000 in
theorem crtResidues_walk {b : Bool} {A : Option Addr} {n c : Nat} {xs : List Nat} {B : Option Addr} {L d : Nat} {q : Nat → Nat} (w : World) (HA : Hid (NX w A n c xs)) (hB : FX w B L d q) (hL : L ≤ maxLen) (hq : Hid (∀ j, j < L → q j < 18446744073709551616)) (hT : Tabs w) :
    Calls Tryd.prog 11 #[.agg #[.bool b, .slice A n c], .slice B L d] w fun e w' => e = .returned (.bool true) ∧ Ext w w' := by
  have HT := Lib.hid hT
  have HB := Lib.hid hB
  clear hT hB
  unfold maxLen at hL
  have kV : Ext w (w.alloc (.cells #[.bool b, .slice A n c] 59)) := (Ext.refl w).alloc _
  have hi : RW (w.alloc (.cells #[.bool b, .slice A n c] 59)) w.heap.size 59 2 (two (.bool b) (.slice A n c)) := heap_alloc_new _ _
  go_enter Tryd.func11, Tryd.ntmps11
  go_wp2_with fail
  generalize w.alloc (.cells #[.bool b, .slice A n c] 59) = V at *
  refine (fixed6_any V (HT.out.ext kV)).mono ?_
  rintro ee w1 ⟨rfl, k1⟩
  have kw1 := kV.trans k1
  have hi1 := hi.ext k1
  have x0 : w1.cell? ⟨w.heap.size, 0, none⟩ = some (.bool b) := hi1.cell (i := 0) (by omega)
  have x1 : w1.cell? ⟨w.heap.size, 1, none⟩ = some (.slice A n c) := hi1.cell (i := 1) (by omega)
  clear hi k1 kV
  by_cases g1 : 40 < L
  · go_wp2
    go_ret
    exact ⟨rfl, kw1⟩
  by_cases g2 : 30 < n
  · go_wp2
    go_ret
    exact ⟨rfl, kw1⟩
  by_cases hR : RowC L q
  · have HR := Lib.hid hR
    clear hR
    go_wp2_with fail
    refine (Residues_any b A n c xs B L d q w1 (NX.ext HA.out kw1) (by omega) (HB.out.ext kw1) hq (HT.out.ext kw1) HR.out).mono ?_
    rintro ee w2 ⟨g, rfl, hu, k2⟩
    have HU := Lib.hid hu
    clear hu
    have kw2 := kw1.trans k2
    have y0 := cell_ext k2 x0
    have y1 := cell_ext k2 x1
    go_wp2_with fail
    refine (refRow_any B L d q w2 (by omega) (HB.out.ext kw2) hq).mono ?_
    rintro ee w3 h3
    obtain ⟨rfl, k3⟩ := tells_yes h3 HR.out
    clear h3
    have kw3 := kw2.trans k3
    have z0 := cell_ext k3 y0
    have z1 := cell_ext k3 y1
    go_wp2_with fail
    refine (refResidues_any b A n c xs B L d q w3 (NX.ext HA.out kw3) (by omega) (HB.out.ext kw3) (by omega) (Lib.hid (okq_lt HR.out))).mono ?_
    rintro ee w4 ⟨A4, c4, rfl, hx4, k4⟩
    have H4 := Lib.hid hx4
    clear hx4
    go_wp2_with fail
    refine (same_any _ _ L L c4 _ _ w4 (HU.out.fx6.ext (k3.trans k4)) H4.out (by omega) (Lib.hid fun _ _ => rfl)).mono ?_
    rintro ee w5 ⟨rfl, k5⟩
    have kw5 := kw3.trans (k4.trans k5)
    go_wp2
    go_ret
    exact ⟨rfl, kw5⟩
  · have HR := Lib.hid hR
    clear hR
    go_wp2_with fail
    refine (Residues_no b A n c B L d q w1 (HB.out.ext kw1) (by omega) hq (HT.out.ext kw1) HR.out).mono ?_
    rintro ee w2 ⟨rfl, k2⟩
    have kw2 := kw1.trans k2
    have y0 := cell_ext k2 x0
    have y1 := cell_ext k2 x1
    go_wp2_with fail
    refine (refRow_any B L d q w2 (by omega) (HB.out.ext kw2) hq).mono ?_
    rintro ee w3 h3
    rcases h3 with ⟨h, _⟩ | ⟨_, rfl, k3⟩
    · exact absurd h HR.out
    have kw3 := kw2.trans k3
    go_wp2
    go_ret
    exact ⟨rfl, kw3⟩
end Go.Proofs.YtpgcapobbmbchaaDoor
