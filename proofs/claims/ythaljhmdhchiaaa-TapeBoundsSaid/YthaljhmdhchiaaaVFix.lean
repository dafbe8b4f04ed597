/-
  The calls whose answers the chapter of tapes fixes.
-/
import Derived.Test.YthaljhmdhchiaaaVList
namespace Go.Proofs.Ythaljhmdhchiaaa
open Go.RowKit
set_option linter.unusedVariables false
set_option maxRecDepth 100000

theorem ternary_is (p : Nat) (l r : List Nat) (x : Nat) (w : World) (hT : Hid (Tp w p l)) (hn : l.length ≤ 100000) (h : firstS tgood l = (some x, r)) :
    Calls Try.prog 9 #[.pointer (some ⟨p, 0, none⟩)] w fun e w' => e = .returned (.tuple #[.int .i64 (tval x), .int .i64 0]) ∧ Hid (Tp w' p r) ∧ Hid (On p w w') := by
  refine (ternary_any p l w hT hn).mono ?_
  rintro e w' (⟨y, s, h1, rfl, h4, h5⟩ | ⟨h1, _⟩)
  · rw [h1] at h
    injection h with ha hb
    injection ha with ha
    subst ha hb
    exact ⟨rfl, Lib.hid h4, Lib.hid h5⟩
  · rw [h1] at h; cases h
theorem ternary_out (p : Nat) (l : List Nat) (w : World) (hT : Hid (Tp w p l)) (hn : l.length ≤ 100000) (h : firstS tgood l = (none, [])) :
    Calls Try.prog 9 #[.pointer (some ⟨p, 0, none⟩)] w fun e w' => e = .returned (.tuple #[.int .i64 0, .int .i64 11]) ∧ Hid (Tp w' p []) ∧ Hid (On p w w') := by
  refine (ternary_any p l w hT hn).mono ?_
  rintro e w' (⟨y, s, h1, rfl, h4, h5⟩ | ⟨h1, rfl, h4, h5⟩)
  · rw [h1] at h; cases h
  · exact ⟨rfl, Lib.hid h4, Lib.hid h5⟩
theorem below_is (p q : Nat) (l r : List Nat) (x : Nat) (w : World) (hT : Hid (Tp w p l)) (hn : l.length ≤ 100000) (hq0 : 0 < q) (hq : q < 18446744073709551616) (h : firstS (bgood q) l = (some x, r)) :
    Calls Try.prog 8 #[.pointer (some ⟨p, 0, none⟩), .int .u64 (q : Int)] w fun e w' => e = .returned (.tuple #[.int .u64 ((x % q : Nat) : Int), .int .i64 0]) ∧ Hid (Tp w' p r) ∧ Hid (On p w w') := by
  refine (below_any p q l w hT hn hq0 hq).mono ?_
  rintro e w' (⟨y, s, h1, rfl, h4, h5⟩ | ⟨h1, _⟩)
  · rw [h1] at h
    injection h with ha hb
    injection ha with ha
    subst ha hb
    exact ⟨rfl, Lib.hid h4, Lib.hid h5⟩
  · rw [h1] at h; cases h
theorem below_out (p q : Nat) (w : World) (hT : Hid (Tp w p [])) (hq0 : 0 < q) (hq : q < 18446744073709551616) :
    Calls Try.prog 8 #[.pointer (some ⟨p, 0, none⟩), .int .u64 (q : Int)] w fun e w' => e = .returned (.tuple #[.int .u64 0, .int .i64 11]) ∧ Hid (Tp w' p []) ∧ Hid (On p w w') := by
  refine (below_any p q [] w hT (by simp) hq0 hq).mono ?_
  rintro e w' (⟨y, s, h1, rfl, h4, h5⟩ | ⟨h1, rfl, h4, h5⟩)
  · cases h1
  · exact ⟨rfl, Lib.hid h4, Lib.hid h5⟩
theorem error_is (p n x : Nat) (r : List Nat) (w : World) (hT : Hid (Tp w p (x :: r))) (hn : (x :: r).length ≤ 100000) (h0 : 1 ≤ n) (h16 : n ≤ 16) :
    Calls Try.prog 10 #[.pointer (some ⟨p, 0, none⟩), .int .i64 (n : Int)] w fun e w' => e = .returned (.tuple #[.int .i64 (errS n x), .int .i64 0]) ∧ Hid (Tp w' p r) ∧ Hid (On p w w') := by
  refine (error_any p n _ w hT hn h0 h16).mono ?_
  rintro e w' (⟨y, s, h1, rfl, h4, h5⟩ | ⟨h1, _⟩)
  · injection h1 with ha hb
    subst ha hb
    exact ⟨rfl, Lib.hid h4, Lib.hid h5⟩
  · cases h1
theorem error_out (p n : Nat) (w : World) (hT : Hid (Tp w p [])) (h0 : 1 ≤ n) (h16 : n ≤ 16) :
    Calls Try.prog 10 #[.pointer (some ⟨p, 0, none⟩), .int .i64 (n : Int)] w fun e w' => e = .returned (.tuple #[.int .i64 0, .int .i64 11]) ∧ Hid (Tp w' p []) ∧ Hid (On p w w') := by
  refine (error_any p n _ w hT (by simp) h0 h16).mono ?_
  rintro e w' (⟨y, s, h1, rfl, h4, h5⟩ | ⟨h1, rfl, h4, h5⟩)
  · cases h1
  · exact ⟨rfl, Lib.hid h4, Lib.hid h5⟩
/-- Draws that are laid by the text. -/
theorem laid_nx (w : World) (xs : List Nat) (n : Nat) (hn : xs.length = n) (hx : ∀ x ∈ xs, x < W64) : NX (w.alloc (.cells (u64s xs ++ []).toArray 23)) (some ⟨w.heap.size, 0, none⟩) n n xs :=
  Bk.rd (sp := []) (heap_alloc_new w _) hx hn (Nat.le_refl _)
set_option maxHeartbeats 4000000 in
theorem fixed_any (w : World) : Calls Try.prog 6 #[] w fun e w' => e = .returned (.bool true) ∧ Ext w w' := by
  go_enter Try.func6, Try.ntmps6
  go_wp2_with fail
  have x1 : NX (w.alloc (.cells #[.int .u64 3, .int .u64 7, .int .u64 2] 23)) (some ⟨w.heap.size, 0, none⟩) 3 3 [3, 7, 2] := laid_nx w [3, 7, 2] 3 rfl (by rw [W64_eq]; simp)
  have k1 : Ext w (w.alloc (.cells #[.int .u64 3, .int .u64 7, .int .u64 2] 23)) := (Ext.refl w).alloc _
  have X1 := Lib.hid x1
  have K1 := Lib.hid k1
  clear x1 k1
  generalize w.alloc (.cells #[.int .u64 3, .int .u64 7, .int .u64 2] 23) = V1 at *
  refine (new_tape _ 3 3 [3, 7, 2] V1 X1 (by omega)).mono ?_
  rintro e w1 ⟨p1, rfl, hp1, hT1, hE1⟩
  have KA := Lib.hid (K1.out.trans hE1.out)
  have hwp : w.heap.size ≤ p1 := Nat.le_trans K1.out.size hp1
  clear X1 K1 hE1 hp1
  go_wp2_with fail
  refine (ternary_is p1 [3, 7, 2] [] 2 w1 hT1 (by simp) (by decide)).mono ?_
  rintro e w2 ⟨rfl, hT2, hO2⟩
  have KB := Lib.hid (KA.out.on hO2.out hwp)
  clear KA hO2 hT1
  rw [show tval 2 = -1 from rfl]
  go_wp2_with fail
  have x2 : NX (w2.alloc (.cells #[.int .u64 5] 23)) (some ⟨w2.heap.size, 0, none⟩) 1 1 [5] := laid_nx w2 [5] 1 rfl (by rw [W64_eq]; simp)
  have k2 : Ext w2 (w2.alloc (.cells #[.int .u64 5] 23)) := (Ext.refl w2).alloc _
  have X2 := Lib.hid x2
  have K2 := Lib.hid k2
  clear x2 k2
  generalize w2.alloc (.cells #[.int .u64 5] 23) = V2 at *
  refine (new_tape _ 1 1 [5] V2 X2 (by omega)).mono ?_
  rintro e w3 ⟨p2, rfl, hp2, hT3, hE3⟩
  have KC := Lib.hid (KB.out.trans (K2.out.trans hE3.out))
  have T1 := Lib.hid (hT2.out.ext (K2.out.trans hE3.out))
  have hlt := hT2.out.lt
  have hpp : p1 < p2 := Nat.lt_of_lt_of_le (Nat.lt_of_lt_of_le hlt K2.out.size) hp2
  clear X2 K2 hE3 hp2 KB hT2 hlt
  go_wp2_with fail
  refine (error_is p2 2 5 [] w3 hT3 (by simp) (by omega) (by omega)).mono ?_
  rintro e w4 ⟨rfl, hT4, hO4⟩
  have KD := Lib.hid (KC.out.on hO4.out (by omega))
  have T2 := Lib.hid (T1.out.on hT3.out hO4.out (by omega))
  clear KC T1 hO4 hT3 hT4
  rw [show errS 2 5 = 0 by decide]
  go_wp2_with fail
  have x3 : NX (w4.alloc (.cells #[.int .u64 7] 23)) (some ⟨w4.heap.size, 0, none⟩) 1 1 [7] := laid_nx w4 [7] 1 rfl (by rw [W64_eq]; simp)
  have k3 : Ext w4 (w4.alloc (.cells #[.int .u64 7] 23)) := (Ext.refl w4).alloc _
  have X3 := Lib.hid x3
  have K3 := Lib.hid k3
  clear x3 k3
  generalize w4.alloc (.cells #[.int .u64 7] 23) = V3 at *
  refine (new_tape _ 1 1 [7] V3 X3 (by omega)).mono ?_
  rintro e w5 ⟨p3, rfl, hp3, hT5, hE5⟩
  have KE := Lib.hid (KD.out.trans (K3.out.trans hE5.out))
  have T3 := Lib.hid (T2.out.ext (K3.out.trans hE5.out))
  have hlt := T2.out.lt
  have hpp3 : p1 < p3 := Nat.lt_of_lt_of_le (Nat.lt_of_lt_of_le hlt K3.out.size) hp3
  clear X3 K3 hE5 hp3 KD T2 hlt
  go_wp2_with fail
  refine (below_is p3 4 [7] [] 7 w5 hT5 (by simp) (by omega) (by omega) (by decide)).mono ?_
  rintro e w6 ⟨rfl, hT6, hO6⟩
  have KF := Lib.hid (KE.out.on hO6.out (by omega))
  have T4 := Lib.hid (T3.out.on hT5.out hO6.out (by omega))
  clear KE T3 hO6 hT5 hT6
  rw [show ((7 % 4 : Nat) : Int) = 3 from rfl]
  go_wp2_with fail
  refine (ternary_out p1 [] w6 T4 (by simp) rfl).mono ?_
  rintro e w7 ⟨rfl, hT7, hO7⟩
  have KG := Lib.hid (KF.out.on hO7.out hwp)
  clear KF hO7 T4
  go_wp2_with (go_at_call 11; refine (left_any p1 [] w7 hT7 (by simp)).mono ?_; rintro e w8 ⟨rfl, rfl⟩; rw [show (([] : List Nat).length : Int) = 0 from rfl])
  go_ret
  exact ⟨rfl, KG.out⟩
end Go.Proofs.Ythaljhmdhchiaaa
