import Derived.Test.YtjikdbcjabopnaaGreatDoorJEFix
import Derived.Test.YtjikdbcjabopnaaGreatDoorJ40
namespace Go.Proofs.YtjikdbcjabopnaaGreatDoor
open Go.RowKit
set_option linter.unusedVariables false
set_option linter.unusedSimpArgs false
set_option maxRecDepth 100000
set_option maxHeartbeats 4000000 in
theorem evalNil_walk {B : Option Addr} {m d : Nat} {P1 P2 : Option Addr} {p1 e1 p2 e2 : Nat} (w : World) (hT : Tabs w) :
    Calls Tryz.prog 4 #[.agg #[.slice B m d], .agg #[.slice P1 p1 e1, .slice P2 p2 e2]] w fun e w' => e = .returned (.bool true) ∧ Ext w w' := by
 have HT := Lib.hid hT
 clear hT
 have kw : Ext w ((w.alloc (.cells #[.slice B m d] 28)).alloc (.cells #[.slice P1 p1 e1, .slice P2 p2 e2] 45)) := ((Ext.refl w).alloc _).alloc _
 have x0 := cell_ext ((Ext.refl _).alloc (.cells #[.slice P1 p1 e1, .slice P2 p2 e2] 45)) (one_at w (.slice B m d) 28)
 obtain ⟨x1, x2⟩ := two_vals (w.alloc (.cells #[.slice B m d] 28)) (.slice P1 p1 e1) (.slice P2 p2 e2) 45
 rw [show (w.alloc (.cells #[.slice B m d] 28)).heap.size = w.heap.size + 1 by simp] at x1 x2
 go_enter Tryz.func4, Tryz.ntmps4
 go_wp2_with fail
 generalize ((w.alloc (.cells #[.slice B m d] 28)).alloc (.cells #[.slice P1 p1 e1, .slice P2 p2 e2] 45)) = V at *
 refine (fixed13_any V (HT.out.ext kw)).mono ?_
 rintro e V1 ⟨rfl, k1⟩
 replace x0 := cell_ext k1 x0
 replace x1 := cell_ext k1 x1
 replace x2 := cell_ext k1 x2
 replace kw := kw.trans k1
 clear k1
 go_wp2_with fail
 refine (addN_any B m d B m d _).mono ?_
 rintro e v0 ⟨rfl, k0⟩
 have q0 : Ext _ (v0.alloc (.cells #[.slice none 0 0] 28)) := k0.alloc _
 replace x0 := cell_ext q0 x0
 replace x1 := cell_ext q0 x1
 replace x2 := cell_ext q0 x2
 replace kw := kw.trans q0
 clear q0 k0
 go_wp2_with fail
 refine (addTextN_any B m d none 0 0 _).mono ?_
 rintro e v1 ⟨rfl, k1⟩
 have q1 : Ext _ (v1.alloc (.cells #[.slice none 0 0] 28)) := k1.alloc _
 replace x0 := cell_ext q1 x0
 replace x1 := cell_ext q1 x1
 replace x2 := cell_ext q1 x2
 replace kw := kw.trans q1
 clear q1 k1
 go_wp2_with fail
 refine (mulTextN_any B m d none 0 0 _).mono ?_
 rintro e v2 ⟨rfl, k2⟩
 have q2 : Ext _ (v2.alloc (.cells #[.slice none 0 0] 28)) := k2.alloc _
 replace x0 := cell_ext q2 x0
 replace x1 := cell_ext q2 x1
 replace x2 := cell_ext q2 x2
 replace kw := kw.trans q2
 clear q2 k2
 go_wp2_with fail
 refine (mulN_any B m d B m d _).mono ?_
 rintro e v3 ⟨rfl, k3⟩
 have q3 : Ext _ (v3.alloc (.cells #[.slice none 0 0] 28)) := k3.alloc _
 replace x0 := cell_ext q3 x0
 replace x1 := cell_ext q3 x1
 replace x2 := cell_ext q3 x2
 replace kw := kw.trans q3
 clear q3 k3
 go_wp2_with fail
 refine (relinN_any B m d P1 P2 p1 e1 p2 e2 _).mono ?_
 rintro e v4 ⟨rfl, k4⟩
 have q4 : Ext _ (v4.alloc (.cells #[.slice none 0 0] 28)) := k4.alloc _
 replace x0 := cell_ext q4 x0
 replace x1 := cell_ext q4 x1
 replace x2 := cell_ext q4 x2
 replace kw := kw.trans q4
 clear q4 k4
 go_wp2_with fail
 refine (turnN_any B m d 1 P1 P2 p1 e1 p2 e2 _).mono ?_
 rintro e v5 ⟨rfl, k5⟩
 have q5 : Ext _ (v5.alloc (.cells #[.slice none 0 0] 28)) := k5.alloc _
 replace x0 := cell_ext q5 x0
 replace x1 := cell_ext q5 x1
 replace x2 := cell_ext q5 x2
 replace kw := kw.trans q5
 clear q5 k5
 go_wp2_with fail
 refine (lowerN_any B m d _).mono ?_
 rintro e v6 ⟨rfl, k6⟩
 have q6 : Ext _ (v6.alloc (.cells #[.slice none 0 0] 28)) := k6.alloc _
 replace x0 := cell_ext q6 x0
 replace x1 := cell_ext q6 x1
 replace x2 := cell_ext q6 x2
 replace kw := kw.trans q6
 clear q6 k6
 have K := Lib.hid kw
 clear kw x0 x1 x2
 go_wp2
 go_ret
 exact ⟨by first | rfl | simp, K.out⟩
end Go.Proofs.YtjikdbcjabopnaaGreatDoor
