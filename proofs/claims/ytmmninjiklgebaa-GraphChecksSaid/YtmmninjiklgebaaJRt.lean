/-
  The document's form and shape of any node.
-/
import Derived.Test.YtmmninjiklgebaaJFa
import Derived.Test.YtmmninjiklgebaaJSa
import Derived.Test.YtmmninjiklgebaaJS4
import Derived.Test.YtmmninjiklgebaaJS5
import Derived.Lib.SliceRun
namespace Go.Proofs.Ytmmninjiklgebaa
open Go.RowKit
set_option linter.unusedVariables false
set_option maxRecDepth 100000

theorem rform0 (x : Nd) (As Ad Ab : Option Addr) (cs cd cb : Nat) (w : World) (hX : Hid (NdX w x As Ad Ab cs cd cb)) (n : Nat) (hk : Hid (x.k ≠ 1 ∧ x.k ≠ 2 ∧ x.k ≠ 3 ∧ x.k ≠ 4 ∧ x.k ≠ 5 ∧ x.k ≠ 6 ∧ x.k ≠ 7 ∧ x.k ≠ 8 ∧ x.k ≠ 9)) :
    Calls Try.prog 25 #[.agg #[.int .i64 x.k, .int .i64 x.a, .int .i64 x.b, .slice As x.sh.length cs, .int .i64 x.lo, .int .i64 x.hi, .int .i64 x.sz, .slice Ad x.da.length cd, .slice Ab x.bi.length cb], .int .i64 (n : Int)] w fun e w' => e = .returned (.bool (formB x n)) ∧ Ext w w' := by
  obtain ⟨y0, y1, y2, y3, y4, y5, y6, y7, y8⟩ := nine_at w (.int .i64 x.k) (.int .i64 x.a) (.int .i64 x.b) (.slice As x.sh.length cs) (.int .i64 x.lo) (.int .i64 x.hi) (.int .i64 x.sz) (.slice Ad x.da.length cd) (.slice Ab x.bi.length cb) 43
  have kk : Ext w (w.alloc (.cells #[.int .i64 x.k, .int .i64 x.a, .int .i64 x.b, .slice As x.sh.length cs, .int .i64 x.lo, .int .i64 x.hi, .int .i64 x.sz, .slice Ad x.da.length cd, .slice Ab x.bi.length cb] 43)) := (Ext.refl w).alloc _
  have FB := Lib.hid (show formB x n = false by unfold formB mayL; simp [hk.out])
  go_enter Try.func25, Try.ntmps25
  go_wp2_with fail
  generalize w.alloc (.cells #[.int .i64 x.k, .int .i64 x.a, .int .i64 x.b, .slice As x.sh.length cs, .int .i64 x.lo, .int .i64 x.hi, .int .i64 x.sz, .slice Ad x.da.length cd, .slice Ab x.bi.length cb] 43) = V at *
  refine (may0 x.k hk.out V).mono ?_
  rintro e1 w1 ⟨rfl, rfl⟩
  have heq := Lib.run_eql_slice_nil (P := Try.prog) w1 82 4 none 0 0 0 0 Try.underlying82
  go_wp2
  go_ret
  exact ⟨by show Ending.returned (.bool false) = _; rw [FB.out], kk⟩
theorem rform_any (x : Nd) (As Ad Ab : Option Addr) (cs cd cb : Nat) (w : World) (hX : Hid (NdX w x As Ad Ab cs cd cb)) (n : Nat) (hn : n ≤ 100000) :
    Calls Try.prog 25 #[.agg #[.int .i64 x.k, .int .i64 x.a, .int .i64 x.b, .slice As x.sh.length cs, .int .i64 x.lo, .int .i64 x.hi, .int .i64 x.sz, .slice Ad x.da.length cd, .slice Ab x.bi.length cb], .int .i64 (n : Int)] w fun e w' => e = .returned (.bool (formB x n)) ∧ Ext w w' := by
  by_cases k1 : x.k = 1
  · exact rform1 x As Ad Ab cs cd cb w hX n hn (Lib.hid k1)
  by_cases k2 : x.k = 2
  · exact rform2 x As Ad Ab cs cd cb w hX n hn (Lib.hid k2)
  by_cases k3 : x.k = 3
  · exact rform3 x As Ad Ab cs cd cb w hX n hn (Lib.hid k3)
  by_cases k4 : x.k = 4
  · exact rform4 x As Ad Ab cs cd cb w hX n hn (Lib.hid k4)
  by_cases k5 : x.k = 5
  · exact rform5 x As Ad Ab cs cd cb w hX n hn (Lib.hid k5)
  by_cases k6 : x.k = 6
  · exact rform6 x As Ad Ab cs cd cb w hX n hn (Lib.hid k6)
  by_cases k7 : x.k = 7
  · exact rform7 x As Ad Ab cs cd cb w hX n hn (Lib.hid k7)
  by_cases k8 : x.k = 8
  · exact rform8 x As Ad Ab cs cd cb w hX n hn (Lib.hid k8)
  by_cases k9 : x.k = 9
  · exact rform9 x As Ad Ab cs cd cb w hX n hn (Lib.hid k9)
  exact rform0 x As Ad Ab cs cd cb w hX n (Lib.hid ⟨k1, k2, k3, k4, k5, k6, k7, k8, k9⟩)
theorem rshape_any (x : Nd) (As Ad Ab : Option Addr) (cs cd cb : Nat) (w : World) (hX : Hid (NdX w x As Ad Ab cs cd cb)) (Ah : Option Addr) (ch : Nat) (shs : List (List Int)) (hA : Hid (SX w Ah ch shs)) (hr : Hid (Rights shs)) (hl : shs.length ≤ 100000) (hf : Hid (formB x shs.length = true)) :
    Calls Try.prog 26 #[.agg #[.int .i64 x.k, .int .i64 x.a, .int .i64 x.b, .slice As x.sh.length cs, .int .i64 x.lo, .int .i64 x.hi, .int .i64 x.sz, .slice Ad x.da.length cd, .slice Ab x.bi.length cb], .slice Ah shs.length ch] w fun e w' => RSh w (shapeO x shs) e w' := by
  by_cases k1 : x.k = 1
  · exact rshape1 x As Ad Ab cs cd cb w hX Ah ch shs hA hr hl hf (Lib.hid k1)
  by_cases k2 : x.k = 2
  · exact rshape2 x As Ad Ab cs cd cb w hX Ah ch shs hA hr hl hf (Lib.hid k2)
  by_cases k3 : x.k = 3
  · exact rshape3 x As Ad Ab cs cd cb w hX Ah ch shs hA hr hl hf (Lib.hid k3)
  by_cases k4 : x.k = 4
  · exact rshape4 x As Ad Ab cs cd cb w hX Ah ch shs hA hr hl hf (Lib.hid k4)
  by_cases k5 : x.k = 5
  · exact rshape5 x As Ad Ab cs cd cb w hX Ah ch shs hA hr hl hf (Lib.hid k5)
  by_cases k6 : x.k = 6
  · exact rshape6 x As Ad Ab cs cd cb w hX Ah ch shs hA hr hl hf (Lib.hid k6)
  by_cases k7 : x.k = 7
  · exact rshape7 x As Ad Ab cs cd cb w hX Ah ch shs hA hr hl hf (Lib.hid k7)
  by_cases k8 : x.k = 8
  · exact rshape8 x As Ad Ab cs cd cb w hX Ah ch shs hA hr hl hf (Lib.hid k8)
  by_cases k9 : x.k = 9
  · exact rshape9 x As Ad Ab cs cd cb w hX Ah ch shs hA hr hl hf (Lib.hid k9)
  exact absurd hf.out (by unfold formB mayL; simp [k1, k2, k3, k4, k5, k6, k7, k8, k9])
end Go.Proofs.Ytmmninjiklgebaa
