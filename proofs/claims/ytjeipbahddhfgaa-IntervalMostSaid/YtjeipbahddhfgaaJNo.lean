/-
  The check of any node.
-/
import Derived.Test.YtjeipbahddhfgaaJC1
import Derived.Test.YtjeipbahddhfgaaJC2
import Derived.Test.YtjeipbahddhfgaaJC3
import Derived.Test.YtjeipbahddhfgaaJC4
import Derived.Test.YtjeipbahddhfgaaJC5
import Derived.Test.YtjeipbahddhfgaaJC6
import Derived.Test.YtjeipbahddhfgaaJC7
import Derived.Test.YtjeipbahddhfgaaJC8
import Derived.Test.YtjeipbahddhfgaaJC9
import Derived.Test.YtjeipbahddhfgaaJTp
namespace Go.Proofs.Ytjeipbahddhfgaa
open Go.RowKit
set_option linter.unusedVariables false
set_option maxRecDepth 100000

set_option maxHeartbeats 4000000 in
theorem check0 (x : Nd) (As Ad Ab Ah : Option Addr) (cs cd cb ch : Nat) (shs : List (List Int)) (w : World) (hX : Hid (Plc w x As Ad Ab Ah cs cd cb ch shs)) (hk : Hid (x.k ≠ 1 ∧ x.k ≠ 2 ∧ x.k ≠ 3 ∧ x.k ≠ 4 ∧ x.k ≠ 5 ∧ x.k ≠ 6 ∧ x.k ≠ 7 ∧ x.k ≠ 8 ∧ x.k ≠ 9)) :
    Calls Try.prog 30 #[.agg #[.int .i64 x.k, .int .i64 x.a, .int .i64 x.b, .slice As x.sh.length cs, .int .i64 x.lo, .int .i64 x.hi, .int .i64 x.sz, .slice Ad x.da.length cd, .slice Ab x.bi.length cb, .slice Ah shs.length ch]] w fun e w' => NodePost w (nodeR x shs) e w' := by
  obtain ⟨y0, y1, y2, y3, y4, y5, y6, y7, y8, y9⟩ := ten_at w (.int .i64 x.k) (.int .i64 x.a) (.int .i64 x.b) (.slice As x.sh.length cs) (.int .i64 x.lo) (.int .i64 x.hi) (.int .i64 x.sz) (.slice Ad x.da.length cd) (.slice Ab x.bi.length cb) (.slice Ah shs.length ch) 65
  have kk : Ext w (w.alloc (.cells #[.int .i64 x.k, .int .i64 x.a, .int .i64 x.b, .slice As x.sh.length cs, .int .i64 x.lo, .int .i64 x.hi, .int .i64 x.sz, .slice Ad x.da.length cd, .slice Ab x.bi.length cb, .slice Ah shs.length ch] 65)) := (Ext.refl w).alloc _
  go_enter Try.func30, Try.ntmps30
  go_wp2_with fail
  generalize w.alloc (.cells #[.int .i64 x.k, .int .i64 x.a, .int .i64 x.b, .slice As x.sh.length cs, .int .i64 x.lo, .int .i64 x.hi, .int .i64 x.sz, .slice Ad x.da.length cd, .slice Ab x.bi.length cb, .slice Ah shs.length ch] 65) = V at *
  refine (rule0 x.k hk.out V).mono ?_
  rintro e1 w1 ⟨rfl, k1⟩
  have HR := Lib.hid (node_form (show formB x shs.length = false by unfold formB mayL; simp [hk.out]))
  go_wp2
  go_ret2
  exact .inr ⟨3, HR.out, by omega, rfl, kk.trans (k1.trans ((Ext.refl _).alloc _))⟩
theorem check_any (x : Nd) : Checks x := fun As Ad Ab Ah cs cd cb ch shs w hX => by
  by_cases k1 : x.k = 1
  · exact check1 x As Ad Ab Ah cs cd cb ch shs w hX (Lib.hid k1)
  by_cases k2 : x.k = 2
  · exact check2 x As Ad Ab Ah cs cd cb ch shs w hX (Lib.hid k2)
  by_cases k3 : x.k = 3
  · exact check3 x As Ad Ab Ah cs cd cb ch shs w hX (Lib.hid k3)
  by_cases k4 : x.k = 4
  · exact check4 x As Ad Ab Ah cs cd cb ch shs w hX (Lib.hid k4)
  by_cases k5 : x.k = 5
  · exact check5 x As Ad Ab Ah cs cd cb ch shs w hX (Lib.hid k5)
  by_cases k6 : x.k = 6
  · exact check6 x As Ad Ab Ah cs cd cb ch shs w hX (Lib.hid k6)
  by_cases k7 : x.k = 7
  · exact check7 x As Ad Ab Ah cs cd cb ch shs w hX (Lib.hid k7)
  by_cases k8 : x.k = 8
  · exact check8 x As Ad Ab Ah cs cd cb ch shs w hX (Lib.hid k8)
  by_cases k9 : x.k = 9
  · exact check9 x As Ad Ab Ah cs cd cb ch shs w hX (Lib.hid k9)
  · exact check0 x As Ad Ab Ah cs cd cb ch shs w hX (Lib.hid ⟨k1, k2, k3, k4, k5, k6, k7, k8, k9⟩)
theorem graphCheck (nodes : List Nd) (A : Option Addr) (c : Nat) (out : Int) (w : World) (hG : Hid (GX w A c nodes)) (hn : nodes.length ≤ 1000) :
    Calls Try.prog 13 #[.agg #[.slice A nodes.length c, .int .i64 out]] w fun e w' => ChkPost w nodes.length (checkR nodes out) e w' :=
  check_loop nodes A c out w hG hn (Lib.hid fun x _ => check_any x)
end Go.Proofs.Ytjeipbahddhfgaa
