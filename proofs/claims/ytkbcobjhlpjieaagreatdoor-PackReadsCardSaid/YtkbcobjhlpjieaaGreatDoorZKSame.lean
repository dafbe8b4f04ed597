import Derived.Test.YtkbcobjhlpjieaaGreatDoorZ28
import Derived.DeepKeys
namespace Go.Proofs.YtkbcobjhlpjieaaGreatDoor
open Go.RowKit
set_option linter.unusedVariables false
set_option maxRecDepth 100000
def SameW (n n' : Nat) (f f' : Nat → Nat) : Prop := n = n' ∧ ∀ i, i < n → f i = f' i
set_option maxHeartbeats 1000000 in
theorem sameW_any (A A' : Option Addr) (n n' c c' : Nat) (f f' : Nat → Nat) (w : World) (hX : FX w A n c f) (hX' : FX w A' n' c' f') (hn : n ≤ 9223372036854775807) (hn' : n' ≤ 9223372036854775807) :
    Calls Tryz.prog 59 #[.slice A n c, .slice A' n' c'] w (Tells w (SameW n n' f f')) := by
 by_cases hne : n = n'
 case neg =>
  have HN := Lib.hid (show ¬ SameW n n' f f' from fun h => hne h.1)
  have e1 : ((n : Int) != (n' : Int)) = true := by simp; omega
  clear hne
  go_enter Tryz.func59, Tryz.ntmps59
  go_wp2
  go_ret
  exact Tells.no HN.out (Ext.refl _)
 subst hne
 go_enter Tryz.func59, Tryz.ntmps59
 go_wp2
 go_loopw [13] (fun i wr => ∃ m d : Nat, m ≤ n ∧ i = .int .i64 (m : Int) ∧ Hid (∀ i, i < m → f i = f' i) ∧ wr = w.drewN d) (fun i _ => n - (intOf i).toNat)
 case atStart => exact ⟨0, 0, by omega, rfl, Lib.hid fun i hi => by omega, rfl⟩
 case round =>
  obtain ⟨m, d, hm, rfl, hall, rfl⟩ := hrel
  by_cases hlt : m < n
  ·obtain ⟨ad, rfl, hc⟩ := hX.cells (by omega)
   obtain ⟨ad', rfl, hc'⟩ := hX'.cells (by omega)
   have h1 := hc m hlt
   have h2 := hc' m hlt
   clear hc hc'
   have i0 : (0 : Int) ≤ (m : Int) := by omega
   have i1 : (m : Int) < (n : Int) := by omega
   by_cases he : f m = f' m
   ·have HA := Lib.hid (show ∀ i, i < m + 1 → f i = f' i from fun i hi => by
       by_cases h : i = m
       ·subst h; exact he
       ·exact hall.out i (by omega))
    rw [← he] at h2
    clear he
    generalize f m = x at *
    go_wp2
    go_quiet (fail)
    go_wp2
    exact ⟨⟨m + 1, _, by omega, by go_num, HA, rfl⟩, by simp [intOf]; omega⟩
   ·have HN := Lib.hid (show ¬ SameW n n f f' from fun h => he (h.2 m hlt))
    have e1 : ((f m : Int) != (f' m : Int)) = true := by simp; omega
    have e2 : ((f m : Int) == (f' m : Int)) = false := by simp; omega
    clear he
    go_wp2
    go_quiet (fail)
    go_wp2
    go_ret
    exact Tells.no HN.out (by first | exact (Ext.refl w).drewN _ | exact ((Ext.refl w).drewN _).drewN _ | exact ((Ext.refl w).drewN _).drew)
  ·have HY := Lib.hid (show SameW n n f f' from ⟨rfl, fun i hi => hall.out i (by omega)⟩)
   go_wp2
   go_ret
   exact Tells.yes HY.out ((Ext.refl w).drewN d)
def SamePar (N : Int) (T L : Nat) (f : Nat → Nat) (Wd N' : Int) (T' L' : Nat) (f' : Nat → Nat) (Wd' : Int) : Prop := SameW L L' f f' ∧ N = N' ∧ T = T' ∧ Wd = Wd'
set_option maxHeartbeats 4000000 in
theorem rparSame_any {N : Int} {T : Nat} {Wd : Int} {A : Option Addr} {L c : Nat} {f : Nat → Nat} {N' : Int} {T' : Nat} {Wd' : Int} {A' : Option Addr} {L' c' : Nat} {f' : Nat → Nat} (w : World) (hP : PA w N T A L c Wd f) (hP' : PA w N' T' A' L' c' Wd' f') :
    Calls Tryz.prog 21 #[.agg #[.int .i64 N, .int .u64 (T : Int), .slice A L c, .int .i64 Wd], .agg #[.int .i64 N', .int .u64 (T' : Int), .slice A' L' c', .int .i64 Wd']] w (Tells w (SamePar N T L f Wd N' T' L' f' Wd')) := by
 have HP := Lib.hid hP
 have HP' := Lib.hid hP'
 have l1 := hP.len
 have l2 := hP'.len
 clear hP hP'
 have kV : Ext w ((w.alloc (.cells #[.int .i64 N, .int .u64 (T : Int), .slice A L c, .int .i64 Wd] 25)).alloc (.cells #[.int .i64 N', .int .u64 (T' : Int), .slice A' L' c', .int .i64 Wd'] 25)) := ((Ext.refl w).alloc _).alloc _
 by_cases h1 : N = N'
 case neg =>
  have e1 : (N == N') = false := by simp; omega
  have HN := Lib.hid (show ¬ SamePar N T L f Wd N' T' L' f' Wd' from fun h => h1 h.2.1)
  clear h1
  go_enter Tryz.func21, Tryz.ntmps21
  go_wp2
  go_ret
  exact Tells.no HN.out kV
 by_cases h2 : T = T'
 case neg =>
  have e1 : (N == N') = true := by simp; omega
  have e2 : ((T : Int) == (T' : Int)) = false := by simp; omega
  have HN := Lib.hid (show ¬ SamePar N T L f Wd N' T' L' f' Wd' from fun h => h2 h.2.2.1)
  clear h1 h2
  go_enter Tryz.func21, Tryz.ntmps21
  go_wp2
  go_ret
  exact Tells.no HN.out kV
 by_cases h3 : Wd = Wd'
 case neg =>
  have e1 : (N == N') = true := by simp; omega
  have e2 : ((T : Int) == (T' : Int)) = true := by simp; omega
  have e3 : (Wd == Wd') = false := by simp; omega
  have HN := Lib.hid (show ¬ SamePar N T L f Wd N' T' L' f' Wd' from fun h => h3 h.2.2.2)
  clear h1 h2 h3
  go_enter Tryz.func21, Tryz.ntmps21
  go_wp2
  go_ret
  exact Tells.no HN.out kV
 subst h1 h2 h3
 have e1 : (N == N) = true := by simp
 have e2 : ((T : Int) == (T : Int)) = true := by simp
 have e3 : (Wd == Wd) = true := by simp
 go_enter Tryz.func21, Tryz.ntmps21
 go_wp2_with fail
 refine (sameW_any A A' L L' c c' f f' _ (HP.out.ext kV).fx (HP'.out.ext kV).fx l1 l2).mono ?_
 rintro e w2 (⟨hy, rfl, k2⟩ | ⟨hy, rfl, k2⟩)
 ·have HN := Lib.hid (show SamePar N T L f Wd N T L' f' Wd from ⟨hy, rfl, rfl, rfl⟩)
  clear hy
  go_wp2
  go_ret
  exact Tells.yes HN.out (kV.trans k2)
 ·have HN := Lib.hid (show ¬ SamePar N T L f Wd N T L' f' Wd from fun h => hy h.1)
  clear hy
  go_wp2
  go_ret
  exact Tells.no HN.out (kV.trans k2)
theorem SamePar.symm {N : Int} {T L : Nat} {f : Nat → Nat} {Wd N' : Int} {T' L' : Nat} {f' : Nat → Nat} {Wd' : Int} (h : SamePar N T L f Wd N' T' L' f' Wd') : SamePar N' T' L' f' Wd' N T L f Wd := by
 obtain ⟨⟨rfl, h1⟩, rfl, rfl, rfl⟩ := h
 exact ⟨⟨rfl, fun i hi => (h1 i hi).symm⟩, rfl, rfl, rfl⟩
end Go.Proofs.YtkbcobjhlpjieaaGreatDoor
