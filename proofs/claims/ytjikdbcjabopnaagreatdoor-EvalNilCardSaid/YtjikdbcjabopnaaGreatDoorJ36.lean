import Derived.Test.YtjikdbcjabopnaaGreatDoorJ31
import Derived.Test.YtjikdbcjabopnaaGreatDoorJ33
import Derived.Test.YtjikdbcjabopnaaGreatDoorJ35
import Derived.Test.YtjikdbcjabopnaaGreatDoorJ25
import Derived.Deep.Upon
namespace Go.Proofs.YtjikdbcjabopnaaGreatDoor
open Go.RowKit
set_option linter.unusedVariables false
set_option maxRecDepth 100000
theorem sml_all : ∀ n, n < 65 → 8 ≤ n → stepS n = true → (n = 8 ∨ n = 16 ∨ n = 32 ∨ n = 64) := by decide +kernel
theorem sml_step {n : Nat} (h : Sml n) : stepS (2 * n) = true := by rcases h with rfl | rfl | rfl | rfl <;> decide +kernel
theorem sml_log {n : Nat} (h : Sml n) : ∃ k, n = 2 ^ k ∧ 3 ≤ k ∧ k ≤ 6 := by
 rcases h with rfl | rfl | rfl | rfl
 ·exact ⟨3, by decide, by omega, by omega⟩
 ·exact ⟨4, by decide, by omega, by omega⟩
 ·exact ⟨5, by decide, by omega, by omega⟩
 ·exact ⟨6, by decide, by omega, by omega⟩
theorem sml_le {n : Nat} (h : Sml n) : 8 ≤ n ∧ n ≤ 64 ∧ n % 2 = 0 := by rcases h with rfl | rfl | rfl | rfl <;> omega
theorem sq_both {n T : Nat} (hn : Sml n) (hT : PlainP n T) : ∃ x, x < T ∧ x < 1000 ∧ noSq T x = true := by
 have h16 : T % 16 = 1 := by
  have h1 := hT.2.1
  have h2 := Nat.mod_mul_right_mod T 16 (n / 8)
  have h3 : 16 * (n / 8) = 2 * n := by rcases hn with rfl | rfl | rfl | rfl <;> omega
  rw [h3, h1] at h2
  rw [← h2]
 obtain ⟨x, hx, he⟩ := sq_below h16 hT.1 hT.2.2
 have hT2 := isS_ge hT.2.2
 refine ⟨x % T, Nat.mod_lt _ (by omega), Nat.lt_of_le_of_lt (Nat.mod_le _ _) hx, ?_⟩
 unfold noSq
 rw [← Nat.pow_mod]
 exact decide_eq_true he
theorem fit_plain {n T : Nat} (hn : Sml n) (hT : PlainP n T) : ∃ k, 3 ≤ k ∧ k ≤ 6 ∧ Fit n T k := by
 obtain ⟨k, hk, h1, h2⟩ := sml_log hn
 obtain ⟨x, hx, _, hs⟩ := sq_both hn hT
 exact ⟨k, h1, h2, hk, by omega, by omega, by have := hT.1; omega, sml_step hn, hT.2.1, hT.2.2, x, hx, hs⟩
def BNew (w : World) (P : Prop) (n T : Nat) (ee : Ending) (w' : World) : Prop :=
 (¬ P ∧ ee = .returned (.tuple #[.pointer none, .int .i64 8]) ∧ Ext w w') ∨
 (P ∧ ∃ p k r v x : Nat, First T x ∧ Hid (r = rootS T (2 * n) x) ∧ ee = .returned (.tuple #[.pointer (some ⟨p, 0, none⟩), .int .i64 0]) ∧ Bt w' p n T k r v ∧ Ext w w')
set_option maxHeartbeats 4000000 in
theorem bnew_any {N : Int} {T : Nat} {Wd : Int} {A : Option Addr} {L c : Nat} {f : Nat → Nat} {w : World} (hP : PA w N T A L c Wd f) (hL : L ≤ 100) (hN : N ≤ 64) (hT : Tabs w) :
    Calls Tryz.prog 47 #[.agg #[.int .i64 N, .int .u64 (T : Int), .slice A L c, .int .i64 Wd]] w (BNew w (ParP N T L f Wd) N.toNat T) := by
 have HP := Lib.hid hP
 have HT := Lib.hid hT
 clear hP hT
 have kV : Ext w (w.alloc (.cells #[.int .i64 N, .int .u64 (T : Int), .slice A L c, .int .i64 Wd] 25)) := (Ext.refl w).alloc _
 obtain ⟨x0, x1, x2, x3⟩ := four_at w (.int .i64 N) (.int .u64 (T : Int)) (.slice A L c) (.int .i64 Wd) 25
 go_enter Tryz.func47, Tryz.ntmps47
 go_wp2_with fail
 generalize w.alloc (.cells #[.int .i64 N, .int .u64 (T : Int), .slice A L c, .int .i64 Wd] 25) = V at *
 refine (check_any N T Wd A L c f V HP.out.n0 HP.out.n1 HP.out.t1 (by omega) (HP.out.ext kV).fx (Lib.hid HP.out.words) (HT.out.ext kV)).mono ?_
 rintro ee w1 (⟨hy, rfl, k1⟩ | ⟨hy, rfl, k1⟩)
 case inr =>
  have H := Lib.hid hy
  clear hy
  go_wp2
  go_ret2
  exact .inl ⟨H.out, rfl, kV.trans k1⟩
 obtain ⟨n, rfl, hn0, hn1⟩ := size_nat (hy 0 (by omega))
 have hs : Sml n := sml_all n (by omega) hn0 (hy 0 (by omega)).2.2
 obtain ⟨k, hk3, hk6, hF⟩ := fit_plain hs (show PlainP n T from hy 2 (by omega))
 have HY := Lib.hid hy
 have HF := Lib.hid hF
 have HS := Lib.hid hs
 have hev := (sml_le hs).2.2
 clear hy hs hF
 replace x0 := cell_ext k1 x0
 replace x1 := cell_ext k1 x1
 replace x2 := cell_ext k1 x2
 replace x3 := cell_ext k1 x3
 replace kV := kV.trans k1
 clear k1
 go_wp2_with fail
 refine (new_any n T k w1 HF (HT.out.ext kV)).mono ?_
 rintro ee w2 ⟨t, r, v, x, hx, hr, rfl, ht, k2⟩
 have HX := Lib.hid hx
 have HTB := Lib.hid ht
 clear hx ht
 replace x0 := cell_ext k2 x0
 replace x1 := cell_ext k2 x1
 replace x2 := cell_ext k2 x2
 replace x3 := cell_ext k2 x3
 replace kV := kV.trans k2
 clear k2
 have kk : Ext w2 w2 := Ext.refl w2
 go_wp2_with fail
 go_region_held3 (fun w' => w'.cell? ⟨w.heap.size, 0, none⟩ = some (.int .i64 (n : Int)) ∧ w'.cell? ⟨w.heap.size, 1, none⟩ = some (.int .u64 (T : Int))) (go_keep)
  (first
   | (go_at_call 111; refine (placesOf_any n _ (by omega) (by omega) hev).mono ?_; rintro e4 w4 ⟨g, rfl, hg, hrw, k4⟩; have HRW := Lib.hid hrw; clear hrw; replace kk : Ext w2 w4 := (by first | exact Ext.trans kk k4 | exact Ext.trans (Ext.drew kk) k4); have d0 := cell_ext kk x0; have d1 := cell_ext kk x1)
   | fail)
 all_goals
  have ka : Ext w4 (w4.alloc (.cells #[.int .u64 (T : Int), .slice (some ⟨g, 0, none⟩) (n / 2) (n / 2), .func (.func 112) #[.pointer (some ⟨t, 0, none⟩)] #[], .func (.func 113) #[.pointer (some ⟨t, 0, none⟩)] #[]] 158)) := (Ext.refl _).alloc _
  obtain ⟨q0, q1, q2, q3⟩ := four_at w4 (.int .u64 (T : Int)) (.slice (some ⟨g, 0, none⟩) (n / 2) (n / 2)) (.func (.func 112) #[.pointer (some ⟨t, 0, none⟩)] #[]) (.func (.func 113) #[.pointer (some ⟨t, 0, none⟩)] #[]) 158
  have HB := Lib.hid (show Bt (w4.alloc (.cells #[.int .u64 (T : Int), .slice (some ⟨g, 0, none⟩) (n / 2) (n / 2), .func (.func 112) #[.pointer (some ⟨t, 0, none⟩)] #[], .func (.func 113) #[.pointer (some ⟨t, 0, none⟩)] #[]] 158)) w4.heap.size n T k r v from ⟨g, t, q0, q1, q2, q3, HRW.out.ext ka, (HTB.out.ext kk).ext ka⟩)
  have kz := (kV.trans kk).trans ka
  clear q0 q1 q2 q3
  go_wp2
  go_ret2
  exact .inr ⟨HY.out, w4.heap.size, k, r, v, x, HX.out, hr, rfl, HB.out, kz⟩
def OnB (p : Nat) (a b : World) : Prop := a.grownBy b (some p)
theorem OnB.refl (p : Nat) (a : World) : OnB p a a := ⟨rfl, rfl, rfl, Nat.le_refl _, fun _ _ _ => rfl⟩
theorem OnB.trans {p : Nat} {a b c : World} (h : OnB p a b) (k : OnB p b c) : OnB p a c := only_trans h k
theorem OnB.of {p : Nat} {a b : World} (k : Ext a b) : OnB p a b := ⟨k.os, k.tape, k.output, k.size, fun i hi _ => k.block i hi⟩
theorem OnB.set {p : Nat} {a b : World} (h : OnB p a b) (i : Nat) (v : Value) : OnB p a (b.setCell ⟨p, i, none⟩ v) := only_trans h (only_set v)
theorem OnB.ext {p : Nat} {a b c : World} (h : OnB p a b) (k : Ext b c) : OnB p a c := h.trans (OnB.of k)
theorem OnB.rw_ {p x m : Nat} {t : TypeId} {F : Nat → Value} {a b : World} (h : OnB p a b) (hr : RW a x t m F) (hne : x ≠ p) : RW b x t m F := RW.keep hr (h.block x hr.lt (fun e => hne (by injection e)))
def dr0 (i : Nat) : Value := if i = 0 then .int .i64 0 else if i = 1 then .int .u64 0 else if i = 2 then .slice none 0 0 else if i = 3 then .int .i64 0 else if i = 4 then .pointer none else if i = 5 then .pointer none else if i = 6 then .slice none 0 0 else .pointer none
theorem dr0_is (i : Nat) : dr0 i = .int .i64 0 ∨ (i = 1 ∧ dr0 i = .int .u64 0) ∨ dr0 i = .slice none 0 0 ∨ dr0 i = .pointer none := by
 unfold dr0
 repeat' split
 all_goals simp_all
section
variable {V W : World} {g : Nat}
theorem on_cell (ho : OnB g V W) {p : Addr} {v : Value} (hc : V.cell? p = some v) (hp : p.block ≠ g) : W.cell? p = some v := by
 rw [World.cell?_of_block (ho.block p.block (World.block_lt_of_cell? _ _ hc) (fun e => hp (by injection e)))]
 exact hc
end
end Go.Proofs.YtjikdbcjabopnaaGreatDoor
