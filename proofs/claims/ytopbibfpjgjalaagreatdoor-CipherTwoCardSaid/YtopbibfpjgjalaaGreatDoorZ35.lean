import Derived.Test.YtopbibfpjgjalaaGreatDoorZ31
import Derived.Test.YtopbibfpjgjalaaGreatDoorZ33
import Derived.Test.YtopbibfpjgjalaaGreatDoorZ34
import Derived.Test.YtopbibfpjgjalaaGreatDoorZ25
import Derived.Deep.Upon
import Derived.Test.YtopbibfpjgjalaaGreatDoorZ30
import Derived.Test.YtopbibfpjgjalaaGreatDoorZMPrm
namespace Go.Proofs.YtopbibfpjgjalaaGreatDoor
open Go.RowKit
set_option linter.unusedVariables false
set_option maxRecDepth 100000
theorem zzc : ∀ n, n < 65 → 8 ≤ n → stepS n = true → (n = 8 ∨ n = 16 ∨ n = 32 ∨ n = 64) := by decide +kernel
theorem zus {n : Nat} (h : Sml n) : stepS (2 * n) = true := by rcases h with rfl | rfl | rfl | rfl <;> decide +kernel
theorem zym {n : Nat} (h : Sml n) : ∃ k, n = 2 ^ k ∧ 3 ≤ k ∧ k ≤ 6 := by
 rcases h with rfl | rfl | rfl | rfl
 ·exact ⟨3, by decide, by omega, by omega⟩
 ·exact ⟨4, by decide, by omega, by omega⟩
 ·exact ⟨5, by decide, by omega, by omega⟩
 ·exact ⟨6, by decide, by omega, by omega⟩
theorem z0r {n : Nat} (h : Sml n) : 8 ≤ n ∧ n ≤ 64 ∧ n % 2 = 0 := by rcases h with rfl | rfl | rfl | rfl <;> omega
theorem zx7 {n T : Nat} (hn : Sml n) (hT : zd9 n T) : ∃ x, x < T ∧ x < 1000 ∧ noSq T x = true := by
 have h16 : T % 16 = 1 := by
  have h1 := hT.2.1
  have h2 := Nat.mod_mul_right_mod T 16 (n / 8)
  have h3 : 16 * (n / 8) = 2 * n := by rcases hn with rfl | rfl | rfl | rfl <;> omega
  rw [h3, h1] at h2
  rw [← h2]
 obtain ⟨x, hx, he⟩ := zum h16 hT.1 hT.2.2
 have hT2 := zgu hT.2.2
 refine ⟨x % T, Nat.mod_lt _ (by omega), Nat.lt_of_le_of_lt (Nat.mod_le _ _) hx, ?_⟩
 unfold noSq
 rw [← Nat.pow_mod]
 exact decide_eq_true he
theorem zsy {n T : Nat} (hn : Sml n) (hT : zd9 n T) : ∃ k, 3 ≤ k ∧ k ≤ 6 ∧ Fit n T k := by
 obtain ⟨k, hk, h1, h2⟩ := zym hn
 obtain ⟨x, hx, _, hs⟩ := zx7 hn hT
 exact ⟨k, h1, h2, hk, by omega, by omega, by have := hT.1; omega, zus hn, hT.2.1, hT.2.2, x, hx, hs⟩
def BNew (w : World) (P : Prop) (n T : Nat) (ee : Ending) (w' : World) : Prop :=
 (¬ P ∧ ee = .returned (.tuple #[.pointer none, .int .i64 8]) ∧ Ext w w') ∨
 (P ∧ ∃ p k r v x : Nat, First T x ∧ Hid (r = rootS T (2 * n) x) ∧ ee = .returned (.tuple #[.pointer (some ⟨p, 0, none⟩), .int .i64 0]) ∧ Bt w' p n T k r v ∧ Ext w w')
set_option maxHeartbeats 4000000 in
theorem zul {N : Int} {T : Nat} {Wd : Int} {A : Option Addr} {L c : Nat} {f : Nat → Nat} {w : World} (hP : PA w N T A L c Wd f) (hL : L ≤ 100) (hN : N ≤ 64) (hT : Tabs w) :
    Calls Tryz.prog 78 #[.agg #[.int .i64 N, .int .u64 (T : Int), .slice A L c, .int .i64 Wd]] w (BNew w (ParP N T L f Wd) N.toNat T) := by
 have HP := Lib.hid hP
 have HT := Lib.hid hT
 clear hP hT
 have kV : Ext w (w.alloc (.cells #[.int .i64 N, .int .u64 (T : Int), .slice A L c, .int .i64 Wd] 28)) := (Ext.refl w).alloc _
 obtain ⟨x0, x1, x2, x3⟩ := za6 w (.int .i64 N) (.int .u64 (T : Int)) (.slice A L c) (.int .i64 Wd) 28
 go_enter Tryz.func78, Tryz.ntmps78
 go_wp2_with fail
 generalize w.alloc (.cells #[.int .i64 N, .int .u64 (T : Int), .slice A L c, .int .i64 Wd] 28) = V at *
 refine (zf6 N T Wd A L c f V HP.out.n0 HP.out.n1 HP.out.t1 (by omega) (HP.out.ext kV).fx (Lib.hid HP.out.words) (HT.out.ext kV)).mono ?_
 rintro ee w1 (⟨hy, rfl, k1⟩ | ⟨hy, rfl, k1⟩)
 case inr =>
  have H := Lib.hid hy
  clear hy
  go_wp2
  go_ret2
  exact .inl ⟨H.out, rfl, kV.trans k1⟩
 obtain ⟨n, rfl, hn0, hn1⟩ := zd8 (hy 0 (by omega))
 have hs : Sml n := zzc n (by omega) hn0 (hy 0 (by omega)).2.2
 obtain ⟨k, hk3, hk6, hF⟩ := zsy hs (show zd9 n T from hy 2 (by omega))
 have HY := Lib.hid hy
 have HF := Lib.hid hF
 have HS := Lib.hid hs
 have hev := (z0r hs).2.2
 clear hy hs hF
 replace x0 := cE k1 x0
 replace x1 := cE k1 x1
 replace x2 := cE k1 x2
 replace x3 := cE k1 x3
 replace kV := kV.trans k1
 clear k1
 go_wp2_with fail
 refine (zy3 n T k w1 HF (HT.out.ext kV)).mono ?_
 rintro ee w2 ⟨t, r, v, x, hx, hr, rfl, ht, k2⟩
 have HX := Lib.hid hx
 have HTB := Lib.hid ht
 clear hx ht
 replace x0 := cE k2 x0
 replace x1 := cE k2 x1
 replace x2 := cE k2 x2
 replace x3 := cE k2 x3
 replace kV := kV.trans k2
 clear k2
 have kk : Ext w2 w2 := Ext.refl w2
 go_wp2_with fail
 go_region_held3 (fun w' => w'.cell? ⟨w.heap.size, 0, none⟩ = some (.int .i64 (n : Int)) ∧ w'.cell? ⟨w.heap.size, 1, none⟩ = some (.int .u64 (T : Int))) (go_keep)
  (first
   | (go_at_call 134; refine (zjc n _ (by omega) (by omega) hev).mono ?_; rintro e4 w4 ⟨g, rfl, hg, hrw, k4⟩; have HRW := Lib.hid hrw; clear hrw; replace kk : Ext w2 w4 := (by first | exact Ext.trans kk k4 | exact Ext.trans (Ext.drew kk) k4); have d0 := cE kk x0; have d1 := cE kk x1)
   | fail)
 all_goals
  have ka : Ext w4 (w4.alloc (.cells #[.int .u64 (T : Int), .slice (some ⟨g, 0, none⟩) (n / 2) (n / 2), .func (.func 135) #[.pointer (some ⟨t, 0, none⟩)] #[], .func (.func 136) #[.pointer (some ⟨t, 0, none⟩)] #[]] 223)) := (Ext.refl _).alloc _
  obtain ⟨q0, q1, q2, q3⟩ := za6 w4 (.int .u64 (T : Int)) (.slice (some ⟨g, 0, none⟩) (n / 2) (n / 2)) (.func (.func 135) #[.pointer (some ⟨t, 0, none⟩)] #[]) (.func (.func 136) #[.pointer (some ⟨t, 0, none⟩)] #[]) 223
  have HB := Lib.hid (show Bt (w4.alloc (.cells #[.int .u64 (T : Int), .slice (some ⟨g, 0, none⟩) (n / 2) (n / 2), .func (.func 135) #[.pointer (some ⟨t, 0, none⟩)] #[], .func (.func 136) #[.pointer (some ⟨t, 0, none⟩)] #[]] 223)) w4.heap.size n T k r v from ⟨g, t, q0, q1, q2, q3, HRW.out.ext ka, (HTB.out.ext kk).ext ka⟩)
  have kz := (kV.trans kk).trans ka
  clear q0 q1 q2 q3
  go_wp2
  go_ret2
  exact .inr ⟨HY.out, w4.heap.size, k, r, v, x, HX.out, hr, rfl, HB.out, kz⟩
def OnB (p : Nat) (a b : World) : Prop := a.grownBy b (some p)
theorem OnB.refl (p : Nat) (a : World) : OnB p a a := ⟨rfl, rfl, rfl, Nat.le_refl _, fun _ _ _ => rfl⟩
theorem OnB.trans {p : Nat} {a b c : World} (h : OnB p a b) (k : OnB p b c) : OnB p a c := zbb h k
theorem OnB.of {p : Nat} {a b : World} (k : Ext a b) : OnB p a b := ⟨k.os, k.tape, k.output, k.size, fun i hi _ => k.block i hi⟩
theorem OnB.set {p : Nat} {a b : World} (h : OnB p a b) (i : Nat) (v : Value) : OnB p a (b.setCell ⟨p, i, none⟩ v) := zbb h (zct v)
theorem Ext.onB {p : Nat} {w a b : World} (h : Ext w a) (k : OnB p a b) (hp : w.heap.size ≤ p) : Ext w b := zb7 h k h.size hp
theorem OnB.rw_ {p x m : Nat} {t : TypeId} {F : Nat → Value} {a b : World} (h : OnB p a b) (hr : RW a x t m F) (hne : x ≠ p) : RW b x t m F := RW.keep hr (h.block x hr.lt (fun e => hne (by injection e)))
def dr0 (i : Nat) : Value := if i = 0 then .int .i64 0 else if i = 1 then .int .u64 0 else if i = 2 then .slice none 0 0 else if i = 3 then .int .i64 0 else if i = 4 then .pointer none else if i = 5 then .pointer none else if i = 6 then .slice none 0 0 else .pointer none
theorem zmr (i : Nat) : dr0 i = .int .i64 0 ∨ (i = 1 ∧ dr0 i = .int .u64 0) ∨ dr0 i = .slice none 0 0 ∨ dr0 i = .pointer none := by
 unfold dr0
 repeat' split
 all_goals simp_all
section
variable {V W : World} {g : Nat}
theorem dr_at (hr : RW V g 91 8 dr0) {o : Nat} {v : Value} (hc : V.cell? ⟨g, o, none⟩ = some v) : v = dr0 o := by
 have h1 := hc
 rw [cell_of_row V g o _ 91 (0, 0) hr] at h1
 by_cases h : o < 8
 ·simp [h] at h1
  exact h1.symm
 ·simp [h] at h1
theorem zr0 (hr : RW V g 91 8 dr0) {b o : Nat} {v : Value} (hc : V.cell? ⟨b, o, none⟩ = some v) (h1 : v ≠ .int .i64 0) (h2 : v ≠ .int .u64 0) (h3 : v ≠ .slice none 0 0) (h4 : v ≠ .pointer none) : b ≠ g := fun e => by
 subst e
 have := dr_at hr hc
 rcases zmr o with h | ⟨_, h⟩ | h | h <;> rw [h] at this
 ·exact h1 this
 ·exact h2 this
 ·exact h3 this
 ·exact h4 this
theorem zh8 (hr : RW V g 91 8 dr0) {x m : Nat} {t : TypeId} {F : Nat → Value} (hx : RW V x t m F) (ht : t ≠ 91) : x ≠ g := RW.ne hx hr ht
theorem zac (ho : OnB g V W) {p : Addr} {v : Value} (hc : V.cell? p = some v) (hp : p.block ≠ g) : W.cell? p = some v := by
 rw [World.cell?_of_block (ho.block p.block (World.block_lt_of_cell? _ _ hc) (fun e => hp (by injection e)))]
 exact hc
theorem FX.on (hr : RW V g 91 8 dr0) (ho : OnB g V W) {A : Option Addr} {n c : Nat} {f : Nat → Nat} (h : FX V A n c f) (hn : 3 ≤ n) : FX W A n c f := by
 refine ⟨h.room, fun h0 => ?_⟩
 obtain ⟨ad, e, hc⟩ := h.cells h0
 refine ⟨ad, e, fun j hj => zac ho (hc j hj) (fun e2 => ?_)⟩
 rw [zbi] at e2
 have h1 := hc 1 (by omega)
 have h2 := hc 2 (by omega)
 have e3 : ∀ k, 0 < k → ad.add k = ⟨g, ad.off + k, none⟩ := fun k hk => by
  unfold Addr.add
  rw [if_neg (by omega)]
  obtain ⟨b, o, s⟩ := ad
  simp at e2
  subst e2
  rfl
 rw [e3 1 (by omega)] at h1
 rw [e3 2 (by omega)] at h2
 have g1 := dr_at hr h1
 have g2 := dr_at hr h2
 rcases zmr (ad.off + 1) with h | ⟨i1, h⟩ | h | h <;> rw [h] at g1
 ·injection g1 with g1; cases g1
 ·rcases zmr (ad.off + 2) with h | ⟨i2, h⟩ | h | h <;> rw [h] at g2
  ·injection g2 with g2; cases g2
  ·omega
  ·cases g2
  ·cases g2
 ·cases g1
 ·cases g1
theorem Tb.on (hr : RW V g 91 8 dr0) (ho : OnB g V W) {p n q : Nat} {a e : Nat → Nat} {gp ge : Nat} (h : Tb V V.heap.size p n q a e gp ge) (hn : 1 ≤ n) : Tb W W.heap.size p n q a e gp ge := by
 have np : p ≠ g := zr0 hr h.size (by simp; omega) (by simp) (by simp) (by simp)
 have k : ∀ {x m : Nat} {F : Nat → Value}, RW V x 278 m F → RW W x 278 m F := fun hx => ho.rw_ hx (zh8 hr hx (by decide))
 have hs := ho.size
 exact ⟨Nat.lt_of_lt_of_le h.hp hs, Nat.lt_of_lt_of_le h.hgp hs, Nat.lt_of_lt_of_le h.hge hs, zac ho h.size np, zac ho h.prime np, zac ho h.powers np, zac ho h.ends np, k h.pw, k h.en⟩
theorem Table.on (hr : RW V g 91 8 dr0) (ho : OnB g V W) {p n q k r v : Nat} (h : Table V p n q k r v) : Table W p n q k r v := by
 obtain ⟨a, e, gp, ge, h1, h2, h3⟩ := h.ex
 exact ⟨a, e, gp, ge, h1.on hr ho (by rw [h2.nk]; exact Nat.two_pow_pos _), h2, h3⟩
theorem Tab.on (hr : RW V g 91 8 dr0) (ho : OnB g V W) {p n q : Nat} {a e : Nat → Nat} (h : Tab V p n q a e) : Tab W p n q a e := by
 refine ⟨h.n0, h.n1, h.q0, h.q1, h.nk, h.al, h.el, ?_, fun hq => ?_⟩
 ·obtain ⟨gp, ge, ht⟩ := h.tb
  exact ⟨gp, ge, ht.on hr ho (by have := h.n0; omega)⟩
 ·obtain ⟨k, r, v', ht⟩ := h.root hq
  exact ⟨k, r, v', ht.on hr ho⟩
theorem Rg.on (hr : RW V g 91 8 dr0) (ho : OnB g V W) {r n L : Nat} {q p : Nat → Nat} {a e : Nat → Nat → Nat} (h : Rg V r n L q p a e) : Rg W r n L q p a e := by
 have np : r ≠ g := zr0 hr h.size (by have := h.n0; simp; omega) (by simp) (by simp) (by simp)
 obtain ⟨gf, h1, h2⟩ := h.ex
 exact ⟨h.l0, h.l1, h.n0, h.n1, h.ql, zac ho h.size np, ⟨gf, zac ho h1 np, ho.rw_ h2 (zh8 hr h2 (by decide))⟩, fun j hj => (h.tab j hj).on hr ho⟩
theorem Bt.on (hr : RW V g 91 8 dr0) (ho : OnB g V W) {p n T k r v : Nat} (h : Bt V p n T k r v) : Bt W p n T k r v := by
 obtain ⟨g', t, h0, h1, h2, h3, h4, h5⟩ := h.ex
 have np : p ≠ g := zr0 hr h1 (by simp) (by simp) (by simp) (by simp)
 exact ⟨g', t, zac ho h0 np, zac ho h1 np, zac ho h2 np, zac ho h3 np, ho.rw_ h4 (zh8 hr h4 (by decide)), h5.on hr ho⟩
theorem PM.on (hr : RW V g 91 8 dr0) (ho : OnB g V W) {G L n : Nat} {As : Nat → Option Addr} {cs : Nat → Nat} {F : Nat → Nat → Nat} (h : PM V G L n As cs F) (hn : 3 ≤ n) : PM W G L n As cs F :=
 ⟨ho.rw_ h.row (zh8 hr h.row (by decide)), fun j hj => (h.lists j hj).on hr ho hn⟩
end
set_option maxHeartbeats 8000000 in
theorem zfd (g n N L d : Nat) (s : Nat → Bool) (X : Nat → Nat) (B : Option Addr) (q : Nat → Nat) (w : World) (hW : WK w g n n N s X) (hN : N ≤ 1000) (hn0 : 0 < n) (hn : n ≤ 1000) (hB : FX w B L d q) (hq : Hid (∀ j, j < L → q j < 18446744073709551616)) (hT : Tabs w) (hR : RowC L q) :
    Calls Tryz.prog 118 #[.slice (some ⟨g, 0, none⟩) n n, .slice B L d] w fun ee w' => ∃ (G : Nat) (As : Nat → Option Addr) (F : Nat → Nat → Nat), ee = .returned (.tuple #[.agg #[.slice (some ⟨G, 0, none⟩) L L], .int .i64 0]) ∧ PM w' G L n As (fun _ => n) F ∧ Hid (∀ j, j < L → ∀ i, i < n → F j i = resF (s i) (nv (nw (X i))) (q j)) ∧ Ext w w' := by
 have HW := Lib.hid hW
 have HB := Lib.hid hB
 have HT := Lib.hid hT
 have HR := Lib.hid hR
 have hL0 := hR.1
 have hL := hR.2.1
 have HQ := Lib.hid (show ∀ j, j < L → 0 < q j ∧ q j < 18446744073709551616 from zm6 hR)
 have hmk := zh0 L (by omega)
 have hmu := zb2 n (by omega)
 have e0 : ((n : Int) == 0) = false := by simp; omega
 have k0 : Ext w (w.alloc (.cells #[.slice none 0 0] 56)) := (Ext.refl w).alloc _
 have hr0 : RW (w.alloc (.cells #[.slice none 0 0] 56)) w.heap.size 56 1 (fun _ => .slice none 0 0) := heap_alloc_new _ _
 clear hW hB hT hR
 go_enter Tryz.func118, Tryz.ntmps118
 go_wp2_with fail
 generalize w.alloc (.cells #[.slice none 0 0] 56) = V at *
 refine (zju B L d q V (by omega) (HB.out.ext k0) hq (HT.out.ext k0)).mono ?_
 rintro e1 w1 h1
 obtain ⟨rfl, k1⟩ := ziz h1 HR.out
 clear h1
 replace hr0 := hr0.ext k1
 have kw1 := k0.trans k1
 have kb : Ext w1 (w1.alloc (.cells (newS L) 22)) := (Ext.refl w1).alloc _
 have hs0 := zhg w1 L
 go_wp2_with fail
 have hr1 := hr0.ext kb
 have kw2 := kw1.trans kb
 have hGw : w.heap.size ≤ w1.heap.size := kw1.size
 clear hmk k0 k1 hr0
 have hne : w.heap.size ≠ w1.heap.size := hr1.ne hs0 (by decide)
 generalize w1.alloc (.cells (newS L) 22) = V2 at *
 obtain ⟨G, hG⟩ : ∃ G, G = w1.heap.size := ⟨_, rfl⟩
 rw [← hG] at hs0 hGw hne ⊢
 clear hG kb kw1
 go_loopw [24] (fun iv wr => ∃ (k : Nat) (Ps : Nat → Nat) (F : Nat → Nat → Nat), k ≤ L ∧ iv = .int .i64 (k : Int) ∧ RW wr G 22 L (fun j => if j < k then .slice (some ⟨Ps j, 0, none⟩) n n else .slice none 0 0) ∧ (∀ j, j < k → UW wr (Ps j) n (F j)) ∧ RW wr w.heap.size 56 1 (fun _ => .slice none 0 0) ∧ Hid (∀ j, j < k → ∀ i, i < n → F j i = resF (s i) (nv (nw (X i))) (q j)) ∧ Ext w wr) (fun iv _ => L - (intOf iv).toNat)
 case atStart => exact ⟨0, fun _ => 0, fun _ _ => 0, by omega, rfl, hs0.congr fun j _ => by rw [if_neg (by omega)], fun j hj => by omega, hr1, Lib.hid fun j hj => by omega, kw2⟩
 case round =>
  obtain ⟨k, Ps, F, hk, rfl, hgr, hus, hrr, hF, kr⟩ := hrel
  clear hs0 hr1 kw2
  by_cases hlt : k < L
  ·obtain ⟨adq, rfl, hcq⟩ := (HB.out.ext kr).cells (by omega)
   have cq := hcq k hlt
   have hql := HQ.out k hlt
   clear hcq
   obtain ⟨Q, hQ⟩ : ∃ Q, Q = q k := ⟨_, rfl⟩
   rw [← hQ] at cq hql
   have HQK := Lib.hid hQ
   clear hQ
   have i0 : (0 : Int) ≤ (k : Int) := by omega
   have i1 : (k : Int) < (L : Int) := by omega
   have ka : Ext wr (wr.alloc (.cells (newU n) 26)) := (Ext.refl wr).alloc _
   have hu0 := zei wr n
   have hga := hgr.ext ka
   have hra := hrr.ext ka
   have kra := kr.trans ka
   have gcell := hga.cell hlt
   have gfro := hga.frozen k
   have glt := hga.lt
   have hwG : wr.heap.size ≠ G := by have := hgr.lt; omega
   have hwR : wr.heap.size ≠ w.heap.size := by have := hrr.lt; omega
   have hPs : ∀ j, j < k → Ps j ≠ wr.heap.size := fun j hj => by have := (hus j hj).lt; omega
   have husa := fun j hj => RW.ext (hus j hj) ka
   clear hgr hrr hus
   go_wp2_with fail
   obtain ⟨P, hP⟩ : ∃ P, P = wr.heap.size := ⟨_, rfl⟩
   rw [← hP] at hu0 hwG hwR hPs ⊢
   have hPw : w.heap.size ≤ P := by rw [hP]; exact kr.size
   have hPa : P < (wr.alloc (.cells (newU n) 26)).heap.size := RW.lt hu0
   clear hP
   have hg3 := (hga.set hlt (.slice (some ⟨P, 0, none⟩) n n)).congr (G := fun j => if j < k + 1 then .slice (some ⟨if j = k then P else Ps j, 0, none⟩) n n else .slice none 0 0) fun j hj => by
    by_cases e : j = k
    ·subst e; rw [if_pos rfl, if_pos (by omega), if_pos rfl]
    ·rw [if_neg e]
     by_cases e2 : j < k
     ·rw [if_pos e2, if_pos (by omega), if_neg e]
     ·rw [if_neg e2, if_neg (by omega)]
   have hu3 : UW ((wr.alloc (.cells (newU n) 26)).setCell ⟨G, k, none⟩ (.slice (some ⟨P, 0, none⟩) n n)) P n (fun _ => 0) := ((OnB.refl G _).set k _).rw_ hu0 hwG
   have hus3 : ∀ j, j < k → UW ((wr.alloc (.cells (newU n) 26)).setCell ⟨G, k, none⟩ (.slice (some ⟨P, 0, none⟩) n n)) (Ps j) n (F j) := fun j hj => ((OnB.refl G _).set k _).rw_ (husa j hj) (RW.ne (husa j hj) hga (by decide))
   have hr3 := ((OnB.refl G (wr.alloc (.cells (newU n) 26))).set k (.slice (some ⟨P, 0, none⟩) n n)).rw_ hra hne
   have k3 := kra.set (p := ⟨G, k, none⟩) hGw (.slice (some ⟨P, 0, none⟩) n n)
   have hP3 : P < ((wr.alloc (.cells (newU n) 26)).setCell ⟨G, k, none⟩ (.slice (some ⟨P, 0, none⟩) n n)).heap.size := RW.lt hu3
   clear hga hra husa gcell gfro glt hu0 ka kra hPa
   generalize (wr.alloc (.cells (newU n) 26)).setCell ⟨G, k, none⟩ (.slice (some ⟨P, 0, none⟩) n n) = V3 at *
   have g3 : V3.cell? ⟨G, k, none⟩ = some (.slice (some ⟨P, 0, none⟩) n n) := by rw [hg3.cell hlt, if_pos (by omega), if_pos rfl]
   have HG3 := Lib.hid hg3
   have HR3 := Lib.hid hr3
   have HUS := Lib.hid hus3
   clear hg3 hr3 hus3
   obtain ⟨R, hRd⟩ : ∃ R : Nat → Nat, R = fun i => resF (s i) (nv (nw (X i))) Q := ⟨_, rfl⟩
   have HRD := Lib.hid hRd
   clear hRd
   go_loopw [37] (fun iv wz => ∃ m : Nat, m ≤ n ∧ iv = .int .i64 (m : Int) ∧ UW wz P n (fun i => if i < m then R i else 0) ∧ OnB P V3 wz) (fun iv _ => n - (intOf iv).toNat)
   case atStart => exact ⟨0, by omega, rfl, UW.congr hu3 fun i _ => by rw [if_neg (by omega)], OnB.refl _ _⟩
   case round =>
    obtain ⟨m, hm, rfl, huz, hob⟩ := hrel
    clear hu3
    have kz : Ext w wr := k3.onB hob hPw
    by_cases hmn : m < n
    ·obtain ⟨A4, m4, c4, b0, b1, hm4, hx4⟩ := (HW.out.ext kz).at hmn (Nat.le_refl _)
     have HX4 := Lib.hid hx4
     clear hx4
     have gz : wr.cell? ⟨G, k, none⟩ = some (.slice (some ⟨P, 0, none⟩) n n) := (hob.rw_ HG3.out (fun e => hwG e.symm)).cell hlt |>.trans (by rw [if_pos (by omega), if_pos rfl])
     have j0 : (0 : Int) ≤ (m : Int) := by omega
     have j1 : (m : Int) < (n : Int) := by omega
     have ka : Ext wr (wr.alloc (.cells #[.bool (s m), .slice A4 m4 c4] 144)) := (Ext.refl wr).alloc _
     have hy : RW (wr.alloc (.cells #[.bool (s m), .slice A4 m4 c4] 144)) wr.heap.size 144 2 (two (.bool (s m)) (.slice A4 m4 c4)) := heap_alloc_new _ _
     have hYP : wr.heap.size ≠ P := by have := RW.lt huz; omega
     have hua := RW.ext huz ka
     have ga := cE ka gz
     go_wp2_with fail
     obtain ⟨Y, hY⟩ : ∃ Y, Y = wr.heap.size := ⟨_, rfl⟩
     rw [← hY] at hy hYP ⊢
     clear hY
     generalize wr.alloc (.cells #[.bool (s m), .slice A4 m4 c4] 144) = W at *
     have y0 : W.cell? ⟨Y, 0, none⟩ = some (.bool (s m)) := hy.cell (i := 0) (by omega)
     have y1 : W.cell? ⟨Y, 1, none⟩ = some (.slice A4 m4 c4) := hy.cell (i := 1) (by omega)
     have ne1 : (Y = P) = False := by simp; exact hYP
     have ne2 : (P = Y) = False := by simp; exact fun e => hYP e.symm
     have ne3 : (G = P) = False := by simp; exact fun e => hwG e.symm
     have ne4 : (P = G) = False := by simp; exact hwG
     have kk : Ext W W := Ext.refl W
     have HC5 := Lib.hid (show ∀ w5, Ext W w5 → w5.cell? ⟨P, m, none⟩ = some (.int .u64 0) ∧ w5.frozen? ⟨P, m, none⟩ = false ∧ P < w5.heap.size from fun w5 h => ⟨by have := RW.cell (RW.ext hua h) hmn; simpa using this, RW.frozen (RW.ext hua h) m, RW.lt (RW.ext hua h)⟩)
     have HUA := Lib.hid hua
     have HOB := Lib.hid hob
     clear b0 b1 gz hua hy hob huz
     go_region_held3 (fun w' => w'.cell? ⟨G, k, none⟩ = some (.slice (some ⟨P, 0, none⟩) n n) ∧ w'.cell? ⟨Y, 0, none⟩ = some (.bool (s m)) ∧ w'.cell? ⟨Y, 1, none⟩ = some (.slice A4 m4 c4)) (go_keep)
      (first
       | (go_at_call 193; refine (zlb (s m) A4 m4 c4 Q (nw (X m)) _ (NX.ext HX4.out (ka.trans (by first | exact kk | exact Ext.drew kk))) (by omega) hql.1 hql.2).mono ?_; rintro e5 w5 ⟨y, hyv, hyl, rfl, k5⟩; replace kk : Ext W w5 := (by first | exact Ext.trans kk k5 | exact Ext.trans (Ext.drew kk) k5); have z0 := cE kk ga; have z1 := cE kk y0; have z2 := cE kk y1; obtain ⟨c50, f50, s5⟩ := HC5.out _ kk)
       | fail)
     all_goals
      have kx := OnB.of (p := P) (ka.trans kk)
      have hun : UW (w5.setCell ⟨P, m, none⟩ (.int .u64 (y : Int))) P n (fun i => if i < m + 1 then R i else 0) := UW.congr (UW.set (RW.ext HUA.out kk) hmn y) fun i hi => by
       by_cases e : i = m
       ·subst e; rw [if_pos rfl, if_pos (by omega), HRD.out, hyv.out]
       ·rw [if_neg e]
        by_cases e2 : i < m
        ·rw [if_pos e2, if_pos (by omega)]
        ·rw [if_neg e2, if_neg (by omega)]
      have hon := (HOB.out.trans kx).set m (.int .u64 (y : Int))
      generalize w5.setCell ⟨P, m, none⟩ (.int .u64 (y : Int)) = w6 at *
      clear z0 z1 z2 c50 f50 s5
      go_wp2
      exact ⟨⟨m + 1, by omega, by go_num, hun, hon⟩, by simp [intOf]; omega⟩
    ·obtain rfl : m = n := by omega
     have hgz := hob.rw_ HG3.out (fun e => hwG e.symm)
     have hrz := hob.rw_ HR3.out (fun e => hwR e.symm)
     have hfu : UW wr P m (fun i => resF (s i) (nv (nw (X i))) (q k)) := UW.congr huz fun i hi => by rw [if_pos hi, HRD.out, HQK.out]
     have husz : ∀ j, j < k → UW wr (Ps j) m (F j) := fun j hj => hob.rw_ (HUS.out j hj) (hPs j hj)
     have hall : ∀ j, j < k + 1 → UW wr (if j = k then P else Ps j) m (if j = k then (fun i => resF (s i) (nv (nw (X i))) (q k)) else F j) := fun j hj => by
      by_cases e : j = k
      ·rw [if_pos e, if_pos e]; exact hfu
      ·rw [if_neg e, if_neg e]; exact husz j (by omega)
     have HF2 := Lib.hid (show ∀ j, j < k + 1 → ∀ i, i < m → (if j = k then (fun i => resF (s i) (nv (nw (X i))) (q k)) else F j) i = resF (s i) (nv (nw (X i))) (q j) from fun j hj i hi => by
      by_cases e : j = k
      ·rw [if_pos e, e]
      ·rw [if_neg e]; exact hF.out j (by omega) i hi)
     clear huz hfu husz
     go_wp2
     exact ⟨⟨k + 1, fun j => if j = k then P else Ps j, fun j => if j = k then (fun i => resF (s i) (nv (nw (X i))) (q k)) else F j, by omega, by go_num, hgz, hall, hrz, HF2, kz⟩, by simp [intOf]; omega⟩
  ·obtain rfl : k = L := by omega
   have hpm : PM wr G k n (fun j => some ⟨Ps j, 0, none⟩) (fun _ => n) F := ⟨hgr.congr fun j hj => by rw [if_pos hj], fun j hj => UW.fx (hus j hj)⟩
   have c0 := hrr.cell (i := 0) (by omega)
   have z0 := hrr.frozen 0
   have hsz := hrr.lt
   clear hgr hus
   go_wp2_with fail
   have d0 := zas hrr (.slice (some ⟨G, 0, none⟩) k k)
   have d1 := kr.set (p := ⟨w.heap.size, 0, none⟩) (Nat.le_refl _) (.slice (some ⟨G, 0, none⟩) k k)
   have d2 := hpm.aside hrr rfl (.slice (some ⟨G, 0, none⟩) k k)
   generalize wr.setCell ⟨w.heap.size, 0, none⟩ (.slice (some ⟨G, 0, none⟩) k k) = w5 at *
   exact bodyPost_ret (v := .tuple #[.agg #[.slice (some ⟨G, 0, none⟩) k k], .int .i64 0]) (by simp [results, Tryz.results118, go_sem, d0]) rfl ⟨G, _, F, rfl, d2, hF, d1⟩
theorem NX.fxM {w : World} {A : Option Addr} {n c : Nat} {xs : List Nat} (h : NX w A n c xs) : FX w A n c (fun j => xs.getD j 0) :=
 ⟨h.room, fun h0 => by
  obtain ⟨ad, e, _, hc⟩ := h.cells h0
  exact ⟨ad, e, fun j hj => hc j _ (by
   have hl := h.len
   rw [List.getD_eq_getElem?_getD, List.getElem?_eq_getElem (by omega), Option.getD_some])⟩⟩
theorem zta {s i L j : Nat} (hs : s < 3) (hi : i < 4) (hL : L ≤ 5) (hj : j < L) : ((mL s i).take L).getD j 0 = mF s i j := by
 unfold mF
 have hl := zlu s hs i hi
 rw [List.getD_eq_getElem?_getD, List.getD_eq_getElem?_getD, List.getElem?_take, if_pos hj]
def MPar (w w' : World) (s t i L : Nat) (d : Int) (ee : Ending) : Prop :=
 ∃ A cp, ee = .returned (.agg #[.int .i64 ((8 * 2 ^ s : Nat) : Int), .int .u64 (mT s t : Int), .slice A L cp, .int .i64 d]) ∧ PA w' ((8 * 2 ^ s : Nat) : Int) (mT s t) A L cp d (mF s i) ∧ Ext w w'
def pz4 (i : Nat) : Value := if i = 0 then .int .i64 0 else if i = 1 then .int .u64 0 else if i = 2 then .slice none 0 0 else .int .i64 0
theorem zzl (w : World) : RW (w.alloc (.cells #[.int .i64 0, .int .u64 0, .slice none 0 0, .int .i64 0] 28)) w.heap.size 28 4 pz4 := heap_alloc_new w _
theorem zwe {i : Nat} {x : Int} (h : pz4 i = .int .u64 x) : x = 0 := by
 unfold pz4 at h
 split at h
 ·injection h with h _; cases h
 ·split at h
  ·injection h with _ h; exact h.symm
  ·split at h
   ·cases h
   ·injection h with h _; cases h
theorem zij {V : World} {g o m : Nat} {t : TypeId} {F : Nat → Value} {v : Value} (hr : RW V g t m F) (hc : V.cell? ⟨g, o, none⟩ = some v) : ∃ i, F i = v := by
 rw [cell_of_row V g o _ t (0, 0) hr] at hc
 by_cases h : o < m
 ·simp [h] at hc
  exact ⟨o, hc⟩
 ·simp [h] at hc
theorem FX.par {V W : World} {g : Nat} {A : Option Addr} {n c : Nat} {f : Nat → Nat} (hr : RW V g 28 4 pz4) (ho : OnB g V W) (h : FX V A n c f) (hn : 2 ≤ n) (hf : ∀ j, j < n → f j ≠ 0) : FX W A n c f := by
 refine ⟨h.room, fun h0 => ?_⟩
 obtain ⟨ad, e, hc⟩ := h.cells h0
 refine ⟨ad, e, fun j hj => ?_⟩
 have h1 := hc j hj
 have hb : (ad.add j).block ≠ g := fun e2 => by
  rw [zbi] at e2
  have h2 := hc 1 (by omega)
  have e3 : ad.add 1 = ⟨g, ad.off + 1, none⟩ := by
   unfold Addr.add
   rw [if_neg (by omega)]
   obtain ⟨b, o, sl⟩ := ad
   simp at e2
   subst e2
   rfl
  rw [e3] at h2
  obtain ⟨i, h4⟩ := zij hr h2
  have := zwe h4
  exact hf 1 (by omega) (by omega)
 rw [World.cell?_of_block (ho.block _ (World.block_lt_of_cell? _ _ h1) (fun e => hb (by injection e)))]
 exact h1
theorem zrf {w V : World} {g : Nat} (hr : RW V g 28 4 pz4) (hE : Ext w V) (hg : w.heap.size ≤ g) (a0 a1 a2 a3 : Value) :
    ∃ W, ((((V.setCell ⟨g, 0, none⟩ a0).setCell ⟨g, 1, none⟩ a1).setCell ⟨g, 2, none⟩ a2).setCell ⟨g, 3, none⟩ a3) = W ∧ W.cell? ⟨g, 0, none⟩ = some a0 ∧ W.cell? ⟨g, 1, none⟩ = some a1 ∧ W.cell? ⟨g, 2, none⟩ = some a2 ∧ W.cell? ⟨g, 3, none⟩ = some a3 ∧ Ext w W ∧ OnB g V W := by
 have hs := (((hr.set (show 0 < 4 by omega) a0).set (show 1 < 4 by omega) a1).set (show 2 < 4 by omega) a2).set (show 3 < 4 by omega) a3
 refine ⟨_, rfl, ?_, ?_, ?_, ?_, (((hE.set (p := ⟨g, 0, none⟩) hg a0).set (p := ⟨g, 1, none⟩) hg a1).set (p := ⟨g, 2, none⟩) hg a2).set (p := ⟨g, 3, none⟩) hg a3, ((((OnB.refl g V).set 0 a0).set 1 a1).set 2 a2).set 3 a3⟩
 ·have := hs.cell (i := 0) (by omega); simpa using this
 ·have := hs.cell (i := 1) (by omega); simpa using this
 ·have := hs.cell (i := 2) (by omega); simpa using this
 ·have := hs.cell (i := 3) (by omega); simpa using this
theorem wrapN {s N : Nat} (hs : s < 3) (hN : N = 8 * 2 ^ s) : wrap64 (8 * 2 ^ s) = (N : Int) ∧ wrap64 (2 * (N : Int)) = 2 * (N : Int) ∧ IntKind.u64.wrap (2 * (N : Int)) = (mB s : Int) := by
 subst hN
 rcases za5 hs with rfl | rfl | rfl <;> exact ⟨by decide +kernel, by decide +kernel, by decide +kernel⟩
def MFin (w : World) (s t i L : Nat) (d : Int) (x : Nat) : Prop := s < 3 ∧ t < 4 ∧ i < 4 ∧ 2 ≤ L ∧ L ≤ 5 ∧ 1 ≤ d ∧ d ≤ 16 ∧ True ∧ x = mT s t
theorem MFin.ans {w w' : World} {s t i L x N : Nat} {d : Int} {A : Option Addr} {c : Nat} (h : MFin w s t i L d x) (hN : N = 8 * 2 ^ s) (hX : FX w' A L c (mF s i)) (k : Ext w w') : MPar w w' s t i L d (.returned (.agg #[.int .i64 (N : Int), .int .u64 (x : Int), .slice A L c, .int .i64 d])) := by
 obtain ⟨h1, h2, h3, h4, h5, h6, h7, _, rfl⟩ := h
 subst hN
 have hs : 8 * 2 ^ s ≤ 32 := by rcases za5 h1 with rfl | rfl | rfl <;> omega
 have ht := (mT_ok s h1 t h2).1
 exact ⟨A, c, rfl, ⟨by omega, by omega, by omega, by omega, by omega, hX, by omega, fun j hj => by have := (zfo s h1 i h3 j (by omega)).1; omega⟩, k⟩
set_option maxHeartbeats 4000000 in
theorem zod (a b : Nat) (w : World) (ha : a < 256) (hb : b < 256) (hT : Tabs w) :
    Calls Tryz.prog 7 #[.int .u8 (a : Int), .int .u8 (b : Int)] w fun ee w' => MPar w w' (a % 3) (a / 3 % 4) (b / 4 % 4) (2 + b % 4) (1 + ((b / 16 % 16 : Nat) : Int)) ee := by
 have HT := Lib.hid hT
 clear hT
 obtain ⟨s, hs⟩ : ∃ s, s = a % 3 := ⟨_, rfl⟩
 obtain ⟨t, ht⟩ : ∃ t, t = a / 3 % 4 := ⟨_, rfl⟩
 obtain ⟨i, hi⟩ : ∃ i, i = b / 4 % 4 := ⟨_, rfl⟩
 obtain ⟨L, hL⟩ : ∃ L, L = b % 4 := ⟨_, rfl⟩
 obtain ⟨d, hd⟩ : ∃ d, d = b / 16 % 16 := ⟨_, rfl⟩
 have hs3 : s < 3 := by omega
 have ht4 : t < 4 := by omega
 have hi4 : i < 4 := by omega
 have hL4 : L < 4 := by omega
 have hd16 : d < 16 := by omega
 rw [← hs, ← ht, ← hi, ← hL, ← hd]
 have a1 : ((a : Int)) % 3 = (s : Int) := by omega
 have a2 : ((a : Int)) / 3 % 4 = (t : Int) := by omega
 have b1 : ((b : Int)) / 4 % 4 = (i : Int) := by omega
 have b2 : ((b : Int)) % 4 = (L : Int) := by omega
 have b3 : ((b : Int)) / 16 % 16 = (d : Int) := by omega
 clear hs ht hi hL hd
 obtain ⟨N, hN⟩ : ∃ N, N = 8 * 2 ^ s := ⟨_, rfl⟩
 obtain ⟨eN, eW, eB⟩ := wrapN hs3 hN
 have k0 : Ext w ((w.alloc (.cells #[.int .i64 0, .int .u64 0, .slice none 0 0, .int .i64 0] 28)).alloc (.cells #[.int .i64 7, .int .i64 9, .int .i64 12, .int .i64 16] 3)) := ((Ext.refl w).alloc _).alloc _
 have hr := RW.ext (zzl w) ((Ext.refl _).alloc (.cells #[.int .i64 7, .int .i64 9, .int .i64 12, .int .i64 16] 3))
 have hN32 : N ≤ 32 := by rcases za5 hs3 with rfl | rfl | rfl <;> omega
 have HN := Lib.hid hN
 clear hN
 have hZ : [Value.int IntKind.i64 25, Value.int IntKind.i64 30, Value.int IntKind.i64 36, Value.int IntKind.i64 49][i]'(by simpa using hi4) = .int .i64 (mZ i : Int) := by rcases zc9 hi4 with rfl | rfl | rfl | rfl <;> rfl
 have HMT := Lib.hid (fun (t : Nat) (ht : t < 4) => (mT_ok s hs3 t ht).1)
 have hY : [Value.int IntKind.i64 7, Value.int IntKind.i64 9, Value.int IntKind.i64 12, Value.int IntKind.i64 16][t]'(by simpa using ht4) = .int .i64 (mY t : Int) := by rcases zc9 ht4 with rfl | rfl | rfl | rfl <;> rfl
 by_cases hne : s = 2 ∧ t = 0
 ·obtain ⟨rfl, rfl⟩ := hne
  go_enter Tryz.func7, Tryz.ntmps7
  go_wp2_with fail
  generalize (w.alloc (.cells #[.int .i64 0, .int .u64 0, .slice none 0 0, .int .i64 0] 28)).alloc (.cells #[.int .i64 7, .int .i64 9, .int .i64 12, .int .i64 16] 3) = V at *
  try rw [eW]
  try rw [eB]
  refine (zky (HT.out.ext k0)).mono ?_
  rintro ee V0 ⟨rfl, k1⟩
  have kb : Ext V0 (V0.alloc (.cells #[.int .u64 193] 26)) := (Ext.refl V0).alloc _
  have c0 : (V0.alloc (.cells #[.int .u64 193] 26)).cell? ⟨V0.heap.size, 0, none⟩ = some (.int .u64 193) := by simp
  replace hr := hr.ext (k1.trans kb)
  replace k0 := k0.trans (k1.trans kb)
  clear k1 kb
  have HTV := Lib.hid (show ∀ x : Nat, x = mT 2 0 → MFin w 2 0 i (2 + L) (1 + (d : Int)) x from fun x hx => ⟨by omega, by omega, hi4, by omega, by omega, by omega, by omega, trivial, hx⟩)
  replace HTV := Lib.hid (HTV.out 193 rfl)
  have ka : Ext (V0.alloc (.cells #[.int .u64 193] 26)) ((V0.alloc (.cells #[.int .u64 193] 26)).alloc (.cells #[.int .i64 25, .int .i64 30, .int .i64 36, .int .i64 49] 3)) := (Ext.refl _).alloc _
  replace c0 := cE ka c0
  replace hr := hr.ext ka
  replace k0 := k0.trans ka
  clear ka
  go_wp2_with fail
  generalize (V0.alloc (.cells #[.int .u64 193] 26)).alloc (.cells #[.int .i64 25, .int .i64 30, .int .i64 36, .int .i64 49] 3) = V2 at *
  have e2L : (2 + (L : Int)) = ((2 + L : Nat) : Int) := by omega
  have e64 : (64 : Int) = ((mB 2 : Nat) : Int) := rfl
  rw [e2L, e64]
  refine (zgg (s := 2) (i := i) (c := 2 + L) (by omega) hi4 (by omega) (by omega) (HT.out.ext k0)).mono ?_
  rintro ee V3 ⟨A3, n3, c3, rfl, hx3, k3⟩
  have hn3 : n3 = 2 + L := by
   have h1 := hx3.len
   have h2 := zlu 2 (by omega) i hi4
   rw [List.length_take, h2] at h1
   omega
  subst hn3
  clear e2L e64
  replace c0 := cE k3 c0
  replace hr := hr.ext k3
  replace k0 := k0.trans k3
  have HX := Lib.hid (hx3.fxM.congr (f' := mF 2 i) fun j hj => zta (by omega) hi4 (by omega) hj)
  have HR := Lib.hid hr
  have K0 := Lib.hid k0
  have q0 := hr.cell (i := 0) (by omega)
  have q1 := hr.cell (i := 1) (by omega)
  have q2 := hr.cell (i := 2) (by omega)
  have q3 := hr.cell (i := 3) (by omega)
  have z0 := hr.frozen 0
  have z1 := hr.frozen 1
  have z2 := hr.frozen 2
  have z3 := hr.frozen 3
  have hsz := hr.lt
  have p0 : pz4 0 = .int .i64 0 := rfl
  have p1 : pz4 1 = .int .u64 0 := rfl
  have p2 : pz4 2 = .slice none 0 0 := rfl
  have p3 : pz4 3 = .int .i64 0 := rfl
  rw [p0] at q0
  rw [p1] at q1
  rw [p2] at q2
  rw [p3] at q3
  clear hx3 hr k0 k3 p0 p1 p2 p3
  go_wp2_with fail
  obtain ⟨W, hW, d0, d1, d2, d3, hE, hO⟩ := zrf HR.out K0.out (Nat.le_refl _) (.int .i64 32) (.int .u64 193) (.slice A3 (2 + L) c3) (.int .i64 (1 + (d : Int)))
  rw [hW]
  clear hW q0 q1 q2 q3 z0 z1 z2 z3
  exact bodyPost_ret (v := .agg #[.int .i64 32, .int .u64 193, .slice A3 (2 + L) c3, .int .i64 (1 + (d : Int))]) (by simp [results, Tryz.results7, go_sem, d0, d1, d2, d3]) rfl (HTV.out.ans (N := 32) (by decide) (HX.out.par HR.out hO (by omega) (fun j hj => by have := (zfo 2 (by omega) i hi4 j (by omega)).2.1; omega)) hE)
 ·go_enter Tryz.func7, Tryz.ntmps7
  go_wp2_with fail
  generalize (w.alloc (.cells #[.int .i64 0, .int .u64 0, .slice none 0 0, .int .i64 0] 28)).alloc (.cells #[.int .i64 7, .int .i64 9, .int .i64 12, .int .i64 16] 3) = V at *
  try rw [eW]
  try rw [eB]
  refine (zkp (s := s) (i := t) hs3 ht4 hne (HT.out.ext k0)).mono ?_
  rintro ee V1 ⟨A1, n1, c1, rfl, hx1, k1⟩
  obtain rfl : n1 = 1 := hx1.len.symm
  obtain ⟨ad1, rfl, _, hc1⟩ := hx1.cells (by omega)
  have c0 : V1.cell? ad1 = some (.int .u64 (mT s t : Int)) := hc1 0 _ rfl
  replace hr := hr.ext k1
  replace k0 := k0.trans k1
  clear hx1 hc1 k1
  have hmt := HMT.out t ht4
  have HTV := Lib.hid (show ∀ x : Nat, x = mT s t → MFin w s t i (2 + L) (1 + (d : Int)) x from fun x hx => ⟨hs3, ht4, hi4, by omega, by omega, by omega, by omega, trivial, hx⟩)
  generalize mT s t = tv at *
  replace HTV := Lib.hid (HTV.out tv rfl)
  have ka : Ext V1 (V1.alloc (.cells #[.int .i64 25, .int .i64 30, .int .i64 36, .int .i64 49] 3)) := (Ext.refl _).alloc _
  replace c0 := cE ka c0
  replace hr := hr.ext ka
  replace k0 := k0.trans ka
  clear ka
  go_wp2_with fail
  generalize V1.alloc (.cells #[.int .i64 25, .int .i64 30, .int .i64 36, .int .i64 49] 3) = V2 at *
  have e2L : (2 + (L : Int)) = ((2 + L : Nat) : Int) := by omega
  rw [e2L]
  refine (zgg (s := s) (i := i) (c := 2 + L) hs3 hi4 (by omega) (by omega) (HT.out.ext k0)).mono ?_
  rintro ee V3 ⟨A3, n3, c3, rfl, hx3, k3⟩
  have hn3 : n3 = 2 + L := by
   have h1 := hx3.len
   have h2 := zlu s hs3 i hi4
   rw [List.length_take, h2] at h1
   omega
  subst hn3
  clear e2L
  replace c0 := cE k3 c0
  replace hr := hr.ext k3
  replace k0 := k0.trans k3
  have HX := Lib.hid (hx3.fxM.congr (f' := mF s i) fun j hj => zta hs3 hi4 (by omega) hj)
  have HR := Lib.hid hr
  have K0 := Lib.hid k0
  have q0 := hr.cell (i := 0) (by omega)
  have q1 := hr.cell (i := 1) (by omega)
  have q2 := hr.cell (i := 2) (by omega)
  have q3 := hr.cell (i := 3) (by omega)
  have z0 := hr.frozen 0
  have z1 := hr.frozen 1
  have z2 := hr.frozen 2
  have z3 := hr.frozen 3
  have hsz := hr.lt
  have p0 : pz4 0 = .int .i64 0 := rfl
  have p1 : pz4 1 = .int .u64 0 := rfl
  have p2 : pz4 2 = .slice none 0 0 := rfl
  have p3 : pz4 3 = .int .i64 0 := rfl
  rw [p0] at q0
  rw [p1] at q1
  rw [p2] at q2
  rw [p3] at q3
  clear hx3 hr k0 k3 p0 p1 p2 p3
  go_wp2_with fail
  obtain ⟨W, hW, d0, d1, d2, d3, hE, hO⟩ := zrf HR.out K0.out (Nat.le_refl _) (.int .i64 (N : Int)) (.int .u64 (tv : Int)) (.slice A3 (2 + L) c3) (.int .i64 (1 + (d : Int)))
  rw [hW]
  clear hW q0 q1 q2 q3 z0 z1 z2 z3
  exact bodyPost_ret (v := .agg #[.int .i64 (N : Int), .int .u64 (tv : Int), .slice A3 (2 + L) c3, .int .i64 (1 + (d : Int))]) (by simp [results, Tryz.results7, go_sem, d0, d1, d2, d3]) rfl (HTV.out.ans (by rw [HN.out]) (HX.out.par HR.out hO (by omega) (fun j hj => by have := (zfo s hs3 i hi4 j (by omega)).2.1; omega)) hE)
end Go.Proofs.YtopbibfpjgjalaaGreatDoor
