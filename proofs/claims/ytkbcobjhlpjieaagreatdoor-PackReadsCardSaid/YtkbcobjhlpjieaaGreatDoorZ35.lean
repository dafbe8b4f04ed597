import Derived.Test.YtkbcobjhlpjieaaGreatDoorZURead
namespace Go.Proofs.YtkbcobjhlpjieaaGreatDoor
open Go.RowKit
set_option linter.unusedVariables false
set_option maxRecDepth 100000
theorem agg_el {w : World} {v : Value} {x : List (List (List Nat))} (h : AgR ElsR w v x) : ∃ A m c, v = .agg #[.slice A m c] := by
 obtain ⟨u, rfl, A, c, rfl, _⟩ := h
 exact ⟨A, x.length, c, rfl⟩
theorem agg_pub {w : World} {v : Value} {x : List (List (List Nat))} (h : PubR w v x) : ∃ A m c A3 m3 c3, v = .agg #[.slice A m c, .slice A3 m3 c3] := by
 obtain ⟨A0, A1, c0, c1, x0, x1, _, rfl, _⟩ := h
 exact ⟨_, _, _, _, _, _, rfl⟩
theorem sl_sg {w : World} {v : Value} {x : List Int} (h : SgR w v x) : ∃ A m c, v = .slice A m c := by
 obtain ⟨A, c, rfl, _⟩ := h
 exact ⟨A, x.length, c, rfl⟩
theorem tuple3 {a b c a' b' c' : Value} (h : Value.tuple #[a, b, c] = Value.tuple #[a', b', c']) : a = a' ∧ b = b' ∧ c = c' := by
 injection h with h
 have h1 := congrArg (fun x : Array Value => x[0]?) h
 have h2 := congrArg (fun x : Array Value => x[1]?) h
 have h3 := congrArg (fun x : Array Value => x[2]?) h
 exact ⟨by simpa using h1, by simpa using h2, by simpa using h3⟩
theorem ptC (p : Nat) (w : World) : PtBy 64 p (.agg #[.slice none 0 0]) w cipherP (AgR ElsR) := fun pv l w1 S AQ cQ hon hrs hl hkp h5 =>
 uCip_any p pv.n pv.t pv.w pv.q.length pv.q pv AQ cQ l S w1 (Lib.hid hrs) hl (Lib.hid hkp.kn) hkp.s2 hkp.s4 ⟨_, rfl⟩ hkp.len (Lib.hid rfl) (Lib.hid ⟨rfl, rfl⟩)
theorem ptP (p : Nat) (w : World) : PtBy 66 p (.agg #[.slice none 0 0, .slice none 0 0]) w publicP PubR := fun pv l w1 S AQ cQ hon hrs hl hkp h5 =>
 (uPub_any p pv.n pv.q pv AQ cQ l S w1 (Lib.hid hrs) hl (Lib.hid hkp.kn) h5 hkp.len (Lib.hid ⟨rfl, rfl⟩)).mono fun _ _ h => h.pt
theorem ptS (p : Nat) (w : World) : PtBy 68 p (.slice none 0 0) w secretP SgR := fun pv l w1 S AQ cQ hon hrs hl hkp h5 =>
 (secret_any p pv.n pv l S w1 (Lib.hid hrs) hl hkp.kn.n1 hkp.kn.nl (Lib.hid rfl)).mono fun _ _ h => h.pt
set_option maxHeartbeats 2000000 in
theorem ptN (p : Nat) (w : World) : PtBy 62 p (.agg #[]) w (fun _ l => .ok ((), l)) NoR := fun pv l w1 S AQ cQ hon hrs hl hkp h5 => by
 have HF := Lib.hid (show PtPost p S (.agg #[]) w1 (.ok ((), l)) NoR (.returned (.tuple #[.agg #[], .int .i64 0])) (w1.alloc (.cells #[] 82)) from
  ⟨S, fun _ _ _ => rfl, .inl ⟨(), l, _, rfl, rfl, rfl, hrs.ext ((Ext.refl w1).alloc _), hl, (On.refl p w1).alloc _⟩⟩)
 clear hon hrs hkp
 go_enter Tryz.func62, Tryz.ntmps62
 go_wp2
 exact bodyPost_ret (v := .tuple #[.agg #[], .int .i64 0]) (by simp [results, Tryz.results62, go_sem]) rfl HF.out
set_option maxHeartbeats 8000000 in
theorem rdC_any (n c : Nat) (A : Option Addr) (l : List Nat) (w : World) (hX : Hid (BX w A n c l)) (hA : Hid (0 < n → ∀ ad, A = some ad → ad.block < w.heap.size)) (hn : n ≤ 100000) (hTab : Tabs w) :
    Calls Tryz.prog 24 #[.slice A n c] w (RPost (.agg #[.slice none 0 0]) w (endP (headP 2 cipherP l)) (AgR ElsR)) := by
 have HTAB := Lib.hid hTab
 clear hTab
 have kA : Ext w ((w.alloc (.cells #[.int .i64 0, .int .u64 0, .slice none 0 0, .int .i64 0] 25)).alloc (.cells #[.slice none 0 0] 28)) := (((Ext.refl w).alloc _).alloc _)
 have hs0 : ((w.alloc (.cells #[.int .i64 0, .int .u64 0, .slice none 0 0, .int .i64 0] 25)).alloc (.cells #[.slice none 0 0] 28)).heap.size = w.heap.size + 2 := by simp
 have r6 : RW ((w.alloc (.cells #[.int .i64 0, .int .u64 0, .slice none 0 0, .int .i64 0] 25)).alloc (.cells #[.slice none 0 0] 28)) w.heap.size 25 4 (parF (.int .i64 0) (.int .u64 0) (.slice none 0 0) (.int .i64 0)) := RW.ext (show RW (w.alloc (.cells #[.int .i64 0, .int .u64 0, .slice none 0 0, .int .i64 0] 25)) w.heap.size 25 4 (parF (.int .i64 0) (.int .u64 0) (.slice none 0 0) (.int .i64 0)) from heap_alloc_new w (.cells #[.int .i64 0, .int .u64 0, .slice none 0 0, .int .i64 0] 25)) ((Ext.refl _).alloc _)
 have r7 : RW ((w.alloc (.cells #[.int .i64 0, .int .u64 0, .slice none 0 0, .int .i64 0] 25)).alloc (.cells #[.slice none 0 0] 28)) (w.heap.size + 1) 28 1 (fun _ => .slice none 0 0) := by
  have h : RW ((w.alloc (.cells #[.int .i64 0, .int .u64 0, .slice none 0 0, .int .i64 0] 25)).alloc (.cells #[.slice none 0 0] 28)) (w.alloc (.cells #[.int .i64 0, .int .u64 0, .slice none 0 0, .int .i64 0] 25)).heap.size 28 1 (fun _ => .slice none 0 0) := heap_alloc_new (w.alloc (.cells #[.int .i64 0, .int .u64 0, .slice none 0 0, .int .i64 0] 25)) (.cells #[.slice none 0 0] 28)
  rw [show (w.alloc (.cells #[.int .i64 0, .int .u64 0, .slice none 0 0, .int .i64 0] 25)).heap.size = w.heap.size + 1 by simp] at h
  exact h
 go_enter Tryz.func24, Tryz.ntmps24
 go_wp2_with fail
 generalize ((w.alloc (.cells #[.int .i64 0, .int .u64 0, .slice none 0 0, .int .i64 0] 25)).alloc (.cells #[.slice none 0 0] 28)) = X0 at *
 refine (uReadC_any 64 2 n c A l cipherP X0 (Lib.hid (hX.out.ext kA)) (Lib.hid fun h0 ad e => by have := hA.out h0 ad e; omega) hn (by omega) (HTAB.out.ext kA) (Lib.hid fun args w => by rfl) (Lib.hid fun p w1 => ptC p w1)).mono ?_
 intro e w1 h
 obtain ⟨n1, t1, AQ, m1, cQ, wd1, A2, m2, c2, z1, rfl, hk⟩ : ∃ (n1 t1 : Nat) (AQ : Option Addr) (m1 cQ wd1 : Nat) (A2 : Option Addr) (m2 c2 : Nat) (z1 : Nat), e = .returned (.tuple #[.agg #[.int .i64 (n1 : Int), .int .u64 (t1 : Int), .slice AQ m1 cQ, .int .i64 (wd1 : Int)], .agg #[.slice A2 m2 c2], .int .i64 (z1 : Int)]) ∧ Ext X0 w1 := by
  rcases h with ⟨pv, x, v, AQ, cQ, h1, he, hv, hp, h5⟩ | ⟨cc, h1, h2, h3, he, h5⟩
  ·obtain ⟨A2, m2, c2, rfl⟩ := agg_el hv
   exact ⟨pv.n, pv.t, AQ, pv.q.length, cQ, pv.w, A2, m2, c2, 0, he, h5⟩
  ·exact ⟨0, 0, none, 0, 0, 0, none, 0, 0, cc, he, h5⟩
 have H := Lib.hid h
 clear h
 have q6 := r6.ext hk
 have a0 : w1.cell? ⟨w.heap.size, 0, none⟩ = some (.int .i64 0) := q6.cell (i := 0) (by omega)
 have a1 : w1.cell? ⟨w.heap.size, 1, none⟩ = some (.int .u64 0) := q6.cell (i := 1) (by omega)
 have a2 : w1.cell? ⟨w.heap.size, 2, none⟩ = some (.slice none 0 0) := q6.cell (i := 2) (by omega)
 have a3 : w1.cell? ⟨w.heap.size, 3, none⟩ = some (.int .i64 0) := q6.cell (i := 3) (by omega)
 have b0 := q6.frozen 0
 have b1 := q6.frozen 1
 have b2 := q6.frozen 2
 have b3 := q6.frozen 3
 have q7 := r7.ext hk
 have tc0 := q7.cell (i := 0) (by omega)
 have td0 := q7.frozen 0
 have Q7 := Lib.hid q7
 clear q7
 have Q6 := Lib.hid q6
 clear q6
 go_wp2_with fail
 have p6 := Q6.out.set4 (.int .i64 (n1 : Int)) (.int .u64 (t1 : Int)) (.slice AQ m1 cQ) (.int .i64 (wd1 : Int))
 have P6 : RW (((((w1.setCell ⟨w.heap.size, 0, none⟩ (.int .i64 (n1 : Int))).setCell ⟨w.heap.size, 1, none⟩ (.int .u64 (t1 : Int))).setCell ⟨w.heap.size, 2, none⟩ (.slice AQ m1 cQ)).setCell ⟨w.heap.size, 3, none⟩ (.int .i64 (wd1 : Int))).setCell ⟨(w.heap.size + 1), 0, none⟩ (.slice A2 m2 c2)) w.heap.size 25 4 (parF (.int .i64 (n1 : Int)) (.int .u64 (t1 : Int)) (.slice AQ m1 cQ) (.int .i64 (wd1 : Int))) := (RW.far p6 (x := w.heap.size + 1) (by omega) (.slice A2 m2 c2))
 have e0 : (((((w1.setCell ⟨w.heap.size, 0, none⟩ (.int .i64 (n1 : Int))).setCell ⟨w.heap.size, 1, none⟩ (.int .u64 (t1 : Int))).setCell ⟨w.heap.size, 2, none⟩ (.slice AQ m1 cQ)).setCell ⟨w.heap.size, 3, none⟩ (.int .i64 (wd1 : Int))).setCell ⟨(w.heap.size + 1), 0, none⟩ (.slice A2 m2 c2)).cell? ⟨w.heap.size, 0, none⟩ = some (.int .i64 (n1 : Int)) := P6.cell (i := 0) (by omega)
 have e1 : (((((w1.setCell ⟨w.heap.size, 0, none⟩ (.int .i64 (n1 : Int))).setCell ⟨w.heap.size, 1, none⟩ (.int .u64 (t1 : Int))).setCell ⟨w.heap.size, 2, none⟩ (.slice AQ m1 cQ)).setCell ⟨w.heap.size, 3, none⟩ (.int .i64 (wd1 : Int))).setCell ⟨(w.heap.size + 1), 0, none⟩ (.slice A2 m2 c2)).cell? ⟨w.heap.size, 1, none⟩ = some (.int .u64 (t1 : Int)) := P6.cell (i := 1) (by omega)
 have e2 : (((((w1.setCell ⟨w.heap.size, 0, none⟩ (.int .i64 (n1 : Int))).setCell ⟨w.heap.size, 1, none⟩ (.int .u64 (t1 : Int))).setCell ⟨w.heap.size, 2, none⟩ (.slice AQ m1 cQ)).setCell ⟨w.heap.size, 3, none⟩ (.int .i64 (wd1 : Int))).setCell ⟨(w.heap.size + 1), 0, none⟩ (.slice A2 m2 c2)).cell? ⟨w.heap.size, 2, none⟩ = some (.slice AQ m1 cQ) := P6.cell (i := 2) (by omega)
 have e3 : (((((w1.setCell ⟨w.heap.size, 0, none⟩ (.int .i64 (n1 : Int))).setCell ⟨w.heap.size, 1, none⟩ (.int .u64 (t1 : Int))).setCell ⟨w.heap.size, 2, none⟩ (.slice AQ m1 cQ)).setCell ⟨w.heap.size, 3, none⟩ (.int .i64 (wd1 : Int))).setCell ⟨(w.heap.size + 1), 0, none⟩ (.slice A2 m2 c2)).cell? ⟨w.heap.size, 3, none⟩ = some (.int .i64 (wd1 : Int)) := P6.cell (i := 3) (by omega)
 have P7 : RW ((((w1.setCell ⟨w.heap.size, 0, none⟩ (.int .i64 (n1 : Int))).setCell ⟨w.heap.size, 1, none⟩ (.int .u64 (t1 : Int))).setCell ⟨w.heap.size, 2, none⟩ (.slice AQ m1 cQ)).setCell ⟨w.heap.size, 3, none⟩ (.int .i64 (wd1 : Int))) (w.heap.size + 1) 28 1 (fun _ => .slice none 0 0) := (RW.far (RW.far (RW.far (RW.far Q7.out (x := w.heap.size) (by omega) (.int .i64 (n1 : Int))) (x := w.heap.size) (by omega) (.int .u64 (t1 : Int))) (x := w.heap.size) (by omega) (.slice AQ m1 cQ)) (x := w.heap.size) (by omega) (.int .i64 (wd1 : Int)))
 have e4 := ret_cell P7 (.slice A2 m2 c2)
 have hkz : Keeps [22, 23, 31] w1 (((((w1.setCell ⟨w.heap.size, 0, none⟩ (.int .i64 (n1 : Int))).setCell ⟨w.heap.size, 1, none⟩ (.int .u64 (t1 : Int))).setCell ⟨w.heap.size, 2, none⟩ (.slice AQ m1 cQ)).setCell ⟨w.heap.size, 3, none⟩ (.int .i64 (wd1 : Int))).setCell ⟨(w.heap.size + 1), 0, none⟩ (.slice A2 m2 c2)) := ((((((Keeps.refl _ w1).trans (Keeps.set Q6.out (by decide) _)).trans (Keeps.set (Q6.out.set (show 0 < 4 by omega) (.int .i64 (n1 : Int))) (by decide) _)).trans (Keeps.set ((Q6.out.set (show 0 < 4 by omega) (.int .i64 (n1 : Int))).set (show 1 < 4 by omega) (.int .u64 (t1 : Int))) (by decide) _)).trans (Keeps.set (((Q6.out.set (show 0 < 4 by omega) (.int .i64 (n1 : Int))).set (show 1 < 4 by omega) (.int .u64 (t1 : Int))).set (show 2 < 4 by omega) (.slice AQ m1 cQ)) (by decide) _)).trans (Keeps.set P7 (by decide) _))
 have hez : Ext w (((((w1.setCell ⟨w.heap.size, 0, none⟩ (.int .i64 (n1 : Int))).setCell ⟨w.heap.size, 1, none⟩ (.int .u64 (t1 : Int))).setCell ⟨w.heap.size, 2, none⟩ (.slice AQ m1 cQ)).setCell ⟨w.heap.size, 3, none⟩ (.int .i64 (wd1 : Int))).setCell ⟨(w.heap.size + 1), 0, none⟩ (.slice A2 m2 c2)) := (ext_set (ext_set (ext_set (ext_set (ext_set (kA.trans hk) (Nat.le_refl _) (.int .i64 (n1 : Int))) (Nat.le_refl _) (.int .u64 (t1 : Int))) (Nat.le_refl _) (.slice AQ m1 cQ)) (Nat.le_refl _) (.int .i64 (wd1 : Int))) (Nat.le_succ _) (.slice A2 m2 c2))
 have HF : RPost (.agg #[.slice none 0 0]) w (endP (headP 2 cipherP l)) (AgR ElsR) (.returned (.tuple #[.agg #[.int .i64 (n1 : Int), .int .u64 (t1 : Int), .slice AQ m1 cQ, .int .i64 (wd1 : Int)], .agg #[.slice A2 m2 c2], .int .i64 (z1 : Int)])) (((((w1.setCell ⟨w.heap.size, 0, none⟩ (.int .i64 (n1 : Int))).setCell ⟨w.heap.size, 1, none⟩ (.int .u64 (t1 : Int))).setCell ⟨w.heap.size, 2, none⟩ (.slice AQ m1 cQ)).setCell ⟨w.heap.size, 3, none⟩ (.int .i64 (wd1 : Int))).setCell ⟨(w.heap.size + 1), 0, none⟩ (.slice A2 m2 c2)) := by
  rcases H.out with ⟨pv, x, v, AQ', cQ', h1, he, hv, hp, h5⟩ | ⟨cc, h1, h2, h3, he, h5⟩
  ·injection he with he
   obtain ⟨g1, g2, g3⟩ := tuple3 he
   exact .inl ⟨pv, x, v, AQ', cQ', h1, by rw [g1, g2, g3], (agR_stays (elsR_stays (ts := [22, 23, 31]) (by decide) (by decide) (by decide))) _ _ _ x hkz hv, hp.keeps hkz (by decide), hez⟩
  ·exact .inr ⟨cc, h1, h2, h3, he, hez⟩
 generalize (((((w1.setCell ⟨w.heap.size, 0, none⟩ (.int .i64 (n1 : Int))).setCell ⟨w.heap.size, 1, none⟩ (.int .u64 (t1 : Int))).setCell ⟨w.heap.size, 2, none⟩ (.slice AQ m1 cQ)).setCell ⟨w.heap.size, 3, none⟩ (.int .i64 (wd1 : Int))).setCell ⟨(w.heap.size + 1), 0, none⟩ (.slice A2 m2 c2)) = Z9 at *
 exact bodyPost_ret (v := .tuple #[.agg #[.int .i64 (n1 : Int), .int .u64 (t1 : Int), .slice AQ m1 cQ, .int .i64 (wd1 : Int)], .agg #[.slice A2 m2 c2], .int .i64 (z1 : Int)]) (by simp [results, Tryz.results24, go_sem, e0, e1, e2, e3, e4]) rfl HF
set_option maxHeartbeats 8000000 in
theorem rdP_any (n c : Nat) (A : Option Addr) (l : List Nat) (w : World) (hX : Hid (BX w A n c l)) (hA : Hid (0 < n → ∀ ad, A = some ad → ad.block < w.heap.size)) (hn : n ≤ 100000) (hTab : Tabs w) :
    Calls Tryz.prog 25 #[.slice A n c] w (RPost (.agg #[.slice none 0 0, .slice none 0 0]) w (endP (headP 3 publicP l)) PubR) := by
 have HTAB := Lib.hid hTab
 clear hTab
 have kA : Ext w ((w.alloc (.cells #[.int .i64 0, .int .u64 0, .slice none 0 0, .int .i64 0] 25)).alloc (.cells #[.slice none 0 0, .slice none 0 0] 33)) := (((Ext.refl w).alloc _).alloc _)
 have hs0 : ((w.alloc (.cells #[.int .i64 0, .int .u64 0, .slice none 0 0, .int .i64 0] 25)).alloc (.cells #[.slice none 0 0, .slice none 0 0] 33)).heap.size = w.heap.size + 2 := by simp
 have r6 : RW ((w.alloc (.cells #[.int .i64 0, .int .u64 0, .slice none 0 0, .int .i64 0] 25)).alloc (.cells #[.slice none 0 0, .slice none 0 0] 33)) w.heap.size 25 4 (parF (.int .i64 0) (.int .u64 0) (.slice none 0 0) (.int .i64 0)) := RW.ext (show RW (w.alloc (.cells #[.int .i64 0, .int .u64 0, .slice none 0 0, .int .i64 0] 25)) w.heap.size 25 4 (parF (.int .i64 0) (.int .u64 0) (.slice none 0 0) (.int .i64 0)) from heap_alloc_new w (.cells #[.int .i64 0, .int .u64 0, .slice none 0 0, .int .i64 0] 25)) ((Ext.refl _).alloc _)
 have r7 : RW ((w.alloc (.cells #[.int .i64 0, .int .u64 0, .slice none 0 0, .int .i64 0] 25)).alloc (.cells #[.slice none 0 0, .slice none 0 0] 33)) (w.heap.size + 1) 33 2 (fun _ => .slice none 0 0) := by
  have h : RW ((w.alloc (.cells #[.int .i64 0, .int .u64 0, .slice none 0 0, .int .i64 0] 25)).alloc (.cells #[.slice none 0 0, .slice none 0 0] 33)) (w.alloc (.cells #[.int .i64 0, .int .u64 0, .slice none 0 0, .int .i64 0] 25)).heap.size 33 2 (fun _ => .slice none 0 0) := heap_alloc_new (w.alloc (.cells #[.int .i64 0, .int .u64 0, .slice none 0 0, .int .i64 0] 25)) (.cells #[.slice none 0 0, .slice none 0 0] 33)
  rw [show (w.alloc (.cells #[.int .i64 0, .int .u64 0, .slice none 0 0, .int .i64 0] 25)).heap.size = w.heap.size + 1 by simp] at h
  exact h
 go_enter Tryz.func25, Tryz.ntmps25
 go_wp2_with fail
 generalize ((w.alloc (.cells #[.int .i64 0, .int .u64 0, .slice none 0 0, .int .i64 0] 25)).alloc (.cells #[.slice none 0 0, .slice none 0 0] 33)) = X0 at *
 refine (uReadP_any 66 3 n c A l publicP X0 (Lib.hid (hX.out.ext kA)) (Lib.hid fun h0 ad e => by have := hA.out h0 ad e; omega) hn (by omega) (HTAB.out.ext kA) (Lib.hid fun args w => by rfl) (Lib.hid fun p w1 => ptP p w1)).mono ?_
 intro e w1 h
 obtain ⟨n1, t1, AQ, m1, cQ, wd1, A2, m2, c2, A3, m3, c3, z1, rfl, hk⟩ : ∃ (n1 t1 : Nat) (AQ : Option Addr) (m1 cQ wd1 : Nat) (A2 : Option Addr) (m2 c2 : Nat) (A3 : Option Addr) (m3 c3 : Nat) (z1 : Nat), e = .returned (.tuple #[.agg #[.int .i64 (n1 : Int), .int .u64 (t1 : Int), .slice AQ m1 cQ, .int .i64 (wd1 : Int)], .agg #[.slice A2 m2 c2, .slice A3 m3 c3], .int .i64 (z1 : Int)]) ∧ Ext X0 w1 := by
  rcases h with ⟨pv, x, v, AQ, cQ, h1, he, hv, hp, h5⟩ | ⟨cc, h1, h2, h3, he, h5⟩
  ·obtain ⟨A2, m2, c2, A3, m3, c3, rfl⟩ := agg_pub hv
   exact ⟨pv.n, pv.t, AQ, pv.q.length, cQ, pv.w, A2, m2, c2, A3, m3, c3, 0, he, h5⟩
  ·exact ⟨0, 0, none, 0, 0, 0, none, 0, 0, none, 0, 0, cc, he, h5⟩
 have H := Lib.hid h
 clear h
 have q6 := r6.ext hk
 have a0 : w1.cell? ⟨w.heap.size, 0, none⟩ = some (.int .i64 0) := q6.cell (i := 0) (by omega)
 have a1 : w1.cell? ⟨w.heap.size, 1, none⟩ = some (.int .u64 0) := q6.cell (i := 1) (by omega)
 have a2 : w1.cell? ⟨w.heap.size, 2, none⟩ = some (.slice none 0 0) := q6.cell (i := 2) (by omega)
 have a3 : w1.cell? ⟨w.heap.size, 3, none⟩ = some (.int .i64 0) := q6.cell (i := 3) (by omega)
 have b0 := q6.frozen 0
 have b1 := q6.frozen 1
 have b2 := q6.frozen 2
 have b3 := q6.frozen 3
 have q7 := r7.ext hk
 have tc0 := q7.cell (i := 0) (by omega)
 have td0 := q7.frozen 0
 have tc1 := q7.cell (i := 1) (by omega)
 have td1 := q7.frozen 1
 have Q7 := Lib.hid q7
 clear q7
 have Q6 := Lib.hid q6
 clear q6
 go_wp2_with fail
 have p6 := Q6.out.set4 (.int .i64 (n1 : Int)) (.int .u64 (t1 : Int)) (.slice AQ m1 cQ) (.int .i64 (wd1 : Int))
 have P6 : RW ((((((w1.setCell ⟨w.heap.size, 0, none⟩ (.int .i64 (n1 : Int))).setCell ⟨w.heap.size, 1, none⟩ (.int .u64 (t1 : Int))).setCell ⟨w.heap.size, 2, none⟩ (.slice AQ m1 cQ)).setCell ⟨w.heap.size, 3, none⟩ (.int .i64 (wd1 : Int))).setCell ⟨(w.heap.size + 1), 0, none⟩ (.slice A2 m2 c2)).setCell ⟨(w.heap.size + 1), 1, none⟩ (.slice A3 m3 c3)) w.heap.size 25 4 (parF (.int .i64 (n1 : Int)) (.int .u64 (t1 : Int)) (.slice AQ m1 cQ) (.int .i64 (wd1 : Int))) := (RW.far (RW.far p6 (x := w.heap.size + 1) (by omega) (.slice A2 m2 c2)) (x := w.heap.size + 1) (by omega) (.slice A3 m3 c3))
 have e0 : ((((((w1.setCell ⟨w.heap.size, 0, none⟩ (.int .i64 (n1 : Int))).setCell ⟨w.heap.size, 1, none⟩ (.int .u64 (t1 : Int))).setCell ⟨w.heap.size, 2, none⟩ (.slice AQ m1 cQ)).setCell ⟨w.heap.size, 3, none⟩ (.int .i64 (wd1 : Int))).setCell ⟨(w.heap.size + 1), 0, none⟩ (.slice A2 m2 c2)).setCell ⟨(w.heap.size + 1), 1, none⟩ (.slice A3 m3 c3)).cell? ⟨w.heap.size, 0, none⟩ = some (.int .i64 (n1 : Int)) := P6.cell (i := 0) (by omega)
 have e1 : ((((((w1.setCell ⟨w.heap.size, 0, none⟩ (.int .i64 (n1 : Int))).setCell ⟨w.heap.size, 1, none⟩ (.int .u64 (t1 : Int))).setCell ⟨w.heap.size, 2, none⟩ (.slice AQ m1 cQ)).setCell ⟨w.heap.size, 3, none⟩ (.int .i64 (wd1 : Int))).setCell ⟨(w.heap.size + 1), 0, none⟩ (.slice A2 m2 c2)).setCell ⟨(w.heap.size + 1), 1, none⟩ (.slice A3 m3 c3)).cell? ⟨w.heap.size, 1, none⟩ = some (.int .u64 (t1 : Int)) := P6.cell (i := 1) (by omega)
 have e2 : ((((((w1.setCell ⟨w.heap.size, 0, none⟩ (.int .i64 (n1 : Int))).setCell ⟨w.heap.size, 1, none⟩ (.int .u64 (t1 : Int))).setCell ⟨w.heap.size, 2, none⟩ (.slice AQ m1 cQ)).setCell ⟨w.heap.size, 3, none⟩ (.int .i64 (wd1 : Int))).setCell ⟨(w.heap.size + 1), 0, none⟩ (.slice A2 m2 c2)).setCell ⟨(w.heap.size + 1), 1, none⟩ (.slice A3 m3 c3)).cell? ⟨w.heap.size, 2, none⟩ = some (.slice AQ m1 cQ) := P6.cell (i := 2) (by omega)
 have e3 : ((((((w1.setCell ⟨w.heap.size, 0, none⟩ (.int .i64 (n1 : Int))).setCell ⟨w.heap.size, 1, none⟩ (.int .u64 (t1 : Int))).setCell ⟨w.heap.size, 2, none⟩ (.slice AQ m1 cQ)).setCell ⟨w.heap.size, 3, none⟩ (.int .i64 (wd1 : Int))).setCell ⟨(w.heap.size + 1), 0, none⟩ (.slice A2 m2 c2)).setCell ⟨(w.heap.size + 1), 1, none⟩ (.slice A3 m3 c3)).cell? ⟨w.heap.size, 3, none⟩ = some (.int .i64 (wd1 : Int)) := P6.cell (i := 3) (by omega)
 have P7 : RW ((((w1.setCell ⟨w.heap.size, 0, none⟩ (.int .i64 (n1 : Int))).setCell ⟨w.heap.size, 1, none⟩ (.int .u64 (t1 : Int))).setCell ⟨w.heap.size, 2, none⟩ (.slice AQ m1 cQ)).setCell ⟨w.heap.size, 3, none⟩ (.int .i64 (wd1 : Int))) (w.heap.size + 1) 33 2 (fun _ => .slice none 0 0) := (RW.far (RW.far (RW.far (RW.far Q7.out (x := w.heap.size) (by omega) (.int .i64 (n1 : Int))) (x := w.heap.size) (by omega) (.int .u64 (t1 : Int))) (x := w.heap.size) (by omega) (.slice AQ m1 cQ)) (x := w.heap.size) (by omega) (.int .i64 (wd1 : Int)))
 obtain ⟨e4, e5⟩ := ret_two P7 (.slice A2 m2 c2) (.slice A3 m3 c3)
 have hkz : Keeps [22, 23] w1 ((((((w1.setCell ⟨w.heap.size, 0, none⟩ (.int .i64 (n1 : Int))).setCell ⟨w.heap.size, 1, none⟩ (.int .u64 (t1 : Int))).setCell ⟨w.heap.size, 2, none⟩ (.slice AQ m1 cQ)).setCell ⟨w.heap.size, 3, none⟩ (.int .i64 (wd1 : Int))).setCell ⟨(w.heap.size + 1), 0, none⟩ (.slice A2 m2 c2)).setCell ⟨(w.heap.size + 1), 1, none⟩ (.slice A3 m3 c3)) := (((((((Keeps.refl _ w1).trans (Keeps.set Q6.out (by decide) _)).trans (Keeps.set (Q6.out.set (show 0 < 4 by omega) (.int .i64 (n1 : Int))) (by decide) _)).trans (Keeps.set ((Q6.out.set (show 0 < 4 by omega) (.int .i64 (n1 : Int))).set (show 1 < 4 by omega) (.int .u64 (t1 : Int))) (by decide) _)).trans (Keeps.set (((Q6.out.set (show 0 < 4 by omega) (.int .i64 (n1 : Int))).set (show 1 < 4 by omega) (.int .u64 (t1 : Int))).set (show 2 < 4 by omega) (.slice AQ m1 cQ)) (by decide) _)).trans (Keeps.set P7 (by decide) _)).trans (Keeps.set (P7.set (show 0 < 2 by omega) (.slice A2 m2 c2)) (by decide) _))
 have hez : Ext w ((((((w1.setCell ⟨w.heap.size, 0, none⟩ (.int .i64 (n1 : Int))).setCell ⟨w.heap.size, 1, none⟩ (.int .u64 (t1 : Int))).setCell ⟨w.heap.size, 2, none⟩ (.slice AQ m1 cQ)).setCell ⟨w.heap.size, 3, none⟩ (.int .i64 (wd1 : Int))).setCell ⟨(w.heap.size + 1), 0, none⟩ (.slice A2 m2 c2)).setCell ⟨(w.heap.size + 1), 1, none⟩ (.slice A3 m3 c3)) := (ext_set (ext_set (ext_set (ext_set (ext_set (ext_set (kA.trans hk) (Nat.le_refl _) (.int .i64 (n1 : Int))) (Nat.le_refl _) (.int .u64 (t1 : Int))) (Nat.le_refl _) (.slice AQ m1 cQ)) (Nat.le_refl _) (.int .i64 (wd1 : Int))) (Nat.le_succ _) (.slice A2 m2 c2)) (Nat.le_succ _) (.slice A3 m3 c3))
 have HF : RPost (.agg #[.slice none 0 0, .slice none 0 0]) w (endP (headP 3 publicP l)) PubR (.returned (.tuple #[.agg #[.int .i64 (n1 : Int), .int .u64 (t1 : Int), .slice AQ m1 cQ, .int .i64 (wd1 : Int)], .agg #[.slice A2 m2 c2, .slice A3 m3 c3], .int .i64 (z1 : Int)])) ((((((w1.setCell ⟨w.heap.size, 0, none⟩ (.int .i64 (n1 : Int))).setCell ⟨w.heap.size, 1, none⟩ (.int .u64 (t1 : Int))).setCell ⟨w.heap.size, 2, none⟩ (.slice AQ m1 cQ)).setCell ⟨w.heap.size, 3, none⟩ (.int .i64 (wd1 : Int))).setCell ⟨(w.heap.size + 1), 0, none⟩ (.slice A2 m2 c2)).setCell ⟨(w.heap.size + 1), 1, none⟩ (.slice A3 m3 c3)) := by
  rcases H.out with ⟨pv, x, v, AQ', cQ', h1, he, hv, hp, h5⟩ | ⟨cc, h1, h2, h3, he, h5⟩
  ·injection he with he
   obtain ⟨g1, g2, g3⟩ := tuple3 he
   exact .inl ⟨pv, x, v, AQ', cQ', h1, by rw [g1, g2, g3], (pubR_stays (ts := [22, 23]) (by decide) (by decide)) _ _ _ x hkz hv, hp.keeps hkz (by decide), hez⟩
  ·exact .inr ⟨cc, h1, h2, h3, he, hez⟩
 generalize ((((((w1.setCell ⟨w.heap.size, 0, none⟩ (.int .i64 (n1 : Int))).setCell ⟨w.heap.size, 1, none⟩ (.int .u64 (t1 : Int))).setCell ⟨w.heap.size, 2, none⟩ (.slice AQ m1 cQ)).setCell ⟨w.heap.size, 3, none⟩ (.int .i64 (wd1 : Int))).setCell ⟨(w.heap.size + 1), 0, none⟩ (.slice A2 m2 c2)).setCell ⟨(w.heap.size + 1), 1, none⟩ (.slice A3 m3 c3)) = Z9 at *
 exact bodyPost_ret (v := .tuple #[.agg #[.int .i64 (n1 : Int), .int .u64 (t1 : Int), .slice AQ m1 cQ, .int .i64 (wd1 : Int)], .agg #[.slice A2 m2 c2, .slice A3 m3 c3], .int .i64 (z1 : Int)]) (by simp [results, Tryz.results25, go_sem, e0, e1, e2, e3, e4, e5]) rfl HF
set_option maxHeartbeats 8000000 in
theorem rdS_any (n c : Nat) (A : Option Addr) (l : List Nat) (w : World) (hX : Hid (BX w A n c l)) (hA : Hid (0 < n → ∀ ad, A = some ad → ad.block < w.heap.size)) (hn : n ≤ 100000) (hTab : Tabs w) :
    Calls Tryz.prog 26 #[.slice A n c] w (RPost (.slice none 0 0) w (endP (headP 4 secretP l)) SgR) := by
 have HTAB := Lib.hid hTab
 clear hTab
 have kA : Ext w (w.alloc (.cells #[.int .i64 0, .int .u64 0, .slice none 0 0, .int .i64 0] 25)) := ((Ext.refl w).alloc _)
 have hs0 : (w.alloc (.cells #[.int .i64 0, .int .u64 0, .slice none 0 0, .int .i64 0] 25)).heap.size = w.heap.size + 1 := by simp
 have r6 : RW (w.alloc (.cells #[.int .i64 0, .int .u64 0, .slice none 0 0, .int .i64 0] 25)) w.heap.size 25 4 (parF (.int .i64 0) (.int .u64 0) (.slice none 0 0) (.int .i64 0)) := (show RW (w.alloc (.cells #[.int .i64 0, .int .u64 0, .slice none 0 0, .int .i64 0] 25)) w.heap.size 25 4 (parF (.int .i64 0) (.int .u64 0) (.slice none 0 0) (.int .i64 0)) from heap_alloc_new w (.cells #[.int .i64 0, .int .u64 0, .slice none 0 0, .int .i64 0] 25))
 go_enter Tryz.func26, Tryz.ntmps26
 go_wp2_with fail
 generalize (w.alloc (.cells #[.int .i64 0, .int .u64 0, .slice none 0 0, .int .i64 0] 25)) = X0 at *
 refine (uReadS_any 68 4 n c A l secretP X0 (Lib.hid (hX.out.ext kA)) (Lib.hid fun h0 ad e => by have := hA.out h0 ad e; omega) hn (by omega) (HTAB.out.ext kA) (Lib.hid fun args w => by rfl) (Lib.hid fun p w1 => ptS p w1)).mono ?_
 intro e w1 h
 obtain ⟨n1, t1, AQ, m1, cQ, wd1, A2, m2, c2, z1, rfl, hk⟩ : ∃ (n1 t1 : Nat) (AQ : Option Addr) (m1 cQ wd1 : Nat) (A2 : Option Addr) (m2 c2 : Nat) (z1 : Nat), e = .returned (.tuple #[.agg #[.int .i64 (n1 : Int), .int .u64 (t1 : Int), .slice AQ m1 cQ, .int .i64 (wd1 : Int)], .slice A2 m2 c2, .int .i64 (z1 : Int)]) ∧ Ext X0 w1 := by
  rcases h with ⟨pv, x, v, AQ, cQ, h1, he, hv, hp, h5⟩ | ⟨cc, h1, h2, h3, he, h5⟩
  ·obtain ⟨A2, m2, c2, rfl⟩ := sl_sg hv
   exact ⟨pv.n, pv.t, AQ, pv.q.length, cQ, pv.w, A2, m2, c2, 0, he, h5⟩
  ·exact ⟨0, 0, none, 0, 0, 0, none, 0, 0, cc, he, h5⟩
 have H := Lib.hid h
 clear h
 have q6 := r6.ext hk
 have a0 : w1.cell? ⟨w.heap.size, 0, none⟩ = some (.int .i64 0) := q6.cell (i := 0) (by omega)
 have a1 : w1.cell? ⟨w.heap.size, 1, none⟩ = some (.int .u64 0) := q6.cell (i := 1) (by omega)
 have a2 : w1.cell? ⟨w.heap.size, 2, none⟩ = some (.slice none 0 0) := q6.cell (i := 2) (by omega)
 have a3 : w1.cell? ⟨w.heap.size, 3, none⟩ = some (.int .i64 0) := q6.cell (i := 3) (by omega)
 have b0 := q6.frozen 0
 have b1 := q6.frozen 1
 have b2 := q6.frozen 2
 have b3 := q6.frozen 3
 have Q6 := Lib.hid q6
 clear q6
 go_wp2_with fail
 have p6 := Q6.out.set4 (.int .i64 (n1 : Int)) (.int .u64 (t1 : Int)) (.slice AQ m1 cQ) (.int .i64 (wd1 : Int))
 have P6 : RW ((((w1.setCell ⟨w.heap.size, 0, none⟩ (.int .i64 (n1 : Int))).setCell ⟨w.heap.size, 1, none⟩ (.int .u64 (t1 : Int))).setCell ⟨w.heap.size, 2, none⟩ (.slice AQ m1 cQ)).setCell ⟨w.heap.size, 3, none⟩ (.int .i64 (wd1 : Int))) w.heap.size 25 4 (parF (.int .i64 (n1 : Int)) (.int .u64 (t1 : Int)) (.slice AQ m1 cQ) (.int .i64 (wd1 : Int))) := p6
 have e0 : ((((w1.setCell ⟨w.heap.size, 0, none⟩ (.int .i64 (n1 : Int))).setCell ⟨w.heap.size, 1, none⟩ (.int .u64 (t1 : Int))).setCell ⟨w.heap.size, 2, none⟩ (.slice AQ m1 cQ)).setCell ⟨w.heap.size, 3, none⟩ (.int .i64 (wd1 : Int))).cell? ⟨w.heap.size, 0, none⟩ = some (.int .i64 (n1 : Int)) := P6.cell (i := 0) (by omega)
 have e1 : ((((w1.setCell ⟨w.heap.size, 0, none⟩ (.int .i64 (n1 : Int))).setCell ⟨w.heap.size, 1, none⟩ (.int .u64 (t1 : Int))).setCell ⟨w.heap.size, 2, none⟩ (.slice AQ m1 cQ)).setCell ⟨w.heap.size, 3, none⟩ (.int .i64 (wd1 : Int))).cell? ⟨w.heap.size, 1, none⟩ = some (.int .u64 (t1 : Int)) := P6.cell (i := 1) (by omega)
 have e2 : ((((w1.setCell ⟨w.heap.size, 0, none⟩ (.int .i64 (n1 : Int))).setCell ⟨w.heap.size, 1, none⟩ (.int .u64 (t1 : Int))).setCell ⟨w.heap.size, 2, none⟩ (.slice AQ m1 cQ)).setCell ⟨w.heap.size, 3, none⟩ (.int .i64 (wd1 : Int))).cell? ⟨w.heap.size, 2, none⟩ = some (.slice AQ m1 cQ) := P6.cell (i := 2) (by omega)
 have e3 : ((((w1.setCell ⟨w.heap.size, 0, none⟩ (.int .i64 (n1 : Int))).setCell ⟨w.heap.size, 1, none⟩ (.int .u64 (t1 : Int))).setCell ⟨w.heap.size, 2, none⟩ (.slice AQ m1 cQ)).setCell ⟨w.heap.size, 3, none⟩ (.int .i64 (wd1 : Int))).cell? ⟨w.heap.size, 3, none⟩ = some (.int .i64 (wd1 : Int)) := P6.cell (i := 3) (by omega)
 have hkz : Keeps [2, 22] w1 ((((w1.setCell ⟨w.heap.size, 0, none⟩ (.int .i64 (n1 : Int))).setCell ⟨w.heap.size, 1, none⟩ (.int .u64 (t1 : Int))).setCell ⟨w.heap.size, 2, none⟩ (.slice AQ m1 cQ)).setCell ⟨w.heap.size, 3, none⟩ (.int .i64 (wd1 : Int))) := (((((Keeps.refl _ w1).trans (Keeps.set Q6.out (by decide) _)).trans (Keeps.set (Q6.out.set (show 0 < 4 by omega) (.int .i64 (n1 : Int))) (by decide) _)).trans (Keeps.set ((Q6.out.set (show 0 < 4 by omega) (.int .i64 (n1 : Int))).set (show 1 < 4 by omega) (.int .u64 (t1 : Int))) (by decide) _)).trans (Keeps.set (((Q6.out.set (show 0 < 4 by omega) (.int .i64 (n1 : Int))).set (show 1 < 4 by omega) (.int .u64 (t1 : Int))).set (show 2 < 4 by omega) (.slice AQ m1 cQ)) (by decide) _))
 have hez : Ext w ((((w1.setCell ⟨w.heap.size, 0, none⟩ (.int .i64 (n1 : Int))).setCell ⟨w.heap.size, 1, none⟩ (.int .u64 (t1 : Int))).setCell ⟨w.heap.size, 2, none⟩ (.slice AQ m1 cQ)).setCell ⟨w.heap.size, 3, none⟩ (.int .i64 (wd1 : Int))) := (ext_set (ext_set (ext_set (ext_set (kA.trans hk) (Nat.le_refl _) (.int .i64 (n1 : Int))) (Nat.le_refl _) (.int .u64 (t1 : Int))) (Nat.le_refl _) (.slice AQ m1 cQ)) (Nat.le_refl _) (.int .i64 (wd1 : Int)))
 have HF : RPost (.slice none 0 0) w (endP (headP 4 secretP l)) SgR (.returned (.tuple #[.agg #[.int .i64 (n1 : Int), .int .u64 (t1 : Int), .slice AQ m1 cQ, .int .i64 (wd1 : Int)], .slice A2 m2 c2, .int .i64 (z1 : Int)])) ((((w1.setCell ⟨w.heap.size, 0, none⟩ (.int .i64 (n1 : Int))).setCell ⟨w.heap.size, 1, none⟩ (.int .u64 (t1 : Int))).setCell ⟨w.heap.size, 2, none⟩ (.slice AQ m1 cQ)).setCell ⟨w.heap.size, 3, none⟩ (.int .i64 (wd1 : Int))) := by
  rcases H.out with ⟨pv, x, v, AQ', cQ', h1, he, hv, hp, h5⟩ | ⟨cc, h1, h2, h3, he, h5⟩
  ·injection he with he
   obtain ⟨g1, g2, g3⟩ := tuple3 he
   exact .inl ⟨pv, x, v, AQ', cQ', h1, by rw [g1, g2, g3], (sgR_stays (ts := [2, 22]) (by decide)) _ _ _ x hkz hv, hp.keeps hkz (by decide), hez⟩
  ·exact .inr ⟨cc, h1, h2, h3, he, hez⟩
 generalize ((((w1.setCell ⟨w.heap.size, 0, none⟩ (.int .i64 (n1 : Int))).setCell ⟨w.heap.size, 1, none⟩ (.int .u64 (t1 : Int))).setCell ⟨w.heap.size, 2, none⟩ (.slice AQ m1 cQ)).setCell ⟨w.heap.size, 3, none⟩ (.int .i64 (wd1 : Int))) = Z9 at *
 exact bodyPost_ret (v := .tuple #[.agg #[.int .i64 (n1 : Int), .int .u64 (t1 : Int), .slice AQ m1 cQ, .int .i64 (wd1 : Int)], .slice A2 m2 c2, .int .i64 (z1 : Int)]) (by simp [results, Tryz.results26, go_sem, e0, e1, e2, e3]) rfl HF
def R0Post (w : World) (res : Except Nat (PV × Unit)) (e : Ending) (w' : World) : Prop :=
 (∃ pv AQ cQ, res = .ok (pv, ()) ∧ e = .returned (.tuple #[.agg #[.int .i64 (pv.n : Int), .int .u64 (pv.t : Int), .slice AQ pv.q.length cQ, .int .i64 (pv.w : Int)], .int .i64 0]) ∧ PVok w' pv AQ cQ ∧ Ext w w') ∨
 (∃ c : Nat, res = .error c ∧ 0 < c ∧ c ≤ 14 ∧ e = .returned (.tuple #[.agg #[.int .i64 0, .int .u64 0, .slice none 0 0, .int .i64 0], .int .i64 (c : Int)]) ∧ Ext w w')
set_option maxHeartbeats 8000000 in
theorem rdN_any (n c : Nat) (A : Option Addr) (l : List Nat) (w : World) (hX : Hid (BX w A n c l)) (hA : Hid (0 < n → ∀ ad, A = some ad → ad.block < w.heap.size)) (hn : n ≤ 100000) (hTab : Tabs w) :
    Calls Tryz.prog 23 #[.slice A n c] w (R0Post w (endP (headP 1 (fun _ l => .ok ((), l)) l))) := by
 have HTAB := Lib.hid hTab
 clear hTab
 have kA : Ext w (w.alloc (.cells #[.int .i64 0, .int .u64 0, .slice none 0 0, .int .i64 0] 25)) := (Ext.refl w).alloc _
 have hs0 : (w.alloc (.cells #[.int .i64 0, .int .u64 0, .slice none 0 0, .int .i64 0] 25)).heap.size = w.heap.size + 1 := by simp
 have r6 : RW (w.alloc (.cells #[.int .i64 0, .int .u64 0, .slice none 0 0, .int .i64 0] 25)) w.heap.size 25 4 (parF (.int .i64 0) (.int .u64 0) (.slice none 0 0) (.int .i64 0)) := heap_alloc_new w _
 obtain ⟨f, hf⟩ : ∃ f : PV → Pr Unit, f = (fun _ l => .ok ((), l)) := ⟨_, rfl⟩
 rw [← hf]
 have hpt : ∀ p w1, PtBy 62 p (.agg #[]) w1 f NoR := fun p w1 => by rw [hf]; exact ptN p w1
 have HPT := Lib.hid hpt
 clear hpt hf
 go_enter Tryz.func23, Tryz.ntmps23
 go_wp2_with fail
 generalize w.alloc (.cells #[.int .i64 0, .int .u64 0, .slice none 0 0, .int .i64 0] 25) = X0 at *
 refine (uReadN_any 62 1 n c A l f X0 (Lib.hid (hX.out.ext kA)) (Lib.hid fun h0 ad e => by have := hA.out h0 ad e; omega) hn (by omega) (HTAB.out.ext kA) (Lib.hid fun args w => by rfl) HPT).mono ?_
 intro e w1 h
 obtain ⟨n1, t1, AQ, m1, cQ, wd1, z1, rfl, hk⟩ : ∃ (n1 t1 : Nat) (AQ : Option Addr) (m1 cQ wd1 : Nat) (z1 : Nat), e = .returned (.tuple #[.agg #[.int .i64 (n1 : Int), .int .u64 (t1 : Int), .slice AQ m1 cQ, .int .i64 (wd1 : Int)], .agg #[], .int .i64 (z1 : Int)]) ∧ Ext X0 w1 := by
  rcases h with ⟨pv, x, v, AQ, cQ, h1, he, hv, hp, h5⟩ | ⟨cc, h1, h2, h3, he, h5⟩
  ·obtain rfl : v = .agg #[] := hv
   exact ⟨pv.n, pv.t, AQ, pv.q.length, cQ, pv.w, 0, he, h5⟩
  ·exact ⟨0, 0, none, 0, 0, 0, cc, he, h5⟩
 have H := Lib.hid h
 clear h
 have hsz := hk.size
 have kY : Ext w1 ((w1.alloc (.cells #[.int .i64 (n1 : Int), .int .u64 (t1 : Int), .slice AQ m1 cQ, .int .i64 (wd1 : Int)] 25)).alloc (.cells #[] 82)) := ((Ext.refl w1).alloc _).alloc _
 have q6 := (r6.ext hk).ext kY
 have a0 := q6.cell (i := 0) (by omega)
 have a1 := q6.cell (i := 1) (by omega)
 have a2 := q6.cell (i := 2) (by omega)
 have a3 := q6.cell (i := 3) (by omega)
 simp only [parF, if_true, show ¬ (1 = 0) by omega, show ¬ (2 = 0) by omega, show ¬ (2 = 1) by omega, show ¬ (3 = 0) by omega, show ¬ (3 = 1) by omega, show ¬ (3 = 2) by omega, if_false] at a0 a1 a2 a3
 have b0 := q6.frozen 0
 have b1 := q6.frozen 1
 have b2 := q6.frozen 2
 have b3 := q6.frozen 3
 have Q6 := Lib.hid q6
 clear q6
 go_wp2_with fail
 generalize (w1.alloc (.cells #[.int .i64 (n1 : Int), .int .u64 (t1 : Int), .slice AQ m1 cQ, .int .i64 (wd1 : Int)] 25)).alloc (.cells #[] 82) = Y at *
 have P6 := Q6.out.set4 (.int .i64 (n1 : Int)) (.int .u64 (t1 : Int)) (.slice AQ m1 cQ) (.int .i64 (wd1 : Int))
 have e0 := P6.cell (i := 0) (by omega)
 have e1 := P6.cell (i := 1) (by omega)
 have e2 := P6.cell (i := 2) (by omega)
 have e3 := P6.cell (i := 3) (by omega)
 simp only [parF, if_true, show ¬ (1 = 0) by omega, show ¬ (2 = 0) by omega, show ¬ (2 = 1) by omega, show ¬ (3 = 0) by omega, show ¬ (3 = 1) by omega, show ¬ (3 = 2) by omega, if_false] at e0 e1 e2 e3
 have hez : Ext w ((((Y.setCell ⟨w.heap.size, 0, none⟩ (.int .i64 (n1 : Int))).setCell ⟨w.heap.size, 1, none⟩ (.int .u64 (t1 : Int))).setCell ⟨w.heap.size, 2, none⟩ (.slice AQ m1 cQ)).setCell ⟨w.heap.size, 3, none⟩ (.int .i64 (wd1 : Int))) :=
  ext_set (ext_set (ext_set (ext_set ((kA.trans hk).trans kY) (Nat.le_refl _) _) (Nat.le_refl _) _) (Nat.le_refl _) _) (Nat.le_refl _) _
 have hkz : Keeps [22] w1 ((((Y.setCell ⟨w.heap.size, 0, none⟩ (.int .i64 (n1 : Int))).setCell ⟨w.heap.size, 1, none⟩ (.int .u64 (t1 : Int))).setCell ⟨w.heap.size, 2, none⟩ (.slice AQ m1 cQ)).setCell ⟨w.heap.size, 3, none⟩ (.int .i64 (wd1 : Int))) :=
  ((((Keeps.ext kY).trans (Keeps.set Q6.out (by decide) _)).trans (Keeps.set (Q6.out.set (show 0 < 4 by omega) _) (by decide) _)).trans (Keeps.set ((Q6.out.set (show 0 < 4 by omega) _).set (show 1 < 4 by omega) _) (by decide) _)).trans (Keeps.set (((Q6.out.set (show 0 < 4 by omega) _).set (show 1 < 4 by omega) _).set (show 2 < 4 by omega) _) (by decide) _)
 have HF : R0Post w (endP (headP 1 f l)) (.returned (.tuple #[.agg #[.int .i64 (n1 : Int), .int .u64 (t1 : Int), .slice AQ m1 cQ, .int .i64 (wd1 : Int)], .int .i64 (z1 : Int)])) ((((Y.setCell ⟨w.heap.size, 0, none⟩ (.int .i64 (n1 : Int))).setCell ⟨w.heap.size, 1, none⟩ (.int .u64 (t1 : Int))).setCell ⟨w.heap.size, 2, none⟩ (.slice AQ m1 cQ)).setCell ⟨w.heap.size, 3, none⟩ (.int .i64 (wd1 : Int))) := by
  rcases H.out with ⟨pv, x, v, AQ', cQ', h1, he, hv, hp, h5⟩ | ⟨cc, h1, h2, h3, he, h5⟩
  ·injection he with he
   obtain ⟨g1, g2, g3⟩ := tuple3 he
   exact .inl ⟨pv, AQ', cQ', h1, by rw [g1, g3], hp.keeps hkz (by decide), hez⟩
  ·injection he with he
   obtain ⟨g1, g2, g3⟩ := tuple3 he
   exact .inr ⟨cc, h1, h2, h3, by rw [g1, g3], hez⟩
 generalize (((Y.setCell ⟨w.heap.size, 0, none⟩ (.int .i64 (n1 : Int))).setCell ⟨w.heap.size, 1, none⟩ (.int .u64 (t1 : Int))).setCell ⟨w.heap.size, 2, none⟩ (.slice AQ m1 cQ)).setCell ⟨w.heap.size, 3, none⟩ (.int .i64 (wd1 : Int)) = Z9 at *
 exact bodyPost_ret (v := .tuple #[.agg #[.int .i64 (n1 : Int), .int .u64 (t1 : Int), .slice AQ m1 cQ, .int .i64 (wd1 : Int)], .int .i64 (z1 : Int)]) (by simp [results, Tryz.results23, go_sem, e0, e1, e2, e3]) rfl HF
def rrF (v : Value) (e : Nat) (i : Nat) : Value := if i = 0 then v else .int .i64 (e : Int)
def RR (w : World) (p : Nat) : Except Nat (List Nat) → Prop
 | .ok l => ∃ A c, RW w p 128 2 (rrF (.slice A l.length c) 0) ∧ BX w A l.length c l ∧ (0 < l.length → Asd p A) ∧ l.length ≤ 100000
 | .error e => ∃ A n c, RW w p 128 2 (rrF (.slice A n c) e) ∧ 0 < e ∧ e ≤ 14
theorem RR.row {w : World} {p : Nat} {s : Except Nat (List Nat)} (h : RR w p s) : ∃ F, RW w p 128 2 F := by
 rcases s with e | l
 ·obtain ⟨A, n, c, h1, _⟩ := h
  exact ⟨_, h1⟩
 ·obtain ⟨A, c, h1, _⟩ := h
  exact ⟨_, h1⟩
theorem RR.lt {w : World} {p : Nat} {s : Except Nat (List Nat)} (h : RR w p s) : p < w.heap.size := by
 obtain ⟨F, h⟩ := h.row
 exact h.lt
theorem RR.below {w w' : World} {p : Nat} {s : Except Nat (List Nat)} (h : RR w p s) (hs : w.heap.size ≤ w'.heap.size) (hb : ∀ i, i ≤ p → w'.heap[i]? = w.heap[i]?) : RR w' p s := by
 rcases s with e | l
 ·obtain ⟨A, n, c, h1, h2⟩ := h
  exact ⟨A, n, c, RW.keep h1 (hb p (Nat.le_refl _)), h2⟩
 ·obtain ⟨A, c, h1, h2, h3, h4⟩ := h
  refine ⟨A, c, RW.keep h1 (hb p (Nat.le_refl _)), ⟨h2.len, h2.room, h2.lt, fun hn => ?_⟩, h3, h4⟩
  obtain ⟨ad, rfl, hl, hc⟩ := h2.cells hn
  refine ⟨ad, rfl, by omega, fun j x hx => (World.cell?_of_block ?_).trans (hc j x hx)⟩
  rw [add_block]
  exact hb _ (Nat.le_of_lt (h3 hn ad rfl))
theorem RR.ext {w w' : World} {p : Nat} {s : Except Nat (List Nat)} (h : RR w p s) (k : Ext w w') : RR w' p s := h.below k.size fun i hi => k.block i (by have := h.lt; omega)
theorem RR.grown {w w' : World} {p : Nat} {s : Except Nat (List Nat)} {row : Option Nat} (h : RR w p s) (hg : w.grownBy w' row) (hr : ∀ k, row = some k → p < k) : RR w' p s :=
 h.below hg.size fun i hi => hg.block i (by have := h.lt; omega) (fun e => by have := hr i e.symm; omega)
theorem RR.setFar {w : World} {p g o : Nat} {s : Except Nat (List Nat)} (h : RR w p s) (hg : p < g) (v : Value) : RR (w.setCell ⟨g, o, none⟩ v) p s :=
 h.below (by simp [World.setCell]) fun i hi => Below.heap_setCell _ _ _ _ (fun e => by simp at e; omega)
theorem RR.keeps {w w' : World} {p : Nat} {s : Except Nat (List Nat)} {ts : List TypeId} (h : RR w p s) (k : On p w w') (ht : 128 ∉ ts) : Keeps ts w w' := by
 obtain ⟨F, h⟩ := h.row
 exact Keeps.on k h ht
def stp {α : Type} (s : Except Nat (List Nat)) (f : Pr α) : Except Nat (α × List Nat) := match s with
 | .error e => .error e
 | .ok l => f l
def restS {α : Type} : Except Nat (α × List Nat) → Except Nat (List Nat)
 | .error e => .error e
 | .ok (_, r) => .ok r
def rErrS : Except Nat (List Nat) → Nat
 | .error e => e
 | .ok _ => 0
theorem RR.err {w : World} {p : Nat} {s : Except Nat (List Nat)} (h : RR w p s) : w.cell? ⟨p, 1, none⟩ = some (.int .i64 (rErrS s : Int)) := by
 rcases s with e | l
 ·obtain ⟨A, n, c, h1, _⟩ := h
  exact h1.cell (i := 1) (by omega)
 ·obtain ⟨A, c, h1, _⟩ := h
  exact h1.cell (i := 1) (by omega)
theorem RR.z {w : World} {p : Nat} {s : Except Nat (List Nat)} (h : RR w p s) (i : Nat) : w.frozen? ⟨p, i, none⟩ = false := by
 obtain ⟨F, h⟩ := h.row
 exact h.frozen i
theorem RR.fail {w : World} {p : Nat} {l : List Nat} (h : RR w p (.ok l)) {e : Nat} (h0 : 0 < e) (h1 : e ≤ 14) : RR (w.setCell ⟨p, 1, none⟩ (.int .i64 (e : Int))) p (.error e) := by
 obtain ⟨A, c, h2, _⟩ := h
 refine ⟨A, l.length, c, (h2.set (show 1 < 2 by omega) _).congr fun j hj => ?_, h0, h1⟩
 unfold rrF
 rcases (show j = 0 ∨ j = 1 by omega) with rfl | rfl <;> simp
def NmPost (p size : Nat) (w : World) (res : Except Nat (Nat × List Nat)) (e : Ending) (w' : World) : Prop :=
 ∃ v : Nat, (∀ x r, res = .ok (x, r) → v = x) ∧ (∀ c, res = .error c → v = 0) ∧ e = .returned (.int .u64 (v : Int)) ∧ v < 256 ^ size ∧ RR w' p (restS res) ∧ On p w w'
theorem wrap_add (v x : Nat) (hv : v < 72057594037927936) (hx : x < 256) : IntKind.u64.wrap (IntKind.u64.wrap ((v : Int) * 256) + (x : Int)) = ((v * 256 + x : Nat) : Int) := by
 rw [IntKind.wrap_u64, IntKind.wrap_u64]; omega
set_option maxHeartbeats 2000000 in
theorem rNum_any (size p : Nat) (s : Except Nat (List Nat)) (w : World) (hT : Hid (RR w p s)) (hs0 : 1 ≤ size) (hs : size ≤ 8) :
    Calls Tryz.prog 71 #[.pointer (some ⟨p, 0, none⟩), .int .i64 (size : Int)] w (NmPost p size w (stp s (numP size))) := by
 have hsz := hT.out.lt
 have x1 := hT.out.err
 rcases s with e | l
 ·have HE := Lib.hid (show stp (.error e) (numP size) = .error e from rfl)
  obtain ⟨A0, n0, c0, h1, h2, h3⟩ := hT.out
  have i1 : ¬ (e : Int) = 0 := by omega
  rw [show rErrS (.error e) = e from rfl] at x1
  clear h1
  go_enter Tryz.func71, Tryz.ntmps71
  go_wp2
  go_ret
  exact ⟨0, (fun x r h => by rw [HE.out] at h; cases h), (fun _ _ => rfl), rfl, Nat.pow_pos (by omega), by rw [HE.out]; exact hT.out, On.refl _ _⟩
 ·rw [show rErrS (.ok l) = 0 from rfl] at x1
  obtain ⟨A, c, h1, h2, h3, hl⟩ := hT.out
  have c0 := h1.cell (i := 0) (by omega)
  have z0 := h1.frozen 0
  have z1 := h1.frozen 1
  rw [show rrF (.slice A l.length c) 0 0 = .slice A l.length c from rfl] at c0
  have hr := h2.room
  obtain ⟨n, hn⟩ : ∃ n, n = l.length := ⟨_, rfl⟩
  rw [← hn] at c0 hr hl
  by_cases hlt : n < size
  ·have HE := Lib.hid (show stp (.ok l) (numP size) = .error 2 by unfold stp numP; simp only; rw [if_pos (by omega)])
   have i1 : (n : Int) < (size : Int) := by omega
   have i2 : decide ((n : Int) < (size : Int)) = true := by simp; omega
   have HF := Lib.hid (show RR (w.setCell ⟨p, 1, none⟩ (.int .i64 2)) p (.error 2) from hT.out.fail (e := 2) (by omega) (by omega))
   have HO := Lib.hid ((On.refl p w).set 1 (.int .i64 2))
   clear h1 h2 h3 hn
   go_enter Tryz.func71, Tryz.ntmps71
   go_wp2
   go_ret
   exact ⟨0, (fun x r h => by rw [HE.out] at h; cases h), (fun _ _ => rfl), rfl, Nat.pow_pos (by omega), by rw [HE.out]; exact HF.out, HO.out⟩
  ·have HE := Lib.hid (show stp (.ok l) (numP size) = .ok (be (l.take size), l.drop size) by unfold stp numP; simp only; rw [if_neg (by omega)])
   obtain ⟨ad, rfl, hb, hc⟩ := h2.cells (by omega)
   have i2 : decide ((n : Int) < (size : Int)) = false := by simp; omega
   have HC := Lib.hid hc
   have HL := Lib.hid h2.lt
   have HN := Lib.hid hn
   have H1 := Lib.hid h1
   have H2 := Lib.hid h2
   have H3 := Lib.hid h3
   have hba : ∀ k, k ≤ size → be (l.take k) < 256 ^ k := fun k hk => be_small (fun x hx => h2.lt x (List.mem_of_mem_take hx)) (by rw [List.length_take]; omega)
   have HB := Lib.hid hba
   clear h1 h2 h3 hc hn hba
   go_enter Tryz.func71, Tryz.ntmps71
   go_wp2
   go_loop [5, 30] (fun v iv => ∃ k : Nat, k ≤ size ∧ iv = .int .i64 (k : Int) ∧ v = .int .u64 ((be (l.take k) : Nat) : Int)) (fun _ iv => size - (intOf iv).toNat)
   case atStart => exact ⟨0, by omega, rfl, rfl⟩
   case round =>
    obtain ⟨k, hk, rfl, rfl⟩ := hrel
    by_cases hlt2 : k < size
    ·obtain ⟨x, hx⟩ : ∃ x, l[k]? = some x := ⟨_, List.getElem?_eq_getElem (show k < l.length by have := HN.out; omega)⟩
     have hcell := HC.out k x hx
     have hx1 := HL.out x (List.mem_of_getElem? hx)
     have HX := Lib.hid (be_take hx)
     clear hx
     have hv : be (l.take k) < 72057594037927936 := Nat.lt_of_lt_of_le (HB.out k (by omega)) (Nat.le_trans (Nat.pow_le_pow_right (by omega) (show k ≤ 7 by omega)) (by decide))
     obtain ⟨v, hv0⟩ : ∃ v, v = be (l.take k) := ⟨_, rfl⟩
     rw [← hv0] at HX hv ⊢
     have e1 := wrap_add v x hv hx1
     clear hv0
     go_wp2
     exact ⟨⟨k + 1, by omega, by go_num, by rw [HX.out]; first | rfl | (congr 1; omega) | (congr 1; first | exact e1 | (simp at e1 ⊢; omega))⟩, by simp [intOf]; omega⟩
    ·obtain rfl : k = size := by omega
     obtain ⟨v, hv0⟩ : ∃ v, v = be (l.take k) := ⟨_, rfl⟩
     have HV := Lib.hid hv0
     rw [← hv0]
     clear hv0
     have hdl : (l.drop k).length = n - k := by rw [List.length_drop, ← HN.out]
     have hvw : v < 256 ^ k := by rw [HV.out]; exact be_small (fun x hx => HL.out x (List.mem_of_mem_take hx)) (by rw [List.length_take]; have := HN.out; omega)
     have key : ∀ A' m, Hid (c - k = m) → Hid (∀ ad', some ad = some ad' → k < n → A' = some (ad'.add k)) → Hid (Asd p A') → Hid (NmPost p k w (stp (.ok l) (numP k)) (.returned (.int .u64 (v : Int))) (w.setCell ⟨p, 0, none⟩ (.slice A' (n - k) m))) := by
      intro A' m hm hA hd
      have h9 : On p w (w.setCell ⟨p, 0, none⟩ (.slice A' (n - k) m)) := (On.refl p w).set 0 _
      refine Lib.hid ⟨v, fun x r h => ?_, fun c h => ?_, rfl, hvw, ?_, h9⟩
      ·rw [HE.out] at h; injection h with h; injection h with h _; rw [HV.out]; exact h
      ·rw [HE.out] at h; cases h
      ·rw [HE.out]
       refine ⟨A', m, ?_, ?_, fun _ => hd.out, by omega⟩
       ·rw [hdl]
        refine (H1.out.set (show 0 < 2 by omega) _).congr fun j hj => ?_
        unfold rrF
        by_cases e : j = 0
        ·subst e; simp
        ·simp [e]
       ·rw [hdl, ← hm.out]
        have := H2.out.drop (k := k) (by rw [← HN.out]; omega) (A' := A') (fun ad' e hk => hA.out ad' e (by rw [HN.out]; exact hk))
        rw [← HN.out] at this
        rw [hm.out] at this ⊢
        exact this.on h9 (fun _ => hd.out)
     clear hdl
     by_cases hc1 : c = k
     ·subst hc1
      have hK := key (some ad) 0 (Lib.hid (by omega)) (Lib.hid fun ad' e h => by omega) (Lib.hid (H3.out (by have := HN.out; omega)))
      clear key
      rw [show n - c = 0 by omega] at hK
      go_wp2
      go_ret
      exact hK.out
     ·have hK := key (some (ad.add k)) (c - k) (Lib.hid rfl) (Lib.hid fun ad' e h => by injection e with e; rw [e]) (Lib.hid fun ad' e => by injection e with e; rw [← e, add_block]; exact H3.out (by have := HN.out; omega) ad rfl)
      clear key
      have had : ad.add k = ⟨ad.block, ad.off + k, none⟩ := by unfold Addr.add; rw [if_neg (by omega)]
      rw [had] at hK
      go_wp2
      go_ret
      exact hK.out
def failS (s : Except Nat (List Nat)) (b : Bool) (c : Nat) : Except Nat (List Nat) := match s with
 | .error e => .error e
 | .ok l => if b then .error c else .ok l
set_option maxHeartbeats 2000000 in
theorem rFail_any (p c : Nat) (b : Bool) (s : Except Nat (List Nat)) (w : World) (hT : Hid (RR w p s)) (hc0 : 0 < c) (hc : c ≤ 14) :
    Calls Tryz.prog 72 #[.pointer (some ⟨p, 0, none⟩), .bool b, .int .i64 (c : Int)] w fun e w' => e = .returned (.tuple #[]) ∧ RR w' p (failS s b c) ∧ On p w w' := by
 have x1 := hT.out.err
 have z1 := hT.out.z 1
 rcases s with e | l
 ·obtain ⟨A0, n0, c0, h1, h2, h3⟩ := hT.out
  have i1 : ((e : Int) == 0) = false := by simp; omega
  have i2 : ¬ (e : Int) = 0 := by omega
  rw [show rErrS (.error e) = e from rfl] at x1
  clear h1
  go_enter Tryz.func72, Tryz.ntmps72
  go_wp2
  exact bodyPost_end (v := .tuple #[]) (by simp [results, Tryz.results72, go_sem]) rfl ⟨rfl, hT.out, On.refl _ _⟩
 ·rw [show rErrS (.ok l) = 0 from rfl] at x1
  have HF := Lib.hid (hT.out.fail (e := c) hc0 hc)
  have HO := Lib.hid ((On.refl p w).set 1 (.int .i64 (c : Int)))
  cases b
  ·go_enter Tryz.func72, Tryz.ntmps72
   go_wp2
   exact bodyPost_end (v := .tuple #[]) (by simp [results, Tryz.results72, go_sem]) rfl ⟨rfl, hT.out, On.refl _ _⟩
  ·go_enter Tryz.func72, Tryz.ntmps72
   go_wp2
   exact bodyPost_end (v := .tuple #[]) (by simp [results, Tryz.results72, go_sem]) rfl ⟨rfl, HF.out, HO.out⟩
end Go.Proofs.YtkbcobjhlpjieaaGreatDoor
