import Derived.Test.YtopbibfpjgjalaaGreatDoorZ47
import Derived.Test.YtopbibfpjgjalaaGreatDoorZ45
import Derived.Test.YtopbibfpjgjalaaGreatDoorZ35
import Derived.Test.YtopbibfpjgjalaaGreatDoorZCApp
namespace Go.Proofs.YtopbibfpjgjalaaGreatDoor
open Go.RowKit
set_option linter.unusedVariables false
set_option maxRecDepth 100000
def parV (N : Int) (T : Nat) (A : Option Addr) (L c : Nat) (Wd : Int) (i : Nat) : Value := if i = 0 then .int .i64 N else if i = 1 then .int .u64 (T : Int) else if i = 2 then .slice A L c else .int .i64 Wd
def pubV (GB GA L : Nat) (i : Nat) : Value := if i = 0 then .slice (some ⟨GB, 0, none⟩) L L else .slice (some ⟨GA, 0, none⟩) L L
theorem ElsAt.onT {V W : World} {g : Nat} {l : List Nat} (hr : Tp V g l) (ho : On g V W) {x m L n : Nat} {Gs : Nat → Nat} {Bs : Nat → Nat → Option Addr} {cs : Nat → Nat → Nat} {Fe : Nat → Nat → Nat → Nat} (h : ElsAt V x m L n Gs Bs cs Fe) : ElsAt W x m L n Gs Bs cs Fe := ⟨h.1.onT hr ho (by decide), fun j hj => (h.2 j hj).onT hr ho⟩
structure Sta (w : World) (Pb Kb n T L cq wd GB GA d : Nat) (A Bs : Option Addr) (q : Nat → Nat) (A1 A2 : Nat → Option Addr) (c1 c2 : Nat → Nat) (FB FA : Nat → Nat → Nat) (v : Nat → Int) : Prop where
 tb : Tabs w
 pr : RW w Pb 28 4 (parV (n : Int) T A L cq (wd : Int))
 kr : RW w Kb 58 2 (pubV GB GA L)
 pa : PA w (n : Int) T A L cq (wd : Int) q
 pB : PM w GB L n A1 c1 FB
 pA : PM w GA L n A2 c2 FA
 sx : VX w Bs n d v
section
variable {V W : World} {Pb Kb n T L cq wd GB GA d : Nat} {A Bs : Option Addr} {q : Nat → Nat} {A1 A2 : Nat → Option Addr} {c1 c2 : Nat → Nat} {FB FA : Nat → Nat → Nat} {v : Nat → Int}
theorem Sta.ext (h : Sta V Pb Kb n T L cq wd GB GA d A Bs q A1 A2 c1 c2 FB FA v) (k : Ext V W) : Sta W Pb Kb n T L cq wd GB GA d A Bs q A1 A2 c1 c2 FB FA v := ⟨h.tb.ext k, h.pr.ext k, h.kr.ext k, h.pa.ext k, h.pB.ext k, h.pA.ext k, h.sx.ext k⟩
theorem Sta.onT {g : Nat} {l : List Nat} (hr : Tp V g l) (ho : On g V W) (h : Sta V Pb Kb n T L cq wd GB GA d A Bs q A1 A2 c1 c2 FB FA v) : Sta W Pb Kb n T L cq wd GB GA d A Bs q A1 A2 c1 c2 FB FA v := ⟨h.tb.onT hr ho, h.pr.onT hr ho (by decide), h.kr.onT hr ho (by decide), h.pa.onT hr ho, h.pB.onT hr ho, h.pA.onT hr ho, h.sx.onT hr ho⟩
theorem Sta.x0 (h : Sta V Pb Kb n T L cq wd GB GA d A Bs q A1 A2 c1 c2 FB FA v) : V.cell? ⟨Pb, 0, none⟩ = some (.int .i64 (n : Int)) := h.pr.cell (i := 0) (by omega)
theorem Sta.x1 (h : Sta V Pb Kb n T L cq wd GB GA d A Bs q A1 A2 c1 c2 FB FA v) : V.cell? ⟨Pb, 1, none⟩ = some (.int .u64 (T : Int)) := h.pr.cell (i := 1) (by omega)
theorem Sta.x2 (h : Sta V Pb Kb n T L cq wd GB GA d A Bs q A1 A2 c1 c2 FB FA v) : V.cell? ⟨Pb, 2, none⟩ = some (.slice A L cq) := h.pr.cell (i := 2) (by omega)
theorem Sta.x3 (h : Sta V Pb Kb n T L cq wd GB GA d A Bs q A1 A2 c1 c2 FB FA v) : V.cell? ⟨Pb, 3, none⟩ = some (.int .i64 (wd : Int)) := h.pr.cell (i := 3) (by omega)
theorem Sta.kb (h : Sta V Pb Kb n T L cq wd GB GA d A Bs q A1 A2 c1 c2 FB FA v) : V.cell? ⟨Kb, 0, none⟩ = some (.slice (some ⟨GB, 0, none⟩) L L) := h.kr.cell (i := 0) (by omega)
theorem Sta.ka (h : Sta V Pb Kb n T L cq wd GB GA d A Bs q A1 A2 c1 c2 FB FA v) : V.cell? ⟨Kb, 1, none⟩ = some (.slice (some ⟨GA, 0, none⟩) L L) := h.kr.cell (i := 1) (by omega)
end
structure Num0 (n T L wd : Nat) (q : Nat → Nat) : Prop where
 n0 : 8 ≤ n
 n1 : n ≤ 32
 l0 : 2 ≤ L
 l1 : L ≤ 5
 w0 : 1 ≤ wd
 w1 : wd ≤ 16
 t0 : 97 ≤ T
 t1 : T < 65536
 t2 : T % 2 = 1
 rt : RowC 1 (fun _ => T)
 ok : ParP (n : Int) T L q (wd : Int)
 sq : ∀ j, j < L → ∃ x, x < q j ∧ noSq (q j) x = true
 q2 : ∀ j, j < L → 2 ≤ q j
 q3 : ∀ j, j < L → q j < 1125899906842624
 gc : ∀ j, j < L → Nat.gcd (prodF q j) (q j) = 1
 pd : 281474976710656 ≤ prodF q L
 ao : ∀ j, j < L → ∀ (a s u : Nat → Int) (i : Nat), i < n → M (q j : Int) (nega n (nega n a s) u i) (nega n s (nega n a u) i)
structure Num (n T L wd : Nat) (q : Nat → Nat) (FB FA : Nat → Nat → Nat) (v : Nat → Int) (es : List Int) : Prop extends Num0 n T L wd q where
 tn : Tern n v
 kp : KeyP n L q v es FB FA
 eb : ∀ i, (es.getD i 0).natAbs ≤ wd
theorem z1u {x : Nat} (h : isP x = true) (h0 : 61 ≤ x) (h1 : x < 18446744073709551616) : isS x = true := by rw [zji (by omega) (by omega)]; exact h
theorem num_m {s t i L wd : Nat} (hs : s < 3) (ht : t < 4) (hi : i < 4) (hL0 : 2 ≤ L) (hL : L ≤ 5) (hW : 1 ≤ wd ∧ wd ≤ 16) (hA : ∀ j, j < L → ∀ (a s' u : Nat → Int) (i' : Nat), i' < 8 * 2 ^ s → M (mF s i j : Int) (nega (8 * 2 ^ s) (nega (8 * 2 ^ s) a s') u i') (nega (8 * 2 ^ s) s' (nega (8 * 2 ^ s) a u) i')) : Num0 (8 * 2 ^ s) (mT s t) L wd (mF s i) := by
 obtain ⟨t1, t2, t3, t4⟩ := mT_ok s hs t ht
 exact ⟨by rcases za5 hs with rfl | rfl | rfl <;> decide, by rcases za5 hs with rfl | rfl | rfl <;> decide, hL0, hL, hW.1, hW.2, t2, t1, z01 s hs t ht, ⟨by omega, by omega, fun j hj => ⟨(show OkQ (mT s t) from ⟨by omega, by omega, z1u t4 (by omega) (by omega)⟩), fun k hk => absurd hk (by omega)⟩⟩, par_m hs ht hi (by omega) hL (by omega), fun j hj => sq_m hs hi (by omega), fun j hj => by have := (zfo s hs i hi j (by omega)).2.1; omega, fun j hj => (zfo s hs i hi j (by omega)).1, fun j hj => z1o s hs i hi j (by omega), zxp s hs i hi L (by omega) hL0, hA⟩
theorem zol (a b : Nat) (w : World) (ha : a < 256) (hb : b < 256) (hT : Tabs w) :
    Calls Tryz.prog 7 #[.int .u8 (a : Int), .int .u8 (b : Int)] w fun ee w' => ∃ (n T L wd : Nat) (q : Nat → Nat) (A : Option Addr) (cp : Nat), Hid (Num0 n T L wd q) ∧ ee = .returned (.agg #[.int .i64 (n : Int), .int .u64 (T : Int), .slice A L cp, .int .i64 (wd : Int)]) ∧ Hid (PA w' (n : Int) T A L cp (wd : Int) q) ∧ Ext w w' := by
 have HT := Lib.hid hT
 refine (zod a b w ha hb hT).mono ?_
 rintro ee w' ⟨A, cp, rfl, hpa, k⟩
 have hs : a % 3 < 3 := by omega
 have ht : a / 3 % 4 < 4 := by omega
 have hi : b / 4 % 4 < 4 := by omega
 have ew : (1 + ((b / 16 % 16 : Nat) : Int)) = ((1 + b / 16 % 16 : Nat) : Int) := by omega
 rw [ew] at hpa ⊢
 have hN32 : 8 * 2 ^ (a % 3) ≤ 32 := by rcases za5 hs with e | e | e <;> rw [e] <;> decide
 have hok := par_m (Wd := ((1 + b / 16 % 16 : Nat) : Int)) (L := 2 + b % 4) hs ht hi (by omega) (by omega) (by omega)
 obtain ⟨ee2, w2, r, pp, a2, e2, _, hR, _⟩ := zoc (zdd w' (Lib.hid hpa) (by omega) hN32 (HT.out.ext k) (Lib.hid hok))
 exact ⟨_, _, _, _, _, A, cp, Lib.hid (num_m hs ht hi (by omega) (by omega) (by omega) fun j hj => zu3 hR (fun j hj => sq_m hs hi (by omega)) hj), rfl, Lib.hid hpa, k⟩
theorem zv4 {n L : Nat} {q : Nat → Nat} {S : Nat → Nat → Nat} {v : Nat → Int} {acc : List (List Nat)} {es : List Int} {FB : Nat → Nat → Nat} (hq : ∀ j, j < L → 2 ≤ q j) (hS : ∀ j, j < L → S j = fun i => lif (v i) (q j)) (h : zxb n L q S (fun _ _ => 0) acc es FB) : KeyP n L q v es FB (accF acc) := ⟨h.1, fun j hj i hi => by
 obtain ⟨h1, h2⟩ := h.2 j hj i hi
 refine ⟨h1, h2.trans ?_⟩
 have h3 := zb5 (n := n) (q := (q j : Int)) (a := fun t => (accF acc j t : Int)) (fun _ _ => M.rfl) (zdj (n := n) (by have := hq j hj; omega) (hS j hj)) i
 have e0 : (((0 : Nat) : Int) - (nega n (fun t => (accF acc j t : Int)) (fun t => (S j t : Int)) i + es.getD i 0)) = -(nega n (fun t => (accF acc j t : Int)) (fun t => (S j t : Int)) i + es.getD i 0) := by omega
 rw [e0]
 exact (h3.add M.rfl).neg⟩
theorem zd7 {n L T : Nat} {q f : Nat → Nat} {acc : List (List Int)} {FB F : Nat → Nat → Nat} (hq : ∀ j, j < L → 2 ≤ q j) (h : HideA n L T q f acc FB F) : ∀ j, j < L → ∀ i, i < n → F j i < q j ∧ M (q j : Int) (F j i : Int) (nega n (fun t => (FB j t : Int)) (fun t => (acc.getD 0 []).getD t 0) i + (acc.getD 1 []).getD i 0 + ((prodF q L / T : Nat) : Int) * cenC f T i) := fun j hj i hi => by
 obtain ⟨Fu, Fe, Fp, hu, he, hp, X1, ⟨X0, hX0, hm⟩, ⟨Y1, ⟨Y0, hY0, ha1⟩, ha2⟩⟩ := h
 have e1 : X0 = FB := hX0
 have e2 : Y0 = X1 := hY0
 subst e1 e2
 have hq0 : 0 < q j := by have := hq j hj; omega
 have a1 : M (q j : Int) _ ((Y1 j i : Int) + (Fp j i : Int)) := (ha2 j hj i hi).2
 have a2 : M (q j : Int) _ ((Y0 j i : Int) + (Fe j i : Int)) := (ha1 j hj i hi).2
 have a3 := (hm j hj i hi).2
 refine ⟨(ha2 j hj i hi).1, a1.trans ?_⟩
 refine (a2.add (hp j hj i hi).2).trans ?_
 refine ((a3.add (zdj hq0 (he j hj) i hi)).add M.rfl).trans ?_
 exact ((zb5 (fun _ _ => M.rfl) (zdj hq0 (hu j hj)) i).add M.rfl).add M.rfl
theorem zeg {n L : Nat} {q : Nat → Nat} {acc : List (List Int)} {FA F : Nat → Nat → Nat} (hq : ∀ j, j < L → 2 ≤ q j) (h : HideB n L q acc FA F) : ∀ j, j < L → ∀ i, i < n → F j i < q j ∧ M (q j : Int) (F j i : Int) (nega n (fun t => (FA j t : Int)) (fun t => (acc.getD 0 []).getD t 0) i + (acc.getD 2 []).getD i 0) := fun j hj i hi => by
 obtain ⟨Fu, Ff, hu, hf, Z1, ⟨Z0, hZ0, hm2⟩, ⟨W0, hW0, hb1⟩⟩ := h
 have e3 : Z0 = FA := hZ0
 have e4 : W0 = Z1 := hW0
 subst e3 e4
 have hq0 : 0 < q j := by have := hq j hj; omega
 have a1 := (hb1 j hj i hi).2
 have a3 := (hm2 j hj i hi).2
 refine ⟨(hb1 j hj i hi).1, a1.trans ?_⟩
 refine (a3.add (zdj hq0 (hf j hj) i hi)).trans ?_
 exact (zb5 (fun _ _ => M.rfl) (zdj hq0 (hu j hj)) i).add M.rfl
theorem zsx {q a b : Nat} {z : Int} (ha : a < q) (hb : b < q) (h1 : M (q : Int) (a : Int) z) (h2 : M (q : Int) (b : Int) z) : a = b := by
 have h3 : (a : Int) % (q : Int) = (b : Int) % (q : Int) := h1.trans h2.symm
 rw [Int.emod_eq_of_lt (by omega) (by omega), Int.emod_eq_of_lt (by omega) (by omega)] at h3
 omega
theorem zrd {n L T : Nat} {q f : Nat → Nat} {acc : List (List Int)} {FB F F' : Nat → Nat → Nat} (hq : ∀ j, j < L → 2 ≤ q j) (h : HideA n L T q f acc FB F) (h' : HideA n L T q f acc FB F') : ∀ j, j < L → ∀ i, i < n → F j i = F' j i := fun j hj i hi =>
 zsx (zd7 hq h j hj i hi).1 (zd7 hq h' j hj i hi).1 (zd7 hq h j hj i hi).2 (zd7 hq h' j hj i hi).2
theorem zrn {n L : Nat} {q : Nat → Nat} {acc : List (List Int)} {FA F F' : Nat → Nat → Nat} (hq : ∀ j, j < L → 2 ≤ q j) (h : HideB n L q acc FA F) (h' : HideB n L q acc FA F') : ∀ j, j < L → ∀ i, i < n → F j i = F' j i := fun j hj i hi =>
 zsx (zeg hq h j hj i hi).1 (zeg hq h' j hj i hi).1 (zeg hq h j hj i hi).2 (zeg hq h' j hj i hi).2
theorem zyc {w : World} {x n L : Nat} {R0 R1 : (Nat → Nat → Nat) → Prop} (h : Cip2 w x n L R0 R1) : ∃ (Gs : Nat → Nat) (As : Nat → Nat → Option Addr) (cs : Nat → Nat → Nat) (Fs : Nat → Nat → Nat → Nat), ElsAt w x 2 L n Gs As cs Fs ∧ Hid (R0 (Fs 0)) ∧ Hid (R1 (Fs 1)) := by
 obtain ⟨G0, G1, A0, A1, c0, c1, F0, F1, hz, h0, h1, r0, r1⟩ := h
 refine ⟨fun k => if k = 0 then G0 else G1, fun k => if k = 0 then A0 else A1, fun k => if k = 0 then c0 else c1, fun k => if k = 0 then F0 else F1, ⟨hz.congr fun i hi => ?_, fun k hk => ?_⟩, r0, r1⟩
 ·rcases (show i = 0 ∨ i = 1 by omega) with rfl | rfl <;> rfl
 ·rcases (show k = 0 ∨ k = 1 by omega) with rfl | rfl
  ·exact h0
  ·exact h1
def zzu (w : World) (p n L T : Nat) (q f : Nat → Nat) (FB FA : Nat → Nat → Nat) (acc : List (List Int)) (rr : List Nat) (ee : Ending) (w' : World) : Prop := ∃ (x : Nat) (Gs : Nat → Nat) (As : Nat → Nat → Option Addr) (cs : Nat → Nat → Nat) (Fs : Nat → Nat → Nat → Nat), ee = .returned (.tuple #[.agg #[.slice (some ⟨x, 0, none⟩) 2 2], .int .i64 0]) ∧ ElsAt w' x 2 L n Gs As cs Fs ∧ Hid (HideA n L T q f acc FB (Fs 0) ∧ HideB n L q acc FA (Fs 1)) ∧ Tp w' p rr ∧ On p w w'
section
variable {w : World} {Pb Kb n T L cq wd GB GA d : Nat} {A Bs : Option Addr} {q : Nat → Nat} {A1 A2 : Nat → Option Addr} {c1 c2 : Nat → Nat} {FB FA : Nat → Nat → Nat} {v : Nat → Int} {es : List Int}
theorem zmc (p c : Nat) (Bt : Option Addr) (f : Nat → Nat) (l : List Nat) (acc : List (List Int)) (rr : List Nat) (hS : Hid (Sta w Pb Kb n T L cq wd GB GA d A Bs q A1 A2 c1 c2 FB FA v)) (hN : Hid (Num n T L wd q FB FA v es)) (hX : FX w Bt n c f) (hf : Hid (∀ i, i < n → f i < T)) (hTp : Hid (Tp w p l)) (hl : l.length ≤ 100000) (hdr : Hid (veilS wd n l 3 = some (acc, rr))) :
    Calls Tryz.prog 20 #[.agg #[.int .i64 (n : Int), .int .u64 (T : Int), .slice A L cq, .int .i64 (wd : Int)], .agg #[.slice (some ⟨GB, 0, none⟩) L L, .slice (some ⟨GA, 0, none⟩) L L], .slice Bt n c, .pointer (some ⟨p, 0, none⟩)] w (zzu w p n L T q f FB FA acc rr) := by
 have hS := hS.out
 have hN := hN.out
 have hl0 := hN.l1
 have ht1 := hN.t1
 refine (zp7 n p L cq c wd T GB GA A Bt q f A1 A2 c1 c2 FB FA l acc rr w hN.n1 (by omega) hN.w0 hN.w1 (Lib.hid hS.pa) (Lib.hid hN.ok) hS.tb (by omega) hS.pB hS.pA (Lib.hid fun j hj i hi => (hN.kp.2 j hj i hi).1) (Lib.hid hN.kp.1) hX hf hTp hl hdr (Lib.hid hN.sq)).mono ?_
 rintro ee w' ⟨x, rfl, hc, ht, ho⟩
 obtain ⟨Gs, As, cs, Fs, he, h0, h1⟩ := zyc hc
 exact ⟨x, Gs, As, cs, Fs, rfl, he, Lib.hid ⟨h0.out, h1.out⟩, ht, ho⟩
theorem zl8 (x : Nat) (f : Nat → Nat) (l : List Nat) (acc : List (List Int)) (rr : List Nat) (Gs : Nat → Nat) (As : Nat → Nat → Option Addr) (cs : Nat → Nat → Nat) (Fs : Nat → Nat → Nat → Nat) (hS : Hid (Sta w Pb Kb n T L cq wd GB GA d A Bs q A1 A2 c1 c2 FB FA v)) (hN : Hid (Num n T L wd q FB FA v es)) (hf : Hid (∀ i, i < n → f i < T)) (hdr : Hid (veilS wd n l 3 = some (acc, rr))) (hE : ElsAt w x 2 L n Gs As cs Fs) (hH : Hid (HideA n L T q f acc FB (Fs 0) ∧ HideB n L q acc FA (Fs 1))) :
    Calls Tryz.prog 22 #[.agg #[.int .i64 (n : Int), .int .u64 (T : Int), .slice A L cq, .int .i64 (wd : Int)], .slice Bs n d, .agg #[.slice (some ⟨x, 0, none⟩) 2 2]] w fun ee w' => ∃ B c, ee = .returned (.tuple #[.slice B n c, .int .i64 0]) ∧ FX w' B n c f ∧ Ext w w' := by
 have hS := hS.out
 have hN := hN.out
 have hl0 := hN.l0
 have hl1 := hN.l1
 have ht0 := hN.t0
 have ht1 := hN.t1
 have hn1 := hN.n1
 obtain ⟨hA, hB⟩ := hH.out
 refine (zvg n 2 L x d (wd : Int) T L cq A Bs q Gs As cs Fs v w hn1 (by omega) (Nat.le_refl _) (by omega) (by omega) (Lib.hid hS.pa) (Lib.hid hN.ok) (by omega) hS.tb hE.1 (Lib.hid hE.2) (Lib.hid fun k hk j hj t ht => ?_) hS.sx (Lib.hid fun i hi => by have := hN.tn i hi; omega) (Lib.hid hN.tn) (Lib.hid hN.sq) (Lib.hid hN.rt)).mono ?_
 ·rcases (show k = 0 ∨ k = 1 by omega) with rfl | rfl
  ·exact (zd7 hN.q2 hA j hj t ht).1
  ·exact (zeg hN.q2 hB j hj t ht).1
 ·rintro ee w' ⟨F, p, B, c, f', hH, hP, rfl, hX, hf', k⟩
  refine ⟨B, c, rfl, hX.congr fun i hi => ?_, k⟩
  rw [hf'.out i hi]
  exact zr1 hn1 hN.w1 hN.t2 ht1 ht0 hN.q2 hN.ao hN.gc hN.pd hP.out hf.out hN.tn hN.eb (zep hN.w1 hdr.out).2.2 hN.kp hA hB hH.out i hi
end
theorem zvl (w : World) (N : Int) (T : Nat) (A : Option Addr) (L c : Nat) (Wd : Int) : RW (w.alloc (.cells #[.int .i64 N, .int .u64 (T : Int), .slice A L c, .int .i64 Wd] 28)) w.heap.size 28 4 (parV N T A L c Wd) := heap_alloc_new w _
theorem zwa (w : World) (GB GA L : Nat) : RW (w.alloc (.cells #[.slice (some ⟨GB, 0, none⟩) L L, .slice (some ⟨GA, 0, none⟩) L L] 58)) w.heap.size 58 2 (pubV GB GA L) := heap_alloc_new w _
theorem zax (w : World) (v : Value) : RW (w.alloc (.cells #[v] 62)) w.heap.size 62 1 (fun _ => v) := heap_alloc_new w _
def CipAt (V wx : World) (n L T : Nat) (q f : Nat → Nat) (FB FA : Nat → Nat → Nat) (acc : List (List Int)) (b : Nat) : Prop := ∃ (x : Nat) (Gs : Nat → Nat) (As : Nat → Nat → Option Addr) (cs : Nat → Nat → Nat) (Fs : Nat → Nat → Nat → Nat), RW wx b 62 1 (fun _ => .slice (some ⟨x, 0, none⟩) 2 2) ∧ ElsAt wx x 2 L n Gs As cs Fs ∧ Hid (HideA n L T q f acc FB (Fs 0) ∧ HideB n L q acc FA (Fs 1)) ∧ Ext V wx
theorem zca {V w6 : World} {n L T : Nat} {q f : Nat → Nat} {FB FA : Nat → Nat → Nat} {acc : List (List Int)} {x : Nat} {Gs : Nat → Nat} {As : Nat → Nat → Option Addr} {cs : Nat → Nat → Nat} {Fs : Nat → Nat → Nat → Nat} (h : ElsAt w6 x 2 L n Gs As cs Fs) (hH : Hid (HideA n L T q f acc FB (Fs 0) ∧ HideB n L q acc FA (Fs 1))) (k : Ext V w6) : CipAt V (w6.alloc (.cells #[.slice (some ⟨x, 0, none⟩) 2 2] 62)) n L T q f FB FA acc w6.heap.size :=
 ⟨x, Gs, As, cs, Fs, zax _ _, h.ext ((Ext.refl _).alloc _), hH, k.alloc _⟩
theorem zcd {V w6 : World} {n L T b : Nat} {q f : Nat → Nat} {FB FA : Nat → Nat → Nat} {acc : List (List Int)} {x : Nat} {Gs : Nat → Nat} {As : Nat → Nat → Option Addr} {cs : Nat → Nat → Nat} {Fs : Nat → Nat → Nat → Nat} {B : Option Addr} {m c : Nat} (h : ElsAt w6 x 2 L n Gs As cs Fs) (hH : Hid (HideA n L T q f acc FB (Fs 0) ∧ HideB n L q acc FA (Fs 1))) (k : Ext V w6) (hr : RW w6 b 62 1 (fun _ => .slice B m c)) (hb : V.heap.size ≤ b) : CipAt V (w6.setCell ⟨b, 0, none⟩ (.slice (some ⟨x, 0, none⟩) 2 2)) n L T q f FB FA acc b :=
 ⟨x, Gs, As, cs, Fs, (hr.set (show 0 < 1 by omega) _).congr fun i hi => by rw [if_pos (by omega)], ⟨RW.aside h.1 hr (by decide) 0 _, fun j hj => (h.2 j hj).away hr (by decide) (show 0 < 1 by omega) rfl _⟩, hH, k.set (p := ⟨b, 0, none⟩) hb _⟩
theorem zqu {V w' : World} (A : Option Addr) (n c : Nat) (xs : List Nat) (k : Ext V w') (hX : Hid (NX V A n c xs)) (hn : n ≤ 100000) :
    Calls Tryz.prog 10 #[.slice A n c] w' fun ee w'' => ∃ p, ee = .returned (.pointer (some ⟨p, 0, none⟩)) ∧ V.heap.size ≤ p ∧ Tp w'' p xs ∧ Ext w' w'' := by
 have hs := k.size
 refine (zl3 A n c xs w' (Lib.hid (hX.out.ext k)) hn).mono ?_
 rintro ee w'' ⟨p, rfl, hp, ht, k2⟩
 exact ⟨p, rfl, Nat.le_trans hs hp, ht.out, k2.out⟩
section
variable {V w' : World} {Pb Kb n T L cq wd GB GA d : Nat} {A Bs : Option Addr} {q : Nat → Nat} {A1 A2 : Nat → Option Addr} {c1 c2 : Nat → Nat} {FB FA : Nat → Nat → Nat} {v : Nat → Int} {es : List Int}
theorem zf8 (p c : Nat) (Bt : Option Addr) (f : Nat → Nat) (l : List Nat) (acc : List (List Int)) (rr : List Nat) (k : Ext V w') (hp : V.heap.size ≤ p) (hTp : Hid (Tp w' p l)) (hS : Hid (Sta V Pb Kb n T L cq wd GB GA d A Bs q A1 A2 c1 c2 FB FA v)) (hN : Hid (Num n T L wd q FB FA v es)) (hX : Hid (FX V Bt n c f)) (hf : Hid (∀ i, i < n → f i < T)) (hl : l.length ≤ 100000) (hdr : Hid (veilS wd n l 3 = some (acc, rr))) :
    Calls Tryz.prog 20 #[.agg #[.int .i64 (n : Int), .int .u64 (T : Int), .slice A L cq, .int .i64 (wd : Int)], .agg #[.slice (some ⟨GB, 0, none⟩) L L, .slice (some ⟨GA, 0, none⟩) L L], .slice Bt n c, .pointer (some ⟨p, 0, none⟩)] w' fun ee w'' => ∃ (x : Nat) (Gs : Nat → Nat) (As : Nat → Nat → Option Addr) (cs : Nat → Nat → Nat) (Fs : Nat → Nat → Nat → Nat), ee = .returned (.tuple #[.agg #[.slice (some ⟨x, 0, none⟩) 2 2], .int .i64 0]) ∧ ElsAt w'' x 2 L n Gs As cs Fs ∧ Hid (HideA n L T q f acc FB (Fs 0) ∧ HideB n L q acc FA (Fs 1)) ∧ Ext V w'' ∧ ∀ b F, RW w' b 62 1 F → RW w'' b 62 1 F := by
 refine (zmc p c Bt f l acc rr (Lib.hid (hS.out.ext k)) hN (hX.out.ext k) hf hTp hl hdr).mono ?_
 rintro ee w'' ⟨x, Gs, As, cs, Fs, rfl, he, hH, _, ho⟩
 exact ⟨x, Gs, As, cs, Fs, rfl, he, hH, k.on ho hp, fun b F hb => hb.onT hTp.out ho (by decide)⟩
end
def msgF (x : Nat → Nat) (m T k i : Nat) : Nat := if i < k ∧ i < m then x i % T else 0
theorem zpr {x : Nat → Nat} {m T k i : Nat} (hk : k < m) : (if i = k then x k % T else msgF x m T k i) = msgF x m T (k + 1) i := by
 unfold msgF
 by_cases h : i = k
 ·subst h
  rw [if_pos rfl, if_pos (by omega)]
 ·rw [if_neg h]
  by_cases h1 : i < k ∧ i < m
  ·rw [if_pos h1, if_pos (by omega)]
  ·rw [if_neg h1, if_neg (by omega)]
theorem zqr {x : Nat → Nat} {m T k i : Nat} (hk : ¬ k < m) : msgF x m T k i = msgF x m T (k + 1) i := by
 unfold msgF
 by_cases h1 : i < k ∧ i < m
 ·rw [if_pos h1, if_pos (by omega)]
 ·rw [if_neg h1, if_neg (by omega)]
theorem zyx {x : Nat → Nat} {m T k i : Nat} (hT : 0 < T) : msgF x m T k i < T := by
 unfold msgF
 split
 ·exact Nat.mod_lt _ hT
 ·exact hT
end Go.Proofs.YtopbibfpjgjalaaGreatDoor
