/-
  The level that elements have in common.
-/
import Derived.Test.YtcnogmhkffohgaaGreatDoorW39
import Derived.Test.YtcnogmhkffohgaaGreatDoorW43
import Derived.Test.YtcnogmhkffohgaaGreatDoorW28
import Derived.Test.YtcnogmhkffohgaaGreatDoorW41
import Derived.Deep.DeepCutAuto
namespace Go.Proofs.YtcnogmhkffohgaaGreatDoor
open Go.RowKit
set_option linter.unusedVariables false
set_option maxRecDepth 100000

/-- What common answers of N + 1 elements. -/
def ComPost (n M N : Nat) (q : Nat → Nat) (Lj : Nat → Nat) (ns : Nat → Nat → Nat) (f : Nat → Nat → Nat → Nat) (w : World) (ee : Ending) (w' : World) : Prop :=
  (((∀ j, j ≤ N → El n M q (Lj j) (ns j) (f j)) ∧ (∀ j, j ≤ N → Lj j = Lj 0) ∧ ee = .returned (.tuple #[.int .i64 ((Lj 0 : Int) - 1), .int .i64 0])) ∨
    ((∀ j, j ≤ N → El n M q (Lj j) (ns j) (f j)) ∧ (¬ ∀ j, j ≤ N → Lj j = Lj 0) ∧ ee = .returned (.tuple #[.int .i64 0, .int .i64 10])) ∨
    ((¬ ∀ j, j ≤ N → El n M q (Lj j) (ns j) (f j)) ∧ ee = .returned (.tuple #[.int .i64 0, .int .i64 3]))) ∧ Ext w w'
def lvZ (Lj : Nat → Nat) (k j : Nat) : Int := if j < k then (Lj j : Int) - 1 else 0
set_option maxHeartbeats 4000000 in
theorem common_any {s n T M : Nat} {q : Nat → Nat} (N c : Nat) (A : Option Addr) (Aj : Nat → Option Addr) (Lj cj : Nat → Nat) (Bs : Nat → Nat → Option Addr) (ns cs : Nat → Nat → Nat) (f : Nat → Nat → Nat → Nat) (w : World) (hS : Hid (Sc w s n T M q)) (hX : QX w A (N + 1) c (fun j => .slice (Aj j) (Lj j) (cj j))) (hP : Hid (∀ j, j ≤ N → PB w (Aj j) (Lj j) (cj j) (Bs j) (ns j) (cs j) (f j))) (hN : N ≤ 100) :
    Calls Tryz.prog 22 #[.pointer (some ⟨s, 0, none⟩), .slice A (N + 1) c] w (ComPost n M N q Lj ns f w) := by
  obtain ⟨r, x, g, p, p', a, e, a', e', Ar, Aw, cr, cw, x0, _, _, hrg, _⟩ := hS.out.ex
  have hM8 := hS.out.l8
  have HRG := Lib.hid hrg
  have HX := Lib.hid hX
  clear hrg hX
  have hmk := make_intS (N + 1) (by omega)
  rw [show ((N + 1 : Nat) : Int) = (N : Int) + 1 by omega] at hmk
  have hzi := newIS_rw w (N + 1)
  have HZI := Lib.hid hzi
  have k0 : Ext w (w.alloc (.cells (newIS (N + 1)) 3)) := (Ext.refl w).alloc _
  clear hzi
  go_enter Tryz.func22, Tryz.ntmps22
  go_wp2
  clear hmk
  go_loopw [16] (fun iv wr => ∃ k : Nat, k ≤ N + 1 ∧ iv = .int .i64 (k : Int) ∧ (∀ j, j < k → El n M q (Lj j) (ns j) (f j)) ∧ IWS wr w.heap.size (N + 1) (lvZ Lj k) ∧ Ext w wr) (fun iv _ => N + 1 - (intOf iv).toNat)
  case atStart => exact ⟨0, by omega, rfl, fun j hj => absurd hj (by omega), RW.congr HZI.out fun i hi => by rw [lvZ, if_neg (by omega)], k0⟩
  case round =>
    obtain ⟨k, hk, rfl, hel, hzr, kr⟩ := hrel
    have HEL := Lib.hid hel
    have HZR := Lib.hid hzr
    clear hel hzr HZI k0
    by_cases hlt : k < N + 1
    · obtain ⟨ad, rfl, hc⟩ := HX.out.cells (by omega)
      have ce := cell_ext kr (hc k hlt)
      have i0 : (0 : Int) ≤ (k : Int) := by omega
      have i1 : (k : Int) < ((N + 1 : Nat) : Int) := by omega
      have ka : Ext wr (wr.alloc (.cells #[.slice (Aj k) (Lj k) (cj k)] 36)) := (Ext.refl wr).alloc _
      have xa := one_at wr (.slice (Aj k) (Lj k) (cj k)) 36
      have kV := kr.trans ka
      go_wp2_with fail
      generalize wr.alloc (.cells #[.slice (Aj k) (Lj k) (cj k)] 36) = V at *
      have y0 := cell_ext kV x0
      have kk : Ext V V := Ext.refl V
      clear hc x0
      by_cases hE : El n M q (Lj k) (ns k) (f k)
      case neg =>
        have hlev : ∀ w', Ext V w' → Calls Tryz.prog 32 #[.pointer (some ⟨r, 0, none⟩), .agg #[.slice (Aj k) (Lj k) (cj k)]] w' fun ee w2 => ee = .returned (.tuple #[.int .i64 0, .int .i64 3]) ∧ Ext w' w2 := fun w' h => (Level_any r n M q p a e (Aj k) (Lj k) (cj k) (Bs k) (ns k) (cs k) (f k) w' (HRG.out.ext (kV.trans h)) (Lib.hid ((hP.out k (by omega)).ext (kV.trans h)))).mono fun e5 w5 h5 => by
          rcases h5 with ⟨⟨h6, _⟩ | ⟨_, h6⟩, h7⟩
          · exact absurd h6 hE
          · exact ⟨h6, h7⟩
        have HLEV := Lib.hid hlev
        have HE := Lib.hid hE
        clear hlev hE
        go_region_held3 (fun w' => w'.cell? ⟨s, 0, none⟩ = some (.pointer (some ⟨r, 0, none⟩)) ∧ w'.cell? ⟨wr.heap.size, 0, none⟩ = some (.slice (Aj k) (Lj k) (cj k))) (go_keep)
          (first
            | (go_at_call 32; refine (HLEV.out _ (by first | exact kk | exact Ext.drew kk)).mono ?_; rintro e5 w5 ⟨rfl, k5⟩; replace kk : Ext V w5 := (by first | exact Ext.trans kk k5 | exact Ext.trans (Ext.drew kk) k5); have d0 := cell_ext kk y0; have d1 := cell_ext kk xa)
            | fail)
        rename_i hhe
        clear hhe
        go_wp2
        go_ret2
        exact ⟨.inr (.inr ⟨fun h => HE.out (h k (by omega)), rfl⟩), kV.trans kk⟩
      have hlev : ∀ w', Ext V w' → Calls Tryz.prog 32 #[.pointer (some ⟨r, 0, none⟩), .agg #[.slice (Aj k) (Lj k) (cj k)]] w' fun ee w2 => ee = .returned (.tuple #[.int .i64 ((Lj k : Int) - 1), .int .i64 0]) ∧ Ext w' w2 := fun w' h => (Level_any r n M q p a e (Aj k) (Lj k) (cj k) (Bs k) (ns k) (cs k) (f k) w' (HRG.out.ext (kV.trans h)) (Lib.hid ((hP.out k (by omega)).ext (kV.trans h)))).mono fun e5 w5 h5 => by
        rcases h5 with ⟨⟨_, h6⟩ | ⟨h6, _⟩, h7⟩
        · exact ⟨h6, h7⟩
        · exact absurd hE h6
      have HLEV := Lib.hid hlev
      have HE := Lib.hid hE
      clear hlev hE
      go_region_held3 (fun w' => w'.cell? ⟨s, 0, none⟩ = some (.pointer (some ⟨r, 0, none⟩)) ∧ w'.cell? ⟨wr.heap.size, 0, none⟩ = some (.slice (Aj k) (Lj k) (cj k))) (go_keep)
        (first
          | (go_at_call 32; refine (HLEV.out _ (by first | exact kk | exact Ext.drew kk)).mono ?_; rintro e5 w5 ⟨rfl, k5⟩; replace kk : Ext V w5 := (by first | exact Ext.trans kk k5 | exact Ext.trans (Ext.drew kk) k5); have d0 := cell_ext kk y0; have d1 := cell_ext kk xa)
          | fail)
      rename_i hhe
      clear hhe d0 d1
      have kz := ka.trans kk
      have hz5 : IWS w5 w.heap.size (N + 1) (lvZ Lj k) := RW.ext HZR.out kz
      have c0 := RW.cell hz5 (i := k) (by omega)
      have f0 := RW.frozen hz5 k
      have hsz := RW.lt hz5
      have HZ5 := Lib.hid hz5
      clear hz5
      go_wp2
      go_roundw
      case rel => exact ⟨k + 1, by omega, by go_num, fun j hj => by
        rcases Nat.lt_or_ge j k with g | g
        · exact HEL.out j g
        · have : j = k := by omega
          subst this
          exact HE.out, (RW.set HZ5.out (by omega) _).congr fun i hi => by
          unfold lvZ
          by_cases e : i = k
          · subst e; rw [if_pos rfl, if_pos (by omega)]
          · rw [if_neg e]
            by_cases e2 : i < k
            · rw [if_pos e2, if_pos (by omega)]
            · rw [if_neg e2, if_neg (by omega)], ((kV.trans kk).set (p := ⟨w.heap.size, k, none⟩) (Nat.le_refl _) _)⟩
      case measure => simp [intOf]; omega
    · obtain rfl : k = N + 1 := by omega
      have hz' : IWS wr w.heap.size (N + 1) (fun j => (Lj j : Int) - 1) := RW.congr HZR.out fun i hi => by rw [lvZ, if_pos hi]
      have hb : Hid (∀ i, i ≤ N → -1000000 ≤ (Lj i : Int) - 1 ∧ ((Lj i : Int) - 1) ≤ 1000000) := Lib.hid fun i hi => by have := (HEL.out i (by omega)).2.1; omega
      have c0 := RW.cell hz' (i := 0) (by omega)
      have HSM := Lib.hid (all_same (fun j => (Lj j : Int) - 1) N)
      have HMN := Lib.hid (minI_any w.heap.size N _ wr hz' (by omega) hb)
      have HMX := Lib.hid (maxI_any w.heap.size N _ wr hz' (by omega) hb)
      obtain ⟨u, hu⟩ : ∃ u, u = minF (fun j => (Lj j : Int) - 1) N := ⟨_, rfl⟩
      obtain ⟨v, hv⟩ : ∃ v, v = maxF (fun j => (Lj j : Int) - 1) N := ⟨_, rfl⟩
      rw [← hu, ← hv] at HSM
      rw [← hu] at HMN
      rw [← hv] at HMX
      clear hu hv hb
      have i0 : (0 : Int) < ((N + 1 : Nat) : Int) := by omega
      go_wp2_with fail
      refine HMN.out.mono ?_
      rintro ee w0 ⟨rfl, rfl⟩
      go_wp2_with fail
      refine HMX.out.mono ?_
      rintro ee w0 ⟨rfl, rfl⟩
      clear HMN HMX
      by_cases hs : u = v
      · have hl := HSM.out.1 hs
        have b0 : (u == v) = true := by simp [hs]
        have b1 : (u != v) = false := by simp [hs]
        have HL := Lib.hid hl
        have HS := Lib.hid hs
        clear hl hs
        go_wp2
        go_ret2
        exact ⟨.inl ⟨fun j hj => HEL.out j (by omega), fun j hj => by have := HL.out j hj; omega, rfl⟩, kr⟩
      · have b0 : (u == v) = false := by simp [hs]
        have b1 : (u != v) = true := by simp [hs]
        have HS := Lib.hid hs
        clear hs
        go_wp2
        go_ret2
        exact ⟨.inr (.inl ⟨fun j hj => HEL.out j (by omega), fun h => HS.out (HSM.out.2 fun j hj => by have := h j hj; have := h 0 (by omega); omega), rfl⟩), kr⟩
end Go.Proofs.YtcnogmhkffohgaaGreatDoor

/-
  What widened of package scale makes of an element: the element of the wide row, of the same numbers.
-/
namespace Go.Proofs.YtcnogmhkffohgaaGreatDoor
open Go.RowKit
set_option linter.unusedVariables false
set_option maxRecDepth 100000

/-- The number that an element has at a place: is it below 0, its size; and what it is modulo another prime. -/
def numB (L : Nat) (q p : Nat → Nat) (f : Nat → Nat → Nat) (i : Nat) : Bool := cenB (jnF q p (fun j => f j i) 0 L) (prodF q L)
def numN (L : Nat) (q p : Nat → Nat) (f : Nat → Nat → Nat) (i : Nat) : Nat := cenN (jnF q p (fun j => f j i) 0 L) (prodF q L)
def widF (L : Nat) (q p : Nat → Nat) (f : Nat → Nat → Nat) (y : Nat) (i : Nat) : Nat := resF (numB L q p f i) (nv (nw (numN L q p f i))) y
set_option maxHeartbeats 8000000 in
theorem widened_any (L c d n C e : Nat) (A B Bw : Option Addr) (As : Nat → Option Addr) (ns cs : Nat → Nat) (f : Nat → Nat → Nat) (q qw : Nat → Nat) (b2 b5 : Bool) (A3 A4 A6 A7 : Option Addr) (n3 c3 n4 c4 n6 c6 n7 c7 : Nat) (w : World) (hX : PX w A L c As ns cs f) (hB : FX w B L d q) (hBw : FX w Bw C e qw) (hq : Hid (∀ j, j < L → q j < 18446744073709551616)) (hqw : Hid (∀ j, j < C → qw j < 18446744073709551616)) (hT : Tabs w) (hR : RowC L q) (hRw : RowC C qw) (hC : Hid (Lsts n L ns f q)) (hn0 : 0 < n) (hn : n ≤ 500) :
    Calls Tryz.prog 49 #[.agg #[.slice B L d, .slice Bw C e, .bool b2, .slice A3 n3 c3, .slice A4 n4 c4, .bool b5, .slice A6 n6 c6, .slice A7 n7 c7], .agg #[.slice A L c]] w fun ee w' => ∃ (p : Nat → Nat) (G : Nat) (Bs : Nat → Option Addr) (F : Nat → Nat → Nat), Hid (Parts L q p) ∧ ee = .returned (.agg #[.slice (some ⟨G, 0, none⟩) C C]) ∧ PM w' G C n Bs (fun _ => n) F ∧ Hid (∀ j, j < C → ∀ i, i < n → F j i = widF L q p f (qw j) i) ∧ Ext w w' := by
  have HX := Lib.hid hX
  have HB := Lib.hid hB
  have HBW := Lib.hid hBw
  have HT := Lib.hid hT
  have HR := Lib.hid hR
  have HRW := Lib.hid hRw
  clear hX hB hBw hT hR hRw
  have k0 : Ext w (((w.alloc (.cells #[.slice B L d, .slice Bw C e, .bool b2, .slice A3 n3 c3, .slice A4 n4 c4, .bool b5, .slice A6 n6 c6, .slice A7 n7 c7] 58)).alloc (.cells #[.slice A L c] 36)).alloc (.cells #[.slice none 0 0] 36)) := (((Ext.refl w).alloc _).alloc _).alloc _
  have k1 : Ext (w.alloc (.cells #[.slice B L d, .slice Bw C e, .bool b2, .slice A3 n3 c3, .slice A4 n4 c4, .bool b5, .slice A6 n6 c6, .slice A7 n7 c7] 58)) (((w.alloc (.cells #[.slice B L d, .slice Bw C e, .bool b2, .slice A3 n3 c3, .slice A4 n4 c4, .bool b5, .slice A6 n6 c6, .slice A7 n7 c7] 58)).alloc (.cells #[.slice A L c] 36)).alloc (.cells #[.slice none 0 0] 36)) := ((Ext.refl _).alloc _).alloc _
  have k2 : Ext ((w.alloc (.cells #[.slice B L d, .slice Bw C e, .bool b2, .slice A3 n3 c3, .slice A4 n4 c4, .bool b5, .slice A6 n6 c6, .slice A7 n7 c7] 58)).alloc (.cells #[.slice A L c] 36)) (((w.alloc (.cells #[.slice B L d, .slice Bw C e, .bool b2, .slice A3 n3 c3, .slice A4 n4 c4, .bool b5, .slice A6 n6 c6, .slice A7 n7 c7] 58)).alloc (.cells #[.slice A L c] 36)).alloc (.cells #[.slice none 0 0] 36)) := (Ext.refl _).alloc _
  have x0 : (w.alloc (.cells #[.slice B L d, .slice Bw C e, .bool b2, .slice A3 n3 c3, .slice A4 n4 c4, .bool b5, .slice A6 n6 c6, .slice A7 n7 c7] 58)).cell? ⟨w.heap.size, 0, none⟩ = some (.slice B L d) := by simp
  have x1 : (w.alloc (.cells #[.slice B L d, .slice Bw C e, .bool b2, .slice A3 n3 c3, .slice A4 n4 c4, .bool b5, .slice A6 n6 c6, .slice A7 n7 c7] 58)).cell? ⟨w.heap.size, 1, none⟩ = some (.slice Bw C e) := by simp
  replace x0 := cell_ext k1 x0
  replace x1 := cell_ext k1 x1
  have xa := one_at (w.alloc (.cells #[.slice B L d, .slice Bw C e, .bool b2, .slice A3 n3 c3, .slice A4 n4 c4, .bool b5, .slice A6 n6 c6, .slice A7 n7 c7] 58)) (.slice A L c) 36
  rw [show (w.alloc (.cells #[.slice B L d, .slice Bw C e, .bool b2, .slice A3 n3 c3, .slice A4 n4 c4, .bool b5, .slice A6 n6 c6, .slice A7 n7 c7] 58)).heap.size = w.heap.size + 1 by simp] at xa
  replace xa := cell_ext k2 xa
  have hr : RW (((w.alloc (.cells #[.slice B L d, .slice Bw C e, .bool b2, .slice A3 n3 c3, .slice A4 n4 c4, .bool b5, .slice A6 n6 c6, .slice A7 n7 c7] 58)).alloc (.cells #[.slice A L c] 36)).alloc (.cells #[.slice none 0 0] 36)) (w.heap.size + 1 + 1) 36 1 (fun _ => .slice none 0 0) := by
    have : RW (((w.alloc (.cells #[.slice B L d, .slice Bw C e, .bool b2, .slice A3 n3 c3, .slice A4 n4 c4, .bool b5, .slice A6 n6 c6, .slice A7 n7 c7] 58)).alloc (.cells #[.slice A L c] 36)).alloc (.cells #[.slice none 0 0] 36)) ((w.alloc (.cells #[.slice B L d, .slice Bw C e, .bool b2, .slice A3 n3 c3, .slice A4 n4 c4, .bool b5, .slice A6 n6 c6, .slice A7 n7 c7] 58)).alloc (.cells #[.slice A L c] 36)).heap.size 36 1 (fun _ => .slice none 0 0) := heap_alloc_new _ _
    rwa [show ((w.alloc (.cells #[.slice B L d, .slice Bw C e, .bool b2, .slice A3 n3 c3, .slice A4 n4 c4, .bool b5, .slice A6 n6 c6, .slice A7 n7 c7] 58)).alloc (.cells #[.slice A L c] 36)).heap.size = w.heap.size + 1 + 1 by simp] at this
  clear k1 k2
  go_enter Tryz.func49, Tryz.ntmps49
  go_wp2_with fail
  generalize (((w.alloc (.cells #[.slice B L d, .slice Bw C e, .bool b2, .slice A3 n3 c3, .slice A4 n4 c4, .bool b5, .slice A6 n6 c6, .slice A7 n7 c7] 58)).alloc (.cells #[.slice A L c] 36)).alloc (.cells #[.slice none 0 0] 36)) = V at *
  refine (Wholes_any A B L c d n As ns cs f q V (HX.out.ext k0) (HB.out.ext k0) hq (HT.out.ext k0) HR.out hC hn0 (by omega)).mono ?_
  rintro e1 w1 ⟨p, g, HP, rfl, hgV, hwk, k1⟩
  have HWK := Lib.hid hwk
  replace x0 := cell_ext k1 x0
  replace x1 := cell_ext k1 x1
  replace hr := hr.ext k1
  replace k0 := k0.trans k1
  clear k1 hwk xa hgV
  go_wp2_with fail
  refine (Element_any g n 1000 C e _ _ Bw qw w1 HWK.out (by omega) hn0 (by omega) (HBW.out.ext k0) hqw (HT.out.ext k0) HRW.out).mono ?_
  rintro e2 w2 ⟨G, As2, F, rfl, hpm, hF, k2⟩
  replace hr := hr.ext k2
  replace k0 := k0.trans k2
  have HPM := Lib.hid hpm
  have c0 := hr.cell (i := 0) (by omega)
  have z0 := hr.frozen 0
  have hsz := hr.lt
  have HR6 := Lib.hid hr
  have K6 := Lib.hid k0
  clear k2 hpm hr k0 x0 x1
  go_wp2_with fail
  have hs := ret_cell HR6.out (.slice (some ⟨G, 0, none⟩) C C)
  have hk := K6.out.set (p := ⟨w.heap.size + 1 + 1, 0, none⟩) (by show w.heap.size ≤ w.heap.size + 1 + 1; omega) (.slice (some ⟨G, 0, none⟩) C C)
  have hp := HPM.out.aside HR6.out rfl (.slice (some ⟨G, 0, none⟩) C C)
  generalize w2.setCell ⟨w.heap.size + 1 + 1, 0, none⟩ (.slice (some ⟨G, 0, none⟩) C C) = X at *
  have ka : Ext X (X.alloc (.cells #[.slice (some ⟨G, 0, none⟩) C C] 36)) := (Ext.refl X).alloc _
  replace hs := cell_ext ka hs
  replace hk := hk.trans ka
  replace hp := hp.ext ka
  generalize X.alloc (.cells #[.slice (some ⟨G, 0, none⟩) C C] 36) = Y at *
  clear c0 z0
  exact bodyPost_ret (v := .agg #[.slice (some ⟨G, 0, none⟩) C C]) (by simp [results, Tryz.results49, go_sem, hs]) rfl ⟨p, G, As2, F, HP, rfl, hp, hF, hk⟩
end Go.Proofs.YtcnogmhkffohgaaGreatDoor

/-
  The sum of products of elements, in the wide ring.
-/
namespace Go.Proofs.YtcnogmhkffohgaaGreatDoor
open Go.RowKit
set_option linter.unusedVariables false
set_option maxRecDepth 100000

def sqAny (q : Nat) : Bool := [2, 3, 5, 7, 11, 13, 17, 19, 23, 29, 31, 37, 41, 43, 47, 53].any fun y => Nat.beq (pm q y 64 ((q - 1) / 2)) (q - 1)
theorem wsq16 : wideL16.all sqAny = true := by decide +kernel
theorem wsq32 : wideL32.all sqAny = true := by decide +kernel
theorem wsq64 : wideL64.all sqAny = true := by decide +kernel
theorem sqW_any {q : Nat} (h0 : 60 < q) (h : q < 18446744073709551616) (e : sqAny q = true) : ∃ x, x < q ∧ noSq q x = true := by
  unfold sqAny at e
  obtain ⟨y, hy, he⟩ := List.any_eq_true.1 e
  have : ∀ y ∈ [2, 3, 5, 7, 11, 13, 17, 19, 23, 29, 31, 37, 41, 43, 47, 53], y < 60 := by decide
  exact ⟨y, by have := this y hy; omega, noSq_pm h he⟩
theorem wide_big : ∀ x ∈ wideL16 ++ wideL32 ++ wideL64, 60 < x ∧ x < 18446744073709551616 := by decide
theorem wide_sq {n x : Nat} (hn : StepW (2 * n)) (hx : x ∈ wideL (2 * n)) : ∃ y, y < x ∧ noSq x y = true := by
  have hb := wide_big
  rcases hn with h | h | h <;> rw [h] at hx
  · have hx' : x ∈ wideL16 := hx
    obtain ⟨h1, h2⟩ := hb x (by simp [hx'])
    exact sqW_any h1 h2 (List.all_eq_true.1 wsq16 x hx')
  · have hx' : x ∈ wideL32 := hx
    obtain ⟨h1, h2⟩ := hb x (by simp [hx'])
    exact sqW_any h1 h2 (List.all_eq_true.1 wsq32 x hx')
  · have hx' : x ∈ wideL64 := hx
    obtain ⟨h1, h2⟩ := hb x (by simp [hx'])
    exact sqW_any h1 h2 (List.all_eq_true.1 wsq64 x hx')
theorem one_new (w : World) : RW (w.alloc (.cells #[.slice none 0 0] 36)) w.heap.size 36 1 (fun _ => .slice none 0 0) := heap_alloc_new w _
theorem far_new {V w : World} {p : Addr} {v : Value} {b m : Nat} {t : TypeId} {F : Nat → Value} (hr : RW w b t m F) (hp : p.block < V.heap.size) (hb : V.heap.size ≤ b) (hc : w.cell? p = some v) : ∀ u, (w.setCell ⟨b, 0, none⟩ u).cell? p = some v := fun u => far_block (by omega) hc
theorem apart_blk {a s v b : Nat} {p r : Addr} (h0 : a + 1 < v) (h1 : s < v) (h2 : p.block < v) (h3 : r.block < v) (hb : v ≤ b) :
    ((a = b) = False) ∧ ((b = a) = False) ∧ ((a + 1 = b) = False) ∧ ((b = a + 1) = False) ∧ ((s = b) = False) ∧ ((b = s) = False) ∧ ((p = ⟨b, 0, none⟩) = False) ∧ ((⟨b, 0, none⟩ = p) = False) ∧ ((r = ⟨b, 0, none⟩) = False) ∧ ((⟨b, 0, none⟩ = r) = False) := by
  refine ⟨eq_false (by omega), eq_false (by omega), eq_false (by omega), eq_false (by omega), eq_false (by omega), eq_false (by omega), eq_false (fun e => ?_), eq_false (fun e => ?_), eq_false (fun e => ?_), eq_false (fun e => ?_)⟩
  · rw [e] at h2; exact absurd h2 (by show ¬ b < v; omega)
  · rw [← e] at h2; exact absurd h2 (by show ¬ b < v; omega)
  · rw [e] at h3; exact absurd h3 (by show ¬ b < v; omega)
  · rw [← e] at h3; exact absurd h3 (by show ¬ b < v; omega)
/-- What is told of a sum of so many products. -/
def SumOk (m n C L : Nat) (q qw : Nat → Nat) (fa fb : Nat → Nat → Nat → Nat) (pa pb : Nat → Nat → Nat) (F : Nat → Nat → Nat) : Prop :=
  (∀ k, k < m → Parts L q (pa k) ∧ Parts L q (pb k)) ∧ ∀ j, j < C → ∀ i, i < n → F j i < qw j ∧ M (qw j : Int) (F j i : Int) (S m (fun k => nega n (fun t => (widF L q (pa k) (fa k) (qw j) t : Int)) (fun t => (widF L q (pb k) (fb k) (qw j) t : Int)) i))
theorem nega_congr {n : Nat} {a a' b b' : Nat → Int} (ha : ∀ i, i < n → a i = a' i) (hb : ∀ i, i < n → b i = b' i) (m : Nat) : nega n a b m = nega n a' b' m := by
  unfold nega
  exact S_congr fun i hi => S_congr fun l hl => by rw [ha i hi, hb l hl]
/-- What is told of one product. -/
def ProdOk (k n C L : Nat) (q qw : Nat → Nat) (fa fb : Nat → Nat → Nat → Nat) (F : Nat → Nat → Nat) : Prop :=
  ∃ (pa pb : Nat → Nat), Parts L q pa ∧ Parts L q pb ∧ ∀ j, j < C → ∀ i, i < n → F j i < qw j ∧ M (qw j : Int) (F j i : Int) (nega n (fun t => (widF L q pa (fa k) (qw j) t : Int)) (fun t => (widF L q pb (fb k) (qw j) t : Int)) i)
def SumEx (m n C L : Nat) (q qw : Nat → Nat) (fa fb : Nat → Nat → Nat → Nat) (F : Nat → Nat → Nat) : Prop := ∃ pa pb, SumOk m n C L q qw fa fb pa pb F
theorem prodOk_of {k n C L : Nat} {q qw : Nat → Nat} {fa fb : Nat → Nat → Nat → Nat} {Fa Fb F : Nat → Nat → Nat} {pa pb : Nat → Nat} (h1 : Parts L q pa) (h2 : Parts L q pb) (e1 : ∀ j, j < C → ∀ i, i < n → Fa j i = widF L q pa (fa k) (qw j) i) (e2 : ∀ j, j < C → ∀ i, i < n → Fb j i = widF L q pb (fb k) (qw j) i)
    (h : ∀ j, j < C → ∀ i, i < n → F j i < qw j ∧ M (qw j : Int) (F j i : Int) (nega n (fun t => (Fa j t : Int)) (fun t => (Fb j t : Int)) i)) : ProdOk k n C L q qw fa fb F :=
  ⟨pa, pb, h1, h2, fun j hj i hi => ⟨(h j hj i hi).1, by
    rw [nega_congr (a' := fun t => (Fa j t : Int)) (b' := fun t => (Fb j t : Int)) (fun t ht => by rw [e1 j hj t ht]) (fun t ht => by rw [e2 j hj t ht])]
    exact (h j hj i hi).2⟩⟩
theorem sumEx_one {n C L : Nat} {q qw : Nat → Nat} {fa fb : Nat → Nat → Nat → Nat} {F : Nat → Nat → Nat} (h : ProdOk 0 n C L q qw fa fb F) : SumEx 1 n C L q qw fa fb F := by
  obtain ⟨pa, pb, h1, h2, h3⟩ := h
  refine ⟨fun _ => pa, fun _ => pb, fun _ _ => ⟨h1, h2⟩, fun j hj i hi => ⟨(h3 j hj i hi).1, (h3 j hj i hi).2.trans (M.of ?_)⟩⟩
  show _ = 0 + _
  rw [Int.zero_add]
theorem sumEx_step {k n C L : Nat} {q qw : Nat → Nat} {fa fb : Nat → Nat → Nat → Nat} {F F' F'' : Nat → Nat → Nat} (h : SumEx k n C L q qw fa fb F) (h' : ProdOk k n C L q qw fa fb F') (hq : ∀ j, j < C → 0 < qw j) (e : ∀ j, j < C → F'' j = fun i => (F j i + F' j i) % qw j) : SumEx (k + 1) n C L q qw fa fb F'' := by
  obtain ⟨pa, pb, h1, h2⟩ := h
  obtain ⟨ra, rb, g1, g2, g3⟩ := h'
  refine ⟨fun t => if t = k then ra else pa t, fun t => if t = k then rb else pb t, fun t ht => ?_, fun j hj i hi => ?_⟩
  · by_cases ek : t = k
    · simp only [ek, if_true]; exact ⟨g1, g2⟩
    · simp only [ek, if_false]; exact h1 t (by omega)
  · rw [e j hj]
    refine ⟨Nat.mod_lt _ (hq j hj), (M.nat _).trans ?_⟩
    rw [Int.natCast_add]
    refine ((h2 j hj i hi).2.add (g3 j hj i hi).2).trans (M.of ?_)
    show S k _ + _ = S k _ + _
    congr 1
    · exact S_congr fun t ht => by simp only [show ¬ t = k by omega, if_false]
    · simp only [if_true]
/-- A local in a block of its own, that holds lists that are made. -/
def LocIn (V wx : World) (b C n : Nat) (R : (Nat → Nat → Nat) → Prop) : Prop :=
  ∃ (G : Nat) (Bs : Nat → Option Addr) (cs : Nat → Nat) (F : Nat → Nat → Nat), RW wx b 36 1 (fun _ => .slice (some ⟨G, 0, none⟩) C C) ∧ PM wx G C n Bs cs F ∧ Hid (R F) ∧ V.heap.size ≤ b ∧ Ext V wx
theorem loc_new {V w : World} {G C n : Nat} {Bs : Nat → Option Addr} {cs : Nat → Nat} {F : Nat → Nat → Nat} {R : (Nat → Nat → Nat) → Prop} (k : Ext V w) (h : PM w G C n Bs cs F) (hR : R F) : LocIn V (w.alloc (.cells #[.slice (some ⟨G, 0, none⟩) C C] 36)) w.heap.size C n R :=
  ⟨G, Bs, cs, F, heap_alloc_new w _, h.ext ((Ext.refl w).alloc _), Lib.hid hR, k.size, k.alloc _⟩
theorem loc_set {V w : World} {b G C n : Nat} {Bs : Nat → Option Addr} {cs : Nat → Nat} {F : Nat → Nat → Nat} {B : Option Addr} {m c : Nat} {R : (Nat → Nat → Nat) → Prop} (k : Ext V w) (hr : RW w b 36 1 (fun _ => .slice B m c)) (hb : V.heap.size ≤ b) (h : PM w G C n Bs cs F) (hR : R F) : LocIn V (w.setCell ⟨b, 0, none⟩ (.slice (some ⟨G, 0, none⟩) C C)) b C n R :=
  ⟨G, Bs, cs, F, (hr.set (i := 0) (by omega) _).congr (fun i hi => by rw [if_pos (by omega)]), h.aside hr rfl _, Lib.hid hR, hb, k.set (p := ⟨b, 0, none⟩) hb _⟩
theorem LocIn.mono {V w : World} {b C n : Nat} {R R' : (Nat → Nat → Nat) → Prop} (h : LocIn V w b C n R) (hR : ∀ F, R F → R' F) : LocIn V w b C n R' := by
  obtain ⟨G, Bs, cs, F, h1, h2, h3, h4⟩ := h
  exact ⟨G, Bs, cs, F, h1, h2, Lib.hid (hR F h3.out), h4⟩
set_option maxHeartbeats 16000000 in
theorem scaleSum_any (s x N n K C L cr cw ca cb : Nat) (Ar Aw Aa Ab : Option Addr) (A1 A2 A3 A4 : Option Addr) (n1 c1 n2 c2 n3 c3 n4 c4 : Nat) (q qw p' : Nat → Nat) (a' e' : Nat → Nat → Nat) (Aj Bj : Nat → Option Addr) (Lj Mj cj dj : Nat → Nat) (Ba Bb : Nat → Nat → Option Addr) (nsa csa nsb csb : Nat → Nat → Nat) (fa fb : Nat → Nat → Nat → Nat) (w : World)
    (hs : w.cell? ⟨s, 1, none⟩ = some (.pointer (some ⟨x, 0, none⟩))) (hR : Rg w x n K qw p' a' e') (hCK : C ≤ K) (hC0 : 1 ≤ C) (hAr : FX w Ar L cr q) (hAw : FX w Aw C cw qw) (hrow : RowC L q) (hroww : RowC C qw) (hsq : Hid (∀ j, j < C → ∃ y, y < qw j ∧ noSq (qw j) y = true)) (hn0 : 0 < n) (hn : n ≤ 32) (hT : Tabs w)
    (hA : QP w Aa (N + 1) ca Aj Lj cj Ba nsa csa fa) (hB : QP w Ab (N + 1) cb Bj Mj dj Bb nsb csb fb) (hN : N ≤ 10) (hEa : Hid (∀ k, k ≤ N → Lj k = L ∧ Lsts n L (nsa k) (fa k) q)) (hEb : Hid (∀ k, k ≤ N → Mj k = L ∧ Lsts n L (nsb k) (fb k) q)) :
    Calls Tryz.prog 25 #[.pointer (some ⟨s, 0, none⟩), .slice Aa (N + 1) ca, .slice Ab (N + 1) cb, .agg #[.slice Ar L cr, .slice Aw C cw, .bool false, .slice A1 n1 c1, .slice A2 n2 c2, .bool false, .slice A3 n3 c3, .slice A4 n4 c4]] w fun ee w' => ∃ (pa pb : Nat → Nat → Nat) (G : Nat) (Bs : Nat → Option Addr) (cs : Nat → Nat) (F : Nat → Nat → Nat), ee = .returned (.agg #[.slice (some ⟨G, 0, none⟩) C C]) ∧ PM w' G C n Bs cs F ∧ Hid (SumOk (N + 1) n C L q qw fa fb pa pb F) ∧ Ext w w' := by
  have HRG := Lib.hid hR
  have HAR := Lib.hid hAr
  have HAW := Lib.hid hAw
  have HROW := Lib.hid hrow
  have HROWW := Lib.hid hroww
  have HT := Lib.hid hT
  have HA := Lib.hid hA
  have HB := Lib.hid hB
  clear hR hAr hAw hrow hroww hT hA hB
  obtain ⟨ada, rfl, hca⟩ := HA.out.qx.cells (by omega)
  obtain ⟨adb, rfl, hcb⟩ := HB.out.qx.cells (by omega)
  have k0 : Ext w ((w.alloc (.cells #[.slice Ar L cr, .slice Aw C cw, .bool false, .slice A1 n1 c1, .slice A2 n2 c2, .bool false, .slice A3 n3 c3, .slice A4 n4 c4] 58)).alloc (.cells #[.slice none 0 0] 36)) := ((Ext.refl w).alloc _).alloc _
  have k2 : Ext (w.alloc (.cells #[.slice Ar L cr, .slice Aw C cw, .bool false, .slice A1 n1 c1, .slice A2 n2 c2, .bool false, .slice A3 n3 c3, .slice A4 n4 c4] 58)) ((w.alloc (.cells #[.slice Ar L cr, .slice Aw C cw, .bool false, .slice A1 n1 c1, .slice A2 n2 c2, .bool false, .slice A3 n3 c3, .slice A4 n4 c4] 58)).alloc (.cells #[.slice none 0 0] 36)) := (Ext.refl _).alloc _
  have x0 : (w.alloc (.cells #[.slice Ar L cr, .slice Aw C cw, .bool false, .slice A1 n1 c1, .slice A2 n2 c2, .bool false, .slice A3 n3 c3, .slice A4 n4 c4] 58)).cell? ⟨w.heap.size, 0, none⟩ = some (.slice Ar L cr) := by simp
  have x1 : (w.alloc (.cells #[.slice Ar L cr, .slice Aw C cw, .bool false, .slice A1 n1 c1, .slice A2 n2 c2, .bool false, .slice A3 n3 c3, .slice A4 n4 c4] 58)).cell? ⟨w.heap.size, 1, none⟩ = some (.slice Aw C cw) := by simp
  have x2 : (w.alloc (.cells #[.slice Ar L cr, .slice Aw C cw, .bool false, .slice A1 n1 c1, .slice A2 n2 c2, .bool false, .slice A3 n3 c3, .slice A4 n4 c4] 58)).cell? ⟨w.heap.size, 2, none⟩ = some (.bool false) := by simp
  have x3 : (w.alloc (.cells #[.slice Ar L cr, .slice Aw C cw, .bool false, .slice A1 n1 c1, .slice A2 n2 c2, .bool false, .slice A3 n3 c3, .slice A4 n4 c4] 58)).cell? ⟨w.heap.size, 3, none⟩ = some (.slice A1 n1 c1) := by simp
  have x4 : (w.alloc (.cells #[.slice Ar L cr, .slice Aw C cw, .bool false, .slice A1 n1 c1, .slice A2 n2 c2, .bool false, .slice A3 n3 c3, .slice A4 n4 c4] 58)).cell? ⟨w.heap.size, 4, none⟩ = some (.slice A2 n2 c2) := by simp
  have x5 : (w.alloc (.cells #[.slice Ar L cr, .slice Aw C cw, .bool false, .slice A1 n1 c1, .slice A2 n2 c2, .bool false, .slice A3 n3 c3, .slice A4 n4 c4] 58)).cell? ⟨w.heap.size, 5, none⟩ = some (.bool false) := by simp
  have x6 : (w.alloc (.cells #[.slice Ar L cr, .slice Aw C cw, .bool false, .slice A1 n1 c1, .slice A2 n2 c2, .bool false, .slice A3 n3 c3, .slice A4 n4 c4] 58)).cell? ⟨w.heap.size, 6, none⟩ = some (.slice A3 n3 c3) := by simp
  have x7 : (w.alloc (.cells #[.slice Ar L cr, .slice Aw C cw, .bool false, .slice A1 n1 c1, .slice A2 n2 c2, .bool false, .slice A3 n3 c3, .slice A4 n4 c4] 58)).cell? ⟨w.heap.size, 7, none⟩ = some (.slice A4 n4 c4) := by simp
  have hr : RW ((w.alloc (.cells #[.slice Ar L cr, .slice Aw C cw, .bool false, .slice A1 n1 c1, .slice A2 n2 c2, .bool false, .slice A3 n3 c3, .slice A4 n4 c4] 58)).alloc (.cells #[.slice none 0 0] 36)) (w.heap.size + 1) 36 1 (fun _ => .slice none 0 0) := by
    have : RW ((w.alloc (.cells #[.slice Ar L cr, .slice Aw C cw, .bool false, .slice A1 n1 c1, .slice A2 n2 c2, .bool false, .slice A3 n3 c3, .slice A4 n4 c4] 58)).alloc (.cells #[.slice none 0 0] 36)) (w.alloc (.cells #[.slice Ar L cr, .slice Aw C cw, .bool false, .slice A1 n1 c1, .slice A2 n2 c2, .bool false, .slice A3 n3 c3, .slice A4 n4 c4] 58)).heap.size 36 1 (fun _ => .slice none 0 0) := heap_alloc_new _ _
    rwa [show (w.alloc (.cells #[.slice Ar L cr, .slice Aw C cw, .bool false, .slice A1 n1 c1, .slice A2 n2 c2, .bool false, .slice A3 n3 c3, .slice A4 n4 c4] 58)).heap.size = w.heap.size + 1 by simp] at this
  replace x0 := cell_ext k2 x0
  replace x1 := cell_ext k2 x1
  replace x2 := cell_ext k2 x2
  replace x3 := cell_ext k2 x3
  replace x4 := cell_ext k2 x4
  replace x5 := cell_ext k2 x5
  replace x6 := cell_ext k2 x6
  replace x7 := cell_ext k2 x7
  clear k2
  have y1 := cell_ext k0 hs
  have ea := cell_ext k0 (hca 0 (by omega))
  have eb := cell_ext k0 (hcb 0 (by omega))
  rw [(hEa.out 0 (by omega)).1, show ada.add 0 = ada from rfl] at ea
  rw [(hEb.out 0 (by omega)).1, show adb.add 0 = adb from rfl] at eb
  have HCA := Lib.hid hca
  have HCB := Lib.hid hcb
  clear hca hcb
  have HWA := Lib.hid (fun k (hk : k ≤ N) w' (h : Ext w w') => widened_any L (cj k) cr n C cw (Aj k) Ar Aw (Ba k) (nsa k) (csa k) (fa k) q qw false false A1 A2 A3 A4 n1 c1 n2 c2 n3 c3 n4 c4 w' (by have h1 := (HA.out.els k (by omega)).1.ext h; rwa [(hEa.out k hk).1] at h1) (HAR.out.ext h) (HAW.out.ext h) (Lib.hid fun j hj => by have := (okq_lt HROW.out j hj).2; omega) (Lib.hid fun j hj => by have := (okq_lt HROWW.out j hj).2; omega) (HT.out.ext h) HROW.out HROWW.out (Lib.hid (hEa.out k hk).2) hn0 (by omega))
  have HWB := Lib.hid (fun k (hk : k ≤ N) w' (h : Ext w w') => widened_any L (dj k) cr n C cw (Bj k) Ar Aw (Bb k) (nsb k) (csb k) (fb k) q qw false false A1 A2 A3 A4 n1 c1 n2 c2 n3 c3 n4 c4 w' (by have h1 := (HB.out.els k (by omega)).1.ext h; rwa [(hEb.out k hk).1] at h1) (HAR.out.ext h) (HAW.out.ext h) (Lib.hid fun j hj => by have := (okq_lt HROW.out j hj).2; omega) (Lib.hid fun j hj => by have := (okq_lt HROWW.out j hj).2; omega) (HT.out.ext h) HROW.out HROWW.out (Lib.hid (hEb.out k hk).2) hn0 (by omega))
  go_enter Tryz.func25, Tryz.ntmps25
  go_upto_region 1 with fail
  generalize ((w.alloc (.cells #[.slice Ar L cr, .slice Aw C cw, .bool false, .slice A1 n1 c1, .slice A2 n2 c2, .bool false, .slice A3 n3 c3, .slice A4 n4 c4] 58)).alloc (.cells #[.slice none 0 0] 36)) = V at *
  have hsV : s < V.heap.size := by have := World.block_lt_of_cell? _ _ y1; simpa using this
  have haV : ada.block < V.heap.size := World.block_lt_of_cell? _ _ ea
  have hbV : adb.block < V.heap.size := World.block_lt_of_cell? _ _ eb
  have hwV : w.heap.size + 1 < V.heap.size := hr.lt
  have xy := y1
  go_cut [9, 10] (fun s9 s10 wx => ∃ b, s9 = .pointer (some ⟨b, 0, none⟩) ∧ s10 = .int .i64 0 ∧ LocIn V wx b C n (ProdOk 0 n C L q qw fa fb))
  case first =>
    have kk : Ext V V := Ext.refl V
    have HMU := Lib.hid (fun w' (h : Ext V w') G1 Bs1 F1 G2 Bs2 F2 (h1 : PM w' G1 C n Bs1 (fun _ => n) F1) (h2 : PM w' G2 C n Bs2 (fun _ => n) F2) (e1 : ∀ j, j < C → ∀ i, i < n → F1 j i < qw j) (e2 : ∀ j, j < C → ∀ i, i < n → F2 j i < qw j) => rMul_any x n K qw p' a' e' _ _ C C C _ _ _ _ _ _ F1 F2 w' (HRG.out.ext (k0.trans h)) (Lib.hid ⟨h1.px, by have := HROWW.out.2.1; omega, fun _ _ => by omega⟩) (Lib.hid ⟨h2.px, by have := HROWW.out.2.1; omega, fun _ _ => by omega⟩) ⟨⟨by omega, hCK, fun j hj => ⟨rfl, e1 j hj⟩⟩, ⟨by omega, hCK, fun j hj => ⟨rfl, e2 j hj⟩⟩⟩ hsq.out)
    go_region_held3 (fun w' => w'.cell? ⟨w.heap.size, 0, none⟩ = some (.slice Ar L cr) ∧ w'.cell? ⟨w.heap.size, 1, none⟩ = some (.slice Aw C cw) ∧ w'.cell? ⟨w.heap.size, 2, none⟩ = some (.bool false) ∧ w'.cell? ⟨w.heap.size, 3, none⟩ = some (.slice A1 n1 c1) ∧ w'.cell? ⟨w.heap.size, 4, none⟩ = some (.slice A2 n2 c2) ∧ w'.cell? ⟨w.heap.size, 5, none⟩ = some (.bool false) ∧ w'.cell? ⟨w.heap.size, 6, none⟩ = some (.slice A3 n3 c3) ∧ w'.cell? ⟨w.heap.size, 7, none⟩ = some (.slice A4 n4 c4) ∧ w'.cell? ⟨s, 1, none⟩ = some (.pointer (some ⟨x, 0, none⟩)) ∧ w'.cell? ada = some (.slice (Aj 0) L (cj 0)) ∧ w'.cell? adb = some (.slice (Bj 0) L (dj 0))) (go_keep)
      (first
        | (go_at_call_of 49 Aj; refine (HWA.out 0 (by omega) _ (k0.trans (by first | with_reducible exact kk | with_reducible exact Ext.drew kk | with_reducible exact Ext.alloc kk _ | with_reducible exact Ext.drew (Ext.alloc kk _) | with_reducible exact Ext.alloc (Ext.drew kk) _))).mono ?_; rintro e5 w5 ⟨pa0, Ga, Bsa, Fa, HPa, rfl, hpma, hFa, k5⟩; have hold := kk.size; replace kk : Ext V w5 := (by first | with_reducible exact Ext.trans kk k5 | with_reducible exact Ext.trans (Ext.drew kk) k5 | with_reducible exact Ext.trans (Ext.alloc kk _) k5 | with_reducible exact Ext.trans (Ext.drew (Ext.alloc kk _)) k5 | with_reducible exact Ext.trans (Ext.alloc (Ext.drew kk) _) k5); (first | (have hpr3 := (by first | with_reducible exact RW.ext hpr k5 | with_reducible exact RW.ext hpr ((Ext.refl _).drew.trans k5)); replace hpr := hpr3; have q0 := hpr.cell (i := 0) (by omega); have g0 := hpr.frozen 0; have gl := hpr.lt) | (have hpr := (by first | with_reducible exact RW.ext (one_new _) k5 | with_reducible exact RW.ext (one_new _) ((Ext.refl _).drew.trans k5)); have q0 := hpr.cell (i := 0) (by omega); have g0 := hpr.frozen 0; have gl := hpr.lt; have hbk := hold; obtain ⟨m0, m1, m2, m3, m4, m5, m6, m7, m8, m9⟩ := apart_blk hwV hsV haV hbV hold) | skip); have ha1 := Lib.hid (fun j (hj : j < C) i (hi : i < n) => (show Fa j i < qw j by rw [hFa.out j hj i hi]; exact resF_lt (okq_lt HROWW.out j hj).1)); have d0 := cell_ext kk x0; have d1 := cell_ext kk x1; have d2 := cell_ext kk x2; have d3 := cell_ext kk x3; have d4 := cell_ext kk x4; have d5 := cell_ext kk x5; have d6 := cell_ext kk x6; have d7 := cell_ext kk x7; have d8 := cell_ext kk xy; have d9 := cell_ext kk ea; have d10 := cell_ext kk eb)
        | (go_at_call_of 49 Bj; refine (HWB.out 0 (by omega) _ (k0.trans (by first | with_reducible exact kk | with_reducible exact Ext.drew kk | with_reducible exact Ext.alloc kk _ | with_reducible exact Ext.drew (Ext.alloc kk _) | with_reducible exact Ext.alloc (Ext.drew kk) _))).mono ?_; rintro e6 w6 ⟨pb0, Gb, Bsb, Fb, HPb, rfl, hpmb, hFb, k6⟩; have hold := kk.size; replace kk : Ext V w6 := (by first | with_reducible exact Ext.trans kk k6 | with_reducible exact Ext.trans (Ext.drew kk) k6 | with_reducible exact Ext.trans (Ext.alloc kk _) k6 | with_reducible exact Ext.trans (Ext.drew (Ext.alloc kk _)) k6 | with_reducible exact Ext.trans (Ext.alloc (Ext.drew kk) _) k6); (first | (have hpr3 := (by first | with_reducible exact RW.ext hpr k6 | with_reducible exact RW.ext hpr ((Ext.refl _).drew.trans k6)); replace hpr := hpr3; have q0 := hpr.cell (i := 0) (by omega); have g0 := hpr.frozen 0; have gl := hpr.lt) | (have hpr := (by first | with_reducible exact RW.ext (one_new _) k6 | with_reducible exact RW.ext (one_new _) ((Ext.refl _).drew.trans k6)); have q0 := hpr.cell (i := 0) (by omega); have g0 := hpr.frozen 0; have gl := hpr.lt; have hbk := hold; obtain ⟨m0, m1, m2, m3, m4, m5, m6, m7, m8, m9⟩ := apart_blk hwV hsV haV hbV hold) | skip); have hpma := (by first | with_reducible exact hpma.ext k6 | with_reducible exact hpma.ext ((Ext.refl _).drew.trans k6) | with_reducible exact hpma.ext (((Ext.refl _).alloc _).trans k6) | with_reducible exact hpma.ext ((((Ext.refl _).alloc _).drew).trans k6)); have hb1 := Lib.hid (fun j (hj : j < C) i (hi : i < n) => (show Fb j i < qw j by rw [hFb.out j hj i hi]; exact resF_lt (okq_lt HROWW.out j hj).1)); have d0 := cell_ext kk x0; have d1 := cell_ext kk x1; have d2 := cell_ext kk x2; have d3 := cell_ext kk x3; have d4 := cell_ext kk x4; have d5 := cell_ext kk x5; have d6 := cell_ext kk x6; have d7 := cell_ext kk x7; have d8 := cell_ext kk xy; have d9 := cell_ext kk ea; have d10 := cell_ext kk eb)
        | (go_at_call 48; refine (HMU.out _ (by first | with_reducible exact kk | with_reducible exact Ext.drew kk | with_reducible exact Ext.alloc kk _ | with_reducible exact Ext.drew (Ext.alloc kk _) | with_reducible exact Ext.alloc (Ext.drew kk) _) Ga Bsa Fa Gb Bsb Fb (by first | with_reducible exact hpma | with_reducible exact hpma.ext ((Ext.refl _).drew) | with_reducible exact hpma.ext ((Ext.refl _).alloc _) | with_reducible exact hpma.ext (((Ext.refl _).alloc _).drew)) (by first | with_reducible exact hpmb | with_reducible exact hpmb.ext ((Ext.refl _).drew) | with_reducible exact hpmb.ext ((Ext.refl _).alloc _) | with_reducible exact hpmb.ext (((Ext.refl _).alloc _).drew)) ha1.out hb1.out).mono ?_; rintro e7 w7 ⟨Gc, Bsc, csc, Fc, rfl, hpmc, hFc, k7⟩; have hold := kk.size; replace kk : Ext V w7 := (by first | with_reducible exact Ext.trans kk k7 | with_reducible exact Ext.trans (Ext.drew kk) k7 | with_reducible exact Ext.trans (Ext.alloc kk _) k7 | with_reducible exact Ext.trans (Ext.drew (Ext.alloc kk _)) k7 | with_reducible exact Ext.trans (Ext.alloc (Ext.drew kk) _) k7); (first | (have hpr3 := (by first | with_reducible exact RW.ext hpr k7 | with_reducible exact RW.ext hpr ((Ext.refl _).drew.trans k7)); replace hpr := hpr3; have q0 := hpr.cell (i := 0) (by omega); have g0 := hpr.frozen 0; have gl := hpr.lt) | (have hpr := (by first | with_reducible exact RW.ext (one_new _) k7 | with_reducible exact RW.ext (one_new _) ((Ext.refl _).drew.trans k7)); have q0 := hpr.cell (i := 0) (by omega); have g0 := hpr.frozen 0; have gl := hpr.lt; have hbk := hold; obtain ⟨m0, m1, m2, m3, m4, m5, m6, m7, m8, m9⟩ := apart_blk hwV hsV haV hbV hold) | skip); have d0 := cell_ext kk x0; have d1 := cell_ext kk x1; have d2 := cell_ext kk x2; have d3 := cell_ext kk x3; have d4 := cell_ext kk x4; have d5 := cell_ext kk x5; have d6 := cell_ext kk x6; have d7 := cell_ext kk x7; have d8 := cell_ext kk xy; have d9 := cell_ext kk ea; have d10 := cell_ext kk eb; (first | (have n6 := far_new hpr haV hbk d9; have n7 := far_new hpr hbV hbk d10) | (have n6 := fun o => cell_ext ((Ext.refl w7).alloc o) d9; have n7 := fun o => cell_ext ((Ext.refl w7).alloc o) d10)))
        | fail)
    all_goals
      have HPR := Lib.hid (prodOk_of (k := 0) (fa := fa) (fb := fb) HPa.out HPb.out hFa.out hFb.out hFc.out)
      (go_wp2_with fail; go_meet; (first | exact ⟨_, rfl, rfl, loc_new kk hpmc HPR.out⟩ | exact ⟨_, rfl, rfl, loc_set kk hpr hbk hpmc HPR.out⟩))
  case rest =>
    obtain ⟨b, rfl, rfl, hl0⟩ := hcut
    rename World => wx
    replace hl0 := hl0.mono (fun F h => sumEx_one h)
    clear ea eb
    go_wp2_with fail
    go_loopw [11] (fun iv wr => ∃ i : Nat, 1 ≤ i ∧ i ≤ N + 1 ∧ iv = .int .i64 (i : Int) ∧ LocIn V wr b C n (SumEx i n C L q qw fa fb)) (fun iv _ => N + 1 - (intOf iv).toNat)
    case atStart => exact ⟨1, by omega, by omega, rfl, hl0⟩
    case round =>
      obtain ⟨i, hi1, hi, rfl, hl⟩ := hrel
      clear hl0
      obtain ⟨G, Bs, cs, F, hrb, hpm, hF, hb0, kr⟩ := hl
      by_cases hlt : i < N + 1
      · have i0 : (0 : Int) ≤ (i : Int) := by omega
        have i1 : (i : Int) < ((N + 1 : Nat) : Int) := by omega
        have i2 : (i : Int) < (N : Int) + 1 := by omega
        have ea := cell_ext (k0.trans kr) (HCA.out i hlt)
        have eb := cell_ext (k0.trans kr) (HCB.out i hlt)
        rw [(hEa.out i (by omega)).1] at ea
        rw [(hEb.out i (by omega)).1] at eb
        have z0 := cell_ext kr x0
        have z1 := cell_ext kr x1
        have z2 := cell_ext kr x2
        have z3 := cell_ext kr x3
        have z4 := cell_ext kr x4
        have z5 := cell_ext kr x5
        have z6 := cell_ext kr x6
        have z7 := cell_ext kr x7
        have zy := cell_ext kr y1
        have K0 := k0.trans kr
        have hsV' := Nat.lt_of_lt_of_le hsV kr.size
        have haV' : (ada.add i).block < wr.heap.size := by rw [show (ada.add i).block = ada.block by unfold Addr.add; split <;> rfl]; exact Nat.lt_of_lt_of_le haV kr.size
        have hbV' : (adb.add i).block < wr.heap.size := by rw [show (adb.add i).block = adb.block by unfold Addr.add; split <;> rfl]; exact Nat.lt_of_lt_of_le hbV kr.size
        have hwV' := Nat.lt_of_lt_of_le hwV kr.size
        clear hsV haV hbV hwV
        rename s < wr.heap.size => hsV
        rename (ada.add i).block < wr.heap.size => haV
        rename (adb.add i).block < wr.heap.size => hbV
        rename w.heap.size + 1 < wr.heap.size => hwV
        have HHB := Lib.hid hrb
        have HHP := Lib.hid hpm
        clear hrb hpm xy
        clear x0 x1 x2 x3 x4 x5 x6 x7
        go_upto_region 5 with fail
        go_cut [12, 13] (fun s12 s13 wx => ∃ b2, s12 = .pointer (some ⟨b2, 0, none⟩) ∧ s13 = .int .i64 0 ∧ LocIn wr wx b2 C n (ProdOk i n C L q qw fa fb))
        case first =>
          have kk : Ext wr wr := Ext.refl wr
          have HMU := Lib.hid (fun w' (h : Ext wr w') G1 Bs1 F1 G2 Bs2 F2 (h1 : PM w' G1 C n Bs1 (fun _ => n) F1) (h2 : PM w' G2 C n Bs2 (fun _ => n) F2) (e1 : ∀ j, j < C → ∀ i, i < n → F1 j i < qw j) (e2 : ∀ j, j < C → ∀ i, i < n → F2 j i < qw j) => rMul_any x n K qw p' a' e' _ _ C C C _ _ _ _ _ _ F1 F2 w' (HRG.out.ext (K0.trans h)) (Lib.hid ⟨h1.px, by have := HROWW.out.2.1; omega, fun _ _ => by omega⟩) (Lib.hid ⟨h2.px, by have := HROWW.out.2.1; omega, fun _ _ => by omega⟩) ⟨⟨by omega, hCK, fun j hj => ⟨rfl, e1 j hj⟩⟩, ⟨by omega, hCK, fun j hj => ⟨rfl, e2 j hj⟩⟩⟩ hsq.out)
          go_region_held3 (fun w' => w'.cell? ⟨w.heap.size, 0, none⟩ = some (.slice Ar L cr) ∧ w'.cell? ⟨w.heap.size, 1, none⟩ = some (.slice Aw C cw) ∧ w'.cell? ⟨w.heap.size, 2, none⟩ = some (.bool false) ∧ w'.cell? ⟨w.heap.size, 3, none⟩ = some (.slice A1 n1 c1) ∧ w'.cell? ⟨w.heap.size, 4, none⟩ = some (.slice A2 n2 c2) ∧ w'.cell? ⟨w.heap.size, 5, none⟩ = some (.bool false) ∧ w'.cell? ⟨w.heap.size, 6, none⟩ = some (.slice A3 n3 c3) ∧ w'.cell? ⟨w.heap.size, 7, none⟩ = some (.slice A4 n4 c4) ∧ w'.cell? ⟨s, 1, none⟩ = some (.pointer (some ⟨x, 0, none⟩)) ∧ w'.cell? (ada.add i) = some (.slice (Aj i) L (cj i)) ∧ w'.cell? (adb.add i) = some (.slice (Bj i) L (dj i))) (go_keep)
            (first
              | (go_at_call_of 49 Aj; refine (HWA.out i (by omega) _ (K0.trans (by first | with_reducible exact kk | with_reducible exact Ext.drew kk | with_reducible exact Ext.alloc kk _ | with_reducible exact Ext.drew (Ext.alloc kk _) | with_reducible exact Ext.alloc (Ext.drew kk) _))).mono ?_; rintro e5 w5 ⟨pa0, Ga, Bsa, Fa, HPa, rfl, hpma, hFa, k5⟩; have hold := kk.size; replace kk : Ext wr w5 := (by first | with_reducible exact Ext.trans kk k5 | with_reducible exact Ext.trans (Ext.drew kk) k5 | with_reducible exact Ext.trans (Ext.alloc kk _) k5 | with_reducible exact Ext.trans (Ext.drew (Ext.alloc kk _)) k5 | with_reducible exact Ext.trans (Ext.alloc (Ext.drew kk) _) k5); (first | (have hpr3 := (by first | with_reducible exact RW.ext hpr k5 | with_reducible exact RW.ext hpr ((Ext.refl _).drew.trans k5)); replace hpr := hpr3; have q0 := hpr.cell (i := 0) (by omega); have g0 := hpr.frozen 0; have gl := hpr.lt) | (have hpr := (by first | with_reducible exact RW.ext (one_new _) k5 | with_reducible exact RW.ext (one_new _) ((Ext.refl _).drew.trans k5)); have q0 := hpr.cell (i := 0) (by omega); have g0 := hpr.frozen 0; have gl := hpr.lt; have hbk := hold; obtain ⟨m0, m1, m2, m3, m4, m5, m6, m7, m8, m9⟩ := apart_blk hwV hsV haV hbV hold) | skip); have ha1 := Lib.hid (fun j (hj : j < C) i (hi : i < n) => (show Fa j i < qw j by rw [hFa.out j hj i hi]; exact resF_lt (okq_lt HROWW.out j hj).1)); have d0 := cell_ext kk z0; have d1 := cell_ext kk z1; have d2 := cell_ext kk z2; have d3 := cell_ext kk z3; have d4 := cell_ext kk z4; have d5 := cell_ext kk z5; have d6 := cell_ext kk z6; have d7 := cell_ext kk z7; have d8 := cell_ext kk zy; have d9 := cell_ext kk ea; have d10 := cell_ext kk eb)
              | (go_at_call_of 49 Bj; refine (HWB.out i (by omega) _ (K0.trans (by first | with_reducible exact kk | with_reducible exact Ext.drew kk | with_reducible exact Ext.alloc kk _ | with_reducible exact Ext.drew (Ext.alloc kk _) | with_reducible exact Ext.alloc (Ext.drew kk) _))).mono ?_; rintro e6 w6 ⟨pb0, Gb, Bsb, Fb, HPb, rfl, hpmb, hFb, k6⟩; have hold := kk.size; replace kk : Ext wr w6 := (by first | with_reducible exact Ext.trans kk k6 | with_reducible exact Ext.trans (Ext.drew kk) k6 | with_reducible exact Ext.trans (Ext.alloc kk _) k6 | with_reducible exact Ext.trans (Ext.drew (Ext.alloc kk _)) k6 | with_reducible exact Ext.trans (Ext.alloc (Ext.drew kk) _) k6); (first | (have hpr3 := (by first | with_reducible exact RW.ext hpr k6 | with_reducible exact RW.ext hpr ((Ext.refl _).drew.trans k6)); replace hpr := hpr3; have q0 := hpr.cell (i := 0) (by omega); have g0 := hpr.frozen 0; have gl := hpr.lt) | (have hpr := (by first | with_reducible exact RW.ext (one_new _) k6 | with_reducible exact RW.ext (one_new _) ((Ext.refl _).drew.trans k6)); have q0 := hpr.cell (i := 0) (by omega); have g0 := hpr.frozen 0; have gl := hpr.lt; have hbk := hold; obtain ⟨m0, m1, m2, m3, m4, m5, m6, m7, m8, m9⟩ := apart_blk hwV hsV haV hbV hold) | skip); have hpma := (by first | with_reducible exact hpma.ext k6 | with_reducible exact hpma.ext ((Ext.refl _).drew.trans k6) | with_reducible exact hpma.ext (((Ext.refl _).alloc _).trans k6) | with_reducible exact hpma.ext ((((Ext.refl _).alloc _).drew).trans k6)); have hb1 := Lib.hid (fun j (hj : j < C) i (hi : i < n) => (show Fb j i < qw j by rw [hFb.out j hj i hi]; exact resF_lt (okq_lt HROWW.out j hj).1)); have d0 := cell_ext kk z0; have d1 := cell_ext kk z1; have d2 := cell_ext kk z2; have d3 := cell_ext kk z3; have d4 := cell_ext kk z4; have d5 := cell_ext kk z5; have d6 := cell_ext kk z6; have d7 := cell_ext kk z7; have d8 := cell_ext kk zy; have d9 := cell_ext kk ea; have d10 := cell_ext kk eb)
              | (go_at_call 48; refine (HMU.out _ (by first | with_reducible exact kk | with_reducible exact Ext.drew kk | with_reducible exact Ext.alloc kk _ | with_reducible exact Ext.drew (Ext.alloc kk _) | with_reducible exact Ext.alloc (Ext.drew kk) _) Ga Bsa Fa Gb Bsb Fb (by first | with_reducible exact hpma | with_reducible exact hpma.ext ((Ext.refl _).drew) | with_reducible exact hpma.ext ((Ext.refl _).alloc _) | with_reducible exact hpma.ext (((Ext.refl _).alloc _).drew)) (by first | with_reducible exact hpmb | with_reducible exact hpmb.ext ((Ext.refl _).drew) | with_reducible exact hpmb.ext ((Ext.refl _).alloc _) | with_reducible exact hpmb.ext (((Ext.refl _).alloc _).drew)) ha1.out hb1.out).mono ?_; rintro e7 w7 ⟨Gc, Bsc, csc, Fc, rfl, hpmc, hFc, k7⟩; have hold := kk.size; replace kk : Ext wr w7 := (by first | with_reducible exact Ext.trans kk k7 | with_reducible exact Ext.trans (Ext.drew kk) k7 | with_reducible exact Ext.trans (Ext.alloc kk _) k7 | with_reducible exact Ext.trans (Ext.drew (Ext.alloc kk _)) k7 | with_reducible exact Ext.trans (Ext.alloc (Ext.drew kk) _) k7); (first | (have hpr3 := (by first | with_reducible exact RW.ext hpr k7 | with_reducible exact RW.ext hpr ((Ext.refl _).drew.trans k7)); replace hpr := hpr3; have q0 := hpr.cell (i := 0) (by omega); have g0 := hpr.frozen 0; have gl := hpr.lt) | (have hpr := (by first | with_reducible exact RW.ext (one_new _) k7 | with_reducible exact RW.ext (one_new _) ((Ext.refl _).drew.trans k7)); have q0 := hpr.cell (i := 0) (by omega); have g0 := hpr.frozen 0; have gl := hpr.lt; have hbk := hold; obtain ⟨m0, m1, m2, m3, m4, m5, m6, m7, m8, m9⟩ := apart_blk hwV hsV haV hbV hold) | skip); have d0 := cell_ext kk z0; have d1 := cell_ext kk z1; have d2 := cell_ext kk z2; have d3 := cell_ext kk z3; have d4 := cell_ext kk z4; have d5 := cell_ext kk z5; have d6 := cell_ext kk z6; have d7 := cell_ext kk z7; have d8 := cell_ext kk zy; have d9 := cell_ext kk ea; have d10 := cell_ext kk eb; (first | (have n6 := far_new hpr haV hbk d9; have n7 := far_new hpr hbV hbk d10) | (have n6 := fun o => cell_ext ((Ext.refl w7).alloc o) d9; have n7 := fun o => cell_ext ((Ext.refl w7).alloc o) d10)))
              | fail)
          all_goals
            have HPR := Lib.hid (prodOk_of (k := i) (fa := fa) (fb := fb) HPa.out HPb.out hFa.out hFb.out hFc.out)
            (go_wp2_with fail; go_meet; (first | exact ⟨_, rfl, rfl, loc_new kk hpmc HPR.out⟩ | exact ⟨_, rfl, rfl, loc_set kk hpr hbk hpmc HPR.out⟩))
        case rest =>
          obtain ⟨b2, rfl, rfl, hl2⟩ := hcut
          rename World => wy
          obtain ⟨G2, Bs2, cs2, F2, hr2, hpm2, hF2, hb2, ky⟩ := hl2
          have y8 := cell_ext ky zy
          have hrB := HHB.out.ext ky
          have hpB := HHP.out.ext ky
          have cB := hrB.cell (i := 0) (by omega)
          have c2 := hr2.cell (i := 0) (by omega)
          have eF : ∀ j, j < C → ∀ i, i < n → F j i < qw j := by
            obtain ⟨pa, pb, h1, h2⟩ := hF.out
            exact fun j hj i hi => (h2 j hj i hi).1
          have eF2 : ∀ j, j < C → ∀ i, i < n → F2 j i < qw j := by
            obtain ⟨pa, pb, h1, h2, h3⟩ := hF2.out
            exact fun j hj i hi => (h3 j hj i hi).1
          have HAD := Lib.hid (fun w' (h : Ext wy w') => rAdd_any x n K qw p' a' e' _ _ C C C _ _ _ _ _ _ F F2 w' (HRG.out.ext ((K0.trans ky).trans h)) (Lib.hid ⟨(hpB.ext h).px, by have := HROWW.out.2.1; omega, fun j hj => by omega⟩) (Lib.hid ⟨(hpm2.ext h).px, by have := HROWW.out.2.1; omega, fun j hj => by omega⟩) ⟨⟨by omega, hCK, fun j hj => ⟨rfl, eF j hj⟩⟩, ⟨by omega, hCK, fun j hj => ⟨rfl, eF2 j hj⟩⟩⟩)
          have KR := Lib.hid kr
          have KY := Lib.hid ky
          have HRB := Lib.hid hrB
          have HQ0 := Lib.hid (fun j (hj : j < C) => (okq_lt HROWW.out j hj).1)
          clear hpB hpm2 eF eF2 hr2 hrB kr ky K0 HHB HHP
          clear z0 z1 z2 z3 z4 z5 z6 z7 zy ea eb HWA HWB
          go_upto_region 6 with fail
          go_region_law (first
            | (go_simp; go_at_call 50; refine (HAD.out _ (by first | with_reducible exact Ext.refl _ | with_reducible exact (Ext.refl _).drew)).mono ?_; rintro e8 w8 ⟨G8, Bs8, cs8, F8, rfl, hpm8, hF8, k8'⟩; have k8 : Ext wy w8 := (by first | with_reducible exact k8' | with_reducible exact (Ext.refl _).drew.trans k8'); have hrX := HRB.out.ext k8; have d0 := hrX.cell (i := 0) (by omega); have g0 := hrX.frozen 0; have gl := hrX.lt)
            | fail)
          all_goals
            have hls := loc_set (V := V) (R := SumEx (i + 1) n C L q qw fa fb) (KR.out.trans (KY.out.trans k8)) hrX hb0 hpm8 (sumEx_step hF.out hF2.out HQ0.out hF8.out)
            generalize w8.setCell ⟨b, 0, none⟩ (.slice (some ⟨G8, 0, none⟩) C C) = w9 at *
            clear k8 k8' hrX d0 g0 gl hpm8 hF8 y8 cB c2
            go_wp2
            go_roundw
            case rel => exact ⟨i + 1, by omega, by omega, by go_num, hls⟩
            case measure => simp [intOf]; omega
      · obtain rfl : i = N + 1 := by omega
        have hrr := hr.ext kr
        have cB := hrb.cell (i := 0) (by omega)
        have c8 := hrr.cell (i := 0) (by omega)
        have z8 := hrr.frozen 0
        have hsz := hrr.lt
        have HPM := Lib.hid hpm
        have HR6 := Lib.hid hrr
        have K6 := Lib.hid (k0.trans kr)
        clear hpm hrr hr kr k0 hrb x0 x1 x2 x3 x4 x5 x6 x7 HWA HWB
        go_wp2_with fail
        have d0 := ret_cell HR6.out (.slice (some ⟨G, 0, none⟩) C C)
        have d1 := K6.out.set (p := ⟨w.heap.size + 1, 0, none⟩) (by show w.heap.size ≤ w.heap.size + 1; omega) (.slice (some ⟨G, 0, none⟩) C C)
        have d2 := HPM.out.aside HR6.out rfl (.slice (some ⟨G, 0, none⟩) C C)
        generalize wr.setCell ⟨w.heap.size + 1, 0, none⟩ (.slice (some ⟨G, 0, none⟩) C C) = w9 at *
        clear c8 z8 cB
        obtain ⟨pa, pb, hok⟩ := hF.out
        exact bodyPost_ret (v := .agg #[.slice (some ⟨G, 0, none⟩) C C]) (by simp [results, Tryz.results25, go_sem, d0]) rfl ⟨pa, pb, G, Bs, cs, F, rfl, d2, Lib.hid hok, d1⟩
end Go.Proofs.YtcnogmhkffohgaaGreatDoor
