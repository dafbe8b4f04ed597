/-
  What values and coefficients of package ntt answer.
-/
import Derived.Test.YtafncjandiakmaaDoorTTrans
import Derived.Deep.RegionLaw
namespace Go.Proofs.YtafncjandiakmaaDoor
open Go.RowKit
set_option linter.unusedVariables false

set_option maxHeartbeats 1000000 in
theorem values_in (p n q k r v : Nat) (a e : Nat → Nat) (gp ge : Nat) (A : Option Addr) (cp : Nat) (f : Nat → Nat) (w : World) (hT : Tb w w.heap.size p n q a e gp ge) (hG : Hid (Good n q k r v a)) (hX : FX w A n cp f) (hf : Hid (∀ i, i < n → f i < q)) :
    Calls Tryd.prog 29 #[.pointer (some ⟨p, 0, none⟩), .slice A n cp] w fun ee w' => ∃ F : Nat → Nat, ee = .returned (.slice (some ⟨w.heap.size, 0, none⟩) n n) ∧ UW w' w.heap.size n F ∧ Hid (∀ i, i < n → F i < q ∧ M (q : Int) (F i : Int) (vals (r : Int) n (fun j => (f j : Int)) i)) ∧ Ext w w' := by
  have HT := Lib.hid hT
  clear hT
  go_enter Tryd.func29, Tryd.ntmps29
  go_wp2_with fail
  refine (transform_on p n q k r v a e gp ge A cp f w HT.out hG hX hf).mono ?_
  rintro ee w1 ⟨F, rfl, hu, hF, k1⟩
  have HF := Lib.hid (show ∀ i, i < n → F i < q ∧ M (q : Int) (F i : Int) (vals (r : Int) n (fun j => (f j : Int)) i) from fun i hi => ⟨(hF.out i hi).1, (hF.out i hi).2.trans (M.of (by
    unfold vals
    refine S_congr fun j _ => ?_
    rw [show (r : Int) * (r : Int) ^ (2 * i) = (r : Int) ^ (2 * i + 1) by rw [Int.pow_succ, Int.mul_comm], ← Int.pow_mul]))⟩)
  go_wp2
  go_ret
  exact ⟨F, rfl, hu, HF, k1⟩
/-- What the ends make good: each a power of the root's inverse, divided by n. -/
def Ends (n q v : Nat) (e : Nat → Nat) : Prop := ∃ u : Nat, M (q : Int) ((n : Int) * (u : Int)) 1 ∧ ∀ i, i < n → e i < q ∧ M (q : Int) (e i : Int) ((u : Int) * (v : Int) ^ i)
set_option maxHeartbeats 2000000 in
theorem coefficients_in (p n q k r v : Nat) (a e : Nat → Nat) (gp ge : Nat) (A : Option Addr) (cp : Nat) (f : Nat → Nat) (w : World) (hT : Tb w w.heap.size p n q a e gp ge) (hG : Hid (Good n q k r v a)) (hE : Hid (Ends n q v e)) (hX : FX w A n cp f) (hf : Hid (∀ i, i < n → f i < q)) :
    Calls Tryd.prog 30 #[.pointer (some ⟨p, 0, none⟩), .slice A n cp] w fun ee w' => ∃ F : Nat → Nat, ee = .returned (.slice (some ⟨w.heap.size, 0, none⟩) n n) ∧ UW w' w.heap.size n F ∧ Hid (∀ i, i < n → F i < q ∧ M (q : Int) ((n : Int) * (F i : Int)) (back (v : Int) n (fun j => (f j : Int)) i)) ∧ Ext w w' := by
  have HT := Lib.hid hT
  have t1 := hT.prime
  have t3 := hT.ends
  have hp := hT.hp
  have hge := hT.hge
  have hq0 := hG.out.q0
  have hq1 := hG.out.q1
  have hn2 := two_le hG.out.k0 hG.out.k9
  rw [← hG.out.nk] at hn2
  obtain ⟨hn0, hn1⟩ := hn2
  clear hT
  obtain ⟨u, hu1, he⟩ := hE.out
  have HU := Lib.hid hu1
  have HEE := Lib.hid he
  clear hu1 he hE
  go_enter Tryd.func30, Tryd.ntmps30
  go_wp2_with fail
  refine (transform_back p n q k r v a e gp ge A cp f w HT.out hG hX hf).mono ?_
  rintro ee w1 ⟨F, rfl, hu, hF, k1⟩
  have t3' := cell_ext k1 t3
  go_wp2_with fail
  clear t3'
  go_loopw [18] (fun i wr => ∃ m : Nat, m ≤ n ∧ i = .int .i64 (m : Int) ∧ UW wr w.heap.size n (fun i => if i < m then F i * e i % q else F i) ∧ Ext w wr) (fun i _ => n - (intOf i).toNat)
  case atStart => exact ⟨0, by omega, rfl, hu.congr fun i _ => by rw [if_neg (by omega)], k1⟩
  case round =>
    obtain ⟨m, hm, rfl, hu2, kr⟩ := hrel
    clear hu
    have hsz := RW.lt hu2
    by_cases hlt : m < n
    · have hen := HT.out.en
      have c0 := cell_ext kr (hen.by_ hlt)
      have c1 := cell_ext kr (hen.share hlt)
      have t1' := cell_ext kr t1
      have f0 := RW.cell hu2 hlt
      have z0 := RW.frozen hu2 m
      have hFl := (hF.out m hlt).1
      have hel := (HEE.out m hlt).1
      simp only [Nat.lt_irrefl, if_false] at f0
      have HS := Lib.hid (show ∀ i, i < n → (if i = m then F m * e m % q else if i < m then F i * e i % q else F i) = if i < m + 1 then F i * e i % q else F i from fun i _ => by
        by_cases h1 : i = m
        · subst h1; rw [if_pos rfl, if_pos (by omega)]
        · rw [if_neg h1]
          by_cases h2 : i < m
          · rw [if_pos h2, if_pos (by omega)]
          · rw [if_neg h2, if_neg (by omega)])
      generalize F m = Fm at *
      generalize e m = em at *
      have i0 : (0 : Int) ≤ (m : Int) := by omega
      have i1 : (m : Int) < (n : Int) := by omega
      clear hen
      go_wp2_with fail
      have kV : Ext wr (wr.alloc (Obj.cells #[Value.int IntKind.u64 (em : Int), Value.int IntKind.u64 (shr em q : Int)] 53)) := (Ext.refl wr).alloc _
      have x0 : (wr.alloc (Obj.cells #[Value.int IntKind.u64 (em : Int), Value.int IntKind.u64 (shr em q : Int)] 53)).cell? ⟨wr.heap.size, 0, none⟩ = some (.int .u64 (em : Int)) := by simp
      have x1 : (wr.alloc (Obj.cells #[Value.int IntKind.u64 (em : Int), Value.int IntKind.u64 (shr em q : Int)] 53)).cell? ⟨wr.heap.size, 1, none⟩ = some (.int .u64 (shr em q : Int)) := by simp
      generalize wr.alloc (Obj.cells #[Value.int IntKind.u64 (em : Int), Value.int IntKind.u64 (shr em q : Int)] 53) = V at *
      have v0 := cell_ext kV f0
      have v1 := cell_ext kV t1'
      have zV := kept_free kV hsz z0
      have huV := hu2.below (B := 0) kV
      have krV := kr.trans kV
      obtain ⟨X, hX0⟩ : ∃ X, X = wr.heap.size := ⟨_, rfl⟩
      rw [← hX0] at x0 x1 hsz ⊢
      have hXg : X ≠ w.heap.size := by omega
      have hpg : p ≠ w.heap.size := by omega
      clear hX0 f0 z0 t1' c0 c1 kr hu2 kV
      go_region_law (first
          | (go_simp; go_at_call 48; refine (times_m Fm em q _ (by omega) hq1 hel (by omega)).mono ?_; rintro e2 w3 ⟨y, HM, hlm, rfl, k3⟩; have k3' := (Ext.refl _).drew.trans k3; have d0 := cell_ext k3' v0; have z3 := kept_free k3' (RW.lt huV) zV)
          | fail)
      all_goals
        have hu4 := (UW.below (B := 0) huV k3').set hlt y
        have kr4 := (krV.trans k3').set (p := ⟨w.heap.size, m, none⟩) (Nat.le_refl _) (.int .u64 (y : Int))
        have hu5 := hu4.congr (f' := fun i => if i < m + 1 then F i * e i % q else F i) fun i hi => by rw [HM.out]; exact HS.out i hi
        clear hu4 huV
        go_wp2
        exact ⟨⟨m + 1, by omega, by go_num, hu5, kr4⟩, by simp [intOf]; omega⟩
    · obtain rfl : m = n := by omega
      have hfin := hu2.congr (f' := fun i => F i * e i % q) fun i hi => by rw [if_pos hi]
      have HF := Lib.hid (show ∀ i, i < m → F i * e i % q < q ∧ M (q : Int) ((m : Int) * ((F i * e i % q : Nat) : Int)) (back (v : Int) m (fun j => (f j : Int)) i) from fun i hi => ⟨Nat.mod_lt _ (by omega), by
        have h1 := (hF.out i hi).2
        have h2 := (HEE.out i hi).2
        refine (M.rfl.mul ((M.nat _).trans ((M.of (Int.natCast_mul _ _)).trans (h1.mul h2)))).trans ?_
        have e1 : back (v : Int) m (fun j => (f j : Int)) i = S m (fun j => (f j : Int) * (1 * (v : Int) ^ (2 * i)) ^ j) * (v : Int) ^ i := by
          unfold back
          rw [S_mul_right]
          refine S_congr fun j _ => ?_
          rw [Int.one_mul, ← Int.pow_mul, Int.mul_assoc, ← Int.pow_add]
          congr 2
          rw [Nat.add_mul, Nat.one_mul, Nat.mul_right_comm]
        rw [e1]
        generalize S m (fun j => (f j : Int) * (1 * (v : Int) ^ (2 * i)) ^ j) = X at *
        generalize (v : Int) ^ i = Y at *
        have e2 : (m : Int) * (X * ((u : Int) * Y)) = (m : Int) * (u : Int) * (X * Y) := by
          rw [← Int.mul_assoc X, Int.mul_comm X (u : Int), Int.mul_assoc, Int.mul_assoc]
        rw [e2]
        have := HU.out.mul (M.rfl (a := X * Y))
        rwa [Int.one_mul] at this⟩)
      clear hu2
      go_wp2
      go_ret
      exact ⟨_, rfl, hfin, HF, kr⟩
end Go.Proofs.YtafncjandiakmaaDoor
