/-
  What divPlace of package nat answers: a word of the quotient, and the rest in its place.
-/
import Derived.Test.YtcfbemjnkiepdaaNShift
namespace Go.Proofs.Ytcfbemjnkiepdaa
open Go.RowKit
set_option linter.unusedVariables false

/-- While too much was taken: word, what is below 0, and what stands in the place. -/
def PlaceInv (P D N b n : Nat) (Wd Bl : Nat) (ns : List Nat) : Prop :=
  ns.length = n ∧ (∀ x ∈ ns, x < b) ∧ Bl ≤ 1 ∧ Wd < b ∧ vl b ns + Wd * D = P + N * Bl ∧ (Bl = 0 → P < (Wd + 1) * D)
theorem PlaceInv.back {P D N b n Wd Bl C : Nat} {ns ns' : List Nat} (h : PlaceInv P D N b n Wd Bl ns) (hN : N = b ^ n) (hB : 0 < Bl) (h1 : ns'.length = n) (h2 : ∀ x ∈ ns', x < b) (hC : C ≤ 1) (h3 : vl b ns' + b ^ n * C = vl b ns + D) :
    1 ≤ Wd ∧ C ≤ Bl ∧ PlaceInv P D N b n (Wd - 1) (Bl - C) ns' := by
  obtain ⟨g1, g2, g3, g4, g5, g6⟩ := h
  obtain rfl : Bl = 1 := by omega
  have hl := vl_lt g2
  rw [g1, ← hN] at hl
  rw [← hN] at h3
  have hw : 1 ≤ Wd := by
    rcases Nat.eq_zero_or_pos Wd with h0 | h0
    · subst h0; rw [Nat.zero_mul] at g5; omega
    · exact h0
  obtain ⟨V, rfl⟩ : ∃ V, Wd = V + 1 := ⟨Wd - 1, by omega⟩
  rw [Nat.add_mul, Nat.one_mul] at g5
  refine ⟨hw, hC, h1, h2, by omega, by omega, ?_, fun h0 => ?_⟩
  · rw [Nat.add_sub_cancel, Nat.mul_sub, Nat.mul_one]
    have : N * C ≤ N := by
      rcases Nat.eq_zero_or_pos C with h0 | h0
      · subst h0; omega
      · obtain rfl : C = 1 := by omega
        omega
    omega
  · rw [Nat.add_sub_cancel, Nat.add_mul, Nat.one_mul]
    omega
theorem PlaceInv.done {P D N b n Wd Bl : Nat} {ns : List Nat} (h : PlaceInv P D N b n Wd Bl ns) (h0 : Bl = 0) (hD : 0 < D) : Wd = P / D ∧ vl b ns = P % D := by
  obtain ⟨g1, g2, g3, g4, g5, g6⟩ := h
  subst h0
  have h1 := g6 rfl
  rw [Nat.add_mul, Nat.one_mul] at h1
  rw [Nat.mul_zero, Nat.add_zero] at g5
  have hlt : vl b ns < D := by omega
  have e : P = vl b ns + D * Wd := by rw [Nat.mul_comm D]; exact g5.symm
  constructor
  · rw [e, Nat.add_mul_div_left _ _ hD, Nat.div_eq_of_lt hlt, Nat.zero_add]
  · rw [e, Nat.add_mul_mod_self_left, Nat.mod_eq_of_lt hlt]

set_option maxHeartbeats 1000000 in
theorem divPlace_any (g o cp : Nat) (A : Option Addr) (n c B t : Nat) (pre ps post ds : List Nat) (sp : List Value) (w : World) (hk : Bk w g (pre ++ ps ++ post) sp) (ho : pre.length = o) (hp : ps.length = n + 1) (hps : ∀ x ∈ ps, x < W64)
    (h : NR w B A n c ds) (hB : B ≤ w.heap.size) (hne : 0 < n → ∀ ad, A = some ad → ad.block ≠ g) (hn0 : 0 < n) (hn : n ≤ 1000000) (hcp : n + 1 ≤ cp) (ht : ds[n - 1]? = some t) (ht0 : 0 < t) (hv : nv ps < W64 * nv ds) :
    Calls Try.prog 73 #[.slice (some ⟨g, o, none⟩) (n + 1) cp, .slice A n c] w (InPlace g pre post sp (n + 1) (fun ns C => C = nv ps / nv ds ∧ nv ns = nv ps % nv ds) w) := by
  have hD : 0 < nv ds := by
    rcases Nat.eq_zero_or_pos (nv ds) with h0 | h0
    · rw [h0] at hv; omega
    · exact h0
  go_enter Try.func73, Try.ntmps73
  go_wp2_with fail
  refine (guessWord_any g o cp A n c B t pre ps post ds sp w hk ho hp hps h hn0 hn hcp ht ht0 hv).mono ?_
  rintro e w' ⟨G, q, rfl, hG, hGv, rfl⟩
  have HG := Lib.hid hGv
  have HV := Lib.hid hv
  have HT := Lib.hid ht
  have HP := Lib.hid hp
  clear hGv hv ht hp
  go_wp2_with fail
  refine (takeTimes_any g o cp A n c B G pre ps post ds sp (w.drewN q) (hk.drewN q) ho HP.out hps (h.drewN q) hB hne hn hcp hG).mono ?_
  rintro e w1 ⟨ns1, C1, rfl, l1, b1, _, ⟨hC1, r1⟩, hk1, hg1⟩
  have R1 := Lib.hid r1
  have L1 := Lib.hid l1
  clear r1 l1
  go_wp2
  go_loopw [5, 6] (fun wd bl wr => ∃ (Wd Bl : Nat) (ns : List Nat), wd = .int .u64 (Wd : Int) ∧ bl = .int .u64 (Bl : Int) ∧ Bk wr g (pre ++ ns ++ post) sp ∧ w.grownBy wr (some g) ∧ PlaceInv (nv ps) (nv ds) (W64 ^ (n + 1)) W64 (n + 1) Wd Bl ns) (fun wd _ _ => (intOf wd).toNat)
  case atStart => exact ⟨G, C1, ns1, rfl, rfl, hk1, only_trans (only_drewN (World.grownBy.refl _ _) q) hg1, L1.out, b1, hC1, by rw [W64_eq]; exact hG, R1.out, fun _ => HG.out⟩
  case round =>
    obtain ⟨Wd, Bl, ns, rfl, rfl, hkr, hgr, hinv⟩ := hrel
    have hBl := hinv.2.2.1
    have hWd := hinv.2.2.2.1
    have hl := Lib.hid hinv.1
    have hlt := hinv.2.1
    rw [W64_eq] at hWd
    by_cases hb : 0 < Bl
    · have hszr : B ≤ wr.heap.size := Nat.le_trans hB hgr.size
      go_wp2_with fail
      refine (giveBack_any g o cp A n c B pre ns post ds sp wr hkr ho hl.out hlt (h.only hgr hB hne) hszr hne hn hcp).mono ?_
      rintro e w2 ⟨ns2, C2, rfl, l2, b2, _, ⟨hC2, r2⟩, hk2, hg2⟩
      obtain ⟨z1, z2, z3⟩ := hinv.back rfl hb l2 b2 hC2 r2
      have Z3 := Lib.hid z3
      have R2 := Lib.hid r2
      have L2 := Lib.hid l2
      clear z3 r2 l2
      go_wp2
      exact ⟨⟨Wd - 1, Bl - C2, ns2, by go_num, by go_num, hk2, only_trans hgr hg2, Z3.out⟩, by simp [intOf]; omega⟩
    · obtain ⟨z1, z2⟩ := hinv.done (by omega) hD
      have Z1 := Lib.hid z1
      have Z2 := Lib.hid z2
      clear z1 z2
      go_wp2
      go_ret
      exact ⟨ns, Wd, rfl, hl.out, hlt, by rw [W64_eq]; exact hWd, ⟨Z1.out, Z2.out⟩, hkr, hgr⟩
end Go.Proofs.Ytcfbemjnkiepdaa
