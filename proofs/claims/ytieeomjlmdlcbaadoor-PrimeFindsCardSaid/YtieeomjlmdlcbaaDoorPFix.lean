/-
  That the calls of layer 3 whose answers the document fixes answer so.
-/
import Derived.Test.YtieeomjlmdlcbaaDoorPRoot
import Derived.Test.YtieeomjlmdlcbaaDoorPSame
namespace Go.Proofs.YtieeomjlmdlcbaaDoor
open Go.RowKit
set_option linter.unusedVariables false

theorem step16 : stepS 16 = true := by decide +kernel
theorem step8 : stepS 8 = true := by decide +kernel
theorem step32 : stepS 32 = true := by decide +kernel
theorem is17 : isS 17 = true := by decide +kernel
theorem is97 : isS 97 = true := by decide +kernel
theorem is2 : isS 2 = true := by decide +kernel
theorem is1 : isS 1 = false := by decide +kernel
theorem filt4 : filt 16 15 4 = [241, 193] := by decide +kernel
theorem filt_less : ∀ j, j < 4 → (filt 16 15 j).length < 2 := by decide +kernel
theorem num_great : ∀ j, j < 8 → 128 < num 16 15 j := by decide +kernel
theorem search_fix (w : World) (hT : Tabs w) :
    Calls Tryd.prog 11 #[.int .i64 8, .int .u64 16, .int .i64 2] w fun e w' => ∃ A c, e = .returned (.tuple #[.slice A 2 c, .int .i64 0]) ∧ NX w' A 2 c [241, 193] ∧ Ext w w' := by
  refine (search_any 8 16 2 w (by omega) (by omega) (by omega) (by omega) (by omega) hT).mono ?_
  rintro e w' (⟨hb, _⟩ | ⟨_, k, hg, hh⟩)
  · rcases hb with h | h | h | h | h
    · omega
    · omega
    · rw [step16] at h; cases h
    · omega
    · omega
  · have e1 : (2 ^ (8 : Int).toNat - 2) / 16 = 15 := by decide
    have e2 : 2 ^ ((8 : Int).toNat - 1) = 128 := by decide
    have e3 : (2 : Int).toNat = 2 := rfl
    rw [e1, e2, e3] at hg hh
    have h4 : (filt 16 15 4).length = 2 := by rw [filt4]; rfl
    rcases hh with ⟨h1, h2, _⟩ | ⟨h1, A, n, c, he, hx, hw⟩
    · have hk : 8 ≤ k := by
        rcases Nat.lt_or_ge k 8 with g | g
        · have := num_great k g; omega
        · exact g
      have := filt_mono (b := 16) (q := 15) (show 4 ≤ k by omega)
      omega
    · have hk : k = 4 := by
        rcases Nat.lt_trichotomy k 4 with g | g | g
        · have := filt_less k g; omega
        · exact g
        · have := (hg.2 4 g).2; omega
      subst hk
      rw [filt4] at hx
      obtain rfl : n = 2 := hx.len.symm
      exact ⟨A, c, he, hx, hw⟩
theorem first17 {x : Nat} (h : First 17 x) : x = 3 := by
  have h3 : noSq 17 3 = true := by decide +kernel
  have hl : ∀ y, y < 3 → noSq 17 y = false := by decide +kernel
  rcases h with ⟨h1, h2, hm⟩ | ⟨_, hm⟩
  · rcases Nat.lt_trichotomy x 3 with g | g | g
    · rw [hl x g] at h2; cases h2
    · exact g
    · rw [hm 3 g] at h3; cases h3
  · rw [hm 3 (by omega)] at h3; cases h3
theorem first97 {x : Nat} (h : First 97 x) : x = 5 := by
  have h3 : noSq 97 5 = true := by decide +kernel
  have hl : ∀ y, y < 5 → noSq 97 y = false := by decide +kernel
  rcases h with ⟨h1, h2, hm⟩ | ⟨_, hm⟩
  · rcases Nat.lt_trichotomy x 5 with g | g | g
    · rw [hl x g] at h2; cases h2
    · exact g
    · rw [hm 5 g] at h3; cases h3
  · rw [hm 5 (by omega)] at h3; cases h3
theorem lr17 : lr 17 (3 ^ ((17 - 1) / 8) % 17 * (3 ^ ((17 - 1) / 8) % 17) % 17) (8 / 2 - 1) (3 ^ ((17 - 1) / 8) % 17) (3 ^ ((17 - 1) / 8) % 17) = 2 := by decide +kernel
theorem lr97 : lr 97 (5 ^ ((97 - 1) / 32) % 97 * (5 ^ ((97 - 1) / 32) % 97) % 97) (32 / 2 - 1) (5 ^ ((97 - 1) / 32) % 97) (5 ^ ((97 - 1) / 32) % 97) = 19 := by decide +kernel
theorem root17 (w : World) (hT : Tabs w) :
    Calls Tryd.prog 13 #[.int .u64 17, .int .u64 8] w fun e w' => e = .returned (.tuple #[.int .u64 2, .int .i64 0]) ∧ Ext w w' := by
  refine (root_any 17 8 w (by omega) (by omega) hT).mono ?_
  rintro e w' (⟨hb, _⟩ | ⟨_, _, _, x, hx, he, hw⟩)
  · rw [step8, is17] at hb
    rcases hb with h | h | h
    · cases h
    · omega
    · cases h
  · rw [first17 hx, lr17] at he
    exact ⟨he, hw⟩
theorem root97 (w : World) (hT : Tabs w) :
    Calls Tryd.prog 13 #[.int .u64 97, .int .u64 32] w fun e w' => e = .returned (.tuple #[.int .u64 19, .int .i64 0]) ∧ Ext w w' := by
  refine (root_any 97 32 w (by omega) (by omega) hT).mono ?_
  rintro e w' (⟨hb, _⟩ | ⟨_, _, _, x, hx, he, hw⟩)
  · rw [step32, is97] at hb
    rcases hb with h | h | h
    · cases h
    · omega
    · cases h
  · rw [first97 hx, lr97] at he
    exact ⟨he, hw⟩
theorem isFix2 (w : World) (hT : Tabs w) : Calls Tryd.prog 9 #[.int .u64 2] w fun e w' => e = .returned (.bool true) ∧ Ext w w' := by
  have := is_any 2 w (by omega) hT
  rw [is2] at this
  exact this
theorem isFix1 (w : World) (hT : Tabs w) : Calls Tryd.prog 9 #[.int .u64 1] w fun e w' => e = .returned (.bool false) ∧ Ext w w' := by
  have := is_any 1 w (by omega) hT
  rw [is1] at this
  exact this
set_option maxHeartbeats 2000000 in
theorem fixed3_any (w : World) (hT : Tabs w) : Calls Tryd.prog 8 #[] w fun e w' => e = .returned (.bool true) ∧ Ext w w' := by
  have HT := Lib.hid hT
  clear hT
  go_enter Tryd.func8, Tryd.ntmps8
  go_wp2_with fail
  refine (search_fix w HT.out).mono ?_
  rintro e w1 ⟨A1, c1, rfl, x1, k1⟩
  go_wp2_with fail
  refine (root17 w1 (HT.out.ext k1)).mono ?_
  rintro e w2 ⟨rfl, k2⟩
  go_wp2_with fail
  refine (root97 w2 (HT.out.ext (k1.trans k2))).mono ?_
  rintro e w3 ⟨rfl, k3⟩
  have x3 := x1.ext (k2.trans k3)
  obtain ⟨ad, y0, rfl, hb0, hl0, hy0, hc0⟩ := Rd.at_ x3 (i := 0) (by omega)
  obtain ⟨ad', y1, e', hb1, hl1, hy1, hc1⟩ := Rd.at_ x3 (i := 1) (by omega)
  injection e' with e'
  subst e'
  obtain rfl : y0 = 241 := by simpa using hy0.symm
  obtain rfl : y1 = 193 := by simpa using hy1.symm
  have hc00 : w3.cell? ad = some (.int .u64 241) := hc0
  have hc11 : w3.cell? ⟨ad.block, ad.off + 1, none⟩ = some (.int .u64 193) := hc1
  clear hc0 hc1 hy0 hy1
  go_wp2_with fail
  refine (isFix2 w3 (HT.out.ext (k1.trans (k2.trans k3)))).mono ?_
  rintro e w4 ⟨rfl, k4⟩
  go_wp2_with fail
  refine (isFix1 w4 (HT.out.ext (k1.trans (k2.trans (k3.trans k4))))).mono ?_
  rintro e w5 ⟨rfl, k5⟩
  go_wp2
  go_ret
  exact ⟨rfl, k1.trans (k2.trans (k3.trans (k4.trans k5)))⟩
/-- The law PrimeIs walked. -/
theorem primeIs_walk (n : Nat) (w : World) (hn : n < 18446744073709551616) (hT : Tabs w) :
    Calls Tryd.prog 3 #[.int .u64 (n : Int)] w fun e w' => e = .returned (.bool true) ∧ Ext w w' := by
  have HT := Lib.hid hT
  clear hT
  have HS := Lib.hid (is_same n)
  go_enter Tryd.func3, Tryd.ntmps3
  go_wp2_with fail
  refine (fixed3_any w HT.out).mono ?_
  rintro e w1 ⟨rfl, k1⟩
  go_wp2_with fail
  refine (is_any n w1 hn (HT.out.ext k1)).mono ?_
  rintro e w2 ⟨rfl, k2⟩
  go_wp2_with fail
  refine (ris_any n w2 hn).mono ?_
  rw [← HS.out]
  rintro e w3 ⟨rfl, k3⟩
  generalize isS n = r at *
  have hr : (r == r) = true := by simp
  go_wp2
  go_ret
  exact ⟨rfl, k1.trans (k2.trans k3)⟩
end Go.Proofs.YtieeomjlmdlcbaaDoor
