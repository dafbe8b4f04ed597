/-
  The law PrimeFinds walked.
-/
import Derived.Test.YtieeomjlmdlcbaaDoorPFix
import Derived.Test.YtieeomjlmdlcbaaDoorPRFind
namespace Go.Proofs.YtieeomjlmdlcbaaDoor
open Go.RowKit
set_option linter.unusedVariables false

/-- What a search comes to: an error's number and a list. -/
def Outc (z : Int) (b : Nat) (c : Int) (er : Int) (F : List Nat) : Prop :=
  (BadS z b c ∧ er = 1 ∧ F = []) ∨
  (¬ BadS z b c ∧ ∃ k, Gone (2 ^ (z.toNat - 1)) b ((2 ^ z.toNat - 2) / b) c.toNat k ∧
    ((num b ((2 ^ z.toNat - 2) / b) k ≤ 2 ^ (z.toNat - 1) ∧ (filt b ((2 ^ z.toNat - 2) / b) k).length < c.toNat ∧ er = 7 ∧ F = []) ∨
     ((filt b ((2 ^ z.toNat - 2) / b) k).length = c.toNat ∧ er = 0 ∧ F = filt b ((2 ^ z.toNat - 2) / b) k)))
theorem SPost.out {z : Int} {b : Nat} {c : Int} {w w' : World} {e : Ending} (h : SPost z b c w e w') : ∃ er F A n cp, Outc z b c er F ∧ e = .returned (.tuple #[.slice A n cp, .int .i64 er]) ∧ NX w' A n cp F ∧ Ext w w' := by
  rcases h with ⟨h1, h2, h3⟩ | ⟨h1, k, hg, ⟨a, b', c', d⟩ | ⟨a, A, n, cp, he, hx, hw⟩⟩
  · exact ⟨1, [], none, 0, 0, .inl ⟨h1, rfl, rfl⟩, h2, Rd.none_ _ _ _ _ _ _, h3⟩
  · exact ⟨7, [], none, 0, 0, .inr ⟨h1, k, hg, .inl ⟨a, b', rfl, rfl⟩⟩, c', Rd.none_ _ _ _ _ _ _, d⟩
  · exact ⟨0, _, A, n, cp, .inr ⟨h1, k, hg, .inr ⟨a, rfl, rfl⟩⟩, he, hx, hw⟩
theorem gone_same {lo b q c k k' : Nat} (h : Gone lo b q c k) (h' : Gone lo b q c k') (e : (filt b q k).length = c) (e' : (filt b q k').length = c) : k = k' := by
  rcases Nat.lt_trichotomy k k' with g | g | g
  · have := (h'.2 k g).2; omega
  · exact g
  · have := (h.2 k' g).2; omega
theorem gone_not {lo b q c k k' : Nat} (h : Gone lo b q c k) (e : (filt b q k).length = c) (e1 : num b q k' ≤ lo) (e2 : (filt b q k').length < c) : False := by
  rcases Nat.lt_or_ge k' k with g | g
  · have := (h.2 k' g).1; omega
  · have := filt_mono (b := b) (q := q) g; omega
theorem Outc.same {z : Int} {b : Nat} {c : Int} {er er' : Int} {F F' : List Nat} (h : Outc z b c er F) (h' : Outc z b c er' F') : er' = er ∧ F' = F := by
  rcases h with ⟨h1, rfl, rfl⟩ | ⟨h1, k, hg, hh⟩
  · rcases h' with ⟨_, rfl, rfl⟩ | ⟨g1, _⟩
    · exact ⟨rfl, rfl⟩
    · exact absurd h1 g1
  · rcases h' with ⟨g1, _⟩ | ⟨_, k', hg', hh'⟩
    · exact absurd g1 h1
    · rcases hh with ⟨a, b', rfl, rfl⟩ | ⟨a, rfl, rfl⟩
      · rcases hh' with ⟨_, _, rfl, rfl⟩ | ⟨a', _, _⟩
        · exact ⟨rfl, rfl⟩
        · exact (gone_not hg' a' a b').elim
      · rcases hh' with ⟨a', b', _, _⟩ | ⟨a', rfl, rfl⟩
        · exact (gone_not hg a a' b').elim
        · rw [gone_same hg hg' a a']; exact ⟨rfl, rfl⟩
theorem Outc.len {z : Int} {b : Nat} {c : Int} {er : Int} {F : List Nat} (h : Outc z b c er F) : F.length ≤ 16 := by
  rcases h with ⟨_, _, rfl⟩ | ⟨h1, k, hg, ⟨_, _, _, rfl⟩ | ⟨a, _, rfl⟩⟩
  · simp
  · simp
  · rw [a]
    have : ¬ 16 < c := fun h => h1 (.inr (.inr (.inr (.inr h))))
    omega
set_option maxHeartbeats 2000000 in
theorem primeFinds_walk (z : Int) (b : Nat) (c : Int) (w : World) (hz0 : -9223372036854775808 ≤ z) (hz1 : z < 9223372036854775808) (hb : b < 18446744073709551616) (hc0 : -9223372036854775808 ≤ c) (hc1 : c < 9223372036854775808) (hT : Tabs w) :
    Calls Tryd.prog 5 #[.int .i64 z, .int .u64 (b : Int), .int .i64 c] w fun e w' => e = .returned (.bool true) ∧ Ext w w' := by
  have HT := Lib.hid hT
  clear hT
  go_enter Tryd.func5, Tryd.ntmps5
  go_wp2_with fail
  refine (fixed3_any w HT.out).mono ?_
  rintro e w1 ⟨rfl, k1⟩
  go_wp2_with fail
  refine (search_any z b c w1 hz0 hz1 hb hc0 hc1 (HT.out.ext k1)).mono ?_
  rintro e w2 hS
  obtain ⟨er, F, A, n, cp, hO, rfl, hx, k2⟩ := hS.out
  have HO := Lib.hid hO
  have hl := hO.len
  clear hO hS
  go_wp2_with fail
  refine (rsearch_any z b c w2 hz0 hz1 hb hc0 hc1 (HT.out.ext (k1.trans k2))).mono ?_
  rintro e w3 hS
  obtain ⟨er', F', A', n', cp', hO', rfl, hx', k3⟩ := hS.out
  obtain ⟨rfl, rfl⟩ := Outc.same HO.out hO'
  clear HO hO' hS
  have x3 := hx.ext k3
  obtain rfl : n' = n := by rw [← hx'.len, ← hx.len]
  have hn : n' ≤ 16 := by rw [← hx'.len]; exact hl
  clear hx hl
  have HK := Lib.hid (k1.trans (k2.trans k3))
  go_wp2
  go_loopw [40] (fun i wr => ∃ (k q : Nat), k ≤ n' ∧ i = .int .i64 (k : Int) ∧ wr = w3.drewN q) (fun i _ => n' - (intOf i).toNat)
  case atStart => exact ⟨0, 0, by omega, rfl, rfl⟩
  case round =>
    obtain ⟨k, q, hk, rfl, rfl⟩ := hrel
    by_cases hlt : k < n'
    · obtain ⟨ad, x, rfl, hb1, hxb, hx, hc⟩ := Rd.at_ x3 hlt
      obtain ⟨ad', y, rfl, hb2, hyb, hy, hc'⟩ := Rd.at_ hx' hlt
      have hxy : y = x := by rw [hx] at hy; exact (Option.some.inj hy).symm
      subst hxy
      clear hx hy hb1 hb2
      go_wp2
      go_quiet (fail)
      go_wp2
      exact ⟨⟨k + 1, _, by omega, by go_num, rfl⟩, by simp [intOf] <;> omega⟩
    · go_wp2
      go_ret
      exact ⟨rfl, HK.out.drewN q⟩
end Go.Proofs.YtieeomjlmdlcbaaDoor
