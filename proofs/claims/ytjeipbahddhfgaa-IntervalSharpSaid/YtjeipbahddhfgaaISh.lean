/-
  The law IntervalSharp walked.
-/
import Derived.Test.YtjeipbahddhfgaaIFx
namespace Go.Proofs.Ytjeipbahddhfgaa
open Go.RowKit
set_option linter.unusedVariables false
set_option maxRecDepth 100000

theorem bends_mem {da : List Int} {lo hi z : Int} (hl : lo ≤ hi) (h : z ∈ bendsF da lo hi) : ∃ u, lo ≤ u ∧ u ≤ hi ∧ z = pwF da u := by
  unfold bendsF at h
  rcases List.mem_append.1 h with g | g
  · simp at g
    rcases g with rfl | rfl
    · exact ⟨lo, by omega, hl, rfl⟩
    · exact ⟨hi, hl, by omega, rfl⟩
  · split at g
    · cases g
    · unfold pwsF at g
      obtain ⟨j, hj, rfl⟩ := List.mem_map.1 g
      have hj2 := List.mem_range.1 hj
      exact ⟨_, by omega, by omega, rfl⟩
theorem bends_ends {da : List Int} {lo hi : Int} (hl : lo ≤ hi) : (∃ u, lo ≤ u ∧ u ≤ hi ∧ (aroundF (bendsF da lo hi)).1 = pwF da u) ∧ ∃ u, lo ≤ u ∧ u ≤ hi ∧ (aroundF (bendsF da lo hi)).2 = pwF da u :=
  around_all (P := fun z => ∃ u, lo ≤ u ∧ u ≤ hi ∧ z = pwF da u) (by unfold bendsF; simp) (fun z hz => bends_mem hl hz)
theorem x_eq (a b c v : Int) : a * v * v + b * v + c = pwF [c, b, a] v := by
  show _ = (a * v + b) * v + c
  rw [Int.add_mul]
theorem near_in {v : Int} (h : In20 v) : near1 v = true := by
  obtain ⟨h1, h2⟩ := h
  simp [near1]
  exact ⟨h1, h2⟩
theorem check_two {L H c b a : Int} (h : L ≤ H) (hL : In20 L) (hH : In20 H) (hc : In20 c) (hb : In20 b) (ha : In20 a) : checkR [ndA L H, ndB c b a] 1 = .ok [[1], [1]] := by
  have n0 : nodeR (ndA L H) [] = .ok [1] := by
    refine node_ok ?_ rfl ?_
    · simp [formB, ndA, mayL, okL, hasL, behB, toldB, entN, entF]
    · simp [nearOK, ndA, nearB, h, near_in hL, near_in hH]
  have n1 : nodeR (ndB c b a) [[1]] = .ok [1] := by
    refine node_ok ?_ rfl ?_
    · simp [formB, ndB, mayL, okL, hasL, behB, toldB, ahB]
    · obtain ⟨c0, c1⟩ := hc
      obtain ⟨b0, b1⟩ := hb
      obtain ⟨a0, a1⟩ := ha
      simp [nearOK, ndB, nearB, near1]
      omega
  unfold checkR
  rw [if_neg (by simp)]
  unfold chkR
  rw [n0]
  dsimp only [List.nil_append]
  unfold chkR
  rw [n1]
  rfl
theorem near_S {q : Int × Int} (h1 : In20 q.1) (h2 : In20 q.2) : nearS q = true := by
  obtain ⟨a, b⟩ := h1
  obtain ⟨c, d⟩ := h2
  simp [nearS]
  exact ⟨⟨a, b⟩, c, d⟩
theorem sharp_spans {L H c b a : Int} (h : L ≤ H) (hL : In20 L) (hH : In20 H) (hc : In20 c) (hb : In20 b) (ha : In20 a) :
    graphSp G0 [ndA L H, ndB c b a] 1 = if nearS (aroundF (bendsF [c, b, a] L H)) then .ok [(L, H), aroundF (bendsF [c, b, a] L H)] else .error 5 := by
  unfold graphSp
  rw [check_two h hL hH hc hb ha]
  show spansR G0 [⟨ndA L H, [1], [1]⟩, ⟨ndB c b a, [1], [1]⟩] [] = _
  unfold spansR
  rw [show spG G0 ⟨ndA L H, [1], [1]⟩ [] = (L, H) from rfl, if_pos (near_S hL hH)]
  unfold spansR
  rw [show spG G0 ⟨ndB c b a, [1], [1]⟩ ([] ++ [(L, H)]) = aroundF (bendsF [c, b, a] L H) from rfl]
  rfl
set_option maxHeartbeats 2000000 in
theorem intervalSharp_walk (L D c b a : Int) (w : World) (l0 : -128 ≤ L) (l1 : L < 128) (d0 : 0 ≤ D) (d1 : D < 256) (c0 : -32768 ≤ c) (c1 : c < 32768) (b0 : -32768 ≤ b) (b1 : b < 32768) (a0 : -128 ≤ a) (a1 : a < 128) :
    Calls Try.prog 8 #[.int .i8 L, .int .u8 D, .int .i16 c, .int .i16 b, .int .i8 a] w fun e w' => e = .returned (.bool true) ∧ Ext w w' := by
  have HSP := Lib.hid (sharp_spans (L := L) (H := L + D) (c := c) (b := b) (a := a) (by omega) ⟨by omega, by omega⟩ ⟨by omega, by omega⟩ ⟨by omega, by omega⟩ ⟨by omega, by omega⟩ ⟨by omega, by omega⟩)
  go_enter Try.func8, Try.ntmps8
  go_wp2_with fail
  refine (fixed17_any w).mono ?_
  rintro e1 w1 ⟨rfl, k1⟩
  have K1 := Lib.hid k1
  clear k1
  obtain ⟨z0, z1, z2, z3, z4, z5, z6, z7, z8⟩ := nine_at (w1.alloc (.cells #[.int .i64 1] 3)) (.int .i64 1) (.int .i64 0) (.int .i64 0) (.slice (some ⟨w1.heap.size, 0, none⟩) 1 1) (.int .i64 L) (.int .i64 (L + D)) (.int .i64 0) (.slice none 0 0) (.slice none 0 0) 40
  rw [show (w1.alloc (.cells #[.int .i64 1] 3)).heap.size = w1.heap.size + 1 by simp] at z0 z1 z2 z3 z4 z5 z6 z7 z8
  have hG := gx_two (((w1.alloc (.cells #[.int .i64 1] 3)).alloc (.cells #[.int .i64 1, .int .i64 0, .int .i64 0, .slice (some ⟨w1.heap.size, 0, none⟩) 1 1, .int .i64 L, .int .i64 (L + D), .int .i64 0, .slice none 0 0, .slice none 0 0] 40)).alloc (.cells #[.int .i64 c, .int .i64 b, .int .i64 a] 3)) w1.heap.size (w1.heap.size + 1 + 1) L (L + D) c b a (((((Ext.refl (w1.alloc (.cells #[.int .i64 1] 3))).alloc _).alloc _).block _ (by simp)).trans (heap_alloc_new w1 _)) (by have := heap_alloc_new ((w1.alloc (.cells #[.int .i64 1] 3)).alloc (.cells #[.int .i64 1, .int .i64 0, .int .i64 0, .slice (some ⟨w1.heap.size, 0, none⟩) 1 1, .int .i64 L, .int .i64 (L + D), .int .i64 0, .slice none 0 0, .slice none 0 0] 40)) (.cells #[.int .i64 c, .int .i64 b, .int .i64 a] 3); rw [show ((w1.alloc (.cells #[.int .i64 1] 3)).alloc (.cells #[.int .i64 1, .int .i64 0, .int .i64 0, .slice (some ⟨w1.heap.size, 0, none⟩) 1 1, .int .i64 L, .int .i64 (L + D), .int .i64 0, .slice none 0 0, .slice none 0 0] 40)).heap.size = w1.heap.size + 1 + 1 by simp] at this; exact this)
  rw [show (((w1.alloc (.cells #[.int .i64 1] 3)).alloc (.cells #[.int .i64 1, .int .i64 0, .int .i64 0, .slice (some ⟨w1.heap.size, 0, none⟩) 1 1, .int .i64 L, .int .i64 (L + D), .int .i64 0, .slice none 0 0, .slice none 0 0] 40)).alloc (.cells #[.int .i64 c, .int .i64 b, .int .i64 a] 3)).heap.size = w1.heap.size + 1 + 1 + 1 by simp] at hG
  have kB : Ext ((w1.alloc (.cells #[.int .i64 1] 3)).alloc (.cells #[.int .i64 1, .int .i64 0, .int .i64 0, .slice (some ⟨w1.heap.size, 0, none⟩) 1 1, .int .i64 L, .int .i64 (L + D), .int .i64 0, .slice none 0 0, .slice none 0 0] 40)) (((((w1.alloc (.cells #[.int .i64 1] 3)).alloc (.cells #[.int .i64 1, .int .i64 0, .int .i64 0, .slice (some ⟨w1.heap.size, 0, none⟩) 1 1, .int .i64 L, .int .i64 (L + D), .int .i64 0, .slice none 0 0, .slice none 0 0] 40)).alloc (.cells #[.int .i64 c, .int .i64 b, .int .i64 a] 3)).alloc (.cells #[.int .i64 1, .int .i64 0, .int .i64 0, .slice (some ⟨w1.heap.size, 0, none⟩) 1 1, .int .i64 L, .int .i64 (L + D), .int .i64 0, .slice none 0 0, .slice none 0 0, .int .i64 8, .int .i64 0, .int .i64 0, .slice none 0 0, .int .i64 0, .int .i64 0, .int .i64 0, .slice (some ⟨w1.heap.size + 1 + 1, 0, none⟩) 3 3, .slice none 0 0] 40)).alloc (.cells #[.slice (some ⟨w1.heap.size + 1 + 1 + 1, 0, none⟩) 2 2, .int .i64 1] 26)) := (((Ext.refl _).alloc _).alloc _).alloc _
  have kW : Ext w1 (((((w1.alloc (.cells #[.int .i64 1] 3)).alloc (.cells #[.int .i64 1, .int .i64 0, .int .i64 0, .slice (some ⟨w1.heap.size, 0, none⟩) 1 1, .int .i64 L, .int .i64 (L + D), .int .i64 0, .slice none 0 0, .slice none 0 0] 40)).alloc (.cells #[.int .i64 c, .int .i64 b, .int .i64 a] 3)).alloc (.cells #[.int .i64 1, .int .i64 0, .int .i64 0, .slice (some ⟨w1.heap.size, 0, none⟩) 1 1, .int .i64 L, .int .i64 (L + D), .int .i64 0, .slice none 0 0, .slice none 0 0, .int .i64 8, .int .i64 0, .int .i64 0, .slice none 0 0, .int .i64 0, .int .i64 0, .int .i64 0, .slice (some ⟨w1.heap.size + 1 + 1, 0, none⟩) 3 3, .slice none 0 0] 40)).alloc (.cells #[.slice (some ⟨w1.heap.size + 1 + 1 + 1, 0, none⟩) 2 2, .int .i64 1] 26)) := (((((Ext.refl w1).alloc _).alloc _).alloc _).alloc _).alloc _
  have HG := Lib.hid (hG.ext (show Ext ((((w1.alloc (.cells #[.int .i64 1] 3)).alloc (.cells #[.int .i64 1, .int .i64 0, .int .i64 0, .slice (some ⟨w1.heap.size, 0, none⟩) 1 1, .int .i64 L, .int .i64 (L + D), .int .i64 0, .slice none 0 0, .slice none 0 0] 40)).alloc (.cells #[.int .i64 c, .int .i64 b, .int .i64 a] 3)).alloc (.cells #[.int .i64 1, .int .i64 0, .int .i64 0, .slice (some ⟨w1.heap.size, 0, none⟩) 1 1, .int .i64 L, .int .i64 (L + D), .int .i64 0, .slice none 0 0, .slice none 0 0, .int .i64 8, .int .i64 0, .int .i64 0, .slice none 0 0, .int .i64 0, .int .i64 0, .int .i64 0, .slice (some ⟨w1.heap.size + 1 + 1, 0, none⟩) 3 3, .slice none 0 0] 40)) (((((w1.alloc (.cells #[.int .i64 1] 3)).alloc (.cells #[.int .i64 1, .int .i64 0, .int .i64 0, .slice (some ⟨w1.heap.size, 0, none⟩) 1 1, .int .i64 L, .int .i64 (L + D), .int .i64 0, .slice none 0 0, .slice none 0 0] 40)).alloc (.cells #[.int .i64 c, .int .i64 b, .int .i64 a] 3)).alloc (.cells #[.int .i64 1, .int .i64 0, .int .i64 0, .slice (some ⟨w1.heap.size, 0, none⟩) 1 1, .int .i64 L, .int .i64 (L + D), .int .i64 0, .slice none 0 0, .slice none 0 0, .int .i64 8, .int .i64 0, .int .i64 0, .slice none 0 0, .int .i64 0, .int .i64 0, .int .i64 0, .slice (some ⟨w1.heap.size + 1 + 1, 0, none⟩) 3 3, .slice none 0 0] 40)).alloc (.cells #[.slice (some ⟨w1.heap.size + 1 + 1 + 1, 0, none⟩) 2 2, .int .i64 1] 26)) from (Ext.refl _).alloc _))
  have hs4 : ((((w1.alloc (.cells #[.int .i64 1] 3)).alloc (.cells #[.int .i64 1, .int .i64 0, .int .i64 0, .slice (some ⟨w1.heap.size, 0, none⟩) 1 1, .int .i64 L, .int .i64 (L + D), .int .i64 0, .slice none 0 0, .slice none 0 0] 40)).alloc (.cells #[.int .i64 c, .int .i64 b, .int .i64 a] 3)).alloc (.cells #[.int .i64 1, .int .i64 0, .int .i64 0, .slice (some ⟨w1.heap.size, 0, none⟩) 1 1, .int .i64 L, .int .i64 (L + D), .int .i64 0, .slice none 0 0, .slice none 0 0, .int .i64 8, .int .i64 0, .int .i64 0, .slice none 0 0, .int .i64 0, .int .i64 0, .int .i64 0, .slice (some ⟨w1.heap.size + 1 + 1, 0, none⟩) 3 3, .slice none 0 0] 40)).heap.size = w1.heap.size + 1 + 1 + 1 + 1 := by simp
  have q0 := two_atJ0 ((((w1.alloc (.cells #[.int .i64 1] 3)).alloc (.cells #[.int .i64 1, .int .i64 0, .int .i64 0, .slice (some ⟨w1.heap.size, 0, none⟩) 1 1, .int .i64 L, .int .i64 (L + D), .int .i64 0, .slice none 0 0, .slice none 0 0] 40)).alloc (.cells #[.int .i64 c, .int .i64 b, .int .i64 a] 3)).alloc (.cells #[.int .i64 1, .int .i64 0, .int .i64 0, .slice (some ⟨w1.heap.size, 0, none⟩) 1 1, .int .i64 L, .int .i64 (L + D), .int .i64 0, .slice none 0 0, .slice none 0 0, .int .i64 8, .int .i64 0, .int .i64 0, .slice none 0 0, .int .i64 0, .int .i64 0, .int .i64 0, .slice (some ⟨w1.heap.size + 1 + 1, 0, none⟩) 3 3, .slice none 0 0] 40)) (.slice (some ⟨w1.heap.size + 1 + 1 + 1, 0, none⟩) 2 2) (.int .i64 1) 26
  have q1 := two_atJ1 ((((w1.alloc (.cells #[.int .i64 1] 3)).alloc (.cells #[.int .i64 1, .int .i64 0, .int .i64 0, .slice (some ⟨w1.heap.size, 0, none⟩) 1 1, .int .i64 L, .int .i64 (L + D), .int .i64 0, .slice none 0 0, .slice none 0 0] 40)).alloc (.cells #[.int .i64 c, .int .i64 b, .int .i64 a] 3)).alloc (.cells #[.int .i64 1, .int .i64 0, .int .i64 0, .slice (some ⟨w1.heap.size, 0, none⟩) 1 1, .int .i64 L, .int .i64 (L + D), .int .i64 0, .slice none 0 0, .slice none 0 0, .int .i64 8, .int .i64 0, .int .i64 0, .slice none 0 0, .int .i64 0, .int .i64 0, .int .i64 0, .slice (some ⟨w1.heap.size + 1 + 1, 0, none⟩) 3 3, .slice none 0 0] 40)) (.slice (some ⟨w1.heap.size + 1 + 1 + 1, 0, none⟩) 2 2) (.int .i64 1) 26
  rw [hs4] at q0 q1
  have y4 := cell_ext kB z4
  have y5 := cell_ext kB z5
  clear hG hs4
  go_wp2_with fail
  have KW := Lib.hid (K1.out.trans kW)
  clear kW kB z0 z1 z2 z3 z4 z5 z6 z7 z8
  generalize (((((w1.alloc (.cells #[.int .i64 1] 3)).alloc (.cells #[.int .i64 1, .int .i64 0, .int .i64 0, .slice (some ⟨w1.heap.size, 0, none⟩) 1 1, .int .i64 L, .int .i64 (L + D), .int .i64 0, .slice none 0 0, .slice none 0 0] 40)).alloc (.cells #[.int .i64 c, .int .i64 b, .int .i64 a] 3)).alloc (.cells #[.int .i64 1, .int .i64 0, .int .i64 0, .slice (some ⟨w1.heap.size, 0, none⟩) 1 1, .int .i64 L, .int .i64 (L + D), .int .i64 0, .slice none 0 0, .slice none 0 0, .int .i64 8, .int .i64 0, .int .i64 0, .slice none 0 0, .int .i64 0, .int .i64 0, .int .i64 0, .slice (some ⟨w1.heap.size + 1 + 1, 0, none⟩) 3 3, .slice none 0 0] 40)).alloc (.cells #[.slice (some ⟨w1.heap.size + 1 + 1 + 1, 0, none⟩) 2 2, .int .i64 1] 26)) = W at *
  obtain ⟨Q, hQ⟩ : ∃ Q, Q = aroundF (bendsF [c, b, a] L (L + D)) := ⟨_, rfl⟩
  have HQS := Lib.hid (show graphSp G0 [ndA L (L + D), ndB c b a] 1 = if nearS Q then .ok [(L, L + D), Q] else .error 5 by rw [hQ]; exact HSP.out)
  have HEN := Lib.hid (show (∃ u, L ≤ u ∧ u ≤ L + D ∧ Q.1 = pwF [c, b, a] u) ∧ ∃ u, L ≤ u ∧ u ≤ L + D ∧ Q.2 = pwF [c, b, a] u by rw [hQ]; exact bends_ends (by omega))
  have HBW := Lib.hid (show ∀ u, L ≤ u → u ≤ L + D → Q.1 ≤ pwF [c, b, a] u ∧ pwF [c, b, a] u ≤ Q.2 by rw [hQ]; exact fun u h1 h2 => bend_within rfl h1 h2)
  clear hQ
  refine (Spans_any G0 [ndA L (L + D), ndB c b a] (some ⟨w1.heap.size + 1 + 1 + 1, 0, none⟩) 2 1 _ HG (by simp) (Lib.hid two_sum)).mono ?_
  intro e2 w2 hq
  cases hn : nearS Q with
  | true =>
    have HNQ := Lib.hid hn
    rcases hq with ⟨ks, A2, c2, h1, rfl, h3, h4, k2⟩ | ⟨n, h1, _⟩
    · rw [HQS.out, if_pos hn] at h1
      injection h1 with h1
      subst h1
      obtain ⟨ad, rfl, hc⟩ := h3.cells (by simp)
      obtain ⟨s0, s1⟩ := hc 1 Q rfl
      have s0' : w2.cell? ⟨ad.block, ad.off + 2, none⟩ = some (.int .i64 Q.1) := s0
      have s1' : w2.cell? ⟨ad.block, ad.off + 3, none⟩ = some (.int .i64 Q.2) := s1
      replace y4 := cell_ext k2 y4
      replace y5 := cell_ext k2 y5
      have KZ := Lib.hid (KW.out.trans k2)
      clear hc s0 s1 h3 h4 hn k2 q0 q1
      go_wp2_with fail
      go_loop [15, 16, 17] (fun ls ms v => ∃ u le mo : Int, L ≤ u ∧ u ≤ L + D + 1 ∧ v = .int .i64 u ∧ ls = .int .i64 le ∧ ms = .int .i64 mo ∧ Hid ((∀ x, L ≤ x → x < u → le ≤ pwF [c, b, a] x ∧ pwF [c, b, a] x ≤ mo) ∧ ((u = L ∧ le = 1099511627776 ∧ mo = -1099511627776) ∨ ((∃ x, L ≤ x ∧ x < u ∧ le = pwF [c, b, a] x) ∧ ∃ x, L ≤ x ∧ x < u ∧ mo = pwF [c, b, a] x)))) (fun _ _ v => (L + D + 1 - intOf v).toNat)
      case atStart => exact ⟨L, _, _, by omega, by omega, rfl, rfl, rfl, Lib.hid ⟨fun x h1 h2 => by omega, .inl ⟨rfl, rfl, rfl⟩⟩⟩
      case round =>
        obtain ⟨u, le, mo, hu0, hu1, rfl, rfl, rfl, hI⟩ := hrel
        by_cases hlt : u ≤ L + D
        · obtain ⟨m1, m2⟩ := abs_mul (a := a) (v := u) (A := 128) (B := 512) (by omega) (by omega) (by omega) (by omega)
          obtain ⟨m3, m4⟩ := abs_mul (a := a * u) (v := u) (A := 65536) (B := 512) (by omega) (by omega) (by omega) (by omega)
          obtain ⟨m5, m6⟩ := abs_mul (a := b) (v := u) (A := 32768) (B := 512) (by omega) (by omega) (by omega) (by omega)
          have HXE := Lib.hid (x_eq a b c u)
          have HXB := Lib.hid (show -1099511627776 < a * u * u + b * u + c ∧ a * u * u + b * u + c < 1099511627776 by omega)
          go_wp2
          all_goals
            go_round
            case rel =>
              refine ⟨u + 1, min le (a * u * u + b * u + c), max mo (a * u * u + b * u + c), by omega, by omega, by first | rfl | go_num | (congr 1; omega), by first | rfl | (congr 1; (repeat' split) <;> omega), by first | rfl | (congr 1; (repeat' split) <;> omega), Lib.hid ?_⟩
              obtain ⟨hall, hat⟩ := hI.out
              have hb := HXB.out
              have hx := HXE.out
              generalize a * u * u + b * u + c = z at *
              refine ⟨fun x h1 h2 => ?_, .inr ⟨?_, ?_⟩⟩
              · rcases Int.lt_or_le x u with g | g
                · have := hall x h1 g
                  omega
                · obtain rfl : x = u := by omega
                  omega
              · rcases Int.le_total z le with g | g
                · exact ⟨u, hu0, by omega, by omega⟩
                · rcases hat with ⟨e1, e2, e3⟩ | ⟨⟨x, h1, h2, h3⟩, _⟩
                  · omega
                  · exact ⟨x, h1, by omega, by omega⟩
              · rcases Int.le_total mo z with g | g
                · exact ⟨u, hu0, by omega, by omega⟩
                · rcases hat with ⟨e1, e2, e3⟩ | ⟨_, ⟨x, h1, h2, h3⟩⟩
                  · omega
                  · exact ⟨x, h1, by omega, by omega⟩
            case measure => simp [intOf]; omega
        · obtain ⟨hall, hat⟩ := hI.out
          obtain ⟨⟨v0, p0, p1, p2⟩, v1, p3, p4, p5⟩ := HEN.out
          have hle : le = Q.1 ∧ mo = Q.2 := by
            rcases hat with ⟨e1, e2, e3⟩ | ⟨⟨x, h1, h2, h3⟩, y, h4, h5, h6⟩
            · omega
            · have q1 := HBW.out x h1 (by omega)
              have q2 := HBW.out y h4 (by omega)
              have q3 := hall v0 p0 (by omega)
              have q4 := hall v1 p3 (by omega)
              omega
          obtain ⟨rfl, rfl⟩ := hle
          clear hall hat p2 p5 hI
          have r1 : ¬ (Q.1 < -1048576) := by have := near_spG HNQ.out; obtain ⟨⟨_, _⟩, _, _⟩ := this; omega
          have r2 : ¬ (1048576 < Q.2) := by have := near_spG HNQ.out; obtain ⟨⟨_, _⟩, _, _⟩ := this; omega
          go_wp2
          go_ret
          exact ⟨by simp, KZ.out⟩
    · rw [HQS.out, if_pos hn] at h1
      cases h1
  | false =>
    have HNQ := Lib.hid hn
    rcases hq with ⟨ks, A2, c2, h1, _⟩ | ⟨n, h1, _, rfl, k2⟩
    · rw [HQS.out, if_neg (by rw [hn]; simp)] at h1
      cases h1
    · rw [HQS.out, if_neg (by rw [hn]; simp)] at h1
      injection h1 with h1
      subst h1
      replace y4 := cell_ext k2 y4
      replace y5 := cell_ext k2 y5
      have KZ := Lib.hid (KW.out.trans k2)
      clear hn k2 q0 q1
      go_wp2_with fail
      go_loop [15, 16, 17] (fun ls ms v => ∃ u le mo : Int, L ≤ u ∧ u ≤ L + D + 1 ∧ v = .int .i64 u ∧ ls = .int .i64 le ∧ ms = .int .i64 mo ∧ Hid ((∀ x, L ≤ x → x < u → le ≤ pwF [c, b, a] x ∧ pwF [c, b, a] x ≤ mo) ∧ ((u = L ∧ le = 1099511627776 ∧ mo = -1099511627776) ∨ ((∃ x, L ≤ x ∧ x < u ∧ le = pwF [c, b, a] x) ∧ ∃ x, L ≤ x ∧ x < u ∧ mo = pwF [c, b, a] x)))) (fun _ _ v => (L + D + 1 - intOf v).toNat)
      case atStart => exact ⟨L, _, _, by omega, by omega, rfl, rfl, rfl, Lib.hid ⟨fun x h1 h2 => by omega, .inl ⟨rfl, rfl, rfl⟩⟩⟩
      case round =>
        obtain ⟨u, le, mo, hu0, hu1, rfl, rfl, rfl, hI⟩ := hrel
        by_cases hlt : u ≤ L + D
        · obtain ⟨m1, m2⟩ := abs_mul (a := a) (v := u) (A := 128) (B := 512) (by omega) (by omega) (by omega) (by omega)
          obtain ⟨m3, m4⟩ := abs_mul (a := a * u) (v := u) (A := 65536) (B := 512) (by omega) (by omega) (by omega) (by omega)
          obtain ⟨m5, m6⟩ := abs_mul (a := b) (v := u) (A := 32768) (B := 512) (by omega) (by omega) (by omega) (by omega)
          have HXE := Lib.hid (x_eq a b c u)
          have HXB := Lib.hid (show -1099511627776 < a * u * u + b * u + c ∧ a * u * u + b * u + c < 1099511627776 by omega)
          go_wp2
          all_goals
            go_round
            case rel =>
              refine ⟨u + 1, min le (a * u * u + b * u + c), max mo (a * u * u + b * u + c), by omega, by omega, by first | rfl | go_num | (congr 1; omega), by first | rfl | (congr 1; (repeat' split) <;> omega), by first | rfl | (congr 1; (repeat' split) <;> omega), Lib.hid ?_⟩
              obtain ⟨hall, hat⟩ := hI.out
              have hb := HXB.out
              have hx := HXE.out
              generalize a * u * u + b * u + c = z at *
              refine ⟨fun x h1 h2 => ?_, .inr ⟨?_, ?_⟩⟩
              · rcases Int.lt_or_le x u with g | g
                · have := hall x h1 g
                  omega
                · obtain rfl : x = u := by omega
                  omega
              · rcases Int.le_total z le with g | g
                · exact ⟨u, hu0, by omega, by omega⟩
                · rcases hat with ⟨e1, e2, e3⟩ | ⟨⟨x, h1, h2, h3⟩, _⟩
                  · omega
                  · exact ⟨x, h1, by omega, by omega⟩
              · rcases Int.le_total mo z with g | g
                · exact ⟨u, hu0, by omega, by omega⟩
                · rcases hat with ⟨e1, e2, e3⟩ | ⟨_, ⟨x, h1, h2, h3⟩⟩
                  · omega
                  · exact ⟨x, h1, by omega, by omega⟩
            case measure => simp [intOf]; omega
        · obtain ⟨hall, hat⟩ := hI.out
          obtain ⟨⟨v0, p0, p1, p2⟩, v1, p3, p4, p5⟩ := HEN.out
          have hle : le = Q.1 ∧ mo = Q.2 := by
            rcases hat with ⟨e1, e2, e3⟩ | ⟨⟨x, h1, h2, h3⟩, y, h4, h5, h6⟩
            · omega
            · have q1 := HBW.out x h1 (by omega)
              have q2 := HBW.out y h4 (by omega)
              have q3 := hall v0 p0 (by omega)
              have q4 := hall v1 p3 (by omega)
              omega
          obtain ⟨rfl, rfl⟩ := hle
          clear hall hat p2 p5 hI
          have r3 : Q.1 < -1048576 ∨ 1048576 < Q.2 := by
            have h1 := HNQ.out
            have h2 := HBW.out L (by omega) (by omega)
            simp only [nearS, Bool.and_eq_false_iff, decide_eq_false_iff_not] at h1
            omega
          by_cases r1 : Q.1 < -1048576
          · go_wp2
            go_ret
            exact ⟨rfl, KZ.out⟩
          · have r2 : 1048576 < Q.2 := by omega
            go_wp2
            go_ret
            exact ⟨rfl, KZ.out⟩
end Go.Proofs.Ytjeipbahddhfgaa
