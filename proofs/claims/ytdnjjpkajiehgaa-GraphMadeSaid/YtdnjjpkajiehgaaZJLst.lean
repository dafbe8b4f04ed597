/-
  Lists of numbers: copied, compared, and asked whether all are within the bound.
-/
import Derived.Test.YtdnjjpkajiehgaaZ7
import Derived.Deep.Upon
import Derived.Lib.SliceRun
import Derived.Deep.AppendSrc
import Derived.Deep.AppendLies
namespace Go.Proofs.Ytdnjjpkajiehgaa
open Go.RowKit
set_option linter.unusedVariables false
set_option maxRecDepth 100000

theorem info_intJ : (Try.prog.info? 3).map (fun i => (i.zero, i.size, i.bytes)) = some (some (.int .i64 0), 1, 8) := by kernel_rfl
theorem info_partsJ {p : Program} {T : TypeId} {z : Value} {a b : Nat} (h : (p.info? T).map (fun i => (i.zero, i.size, i.bytes)) = some (some z, a, b)) : ∃ i, p.info? T = some i ∧ i.zero = some z ∧ i.size = a ∧ i.bytes = b := by
  cases hi : p.info? T with
  | none => rw [hi] at h; cases h
  | some i =>
    rw [hi] at h
    simp at h
    exact ⟨i, rfl, h.1, h.2.1, h.2.2⟩
def i64s (zs : List Int) : List Value := zs.map fun (z : Int) => Value.int .i64 z
/-- A list that lies behind B. -/
def Frsh (B : Nat) (A : Option Addr) : Prop := ∀ ad, A = some ad → B ≤ ad.block
theorem own_emptyZ (w0 : World) : (w0.alloc (.cells #[] 3)).ownsRow w0.heap.size 3 1 (.slice (some ⟨w0.heap.size, 0, none⟩) 0 0) 0 [] :=
  ⟨rfl, .inr ⟨w0.heap.size, 0, #[], rfl, Nat.le_refl _, (show (w0.heap.push (.cells #[] 3))[w0.heap.size]? = _ by simp), Nat.le_refl _, Nat.zero_le _, rfl, rfl⟩⟩
theorem rdZ_of_own {w : World} {B : Nat} {v : Value} {n : Nat} {zs : List Int} (h : w.ownsRow B 3 1 v n (i64s zs)) : ∃ A c, v = .slice A n c ∧ ZX w A n c zs ∧ Frsh B A := by
  have hlen : zs.length = n := by have := h.1; simpa [i64s] using this
  rcases h.2 with ⟨rfl, rfl⟩ | ⟨g, cap, cur, rfl, hg, hh, hle, _⟩
  · exact ⟨none, 0, rfl, ⟨hlen, Nat.le_refl _, fun h => absurd h (by omega)⟩, fun ad e => by cases e⟩
  · refine ⟨_, cap, rfl, ⟨hlen, hle, fun _ => ⟨⟨g, 0, none⟩, rfl, fun j x hx => ?_⟩⟩, fun ad e => by injection e with e; subst e; exact hg⟩
    exact h.cells (g := g) rfl j _ (by simp [i64s, hx])
theorem wpList_copyZ {w0 : World} {ops : Array Oper} {rest : List Oper} {o : Oper} {a : Act} {Q : Exit → Act → World → Prop} (hgd : o.guard = none) (s x : Operand)
    (ho : o.op = .call { callee := .builtin .append, args := #[s, x], argTypes := #[38, 38] })
    (g : Nat) (hg : g = w0.heap.size) (A : Option Addr) (n c : Nat) (xs : List Int) (hs : a.eval s = .slice (some ⟨g, 0, none⟩) 0 0) (hx : a.eval x = .slice A n c) (hX : ZX w0 A n c xs) (hn : n ≤ 100000)
    (h : ∀ A2 c2 w', ZX w' A2 n c2 xs → Frsh w0.heap.size A2 → Ext w0 w' → wpList Try.prog ops Q rest (a.put o.dst (.slice A2 n c2)) w') : wpList Try.prog ops Q (o :: rest) a (w0.alloc (.cells #[] 3)) := by
  obtain ⟨i0, hi, hz0, hz1, hz2⟩ := info_partsJ info_intJ
  subst hg
  have hX' : ZX (w0.alloc (.cells #[] 3)) A n c xs := hX.ext ((Ext.refl w0).alloc _)
  rcases A with _ | ad
  · have hn0 : n = 0 := by
      rcases Nat.eq_zero_or_pos n with h0 | h0
      · exact h0
      · obtain ⟨ad, e, _⟩ := hX.cells h0
        cases e
    subst hn0
    refine wpList_plain hgd fun K hK => ?_
    have hrun := run_append_nothing (P := Try.prog) (w0.alloc (.cells #[] 3)) 38 38 o.type 3 i0 Try.underlying38 hi (some ⟨w0.heap.size, 0, none⟩) 0 0 (Nat.le_refl _) (.slice none 0 c) (Src.ofNil _ Try.underlying38 c)
    unfold Oper.wp
    simp [execOp, ho, resolve, invoke, builtin, hs, hx, hrun, Result.andThen]
    refine hK _ _ (h _ _ _ ?_ ?_ ((Ext.refl w0).alloc _))
    · rw [List.eq_nil_of_length_eq_zero hX.len]
      exact ZX.none_ _ _ _
    · intro ad e
      injection e with e
      subst e
      exact Nat.le_refl _
  · refine wpList_append_own _ hgd s x 38 ho w0.heap.size 3 i0 (.int .i64 0) 1 8 Try.underlying38 hi hz0 hz1 hz2 rfl (by decide) _ _ _ hs (own_emptyZ w0) ad n c (i64s xs) hx (by unfold i64s; rw [List.length_map, hX.len]; omega) (fun j u hu => ?_) (fun u hu => by obtain ⟨_, _, rfl⟩ := List.mem_map.1 hu; rfl) (by unfold maxLen; omega) (by omega) (by simp) ?_
    · skip
      unfold i64s at hu
      rw [List.getElem?_map] at hu
      obtain ⟨z, hz, rfl⟩ := Option.map_eq_some_iff.1 hu
      have hl := (List.getElem?_eq_some_iff.1 hz).1
      obtain ⟨ad', e, hc⟩ := hX'.cells (by have := hX.len; omega)
      injection e with e
      subst e
      exact hc j z hz
    · intro v2 w2 hown2 hgrow2 _
      obtain ⟨A2, c2, rfl, hr2, hf2⟩ := rdZ_of_own (zs := xs) (n := n) (by simpa using hown2)
      refine h A2 c2 w2 hr2 hf2 ?_
      refine Below.grown ((Ext.refl w0).alloc _) hgrow2 (by simp) (fun k e => ?_)
      simp [Value.ownBlock] at e
      omega
theorem clone_any (A : Option Addr) (n c : Nat) (l : List Int) (w : World) (hX : Hid (ZX w A n c l)) (hn : n ≤ 100000) :
    Calls Try.prog 54 #[.slice A n c] w fun e w' => ∃ A' c', e = .returned (.slice A' n c') ∧ ZX w' A' n c' l ∧ Frsh w.heap.size A' ∧ Ext w w' := by
  rcases A with _ | ad
  · have h0 : n = 0 := by
      rcases Nat.eq_zero_or_pos n with h0 | h0
      · exact h0
      · obtain ⟨ad, e, _⟩ := hX.out.cells h0
        cases e
    subst h0
    have heq := Lib.run_eql_slice_nil (P := Try.prog) w 38 3 none 0 c 0 0 Try.underlying38
    have HL := Lib.hid hX.out.len
    go_enter Try.func54, Try.ntmps54
    go_wp2
    go_ret
    exact ⟨none, 0, rfl, by rw [List.eq_nil_of_length_eq_zero HL.out]; exact ZX.none_ _ _ _, fun ad e => (by cases e), Ext.refl _⟩
  · have heq := Lib.run_eql_slice_nil (P := Try.prog) w 38 3 (some ad) n c 0 0 Try.underlying38
    go_enter Try.func54, Try.ntmps54
    go_wp2_with (at_builtin; go_loud (refine wpList_copyZ rfl _ _ rfl w.heap.size rfl (some ad) n c l rfl rfl hX.out hn ?_; intro A2 c2 w0 hb0 hf0 k0))
    go_ret
    exact ⟨A2, c2, rfl, hb0, hf0, k0⟩
/-- Is no number beyond the bound? -/
def nearB (l : List Int) : Bool := l.all fun z => decide (-1048576 ≤ z) && decide (z ≤ 1048576)
theorem beyond_any (z : Int) (w : World) : Calls Try.prog 108 #[.int .i64 z] w fun e w' => e = .returned (.bool (!(decide (-1048576 ≤ z) && decide (z ≤ 1048576)))) ∧ w' = w := by
  go_enter Try.func108, Try.ntmps108
  by_cases h1 : 1048576 < z
  · have e : (!(decide (-1048576 ≤ z) && decide (z ≤ 1048576))) = true := by simp; omega
    rw [e]
    go_wp2
    go_ret
    exact ⟨rfl, rfl⟩
  · by_cases h2 : z < -1048576
    · have e : (!(decide (-1048576 ≤ z) && decide (z ≤ 1048576))) = true := by simp; omega
      rw [e]
      go_wp2
      go_ret
      exact ⟨rfl, rfl⟩
    · have e : (!(decide (-1048576 ≤ z) && decide (z ≤ 1048576))) = false := by simp; omega
      rw [e]
      go_wp2
      go_ret
      exact ⟨rfl, rfl⟩
theorem nearB_cons (z : Int) (l : List Int) : nearB (z :: l) = ((decide (-1048576 ≤ z) && decide (z ≤ 1048576)) && nearB l) := rfl
set_option maxHeartbeats 1000000 in
theorem index_any (A : Option Addr) (n c : Nat) (l : List Int) (w : World) (hX : Hid (ZX w A n c l)) (hn : n ≤ 100000) :
    Calls Try.prog 119 #[.slice A n c, .func (.func 108) #[] #[]] w fun e w' => ∃ r : Int, e = .returned (.int .i64 r) ∧ (nearB l = true → r < 0) ∧ (nearB l = false → 0 ≤ r) ∧ r ≤ 100000 ∧ -1 ≤ r ∧ w' = w := by
  have hlen := hX.out.len
  go_enter Try.func119, Try.ntmps119
  go_wp2
  go_loop [8] (fun i => ∃ k : Nat, k ≤ n ∧ i = .int .i64 (k : Int) ∧ Hid (nearB l = nearB (l.drop k))) (fun i => n - (intOf i).toNat)
  case atStart => exact ⟨0, by omega, rfl, Lib.hid rfl⟩
  case round =>
    obtain ⟨k, hk, rfl, hF⟩ := hrel
    by_cases hlt : k < n
    · obtain ⟨ad, d, rfl, hd, hc⟩ := hX.out.at_ hlt
      have hdr := Lib.hid (drop_at hd)
      clear hd
      go_wp2_with fail
      refine (beyond_any d w).mono ?_
      rintro e w1 ⟨rfl, rfl⟩
      obtain ⟨b, hb⟩ : ∃ b, (decide (-1048576 ≤ d) && decide (d ≤ 1048576)) = b := ⟨_, rfl⟩
      have hR := Lib.hid (show nearB l = (b && nearB (l.drop (k + 1))) by rw [hF.out, hdr.out, nearB_cons, hb])
      rw [hb]
      clear hb
      cases b
      · go_wp2
        go_ret
        refine ⟨(k : Int), rfl, fun h => ?_, fun _ => by omega, by omega, by omega, rfl⟩
        rw [hR.out] at h
        cases h
      · go_wp2
        go_round
        case rel => exact ⟨k + 1, by omega, by go_num, Lib.hid (by rw [hR.out, Bool.true_and])⟩
        case measure => simp [intOf]; omega
    · obtain rfl : k = n := by omega
      have hR := Lib.hid (show nearB l = true by rw [hF.out, List.drop_eq_nil_of_le (by omega)]; rfl)
      go_wp2
      go_ret
      refine ⟨-1, rfl, fun _ => by omega, fun h => ?_, by omega, by omega, rfl⟩
      rw [hR.out] at h
      cases h
theorem contains_any (A : Option Addr) (n c : Nat) (l : List Int) (w : World) (hX : Hid (ZX w A n c l)) (hn : n ≤ 100000) :
    Calls Try.prog 82 #[.slice A n c, .func (.func 108) #[] #[]] w fun e w' => e = .returned (.bool (!nearB l)) ∧ w' = w := by
  go_enter Try.func82, Try.ntmps82
  go_wp2_with fail
  refine (index_any A n c l w hX hn).mono ?_
  rintro e w1 ⟨r, rfl, h1, h2, h3, h4, rfl⟩
  obtain ⟨b, hb⟩ : ∃ b, nearB l = b := ⟨_, rfl⟩
  rw [hb] at h1 h2
  have HB := Lib.hid hb
  clear hb
  cases b
  · have h5 := h2 rfl
    clear h1 h2
    go_wp2
    go_ret
    exact ⟨by rw [HB.out]; rfl, rfl⟩
  · have h5 : ¬ (0 ≤ r) := by have := h1 rfl; omega
    clear h1 h2
    go_wp2
    go_ret
    exact ⟨by rw [HB.out]; show Ending.returned (.bool (decide (0 ≤ r))) = _; rw [decide_eq_false (by omega)]; rfl, rfl⟩
set_option maxHeartbeats 1000000 in
theorem near_any (A : Option Addr) (n c : Nat) (l : List Int) (w : World) (hX : Hid (ZX w A n c l)) (hn : n ≤ 100000) :
    Calls Try.prog 48 #[.slice A n c] w fun e w' => e = .returned (.bool (nearB l)) ∧ w' = w := by
  have hlen := hX.out.len
  go_enter Try.func48, Try.ntmps48
  go_wp2
  go_loop [7] (fun i => ∃ k : Nat, k ≤ n ∧ i = .int .i64 (k : Int) ∧ Hid (nearB l = nearB (l.drop k))) (fun i => n - (intOf i).toNat)
  case atStart => exact ⟨0, by omega, rfl, Lib.hid rfl⟩
  case round =>
    obtain ⟨k, hk, rfl, hF⟩ := hrel
    by_cases hlt : k < n
    · obtain ⟨ad, d, rfl, hd, hc⟩ := hX.out.at_ hlt
      have hdr := Lib.hid (drop_at hd)
      clear hd
      by_cases h1 : d < -1048576
      · have hR := Lib.hid (show nearB l = false by rw [hF.out, hdr.out, nearB_cons, decide_eq_false (show ¬ -1048576 ≤ d by omega)]; rfl)
        go_wp2
        go_ret
        exact ⟨by show Ending.returned (.bool false) = _; rw [hR.out], rfl⟩
      · by_cases h2 : 1048576 < d
        · have hR := Lib.hid (show nearB l = false by rw [hF.out, hdr.out, nearB_cons, decide_eq_false (show ¬ d ≤ 1048576 by omega), Bool.and_false]; rfl)
          go_wp2
          go_ret
          exact ⟨by show Ending.returned (.bool false) = _; rw [hR.out], rfl⟩
        · have hR := Lib.hid (show nearB l = nearB (l.drop (k + 1)) by rw [hF.out, hdr.out, nearB_cons, decide_eq_true (show -1048576 ≤ d by omega), decide_eq_true (show d ≤ 1048576 by omega)]; rfl)
          go_wp2
          go_round
          case rel => exact ⟨k + 1, by omega, by go_num, hR⟩
          case measure => simp [intOf]; omega
    · obtain rfl : k = n := by omega
      have hR := Lib.hid (show nearB l = true by rw [hF.out, List.drop_eq_nil_of_le (by omega)]; rfl)
      go_wp2
      go_ret
      exact ⟨by show Ending.returned (.bool true) = _; rw [hR.out], rfl⟩
/-- Two lists from place k on. -/
theorem drop_ne {a b : List Int} {k : Nat} {x y : Int} (ha : a[k]? = some x) (hb : b[k]? = some y) (h : x ≠ y) : a ≠ b := fun e => by
  subst e
  rw [ha] at hb
  injection hb with hb
  exact h hb
set_option maxHeartbeats 1000000 in
theorem same_any (A A' : Option Addr) (n n' c c' : Nat) (a b : List Int) (w : World) (h : Hid (ZX w A n c a)) (h' : Hid (ZX w A' n' c' b)) (hn : n ≤ 100000) (hn' : n' ≤ 100000) :
    Calls Try.prog 27 #[.slice A n c, .slice A' n' c'] w fun e w' => e = .returned (.bool (decide (a = b))) ∧ Ext w w' := by
  have hl := h.out.len
  have hl' := h'.out.len
  go_enter Try.func27, Try.ntmps27
  by_cases hne : n = n'
  · subst hne
    clear hn'
    go_wp2
    go_loopw [13] (fun i wr => ∃ k : Nat, k ≤ n ∧ i = .int .i64 (k : Int) ∧ Hid (Ext w wr) ∧ Hid (∀ j, j < k → a[j]? = b[j]?)) (fun i _ => n - (intOf i).toNat)
    case atStart => exact ⟨0, by omega, rfl, Lib.hid (Ext.refl _), Lib.hid fun j hj => absurd hj (by omega)⟩
    case round =>
      obtain ⟨k, hk, rfl, hE, hF⟩ := hrel
      by_cases hlt : k < n
      · obtain ⟨ad, x, rfl, hx, c0⟩ := (h.out.ext hE.out).at_ hlt
        obtain ⟨ad', y, rfl, hy, c1⟩ := (h'.out.ext hE.out).at_ hlt
        have HX := Lib.hid hx
        have HY := Lib.hid hy
        clear hx hy
        have i0 : (0 : Int) ≤ (k : Int) := by omega
        have i1 : (k : Int) < (n : Int) := by omega
        by_cases hxy : x = y
        · subst hxy
          have hR : ∀ j, j < k + 1 → a[j]? = b[j]? := fun j hj => by
            rcases Nat.lt_or_ge j k with g | g
            · exact hF.out j g
            · obtain rfl : j = k := by omega
              rw [HX.out, HY.out]
          have HR := Lib.hid hR
          clear hR hl hl'
          go_wp2
          go_quiet (fail)
          go_wp2
          exact ⟨⟨k + 1, by omega, by go_num, Lib.hid (hE.out.drewN _), HR⟩, by simp [intOf]; omega⟩
        · have hR := Lib.hid (decide_eq_false (drop_ne HX.out HY.out hxy))
          clear hl hl'
          go_wp2
          go_quiet (fail)
          go_wp2
          go_ret
          exact ⟨by show Ending.returned (.bool false) = _; rw [hR.out], hE.out.drewN _⟩
      · obtain rfl : k = n := by omega
        have hR := Lib.hid (decide_eq_true (show a = b from List.ext_getElem? fun j => by
          rcases Nat.lt_or_ge j k with g | g
          · exact hF.out j g
          · rw [List.getElem?_eq_none (by omega), List.getElem?_eq_none (by omega)]))
        clear hl hl'
        go_wp2
        go_ret
        exact ⟨by show Ending.returned (.bool true) = _; rw [hR.out], hE.out⟩
  · have i0 : ¬ (n : Int) = (n' : Int) := by omega
    have hR := Lib.hid (decide_eq_false (show ¬ a = b from fun e => hne (by rw [← hl, ← hl', e])))
    clear hl hl'
    go_wp2
    go_ret
    exact ⟨by show Ending.returned (.bool false) = _; rw [hR.out], Ext.refl _⟩
set_option maxHeartbeats 1000000 in
theorem equal_any (A A' : Option Addr) (n n' c c' : Nat) (a b : List Int) (w : World) (h : Hid (ZX w A n c a)) (h' : Hid (ZX w A' n' c' b)) (hn : n ≤ 100000) (hn' : n' ≤ 100000) :
    Calls Try.prog 126 #[.slice A n c, .slice A' n' c'] w fun e w' => e = .returned (.bool (decide (a = b))) ∧ Ext w w' := by
  have hl := h.out.len
  have hl' := h'.out.len
  go_enter Try.func126, Try.ntmps126
  by_cases hne : n = n'
  · subst hne
    clear hn'
    go_wp2
    go_loopw [13] (fun i wr => ∃ k : Nat, k ≤ n ∧ i = .int .i64 (k : Int) ∧ Hid (Ext w wr) ∧ Hid (∀ j, j < k → a[j]? = b[j]?)) (fun i _ => n - (intOf i).toNat)
    case atStart => exact ⟨0, by omega, rfl, Lib.hid (Ext.refl _), Lib.hid fun j hj => absurd hj (by omega)⟩
    case round =>
      obtain ⟨k, hk, rfl, hE, hF⟩ := hrel
      by_cases hlt : k < n
      · obtain ⟨ad, x, rfl, hx, c0⟩ := (h.out.ext hE.out).at_ hlt
        obtain ⟨ad', y, rfl, hy, c1⟩ := (h'.out.ext hE.out).at_ hlt
        have HX := Lib.hid hx
        have HY := Lib.hid hy
        clear hx hy
        have i0 : (0 : Int) ≤ (k : Int) := by omega
        have i1 : (k : Int) < (n : Int) := by omega
        by_cases hxy : x = y
        · subst hxy
          have hR : ∀ j, j < k + 1 → a[j]? = b[j]? := fun j hj => by
            rcases Nat.lt_or_ge j k with g | g
            · exact hF.out j g
            · obtain rfl : j = k := by omega
              rw [HX.out, HY.out]
          have HR := Lib.hid hR
          clear hR hl hl'
          go_wp2
          go_quiet (fail)
          go_wp2
          exact ⟨⟨k + 1, by omega, by go_num, Lib.hid (hE.out.drewN _), HR⟩, by simp [intOf]; omega⟩
        · have hR := Lib.hid (decide_eq_false (drop_ne HX.out HY.out hxy))
          clear hl hl'
          go_wp2
          go_quiet (fail)
          go_wp2
          go_ret
          exact ⟨by show Ending.returned (.bool false) = _; rw [hR.out], hE.out.drewN _⟩
      · obtain rfl : k = n := by omega
        have hR := Lib.hid (decide_eq_true (show a = b from List.ext_getElem? fun j => by
          rcases Nat.lt_or_ge j k with g | g
          · exact hF.out j g
          · rw [List.getElem?_eq_none (by omega), List.getElem?_eq_none (by omega)]))
        clear hl hl'
        go_wp2
        go_ret
        exact ⟨by show Ending.returned (.bool true) = _; rw [hR.out], hE.out⟩
  · have i0 : ¬ (n : Int) = (n' : Int) := by omega
    have hR := Lib.hid (decide_eq_false (show ¬ a = b from fun e => hne (by rw [← hl, ← hl', e])))
    clear hl hl'
    go_wp2
    go_ret
    exact ⟨by show Ending.returned (.bool false) = _; rw [hR.out], Ext.refl _⟩
end Go.Proofs.Ytdnjjpkajiehgaa
