/-
  What Below and Ternary of package tape answer.
-/
import Derived.Test.YthaljhmdhchiaaaVNew
namespace Go.Proofs.Ythaljhmdhchiaaa
open Go.RowKit
set_option linter.unusedVariables false
set_option maxRecDepth 100000

theorem ask_true (x : Nat) (w : World) :
    Calls Try.prog 21 #[.int .u64 (x : Int)] w fun e w' => e = .returned (.bool true) ∧ w = w' := by
  go_enter Try.func21, Try.ntmps21
  go_wp2
  go_ret
  exact ⟨rfl, rfl⟩
theorem and3 (x : Nat) (hx : x < W64) : bits .and .u64 (x : Int) 3 = ((x % 4 : Nat) : Int) := by
  rw [W64_eq] at hx
  rw [show (3 : Int) = ((3 : Nat) : Int) from rfl, bits_and_u64_nat _ _ hx (by omega), show x &&& 3 = x % 4 from Nat.and_two_pow_sub_one_eq_mod x 2]
theorem ne_dec (y k : Nat) : ((y : Int) != (k : Int)) = !decide (y = k) := by
  by_cases h : y = k
  · subst h; simp
  · have : ¬ (y : Int) = (k : Int) := by omega
    simp [h, bne, this]
theorem ask_ternary (x : Nat) (w : World) (hx : x < W64) :
    Calls Try.prog 19 #[.int .u64 (x : Int)] w fun e w' => e = .returned (.bool (tgood x)) ∧ w = w' := by
  have h := and3 x hx
  have hl : x % 4 < 4 := Nat.mod_lt _ (by omega)
  rw [W64_eq] at hx
  unfold tgood
  generalize x % 4 = y at *
  have HN := Lib.hid (ne_dec y 3)
  go_enter Try.func19, Try.ntmps19
  go_wp2
  go_ret
  exact ⟨congrArg (fun b => Ending.returned (.bool b)) HN.out, rfl⟩
theorem xor_max (r : Nat) (hr : r < 18446744073709551616) : bits .xor .u64 IntKind.u64.max (r : Int) = ((18446744073709551615 - r : Nat) : Int) := by
  have h2 : (BitVec.ofInt 64 (r : Int)).toNat = r := by
    rw [BitVec.ofInt_natCast, BitVec.toNat_ofNat]; exact Nat.mod_eq_of_lt (by omega)
  show IntKind.u64.wrap ((BitVec.ofInt 64 IntKind.u64.max ^^^ BitVec.ofInt 64 (r : Int)).toNat : Int) = _
  rw [show BitVec.ofInt 64 IntKind.u64.max = BitVec.allOnes 64 by decide, BitVec.allOnes_xor, BitVec.toNat_not, h2, IntKind.wrap_u64]
  omega
theorem ask_below (x b r : Nat) (w : World) (hx : x < W64) (hr : r < 18446744073709551616) (hb : w.cell? ⟨b, 0, none⟩ = some (.int .u64 (r : Int))) :
    Calls Try.prog 18 #[.int .u64 (x : Int), .pointer (some ⟨b, 0, none⟩)] w fun e w' => e = .returned (.bool (decide (x ≤ 18446744073709551615 - r))) ∧ w = w' := by
  rw [W64_eq] at hx
  have HX := Lib.hid (xor_max r hr)
  go_enter Try.func18, Try.ntmps18
  go_wp2
  go_ret
  refine ⟨congrArg (fun b => Ending.returned (.bool b)) (?_ : decide ((x : Int) ≤ bits .xor .u64 IntKind.u64.max (r : Int)) = _), rfl⟩
  rw [HX.out]
  exact decide_eq_decide.2 (by omega)
/-- What Below answers. -/
def BPost (w : World) (p q : Nat) (l : List Nat) (e : Ending) (w' : World) : Prop :=
  (∃ x r, firstS (bgood q) l = (some x, r) ∧ e = .returned (.tuple #[.int .u64 ((x % q : Nat) : Int), .int .i64 0]) ∧ Tp w' p r ∧ On p w w') ∨
  (firstS (bgood q) l = (none, []) ∧ e = .returned (.tuple #[.int .u64 0, .int .i64 11]) ∧ Tp w' p [] ∧ On p w w')
theorem neg_rest (q : Nat) (hq0 : 0 < q) (hq : q < 18446744073709551616) : (IntKind.u64.wrap (-(q : Int))).tmod (q : Int) = (((18446744073709551616 - q) % q : Nat) : Int) := by
  rw [IntKind.wrap_u64, show (-(q : Int)) % 18446744073709551616 = ((18446744073709551616 - q : Nat) : Int) by omega]
  rfl
theorem app1 (a b : Value) : #[a] ++ #[b] = #[a, b] := rfl
theorem app0 (a : Value) : #[a] ++ (#[] : Array Value) = #[a] := rfl
theorem asks_below (p q b : Nat) (V : World) (hq0 : 0 < q) (hq : q < 18446744073709551616) (hb : V.heap[b]? = some (.cells #[.int .u64 (((18446744073709551616 - q) % q : Nat) : Int)] 23 (0, 0))) (hne : b ≠ p) :
    Asks 18 #[.pointer (some ⟨b, 0, none⟩)] p V (bgood q) := by
  intro x w1 hx k1
  rw [app1]
  have hl := Nat.mod_lt (18446744073709551616 - q) hq0
  unfold bgood
  generalize (18446744073709551616 - q) % q = r at *
  refine ask_below x b r w1 hx (by omega) ?_
  have hlt : b < V.heap.size := (Array.getElem?_eq_some_iff.1 hb).1
  refine (World.cell?_of_block (a := ⟨b, 0, none⟩) (k1.block b hlt (fun e => hne (by injection e)))).trans ?_
  rw [cell_of_row V b 0 _ _ _ hb]
  rfl
theorem asks_ternary (p : Nat) (V : World) : Asks 19 #[] p V tgood := by
  intro x w1 hx k1
  rw [app0]
  exact ask_ternary x w1 hx
theorem asks_true (p : Nat) (V : World) : Asks 21 #[] p V (fun _ => true) := by
  intro x w1 hx k1
  rw [app0]
  exact ask_true x w1
set_option maxHeartbeats 1000000 in
theorem below_any (p q : Nat) (l : List Nat) (w : World) (hT : Hid (Tp w p l)) (hn : l.length ≤ 100000) (hq0 : 0 < q) (hq : q < 18446744073709551616) :
    Calls Try.prog 8 #[.pointer (some ⟨p, 0, none⟩), .int .u64 (q : Int)] w (BPost w p q l) := by
  have hz : ((q : Int) == 0) = false := by simp; omega
  have HR := Lib.hid (neg_rest q hq0 hq)
  have HL := Lib.hid (Nat.mod_lt (18446744073709551616 - q) hq0)
  go_enter Try.func8, Try.ntmps8
  go_wp2_with fail
  rw [HR.out]
  have kA : Ext w (w.alloc (.cells #[.int .u64 (((18446744073709551616 - q) % q : Nat) : Int)] 23)) := (Ext.refl w).alloc _
  have hb := heap_alloc_new w (.cells #[.int .u64 (((18446744073709551616 - q) % q : Nat) : Int)] 23)
  have hp := hT.out.lt
  have HA := Lib.hid (asks_below p q w.heap.size _ hq0 hq hb (by omega))
  have HT := Lib.hid (hT.out.ext kA)
  clear hb
  generalize hV : w.alloc (.cells #[.int .u64 (((18446744073709551616 - q) % q : Nat) : Int)] 23) = V at *
  clear hV
  refine (first_any 18 #[.pointer (some ⟨w.heap.size, 0, none⟩)] (bgood q) p l V HT hn (Lib.hid Try.call18) HA).mono ?_
  rintro ee w2 (⟨x, r, h1, h2, rfl, h4, h5⟩ | ⟨h1, rfl, h4, h5⟩)
  · have H1 := Lib.hid h1
    have H4 := Lib.hid h4
    have H5 := Lib.hid ((On.of kA).trans h5)
    rw [W64_eq] at h2
    clear h1 h4 h5 HR HL
    go_wp2
    go_ret2
    exact .inl ⟨x, r, H1.out, rfl, H4.out, H5.out⟩
  · have H1 := Lib.hid h1
    have H4 := Lib.hid h4
    have H5 := Lib.hid ((On.of kA).trans h5)
    clear h1 h4 h5 HR HL
    go_wp2
    go_ret2
    exact .inr ⟨H1.out, rfl, H4.out, H5.out⟩
theorem below_zero (p : Nat) (w : World) :
    Calls Try.prog 8 #[.pointer (some ⟨p, 0, none⟩), .int .u64 0] w fun e w' => e = .returned (.tuple #[.int .u64 0, .int .i64 1]) ∧ w = w' := by
  go_enter Try.func8, Try.ntmps8
  go_wp2
  go_ret2
  exact ⟨rfl, rfl⟩
theorem below_nil (q : Nat) (w : World) (hq : q < 18446744073709551616) :
    Calls Try.prog 8 #[.pointer none, .int .u64 (q : Int)] w fun e w' => e = .returned (.tuple #[.int .u64 0, .int .i64 1]) ∧ w = w' := by
  go_enter Try.func8, Try.ntmps8
  go_wp2
  go_ret2
  exact ⟨rfl, rfl⟩
/-- What Ternary answers. -/
def TPost (w : World) (p : Nat) (l : List Nat) (e : Ending) (w' : World) : Prop :=
  (∃ x r, firstS tgood l = (some x, r) ∧ e = .returned (.tuple #[.int .i64 (tval x), .int .i64 0]) ∧ Tp w' p r ∧ On p w w') ∨
  (firstS tgood l = (none, []) ∧ e = .returned (.tuple #[.int .i64 0, .int .i64 11]) ∧ Tp w' p [] ∧ On p w w')
set_option maxHeartbeats 1000000 in
theorem ternary_any (p : Nat) (l : List Nat) (w : World) (hT : Hid (Tp w p l)) (hn : l.length ≤ 100000) :
    Calls Try.prog 9 #[.pointer (some ⟨p, 0, none⟩)] w (TPost w p l) := by
  go_enter Try.func9, Try.ntmps9
  go_wp2_with fail
  refine (first_any 19 #[] tgood p l w hT hn (Lib.hid Try.call19) (Lib.hid (asks_ternary p w))).mono ?_
  rintro ee w2 (⟨x, r, h1, h2, rfl, h4, h5⟩ | ⟨h1, rfl, h4, h5⟩)
  · have H1 := Lib.hid h1
    have H4 := Lib.hid h4
    have H5 := Lib.hid h5
    have h3 := and3 x h2
    have hl : x % 4 < 4 := Nat.mod_lt _ (by omega)
    rw [W64_eq] at h2
    have HV := Lib.hid (show tval x = if x % 4 = 2 then -1 else ((x % 4 : Nat) : Int) from rfl)
    clear h1 h4 h5
    generalize x % 4 = y at *
    by_cases hy : y = 2
    · subst hy
      have HV2 := Lib.hid (HV.out.trans (if_pos rfl))
      go_wp2
      go_ret2
      exact .inl ⟨x, r, H1.out, by rw [HV2.out]; rfl, H4.out, H5.out⟩
    · have HV2 := Lib.hid (HV.out.trans (if_neg hy))
      have hb : ((y : Int) == 2) = false := by simp; omega
      clear HV
      go_wp2
      go_ret2
      exact .inl ⟨x, r, H1.out, by rw [HV2.out]; rfl, H4.out, H5.out⟩
  · have H1 := Lib.hid h1
    have H4 := Lib.hid h4
    have H5 := Lib.hid h5
    have h3 : bits .and .u64 0 3 = 0 := by decide
    clear h1 h4 h5
    go_wp2
    go_ret2
    exact .inr ⟨H1.out, rfl, H4.out, H5.out⟩
theorem ternary_nil (w : World) :
    Calls Try.prog 9 #[.pointer none] w fun e w' => e = .returned (.tuple #[.int .i64 0, .int .i64 1]) ∧ w = w' := by
  go_enter Try.func9, Try.ntmps9
  go_wp2
  go_ret2
  exact ⟨rfl, rfl⟩
end Go.Proofs.Ythaljhmdhchiaaa
