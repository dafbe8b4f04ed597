/-
  What Clone, New and Left answer.
-/
import Derived.Test.YtbpehdfpiembfaaDoorZVTape
import Derived.Lib.SliceRun
namespace Go.Proofs.YtbpehdfpiembfaaDoor
open Go.RowKit
set_option linter.unusedVariables false
set_option maxRecDepth 100000

theorem info_u64V : (Tryd.prog.info? 22).map (fun i => (i.zero, i.size, i.bytes)) = some (some (.int .u64 0), 1, 8) := by kernel_rfl
theorem own_noneV (w0 : World) : (w0.alloc (.cells #[] 22)).ownsRow w0.heap.size 22 1 (.slice (some ⟨w0.heap.size, 0, none⟩) 0 0) 0 (u64s []) :=
  ⟨rfl, .inr ⟨w0.heap.size, 0, #[], rfl, Nat.le_refl _, (show (w0.heap.push (.cells #[] 22))[w0.heap.size]? = _ by simp), Nat.le_refl _, Nat.zero_le _, rfl, rfl⟩⟩
theorem wpList_clone {w0 : World} {ops : Array Oper} {rest : List Oper} {o : Oper} {a : Act} {Q : Exit → Act → World → Prop} (hgd : o.guard = none) (s x : Operand)
    (ho : o.op = .call { callee := .builtin .append, args := #[s, x], argTypes := #[23, 23] })
    (g : Nat) (hg : g = w0.heap.size) (ad : Addr) (n c : Nat) (xs : List Nat) (hs : a.eval s = .slice (some ⟨g, 0, none⟩) 0 0) (hx : a.eval x = .slice (some ad) n c) (hX : NX w0 (some ad) n c xs) (hn : n ≤ 100000)
    (h : ∀ A2 c2 w', NX w' A2 n c2 xs → Ext w0 w' → wpList Tryd.prog ops Q rest (a.put o.dst (.slice A2 n c2)) w') : wpList Tryd.prog ops Q (o :: rest) a (w0.alloc (.cells #[] 22)) := by
  obtain ⟨i0, hi, hz0, hz1, hz2⟩ := info_parts info_u64V
  subst hg
  have hX' : NX (w0.alloc (.cells #[] 22)) (some ad) n c xs := hX.ext ((Ext.refl w0).alloc _)
  refine wpList_append_own _ hgd s x 23 ho w0.heap.size 22 i0 (.int .u64 0) 1 8 Tryd.underlying23 hi hz0 hz1 hz2 rfl (by decide) _ _ _ hs (own_noneV w0) ad n c (u64s xs) hx (by rw [u64s_length, hX.len]; omega) (fun j u hu => ?_) u64s_one (by unfold maxLen; omega) (by omega) (by simp) ?_
  · unfold u64s at hu
    rw [List.getElem?_map] at hu
    obtain ⟨z, hz, rfl⟩ := Option.map_eq_some_iff.1 hu
    have hl := (List.getElem?_eq_some_iff.1 hz).1
    obtain ⟨ad', e, _, hc⟩ := hX'.cells (by have := hX.len; omega)
    injection e with e
    subst e
    exact hc j z hz
  · intro v2 w2 hown2 hgrow2 _
    obtain ⟨A2, c2, rfl, hr2⟩ := rd_of_own (zs := xs) (n := n) (by simpa [u64s] using hown2) hX.lt
    refine h A2 c2 w2 hr2 ?_
    refine Below.grown ((Ext.refl w0).alloc _) hgrow2 (by simp) (fun k e => ?_)
    simp [Value.ownBlock] at e
    omega
theorem cloneV_any (A : Option Addr) (n c : Nat) (xs : List Nat) (w : World) (hX : Hid (NX w A n c xs)) (hn : n ≤ 100000) :
    Calls Tryd.prog 19 #[.slice A n c] w fun e w' => ∃ A2 c2, e = .returned (.slice A2 n c2) ∧ Hid (NX w' A2 n c2 xs) ∧ Hid (Ext w w') := by
  rcases A with _ | ad
  · obtain rfl : n = 0 := by
      rcases Nat.eq_zero_or_pos n with h0 | h0
      · exact h0
      · obtain ⟨ad, e, _⟩ := hX.out.cells h0
        cases e
    have HN := Lib.hid (hX.out.eq_nil rfl)
    have heq := Lib.run_eql_slice_nil (P := Tryd.prog) w 23 22 none 0 c 0 0 Tryd.underlying23
    go_enter Tryd.func19, Tryd.ntmps19
    go_wp2
    go_ret
    exact ⟨none, 0, rfl, Lib.hid (by rw [HN.out]; exact Rd.none_ _ _ _ _ _ _), Lib.hid (Ext.refl _)⟩
  · have heq := Lib.run_eql_slice_nil (P := Tryd.prog) w 23 22 (some ad) n c 0 0 Tryd.underlying23
    go_enter Tryd.func19, Tryd.ntmps19
    go_wp2_with (at_builtin; refine wpList_clone rfl _ _ rfl w.heap.size rfl ad n c xs rfl rfl hX.out hn ?_; intro A2 c2 w2 h1 h2; have H1 := Lib.hid h1; have H2 := Lib.hid h2; clear h1 h2)
    go_ret
    exact ⟨A2, c2, rfl, H1, H2⟩
theorem new_tape (A : Option Addr) (n c : Nat) (xs : List Nat) (w : World) (hX : Hid (NX w A n c xs)) (hn : n ≤ 100000) :
    Calls Tryd.prog 9 #[.slice A n c] w fun e w' => ∃ p, e = .returned (.pointer (some ⟨p, 0, none⟩)) ∧ w.heap.size ≤ p ∧ Hid (Tp w' p xs) ∧ Hid (Ext w w') := by
  go_enter Tryd.func9, Tryd.ntmps9
  go_wp2_with fail
  refine (cloneV_any A n c xs w hX hn).mono ?_
  rintro e w1 ⟨A2, c2, rfl, h1, h2⟩
  go_wp2
  go_ret
  refine ⟨w1.heap.size, rfl, h2.out.size, Lib.hid ⟨A2, c2, ?_, ?_⟩, Lib.hid (h2.out.alloc _)⟩
  · rw [h1.out.len]; exact heap_alloc_new _ _
  · rw [h1.out.len]; exact h1.out.ext ((Ext.refl _).alloc _)
end Go.Proofs.YtbpehdfpiembfaaDoor

/-
  What Below and Ternary of package tape answer.
-/
namespace Go.Proofs.YtbpehdfpiembfaaDoor
open Go.RowKit
set_option linter.unusedVariables false
set_option maxRecDepth 100000

theorem and3 (x : Nat) (hx : x < W64) : bits .and .u64 (x : Int) 3 = ((x % 4 : Nat) : Int) := by
  rw [W64_eq] at hx
  rw [show (3 : Int) = ((3 : Nat) : Int) from rfl, bits_and_u64_nat _ _ hx (by omega), show x &&& 3 = x % 4 from Nat.and_two_pow_sub_one_eq_mod x 2]
theorem ne_dec (y k : Nat) : ((y : Int) != (k : Int)) = !decide (y = k) := by
  by_cases h : y = k
  · subst h; simp
  · have : ¬ (y : Int) = (k : Int) := by omega
    simp [h, bne, this]
theorem ask_ternary (x : Nat) (w : World) (hx : x < W64) :
    Calls Tryd.prog 49 #[.int .u64 (x : Int)] w fun e w' => e = .returned (.bool (tgood x)) ∧ w = w' := by
  have h := and3 x hx
  have hl : x % 4 < 4 := Nat.mod_lt _ (by omega)
  rw [W64_eq] at hx
  unfold tgood
  generalize x % 4 = y at *
  have HN := Lib.hid (ne_dec y 3)
  go_enter Tryd.func49, Tryd.ntmps49
  go_wp2
  go_ret
  exact ⟨congrArg (fun b => Ending.returned (.bool b)) HN.out, rfl⟩
theorem xor_max (r : Nat) (hr : r < 18446744073709551616) : bits .xor .u64 IntKind.u64.max (r : Int) = ((18446744073709551615 - r : Nat) : Int) := by
  have h2 : (BitVec.ofInt 64 (r : Int)).toNat = r := by
    rw [BitVec.ofInt_natCast, BitVec.toNat_ofNat]; exact Nat.mod_eq_of_lt (by omega)
  show IntKind.u64.wrap ((BitVec.ofInt 64 IntKind.u64.max ^^^ BitVec.ofInt 64 (r : Int)).toNat : Int) = _
  rw [show BitVec.ofInt 64 IntKind.u64.max = BitVec.allOnes 64 by decide, BitVec.allOnes_xor, BitVec.toNat_not, h2, IntKind.wrap_u64]
  omega
/-- What Below answers. -/
def BPost (w : World) (p q : Nat) (l : List Nat) (e : Ending) (w' : World) : Prop :=
  (∃ x r, firstS (bgood q) l = (some x, r) ∧ e = .returned (.tuple #[.int .u64 ((x % q : Nat) : Int), .int .i64 0]) ∧ Tp w' p r ∧ On p w w') ∨
  (firstS (bgood q) l = (none, []) ∧ e = .returned (.tuple #[.int .u64 0, .int .i64 11]) ∧ Tp w' p [] ∧ On p w w')
theorem neg_rest (q : Nat) (hq0 : 0 < q) (hq : q < 18446744073709551616) : (IntKind.u64.wrap (-(q : Int))).tmod (q : Int) = (((18446744073709551616 - q) % q : Nat) : Int) := by
  rw [IntKind.wrap_u64, show (-(q : Int)) % 18446744073709551616 = ((18446744073709551616 - q : Nat) : Int) by omega]
  rfl
theorem app1 (a b : Value) : #[a] ++ #[b] = #[a, b] := rfl
theorem app0 (a : Value) : #[a] ++ (#[] : Array Value) = #[a] := rfl
theorem asks_ternary (p : Nat) (V : World) : Asks 49 #[] p V tgood := by
  intro x w1 hx k1
  rw [app0]
  exact ask_ternary x w1 hx
/-- What Ternary answers. -/
def TPost (w : World) (p : Nat) (l : List Nat) (e : Ending) (w' : World) : Prop :=
  (∃ x r, firstS tgood l = (some x, r) ∧ e = .returned (.tuple #[.int .i64 (tval x), .int .i64 0]) ∧ Tp w' p r ∧ On p w w') ∨
  (firstS tgood l = (none, []) ∧ e = .returned (.tuple #[.int .i64 0, .int .i64 11]) ∧ Tp w' p [] ∧ On p w w')
set_option maxHeartbeats 1000000 in
theorem ternary_any (p : Nat) (l : List Nat) (w : World) (hT : Hid (Tp w p l)) (hn : l.length ≤ 100000) :
    Calls Tryd.prog 33 #[.pointer (some ⟨p, 0, none⟩)] w (TPost w p l) := by
  go_enter Tryd.func33, Tryd.ntmps33
  go_wp2_with fail
  refine (first_any 49 #[] tgood p l w hT hn (Lib.hid Tryd.call49) (Lib.hid (asks_ternary p w))).mono ?_
  rintro ee w2 (⟨x, r, h1, h2, rfl, h4, h5⟩ | ⟨h1, rfl, h4, h5⟩)
  · have H1 := Lib.hid h1
    have H4 := Lib.hid h4
    have H5 := Lib.hid h5
    have h3 := and3 x h2
    have hl : x % 4 < 4 := Nat.mod_lt _ (by omega)
    rw [W64_eq] at h2
    have HV := Lib.hid (show tval x = if x % 4 = 2 then -1 else ((x % 4 : Nat) : Int) from rfl)
    clear h1 h4 h5
    generalize x % 4 = y at *
    by_cases hy : y = 2
    · subst hy
      have HV2 := Lib.hid (HV.out.trans (if_pos rfl))
      go_wp2
      go_ret2
      exact .inl ⟨x, r, H1.out, by rw [HV2.out]; rfl, H4.out, H5.out⟩
    · have HV2 := Lib.hid (HV.out.trans (if_neg hy))
      have hb : ((y : Int) == 2) = false := by simp; omega
      clear HV
      go_wp2
      go_ret2
      exact .inl ⟨x, r, H1.out, by rw [HV2.out]; rfl, H4.out, H5.out⟩
  · have H1 := Lib.hid h1
    have H4 := Lib.hid h4
    have H5 := Lib.hid h5
    have h3 : bits .and .u64 0 3 = 0 := by decide
    clear h1 h4 h5
    go_wp2
    go_ret2
    exact .inr ⟨H1.out, rfl, H4.out, H5.out⟩
theorem ternary_nil (w : World) :
    Calls Tryd.prog 33 #[.pointer none] w fun e w' => e = .returned (.tuple #[.int .i64 0, .int .i64 1]) ∧ w = w' := by
  go_enter Tryd.func33, Tryd.ntmps33
  go_wp2
  go_ret2
  exact ⟨rfl, rfl⟩
end Go.Proofs.YtbpehdfpiembfaaDoor

/-
  What OnesCount64 of math/bits answers for numbers of sixteen bits, and Error of package tape.
-/
namespace Go.Proofs.YtbpehdfpiembfaaDoor
open Go.RowKit
set_option linter.unusedVariables false
set_option maxRecDepth 100000

theorem ret_i64 {a b : Int} (h : a = b) : Ending.returned (.int .i64 a) = .returned (.int .i64 b) := by rw [h]
theorem ret_bool {a b : Bool} (h : a = b) : Ending.returned (.bool a) = .returned (.bool b) := by rw [h]
theorem land_int (x m : Nat) (hx : x < 18446744073709551616) (hm : m < 18446744073709551616) : bits .and .u64 (x : Int) (m : Int) = ((Nat.land x m : Nat) : Int) := bits_and_u64_nat _ _ hx hm
theorem and127 (x : Nat) (hx : x < 4194304) : bits .and .i64 (x : Int) 127 = ((x % 128 : Nat) : Int) := by
  show IntKind.i64.wrap ((BitVec.ofInt 64 (x : Int) &&& BitVec.ofInt 64 127).toNat : Int) = _
  rw [BitVec.toNat_and, show (BitVec.ofInt 64 (x : Int)).toNat = x by rw [BitVec.ofInt_natCast, BitVec.toNat_ofNat]; exact Nat.mod_eq_of_lt (by omega), show (BitVec.ofInt 64 127).toNat = 2 ^ 7 - 1 by decide, Nat.and_two_pow_sub_one_eq_mod, IntKind.wrap_i64]
  omega
theorem low_int (n : Nat) (h1 : n ≤ 16) : IntKind.u64.wrap (IntKind.u64.wrap (2 ^ n) - 1) = ((2 ^ n - 1 : Nat) : Int) := by
  have h2 : 2 ^ n ≤ 2 ^ 16 := Nat.pow_le_pow_right (by omega) h1
  have h0 := Nat.two_pow_pos n
  rw [show (2 : Int) ^ n = ((2 ^ n : Nat) : Int) by rw [Int.natCast_pow]; rfl]
  generalize 2 ^ n = k at *
  rw [IntKind.wrap_u64, IntKind.wrap_u64]
  omega
theorem low_and (n x : Nat) (h1 : n ≤ 16) (hx : x < W64) : bits .and .u64 (x : Int) ((2 ^ n - 1 : Nat) : Int) = ((x % 2 ^ n : Nat) : Int) := by
  have h2 : 2 ^ n ≤ 2 ^ 16 := Nat.pow_le_pow_right (by omega) h1
  rw [W64_eq] at hx
  rw [bits_and_u64_nat _ _ hx (by omega), Nat.and_two_pow_sub_one_eq_mod]
theorem high_and (n x : Nat) (h1 : n ≤ 16) (hx : x < W64) : bits .and .u64 ((x : Int) / 2 ^ n) ((2 ^ n - 1 : Nat) : Int) = ((x / 2 ^ n % 2 ^ n : Nat) : Int) := by
  have := low_and n (x / 2 ^ n) h1 (Nat.lt_of_le_of_lt (Nat.div_le_self _ _) hx)
  rw [← this, Int.natCast_ediv, Int.natCast_pow]
  rfl
/-- What Error answers. -/
def EPost (w : World) (p n : Nat) (l : List Nat) (e : Ending) (w' : World) : Prop :=
  (∃ x r, l = x :: r ∧ e = .returned (.tuple #[.int .i64 (errS n x), .int .i64 0]) ∧ Tp w' p r ∧ On p w w') ∨
  (l = [] ∧ e = .returned (.tuple #[.int .i64 0, .int .i64 11]) ∧ Tp w' p [] ∧ On p w w')
theorem first_true {l r : List Nat} {x : Nat} (h : firstS (fun _ => true) l = (some x, r)) : l = x :: r := by
  cases l with
  | nil => simp [firstS] at h
  | cons y l => simp [firstS] at h; rw [h.1, h.2]
theorem first_void {l : List Nat} (h : firstS (fun _ => true) l = (none, [])) : l = [] := by
  cases l with
  | nil => rfl
  | cons y l => simp [firstS] at h
theorem ret_pair {a b : Int} {v : Value} (h : a = b) : Ending.returned (.tuple #[.int .i64 a, v]) = .returned (.tuple #[.int .i64 b, v]) := by rw [h]
theorem quiet_V {P : Program} {f : FuncId} {args : Array Value} {w : World} {n : Nat} {v : Value} (h : Calls P f args (w.drewN n) fun e w' => e = .returned v ∧ w.drewN n = w') : Calls P f args (w.drewN n) fun e w'' => e = .returned v ∧ ∃ m, w'' = w.drewN m :=
  h.mono fun _ _ ⟨he, hm⟩ => ⟨he, n, hm.symm⟩
end Go.Proofs.YtbpehdfpiembfaaDoor

/-
  What drawn and Ternaries of package tape answer, and SameInts of its reference for the same lists.
-/
namespace Go.Proofs.YtbpehdfpiembfaaDoor
open Go.RowKit
set_option linter.unusedVariables false
set_option maxRecDepth 100000

/-- Block g holds the numbers zs. -/
def IW (w : World) (g : Nat) (zs : List Int) : Prop := w.heap[g]? = some (.cells (zs.map (Value.int .i64)).toArray 2 (0, 0))
section
variable {w w' : World} {g : Nat} {zs : List Int}
theorem IW.lt (h : IW w g zs) : g < w.heap.size := (Array.getElem?_eq_some_iff.1 h).1
theorem IW.cell (h : IW w g zs) {i : Nat} {z : Int} (hz : zs[i]? = some z) : w.cell? ⟨g, i, none⟩ = some (.int .i64 z) := by
  rw [cell_of_row w g i _ _ (0, 0) h]
  simp [hz]
theorem IW.frozen (h : IW w g zs) (i : Nat) : w.frozen? ⟨g, i, none⟩ = false := by
  unfold IW at h
  simp [World.frozen?, h]
theorem IW.ext (h : IW w g zs) (k : Ext w w') : IW w' g zs := (k.block g h.lt).trans h
theorem IW.on (h : IW w g zs) {p : Nat} (k : On p w w') (hne : g ≠ p) : IW w' g zs := (k.block g h.lt (fun e => hne (by injection e))).trans h
theorem IW.set (h : IW w g zs) (i : Nat) (z : Int) : IW (w.setCell ⟨g, i, none⟩ (.int .i64 z)) g (zs.set i z) := by
  unfold IW at h ⊢
  simp [World.setCell, Array.getElem?_modify, h, List.map_set]
/-- No word lies there. -/
theorem IW.aside (h : IW w g zs) {a : Addr} {z : Int} (ha : w.cell? a = some (.int .u64 z)) : a.block ≠ g := by
  intro e
  subst e
  unfold IW at h
  unfold World.cell? at ha
  rw [h] at ha
  simp only at ha
  split at ha
  · cases ha
  · simp at ha
theorem NX.far {A : Option Addr} {n c : Nat} {xs : List Nat} (hX : NX w A n c xs) (h : IW w g zs) (i : Nat) (v : Value) : NX (w.setCell ⟨g, i, none⟩ v) A n c xs := by
  refine ⟨hX.len, hX.room, hX.lt, fun hn => ?_⟩
  obtain ⟨ad, rfl, hb, hc⟩ := hX.cells hn
  refine ⟨ad, rfl, by simpa using hb, fun j x hx => ?_⟩
  have h1 := hc j x hx
  rw [set_far]
  · exact h1
  · intro e
    exact h.aside h1 (by rw [← e])
theorem Tp.far {p : Nat} {l : List Nat} (hT : Tp w p l) (h : IW w g zs) (hne : p ≠ g) (i : Nat) (v : Value) : Tp (w.setCell ⟨g, i, none⟩ v) p l := by
  obtain ⟨A, c, h1, h2⟩ := hT
  exact ⟨A, c, (Below.heap_setCell _ _ _ _ (fun e => hne (by simpa using e))).trans h1, h2.far h i v⟩
end
theorem On.store {p g : Nat} {a b : World} (h : On p a b) (hg : a.heap.size ≤ g) (i : Nat) (v : Value) : On p a (b.setCell ⟨g, i, none⟩ v) :=
  ⟨h.os, h.tape, h.output, by simpa [World.setCell] using h.size, fun k hk hne => (Below.heap_setCell _ _ _ _ (fun e => by simp at e; omega)).trans (h.block k hk hne)⟩
/-- A slice of numbers, wherever it lies. -/
structure LX (w : World) (A : Option Addr) (n c : Nat) (zs : List Int) : Prop where
  len : zs.length = n
  room : n ≤ c
  cells : 0 < n → ∃ ad, A = some ad ∧ ∀ (j : Nat) (z : Int), zs[j]? = some z → w.cell? (ad.add j) = some (.int .i64 z)
theorem LX.ext {w w' : World} {A : Option Addr} {n c : Nat} {zs : List Int} (h : LX w A n c zs) (k : Ext w w') : LX w' A n c zs :=
  ⟨h.len, h.room, fun hn => by
    obtain ⟨ad, e, hc⟩ := h.cells hn
    exact ⟨ad, e, fun j z hz => cell_ext k (hc j z hz)⟩⟩
theorem LX.on {w w' : World} {q : Nat} {A : Option Addr} {n c : Nat} {zs : List Int} {l : List Nat} (h : LX w A n c zs) (hq : Tp w q l) (k : On q w w') : LX w' A n c zs :=
  ⟨h.len, h.room, fun hn => by
    obtain ⟨B, d, g1, g2⟩ := hq
    obtain ⟨ad, rfl, hc⟩ := h.cells hn
    refine ⟨ad, rfl, fun j z hz => ?_⟩
    have h1 := hc j z hz
    exact (World.cell?_of_block (k.block _ (World.block_lt_of_cell? _ _ h1) (fun e => g1.aside h1 (by injection e)))).trans h1⟩
theorem LX.none_ (w : World) (A : Option Addr) (c : Nat) : LX w A 0 c [] := ⟨rfl, Nat.zero_le _, fun h => absurd h (by omega)⟩
theorem IW.lx {w : World} {g : Nat} {zs : List Int} {n : Nat} (h : IW w g zs) (hn : zs.length = n) : LX w (some ⟨g, 0, none⟩) n n zs :=
  ⟨hn, Nat.le_refl _, fun _ => ⟨_, rfl, fun j z hz => by rw [Addr.add_lit, Nat.zero_add]; exact h.cell hz⟩⟩

theorem info_i64V : (Tryd.prog.info? 2).map (fun i => (i.zero, i.size, i.bytes)) = some (some (.int .i64 0), 1, 8) := by kernel_rfl
def newI (n : Nat) : Array Value := ((List.replicate n (0 : Int)).map (Value.int .i64)).toArray
theorem newI_iw (w : World) (n : Nat) : IW (w.alloc (.cells (newI n) 2)) w.heap.size (List.replicate n 0) := heap_alloc_new w _
theorem make_i64V (c : Nat) (hc : c ≤ 1000000) (w : World) :
    (Instr.makeSlice 36 (.int .i64 (c : Int)) (.int .i64 (c : Int))).run Tryd.prog w = .ok (.slice (some ⟨w.heap.size, 0, none⟩) c c) (w.alloc (.cells (newI c) 2)) := by
  obtain ⟨i0, hi, hz0, hz1, hz2⟩ := info_parts info_i64V
  have hr := run_make (P := Tryd.prog) w 36 2 i0 (.int .i64 0) Tryd.underlying36 hi hz0 .i64 .i64 (c : Int) (c : Int) (by omega) (by omega) (by rw [hz2]; omega) (by omega)
  rw [hz1] at hr
  simp only [Int.toNat_natCast] at hr
  rw [hr]
  have e : madeCells (Value.int .i64 0).cells (c * 1) = newI c := by
    apply Array.toList_inj.1
    rw [Nat.mul_one]
    refine (toList_madeCells_one (Value.int .i64 0) c).trans ?_
    simp [newI]
  rw [e]
theorem mayLength_yes (n : Nat) (w : World) (h0 : 1 ≤ n) (h1 : n ≤ 4096) :
    Calls Tryd.prog 31 #[.int .i64 (n : Int)] w fun e w' => e = .returned (.bool true) ∧ w = w' := by
  have hd : decide ((n : Int) ≤ 4096) = true := decide_eq_true (by omega)
  go_enter Tryd.func31, Tryd.ntmps31
  go_wp2
  go_ret
  exact ⟨rfl, rfl⟩
/-- What Ternaries answers. -/
def DPost (w : World) (p n : Nat) (l : List Nat) (e : Ending) (w' : World) : Prop :=
  (∃ acc r A, ternS l n = some (acc, r) ∧ e = .returned (.tuple #[.slice A n n, .int .i64 0]) ∧ LX w' A n n acc ∧ Tp w' p r ∧ On p w w') ∨
  (ternS l n = none ∧ e = .returned (.tuple #[.slice none 0 0, .int .i64 11]) ∧ Tp w' p [] ∧ On p w w')
set_option maxHeartbeats 2000000 in
theorem drawn_any (p n : Nat) (l : List Nat) (w : World) (hT : Hid (Tp w p l)) (hl : l.length ≤ 100000) (hn : n ≤ 4096) :
    Calls Tryd.prog 32 #[.int .i64 (n : Int), .func (.func 33) #[.pointer (some ⟨p, 0, none⟩)] #[]] w (DPost w p n l) := by
  have hmk := make_i64V n (by omega)
  go_enter Tryd.func32, Tryd.ntmps32
  go_wp2
  clear hmk
  have kA : Ext w (w.alloc (.cells (newI n) 2)) := (Ext.refl w).alloc _
  have hI := Lib.hid (newI_iw w n)
  have HT := Lib.hid (hT.out.ext kA)
  have hp := hT.out.lt
  have HO := Lib.hid (On.of (p := p) kA)
  obtain ⟨g, hg⟩ : ∃ g, g = w.heap.size := ⟨_, rfl⟩
  rw [← hg] at hI hp ⊢
  have hgw : w.heap.size ≤ g := by omega
  generalize w.alloc (.cells (newI n) 2) = V at *
  clear hg kA
  go_loopw [14] (fun i wr => ∃ (k : Nat) (acc : List Int) (r : List Nat), k ≤ n ∧ i = .int .i64 (k : Int) ∧ Hid (ternS l k = some (acc, r)) ∧ Hid (IW wr g (acc ++ List.replicate (n - k) 0)) ∧ Hid (Tp wr p r) ∧ Hid (On p w wr)) (fun i _ => n - (intOf i).toNat)
  case atStart => exact ⟨0, [], l, by omega, rfl, Lib.hid rfl, hI, HT, HO⟩
  case round =>
    obtain ⟨k, acc, r, hk, rfl, ht, hI2, hT2, hO2⟩ := hrel
    obtain ⟨hr, hac, _⟩ := ternS_less ht.out
    by_cases hlt : k < n
    · have i0 : (0 : Int) ≤ (k : Int) := by omega
      have i1 : (k : Int) < (n : Int) := by omega
      have HAC := Lib.hid hac
      clear hac
      go_wp2_with fail
      refine (ternary_any p r wr hT2 (by omega)).mono ?_
      rintro ee w2 (⟨x, r2, h1, rfl, h4, h5⟩ | ⟨h1, rfl, h4, h5⟩)
      · have HI := Lib.hid (hI2.out.on h5 (by omega))
        have h0c : (acc ++ List.replicate (n - k) (0 : Int))[k]? = some 0 := by
          rw [List.getElem?_append_right (by rw [HAC.out]; omega), HAC.out, Nat.sub_self, List.getElem?_replicate, if_pos (by omega)]
        have c0 := HI.out.cell h0c
        have z0 := HI.out.frozen k
        have hsz := HI.out.lt
        have es : (acc ++ List.replicate (n - k) (0 : Int)).set k (tval x) = (acc ++ [tval x]) ++ List.replicate (n - (k + 1)) 0 := by
          rw [List.set_append_right _ _ (by rw [HAC.out]; omega), HAC.out, Nat.sub_self, show n - k = n - (k + 1) + 1 by omega, List.replicate_succ, List.set_cons_zero, List.append_assoc]
          rfl
        have HI2 := Lib.hid (HI.out.set k (tval x))
        rw [es] at HI2
        have HT2 := Lib.hid (h4.far HI.out (by omega) k (.int .i64 (tval x)))
        have HO3 := Lib.hid ((hO2.out.trans h5).store hgw k (.int .i64 (tval x)))
        have HS := Lib.hid (ternS_next ht.out h1)
        clear h1 h4 h5 es h0c
        generalize tval x = y at *
        go_wp2
        exact ⟨⟨k + 1, _, _, by omega, by go_num, HS, HI2, HT2, HO3⟩, by simp [intOf]; omega⟩
      · have HS := Lib.hid (show ternS l n = none by
          have := ternS_up (ternS_out ht.out h1) (n - (k + 1))
          rwa [show k + 1 + (n - (k + 1)) = n by omega] at this)
        have H4 := Lib.hid h4
        have H5 := Lib.hid (hO2.out.trans h5)
        clear h1 h4 h5
        go_wp2
        go_ret2
        exact .inr ⟨HS.out, rfl, H4.out, H5.out⟩
    · obtain rfl : k = n := by omega
      have HI3 := Lib.hid (show IW wr g acc by
        have := hI2.out
        rwa [Nat.sub_self, List.replicate_zero, List.append_nil] at this)
      have HAC := Lib.hid hac
      clear hac
      go_wp2
      go_ret2
      exact .inl ⟨acc, r, _, ht.out, rfl, HI3.out.lx HAC.out, hT2.out, hO2.out⟩
theorem ternaries_any (p n : Nat) (l : List Nat) (w : World) (hT : Hid (Tp w p l)) (hl : l.length ≤ 100000) (h0 : 1 ≤ n) (hn : n ≤ 4096) :
    Calls Tryd.prog 18 #[.pointer (some ⟨p, 0, none⟩), .int .i64 (n : Int)] w (DPost w p n l) := by
  go_enter Tryd.func18, Tryd.ntmps18
  go_wp2_with (go_at_call 31; refine (mayLength_yes n _ h0 hn).mono ?_; rintro ee w2 ⟨rfl, rfl⟩)
  refine (drawn_any p n l w hT hl hn).mono ?_
  rintro ee w2 (⟨acc, r, A, h1, rfl, h3, h4, h5⟩ | ⟨h1, rfl, h4, h5⟩)
  · have H1 := Lib.hid h1
    have H3 := Lib.hid h3
    have H4 := Lib.hid h4
    have H5 := Lib.hid h5
    clear h1 h3 h4 h5
    go_wp2
    go_ret2
    exact .inl ⟨acc, r, A, H1.out, rfl, H3.out, H4.out, H5.out⟩
  · have H1 := Lib.hid h1
    have H4 := Lib.hid h4
    have H5 := Lib.hid h5
    clear h1 h4 h5
    go_wp2
    go_ret2
    exact .inr ⟨H1.out, rfl, H4.out, H5.out⟩
theorem ternaries_nil (n : Int) (w : World) (h0 : -9223372036854775808 ≤ n) (h1 : n < 9223372036854775808) :
    Calls Tryd.prog 18 #[.pointer none, .int .i64 n] w fun e w' => e = .returned (.tuple #[.slice none 0 0, .int .i64 1]) ∧ w = w' := by
  go_enter Tryd.func18, Tryd.ntmps18
  go_wp2
  go_ret2
  exact ⟨rfl, rfl⟩
set_option maxHeartbeats 1000000 in
theorem sameInts_any (A A' : Option Addr) (n c c' : Nat) (zs : List Int) (w : World) (h : Hid (LX w A n c zs)) (h' : Hid (LX w A' n c' zs)) (hn : n ≤ 100000) :
    Calls Tryd.prog 10 #[.slice A n c, .slice A' n c'] w fun e w' => e = .returned (.bool true) ∧ Ext w w' := by
  go_enter Tryd.func10, Tryd.ntmps10
  go_wp2
  go_loopw [13] (fun i wr => ∃ k : Nat, k ≤ n ∧ i = .int .i64 (k : Int) ∧ Hid (Ext w wr)) (fun i _ => n - (intOf i).toNat)
  case atStart => exact ⟨0, by omega, rfl, Lib.hid (Ext.refl _)⟩
  case round =>
    obtain ⟨k, hk, rfl, hE⟩ := hrel
    by_cases hlt : k < n
    · obtain ⟨ad, rfl, hc⟩ := (h.out.ext hE.out).cells (by omega)
      obtain ⟨ad', rfl, hc'⟩ := (h'.out.ext hE.out).cells (by omega)
      have hkz : k < zs.length := by rw [h.out.len]; exact hlt
      have c0 := hc k _ (List.getElem?_eq_getElem hkz)
      have c1 := hc' k _ (List.getElem?_eq_getElem hkz)
      clear hc hc'
      generalize zs[k] = z at *
      have i0 : (0 : Int) ≤ (k : Int) := by omega
      have i1 : (k : Int) < (n : Int) := by omega
      clear hkz
      go_wp2
      go_quiet (fail)
      go_wp2
      exact ⟨⟨k + 1, by omega, by go_num, Lib.hid (hE.out.drewN _)⟩, by simp [intOf]; omega⟩
    · go_wp2
      go_ret
      exact ⟨rfl, hE.out⟩
end Go.Proofs.YtbpehdfpiembfaaDoor

/-
  The calls whose answers the chapter of tapes fixes.
-/
namespace Go.Proofs.YtbpehdfpiembfaaDoor
open Go.RowKit
set_option linter.unusedVariables false
set_option maxRecDepth 100000

theorem ternary_is (p : Nat) (l r : List Nat) (x : Nat) (w : World) (hT : Hid (Tp w p l)) (hn : l.length ≤ 100000) (h : firstS tgood l = (some x, r)) :
    Calls Tryd.prog 33 #[.pointer (some ⟨p, 0, none⟩)] w fun e w' => e = .returned (.tuple #[.int .i64 (tval x), .int .i64 0]) ∧ Hid (Tp w' p r) ∧ Hid (On p w w') := by
  refine (ternary_any p l w hT hn).mono ?_
  rintro e w' (⟨y, s, h1, rfl, h4, h5⟩ | ⟨h1, _⟩)
  · rw [h1] at h
    injection h with ha hb
    injection ha with ha
    subst ha hb
    exact ⟨rfl, Lib.hid h4, Lib.hid h5⟩
  · rw [h1] at h; cases h
theorem ternary_out (p : Nat) (l : List Nat) (w : World) (hT : Hid (Tp w p l)) (hn : l.length ≤ 100000) (h : firstS tgood l = (none, [])) :
    Calls Tryd.prog 33 #[.pointer (some ⟨p, 0, none⟩)] w fun e w' => e = .returned (.tuple #[.int .i64 0, .int .i64 11]) ∧ Hid (Tp w' p []) ∧ Hid (On p w w') := by
  refine (ternary_any p l w hT hn).mono ?_
  rintro e w' (⟨y, s, h1, rfl, h4, h5⟩ | ⟨h1, rfl, h4, h5⟩)
  · rw [h1] at h; cases h
  · exact ⟨rfl, Lib.hid h4, Lib.hid h5⟩
/-- Draws that are laid by the text. -/
theorem laid_nx (w : World) (xs : List Nat) (n : Nat) (hn : xs.length = n) (hx : ∀ x ∈ xs, x < W64) : NX (w.alloc (.cells (u64s xs ++ []).toArray 22)) (some ⟨w.heap.size, 0, none⟩) n n xs :=
  Bk.rd (sp := []) (heap_alloc_new w _) hx hn (Nat.le_refl _)
end Go.Proofs.YtbpehdfpiembfaaDoor
