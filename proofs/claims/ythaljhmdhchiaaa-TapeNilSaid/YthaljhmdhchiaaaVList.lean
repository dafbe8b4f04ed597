/-
  What drawn and Ternaries of package tape answer, and SameInts of its reference for the same lists.
-/
import Derived.Test.YthaljhmdhchiaaaVErr
namespace Go.Proofs.Ythaljhmdhchiaaa
open Go.RowKit
set_option linter.unusedVariables false
set_option maxRecDepth 100000

/-- Block g holds the numbers zs. -/
def IW (w : World) (g : Nat) (zs : List Int) : Prop := w.heap[g]? = some (.cells (zs.map (Value.int .i64)).toArray 2 (0, 0))
section
variable {w w' : World} {g : Nat} {zs : List Int}
theorem IW.lt (h : IW w g zs) : g < w.heap.size := (Array.getElem?_eq_some_iff.1 h).1
theorem IW.cell (h : IW w g zs) {i : Nat} {z : Int} (hz : zs[i]? = some z) : w.cell? ⟨g, i, none⟩ = some (.int .i64 z) := by
  rw [cell_of_row w g i _ _ (0, 0) h]
  simp [hz]
theorem IW.frozen (h : IW w g zs) (i : Nat) : w.frozen? ⟨g, i, none⟩ = false := by
  unfold IW at h
  simp [World.frozen?, h]
theorem IW.ext (h : IW w g zs) (k : Ext w w') : IW w' g zs := (k.block g h.lt).trans h
theorem IW.on (h : IW w g zs) {p : Nat} (k : On p w w') (hne : g ≠ p) : IW w' g zs := (k.block g h.lt (fun e => hne (by injection e))).trans h
theorem IW.set (h : IW w g zs) (i : Nat) (z : Int) : IW (w.setCell ⟨g, i, none⟩ (.int .i64 z)) g (zs.set i z) := by
  unfold IW at h ⊢
  simp [World.setCell, Array.getElem?_modify, h, List.map_set]
/-- No word lies there. -/
theorem IW.aside (h : IW w g zs) {a : Addr} {z : Int} (ha : w.cell? a = some (.int .u64 z)) : a.block ≠ g := by
  intro e
  subst e
  unfold IW at h
  unfold World.cell? at ha
  rw [h] at ha
  simp only at ha
  split at ha
  · cases ha
  · simp at ha
theorem NX.far {A : Option Addr} {n c : Nat} {xs : List Nat} (hX : NX w A n c xs) (h : IW w g zs) (i : Nat) (v : Value) : NX (w.setCell ⟨g, i, none⟩ v) A n c xs := by
  refine ⟨hX.len, hX.room, hX.lt, fun hn => ?_⟩
  obtain ⟨ad, rfl, hb, hc⟩ := hX.cells hn
  refine ⟨ad, rfl, by simpa using hb, fun j x hx => ?_⟩
  have h1 := hc j x hx
  rw [set_far]
  · exact h1
  · intro e
    exact h.aside h1 (by rw [← e])
theorem Tp.far {p : Nat} {l : List Nat} (hT : Tp w p l) (h : IW w g zs) (hne : p ≠ g) (i : Nat) (v : Value) : Tp (w.setCell ⟨g, i, none⟩ v) p l := by
  obtain ⟨A, c, h1, h2⟩ := hT
  exact ⟨A, c, (Below.heap_setCell _ _ _ _ (fun e => hne (by simpa using e))).trans h1, h2.far h i v⟩
end
theorem On.store {p g : Nat} {a b : World} (h : On p a b) (hg : a.heap.size ≤ g) (i : Nat) (v : Value) : On p a (b.setCell ⟨g, i, none⟩ v) :=
  ⟨h.os, h.tape, h.output, by simpa [World.setCell] using h.size, fun k hk hne => (Below.heap_setCell _ _ _ _ (fun e => by simp at e; omega)).trans (h.block k hk hne)⟩
/-- A slice of numbers, wherever it lies. -/
structure LX (w : World) (A : Option Addr) (n c : Nat) (zs : List Int) : Prop where
  len : zs.length = n
  room : n ≤ c
  cells : 0 < n → ∃ ad, A = some ad ∧ ∀ (j : Nat) (z : Int), zs[j]? = some z → w.cell? (ad.add j) = some (.int .i64 z)
theorem LX.ext {w w' : World} {A : Option Addr} {n c : Nat} {zs : List Int} (h : LX w A n c zs) (k : Ext w w') : LX w' A n c zs :=
  ⟨h.len, h.room, fun hn => by
    obtain ⟨ad, e, hc⟩ := h.cells hn
    exact ⟨ad, e, fun j z hz => cell_ext k (hc j z hz)⟩⟩
theorem LX.on {w w' : World} {q : Nat} {A : Option Addr} {n c : Nat} {zs : List Int} {l : List Nat} (h : LX w A n c zs) (hq : Tp w q l) (k : On q w w') : LX w' A n c zs :=
  ⟨h.len, h.room, fun hn => by
    obtain ⟨B, d, g1, g2⟩ := hq
    obtain ⟨ad, rfl, hc⟩ := h.cells hn
    refine ⟨ad, rfl, fun j z hz => ?_⟩
    have h1 := hc j z hz
    exact (World.cell?_of_block (k.block _ (World.block_lt_of_cell? _ _ h1) (fun e => g1.aside h1 (by injection e)))).trans h1⟩
theorem LX.none_ (w : World) (A : Option Addr) (c : Nat) : LX w A 0 c [] := ⟨rfl, Nat.zero_le _, fun h => absurd h (by omega)⟩
theorem IW.lx {w : World} {g : Nat} {zs : List Int} {n : Nat} (h : IW w g zs) (hn : zs.length = n) : LX w (some ⟨g, 0, none⟩) n n zs :=
  ⟨hn, Nat.le_refl _, fun _ => ⟨_, rfl, fun j z hz => by rw [Addr.add_lit, Nat.zero_add]; exact h.cell hz⟩⟩

theorem info_i64V : (Try.prog.info? 2).map (fun i => (i.zero, i.size, i.bytes)) = some (some (.int .i64 0), 1, 8) := by kernel_rfl
def newI (n : Nat) : Array Value := ((List.replicate n (0 : Int)).map (Value.int .i64)).toArray
theorem newI_iw (w : World) (n : Nat) : IW (w.alloc (.cells (newI n) 2)) w.heap.size (List.replicate n 0) := heap_alloc_new w _
theorem make_i64V (c : Nat) (hc : c ≤ 1000000) (w : World) :
    (Instr.makeSlice 34 (.int .i64 (c : Int)) (.int .i64 (c : Int))).run Try.prog w = .ok (.slice (some ⟨w.heap.size, 0, none⟩) c c) (w.alloc (.cells (newI c) 2)) := by
  obtain ⟨i0, hi, hz0, hz1, hz2⟩ := info_parts info_i64V
  have hr := run_make (P := Try.prog) w 34 2 i0 (.int .i64 0) Try.underlying34 hi hz0 .i64 .i64 (c : Int) (c : Int) (by omega) (by omega) (by rw [hz2]; omega) (by omega)
  rw [hz1] at hr
  simp only [Int.toNat_natCast] at hr
  rw [hr]
  have e : madeCells (Value.int .i64 0).cells (c * 1) = newI c := by
    apply Array.toList_inj.1
    rw [Nat.mul_one]
    refine (toList_madeCells_one (Value.int .i64 0) c).trans ?_
    simp [newI]
  rw [e]
theorem mayLength_yes (n : Nat) (w : World) (h0 : 1 ≤ n) (h1 : n ≤ 4096) :
    Calls Try.prog 23 #[.int .i64 (n : Int)] w fun e w' => e = .returned (.bool true) ∧ w = w' := by
  have hd : decide ((n : Int) ≤ 4096) = true := decide_eq_true (by omega)
  go_enter Try.func23, Try.ntmps23
  go_wp2
  go_ret
  exact ⟨rfl, rfl⟩
/-- What Ternaries answers. -/
def DPost (w : World) (p n : Nat) (l : List Nat) (e : Ending) (w' : World) : Prop :=
  (∃ acc r A, ternS l n = some (acc, r) ∧ e = .returned (.tuple #[.slice A n n, .int .i64 0]) ∧ LX w' A n n acc ∧ Tp w' p r ∧ On p w w') ∨
  (ternS l n = none ∧ e = .returned (.tuple #[.slice none 0 0, .int .i64 11]) ∧ Tp w' p [] ∧ On p w w')
set_option maxHeartbeats 2000000 in
theorem drawn_any (p n : Nat) (l : List Nat) (w : World) (hT : Hid (Tp w p l)) (hl : l.length ≤ 100000) (hn : n ≤ 4096) :
    Calls Try.prog 24 #[.int .i64 (n : Int), .func (.func 9) #[.pointer (some ⟨p, 0, none⟩)] #[]] w (DPost w p n l) := by
  have hmk := make_i64V n (by omega)
  go_enter Try.func24, Try.ntmps24
  go_wp2
  clear hmk
  have kA : Ext w (w.alloc (.cells (newI n) 2)) := (Ext.refl w).alloc _
  have hI := Lib.hid (newI_iw w n)
  have HT := Lib.hid (hT.out.ext kA)
  have hp := hT.out.lt
  have HO := Lib.hid (On.of (p := p) kA)
  obtain ⟨g, hg⟩ : ∃ g, g = w.heap.size := ⟨_, rfl⟩
  rw [← hg] at hI hp ⊢
  have hgw : w.heap.size ≤ g := by omega
  generalize w.alloc (.cells (newI n) 2) = V at *
  clear hg kA
  go_loopw [14] (fun i wr => ∃ (k : Nat) (acc : List Int) (r : List Nat), k ≤ n ∧ i = .int .i64 (k : Int) ∧ Hid (ternS l k = some (acc, r)) ∧ Hid (IW wr g (acc ++ List.replicate (n - k) 0)) ∧ Hid (Tp wr p r) ∧ Hid (On p w wr)) (fun i _ => n - (intOf i).toNat)
  case atStart => exact ⟨0, [], l, by omega, rfl, Lib.hid rfl, hI, HT, HO⟩
  case round =>
    obtain ⟨k, acc, r, hk, rfl, ht, hI2, hT2, hO2⟩ := hrel
    obtain ⟨hr, hac, _⟩ := ternS_less ht.out
    by_cases hlt : k < n
    · have i0 : (0 : Int) ≤ (k : Int) := by omega
      have i1 : (k : Int) < (n : Int) := by omega
      have HAC := Lib.hid hac
      clear hac
      go_wp2_with fail
      refine (ternary_any p r wr hT2 (by omega)).mono ?_
      rintro ee w2 (⟨x, r2, h1, rfl, h4, h5⟩ | ⟨h1, rfl, h4, h5⟩)
      · have HI := Lib.hid (hI2.out.on h5 (by omega))
        have h0c : (acc ++ List.replicate (n - k) (0 : Int))[k]? = some 0 := by
          rw [List.getElem?_append_right (by rw [HAC.out]; omega), HAC.out, Nat.sub_self, List.getElem?_replicate, if_pos (by omega)]
        have c0 := HI.out.cell h0c
        have z0 := HI.out.frozen k
        have hsz := HI.out.lt
        have es : (acc ++ List.replicate (n - k) (0 : Int)).set k (tval x) = (acc ++ [tval x]) ++ List.replicate (n - (k + 1)) 0 := by
          rw [List.set_append_right _ _ (by rw [HAC.out]; omega), HAC.out, Nat.sub_self, show n - k = n - (k + 1) + 1 by omega, List.replicate_succ, List.set_cons_zero, List.append_assoc]
          rfl
        have HI2 := Lib.hid (HI.out.set k (tval x))
        rw [es] at HI2
        have HT2 := Lib.hid (h4.far HI.out (by omega) k (.int .i64 (tval x)))
        have HO3 := Lib.hid ((hO2.out.trans h5).store hgw k (.int .i64 (tval x)))
        have HS := Lib.hid (ternS_next ht.out h1)
        clear h1 h4 h5 es h0c
        generalize tval x = y at *
        go_wp2
        exact ⟨⟨k + 1, _, _, by omega, by go_num, HS, HI2, HT2, HO3⟩, by simp [intOf]; omega⟩
      · have HS := Lib.hid (show ternS l n = none by
          have := ternS_up (ternS_out ht.out h1) (n - (k + 1))
          rwa [show k + 1 + (n - (k + 1)) = n by omega] at this)
        have H4 := Lib.hid h4
        have H5 := Lib.hid (hO2.out.trans h5)
        clear h1 h4 h5
        go_wp2
        go_ret2
        exact .inr ⟨HS.out, rfl, H4.out, H5.out⟩
    · obtain rfl : k = n := by omega
      have HI3 := Lib.hid (show IW wr g acc by
        have := hI2.out
        rwa [Nat.sub_self, List.replicate_zero, List.append_nil] at this)
      have HAC := Lib.hid hac
      clear hac
      go_wp2
      go_ret2
      exact .inl ⟨acc, r, _, ht.out, rfl, HI3.out.lx HAC.out, hT2.out, hO2.out⟩
theorem ternaries_any (p n : Nat) (l : List Nat) (w : World) (hT : Hid (Tp w p l)) (hl : l.length ≤ 100000) (h0 : 1 ≤ n) (hn : n ≤ 4096) :
    Calls Try.prog 12 #[.pointer (some ⟨p, 0, none⟩), .int .i64 (n : Int)] w (DPost w p n l) := by
  go_enter Try.func12, Try.ntmps12
  go_wp2_with (go_at_call 23; refine (mayLength_yes n _ h0 hn).mono ?_; rintro ee w2 ⟨rfl, rfl⟩)
  refine (drawn_any p n l w hT hl hn).mono ?_
  rintro ee w2 (⟨acc, r, A, h1, rfl, h3, h4, h5⟩ | ⟨h1, rfl, h4, h5⟩)
  · have H1 := Lib.hid h1
    have H3 := Lib.hid h3
    have H4 := Lib.hid h4
    have H5 := Lib.hid h5
    clear h1 h3 h4 h5
    go_wp2
    go_ret2
    exact .inl ⟨acc, r, A, H1.out, rfl, H3.out, H4.out, H5.out⟩
  · have H1 := Lib.hid h1
    have H4 := Lib.hid h4
    have H5 := Lib.hid h5
    clear h1 h4 h5
    go_wp2
    go_ret2
    exact .inr ⟨H1.out, rfl, H4.out, H5.out⟩
theorem ternaries_nil (n : Int) (w : World) (h0 : -9223372036854775808 ≤ n) (h1 : n < 9223372036854775808) :
    Calls Try.prog 12 #[.pointer none, .int .i64 n] w fun e w' => e = .returned (.tuple #[.slice none 0 0, .int .i64 1]) ∧ w = w' := by
  go_enter Try.func12, Try.ntmps12
  go_wp2
  go_ret2
  exact ⟨rfl, rfl⟩
theorem errors_nil (n m : Int) (w : World) (h0 : -9223372036854775808 ≤ n) (h1 : n < 9223372036854775808) (h2 : -9223372036854775808 ≤ m) (h3 : m < 9223372036854775808) :
    Calls Try.prog 15 #[.pointer none, .int .i64 n, .int .i64 m] w fun e w' => e = .returned (.tuple #[.slice none 0 0, .int .i64 1]) ∧ w = w' := by
  go_enter Try.func15, Try.ntmps15
  go_wp2
  go_ret2
  exact ⟨rfl, rfl⟩
theorem uniform_nil (n : Int) (A : Option Addr) (m c : Nat) (w : World) (h0 : -9223372036854775808 ≤ n) (h1 : n < 9223372036854775808) :
    Calls Try.prog 14 #[.pointer none, .int .i64 n, .slice A m c] w fun e w' => e = .returned (.tuple #[.agg #[.slice none 0 0], .int .i64 1]) ∧ Ext w w' := by
  go_enter Try.func14, Try.ntmps14
  go_wp2
  exact bodyPost_ret (v := .tuple #[.agg #[.slice none 0 0], .int .i64 1]) (by simp [results, Try.results14, go_sem]) rfl ⟨rfl, (Ext.refl w).alloc _⟩
set_option maxHeartbeats 1000000 in
theorem sameInts_any (A A' : Option Addr) (n c c' : Nat) (zs : List Int) (w : World) (h : Hid (LX w A n c zs)) (h' : Hid (LX w A' n c' zs)) (hn : n ≤ 100000) :
    Calls Try.prog 13 #[.slice A n c, .slice A' n c'] w fun e w' => e = .returned (.bool true) ∧ Ext w w' := by
  go_enter Try.func13, Try.ntmps13
  go_wp2
  go_loopw [13] (fun i wr => ∃ k : Nat, k ≤ n ∧ i = .int .i64 (k : Int) ∧ Hid (Ext w wr)) (fun i _ => n - (intOf i).toNat)
  case atStart => exact ⟨0, by omega, rfl, Lib.hid (Ext.refl _)⟩
  case round =>
    obtain ⟨k, hk, rfl, hE⟩ := hrel
    by_cases hlt : k < n
    · obtain ⟨ad, rfl, hc⟩ := (h.out.ext hE.out).cells (by omega)
      obtain ⟨ad', rfl, hc'⟩ := (h'.out.ext hE.out).cells (by omega)
      have hkz : k < zs.length := by rw [h.out.len]; exact hlt
      have c0 := hc k _ (List.getElem?_eq_getElem hkz)
      have c1 := hc' k _ (List.getElem?_eq_getElem hkz)
      clear hc hc'
      generalize zs[k] = z at *
      have i0 : (0 : Int) ≤ (k : Int) := by omega
      have i1 : (k : Int) < (n : Int) := by omega
      clear hkz
      go_wp2
      go_quiet (fail)
      go_wp2
      exact ⟨⟨k + 1, by omega, by go_num, Lib.hid (hE.out.drewN _)⟩, by simp [intOf]; omega⟩
    · go_wp2
      go_ret
      exact ⟨rfl, hE.out⟩
end Go.Proofs.Ythaljhmdhchiaaa
