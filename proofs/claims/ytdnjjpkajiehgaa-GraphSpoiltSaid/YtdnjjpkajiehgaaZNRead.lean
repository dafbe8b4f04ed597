/-
  Slices of words and of digits as lists of numbers: how one reads in memory, and that it reads so still where memory below it is as it was.
-/
import Derived.Test.YtdnjjpkajiehgaaZ2
import Derived.Below
import Derived.Laws.OwnMore
import Derived.Deep.AppendLies
import Derived.Deep.Draws
namespace Go.Proofs.Ytdnjjpkajiehgaa
open Go.RowKit
set_option maxRecDepth 100000

/-- 2 to the power of 64. -/
def W64 : Nat := 18446744073709551616
theorem W64_eq : W64 = 18446744073709551616 := rfl
theorem W64_two : 2 ≤ W64 := by rw [W64_eq]; omega

/-- The slice of n elements at A, with room for c, reads as xs, each number below b, and lies below block B. -/
structure Rd (k : IntKind) (b : Nat) (w : World) (B : Nat) (A : Option Addr) (n c : Nat) (xs : List Nat) : Prop where
  len : xs.length = n
  room : n ≤ c
  lt : ∀ x ∈ xs, x < b
  cells : 0 < n → ∃ ad, A = some ad ∧ ad.block < B ∧ ∀ (j x : Nat), xs[j]? = some x → w.cell? (ad.add j) = some (.int k (x : Int))

section
variable {k : IntKind} {b : Nat} {w w' : World} {B B' : Nat} {A : Option Addr} {n c : Nat} {xs : List Nat}
theorem Rd.at_ (h : Rd k b w B A n c xs) {i : Nat} (hi : i < n) : ∃ ad x, A = some ad ∧ ad.block < B ∧ x < b ∧ xs[i]? = some x ∧ w.cell? (ad.add i) = some (.int k (x : Int)) := by
  obtain ⟨ad, e, hb, hc⟩ := h.cells (by omega)
  have hl : i < xs.length := by have := h.len; omega
  exact ⟨ad, xs[i], e, hb, h.lt _ (List.getElem_mem hl), List.getElem?_eq_getElem hl, hc i _ (List.getElem?_eq_getElem hl)⟩
theorem Rd.keep (h : Rd k b w B A n c xs) (hk : ∀ p : Addr, p.block < B → w'.cell? p = w.cell? p) : Rd k b w' B A n c xs :=
  ⟨h.len, h.room, h.lt, fun hn => by
    obtain ⟨ad, e, hb, hc⟩ := h.cells hn
    refine ⟨ad, e, hb, fun j u hu => (hk _ ?_).trans (hc j u hu)⟩
    unfold Addr.add
    split <;> exact hb⟩
theorem Rd.more (h : Rd k b w B A n c xs) (hB : B ≤ B') : Rd k b w B' A n c xs :=
  ⟨h.len, h.room, h.lt, fun hn => by
    obtain ⟨ad, e, hb, hc⟩ := h.cells hn
    exact ⟨ad, e, by omega, hc⟩⟩
theorem Rd.below (h : Rd k b w B A n c xs) (hb : Below B w w') : Rd k b w' B A n c xs := h.keep fun _ hp => hb.cell hp
theorem Rd.drewN (h : Rd k b w B A n c xs) (m : Nat) : Rd k b (w.drewN m) B A n c xs := ⟨h.len, h.room, h.lt, h.cells⟩
theorem Rd.grown (h : Rd k b w B A n c xs) {row : Option Nat} (hg : w.grownBy w' row) (hB : B ≤ w.heap.size) (hr : ∀ g, row = some g → B ≤ g) : Rd k b w' B A n c xs :=
  h.keep fun p hp => World.cell?_of_block (hg.block p.block (by omega) (fun e => by have := hr _ e.symm; omega))
theorem Rd.none_ (k : IntKind) (b : Nat) (w : World) (B : Nat) (A : Option Addr) (c : Nat) : Rd k b w B A 0 c [] := ⟨rfl, Nat.zero_le _, by simp, fun h => absurd h (by omega)⟩
theorem Rd.take_ (h : Rd k b w B A n c xs) {m : Nat} (hm : m ≤ n) : Rd k b w B A m m (xs.take m) := by
  refine ⟨by rw [List.length_take, h.len]; omega, Nat.le_refl _, fun x hx => h.lt x (List.mem_of_mem_take hx), fun hn => ?_⟩
  obtain ⟨ad, e, hb, hc⟩ := h.cells (by omega)
  refine ⟨ad, e, hb, fun j x hx => hc j x ?_⟩
  rw [List.getElem?_take] at hx
  split at hx
  · exact hx
  · cases hx
theorem Rd.eq_nil (h : Rd k b w B A n c xs) (hn : n = 0) : xs = [] := List.eq_nil_of_length_eq_zero (by rw [h.len, hn])
end
/-- Natural numbers' words, and their digits of sixteen bits. -/
abbrev NR := Rd .u64 W64
abbrev DR := Rd .i64 65536
/-- What words are worth. -/
abbrev nv (xs : List Nat) : Nat := vl W64 xs
abbrev nw (n : Nat) : List Nat := dg W64 n

theorem nv_nw (n : Nat) : nv (nw n) = n := vl_dg W64_two n

/-- What a call answers that makes a natural number in new memory: its words, at most N of them. -/
def NatPost (w : World) (N : Nat) (ys : List Nat) (e : Ending) (w' : World) : Prop :=
  ∃ A n c, e = .returned (.slice A n c) ∧ n ≤ N ∧ NR w' w'.heap.size A n c ys ∧ Below w.heap.size w w'

/-- The values of words. -/
def u64s (zs : List Nat) : List Value := zs.map fun (z : Nat) => Value.int .u64 (z : Int)
theorem u64s_snoc (zs : List Nat) (z : Nat) : u64s zs ++ [Value.int .u64 (z : Int)] = u64s (zs ++ [z]) := by simp [u64s]
/-- A row of words that a call is making, from block B on; below B all is as it was. -/
def Row (B : Nat) (w0 w : World) (g cap k : Nat) (zs : List Nat) : Prop := w.ownsRow B 131 1 (.slice (some ⟨g, 0, none⟩) k cap) k (u64s zs) ∧ Below B w0 w
theorem Row.start {w0 w w1 : World} {B g cap : Nat} (h : w1.ownsRow B 131 1 (.slice (some ⟨g, 0, none⟩) 0 cap) 0 []) (hb : Below B w0 w) (hg : w.grownBy w1 none) (hB : B ≤ w.heap.size) : Row B w0 w1 g cap 0 [] :=
  ⟨h, hb.grown hg hB (fun _ e => by cases e)⟩
theorem Row.len {B : Nat} {w0 w : World} {g cap k : Nat} {zs : List Nat} (h : Row B w0 w g cap k zs) : zs.length = k := by
  have := h.1.1
  simpa [u64s] using this
theorem Row.base {B : Nat} {w0 w : World} {g cap k : Nat} {zs : List Nat} (h : Row B w0 w g cap k zs) : B ≤ g ∧ g < w.heap.size := h.1.lt g rfl
theorem Row.below {B : Nat} {w0 w w' : World} {g cap k : Nat} {zs : List Nat} (h : Row B w0 w g cap k zs) (hb : Below w.heap.size w w') (hB : B ≤ w.heap.size) : Row B w0 w' g cap k zs :=
  ⟨h.1.kept (row := none) ⟨hb.os, hb.tape, hb.output, hb.size, fun i hi _ => hb.block i hi⟩ (.inr (by simp [Value.ownBlock])), h.2.trans (hb.mono hB)⟩
theorem Row.drewN {B : Nat} {w0 w : World} {g cap k : Nat} {zs : List Nat} (h : Row B w0 w g cap k zs) (m : Nat) : Row B w0 (w.drewN m) g cap k zs :=
  ⟨⟨h.1.1, h.1.2⟩, ⟨h.2.os, h.2.tape, h.2.output, h.2.size, h.2.block⟩⟩
theorem Row.push {B : Nat} {w0 w w1 : World} {g cap k : Nat} {zs : List Nat} {z : Nat} {o : Obj} (h : Row B w0 w g cap k zs) (hB : B ≤ w.heap.size)
    (h1 : w1.ownsRow B 131 1 (.slice (some ⟨g, 0, none⟩) (k + 1) cap) (k + 1) (u64s zs ++ [Value.int .u64 (z : Int)])) (hg : (w.alloc o).grownBy w1 (some g)) : Row B w0 w1 g cap (k + 1) (zs ++ [z]) := by
  rw [u64s_snoc] at h1
  refine ⟨h1, (h.2.alloc hB o).grown hg (by simp; omega) (fun k e => ?_)⟩
  injection e with e
  have := h.base
  omega
theorem Row.rd {B : Nat} {w0 w : World} {g cap k : Nat} {zs : List Nat} (h : Row B w0 w g cap k zs) (hlt : ∀ x ∈ zs, x < W64) : NR w w.heap.size (some ⟨g, 0, none⟩) k cap zs := by
  have hlen := h.len
  refine ⟨hlen, ?_, hlt, fun hk => ⟨⟨g, 0, none⟩, rfl, h.base.2, fun j x hx => ?_⟩⟩
  · rcases h.1.2 with ⟨e, _⟩ | ⟨g', cap', cur, e, _, _, hle, _⟩
    · injection e with e1 e2; cases e1
    · injection e with e1 e2 e3; omega
  · exact h.1.cells (g := g) rfl j _ (by simp [u64s, hx])
theorem one_cell {w : World} {z : Value} {t : TypeId} : ∀ (j : Nat) (u : Value), [z][j]? = some u → (w.alloc (.cells #[z] t)).cell? ((⟨w.heap.size, 0, none⟩ : Addr).add j) = some u := by
  intro j u hj
  match j, hj with
  | 0, hj => simp at hj; subst hj; simp [Addr.add]
theorem one_int {k : IntKind} {z : Int} : ∀ u ∈ [Value.int k z], u.oneCell' = true := by
  intro u hu; simp at hu; subst hu; rfl
theorem u64s_one {zs : List Nat} : ∀ u ∈ u64s zs, u.oneCell' = true := by
  intro u hu
  obtain ⟨_, _, rfl⟩ := List.mem_map.1 hu
  rfl
/-- What a call owns reads as its words. -/
theorem rd_of_own {w : World} {B : Nat} {v : Value} {n : Nat} {zs : List Nat} (h : w.ownsRow B 131 1 v n (u64s zs)) (hlt : ∀ x ∈ zs, x < W64) : ∃ A c, v = .slice A n c ∧ NR w w.heap.size A n c zs := by
  have hlen : zs.length = n := by have := h.1; simpa [u64s] using this
  rcases h.2 with ⟨rfl, rfl⟩ | ⟨g, cap, cur, rfl, hg, hh, hle, _⟩
  · exact ⟨none, 0, rfl, hlen, Nat.le_refl _, hlt, fun h => absurd h (by omega)⟩
  · refine ⟨_, cap, rfl, hlen, hle, hlt, fun _ => ⟨⟨g, 0, none⟩, rfl, (Array.getElem?_eq_some_iff.1 hh).1, fun j x hx => ?_⟩⟩
    exact h.cells (g := g) rfl j _ (by simp [u64s, hx])
end Go.Proofs.Ytdnjjpkajiehgaa
