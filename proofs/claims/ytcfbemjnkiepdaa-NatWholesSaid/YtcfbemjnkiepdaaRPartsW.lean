/-
  The reference's parts walked.
-/
import Derived.Test.YtcfbemjnkiepdaaRParts
namespace Go.Proofs.Ytcfbemjnkiepdaa
open Go.RowKit
set_option linter.unusedVariables false

theorem dg_len_mono {m n a b : Nat} (h : a ≤ b) (h1 : (dg 65536 a).length = m) (h2 : (dg 65536 b).length = n) : m ≤ n := by
  rcases Nat.lt_or_ge n m with hh | hh
  · have := dg_len_lt (b := 65536) d_two (n := b) (m := a) (by omega)
    omega
  · exact hh
theorem lessF {A A' : Option Addr} {n n' c c' X Y : Nat} {w : World} (h : DR w w.heap.size A n c (dg 65536 X)) (h' : DR w w.heap.size A' n' c' (dg 65536 Y)) (hn : n ≤ 100000) (hv : Y ≤ X) :
    Calls Try.prog 63 #[.slice A n c, .slice A' n' c'] w (DigPost w n (dg 65536 (X - Y))) := by
  have := rless_any A A' n n' c c' _ _ w h h' hn (dg_len_mono hv h'.len h.len) (by rw [vl_dg d_two, vl_dg d_two]; exact hv)
  rw [vl_dg d_two, vl_dg d_two] at this
  exact this
theorem plusF {A A' : Option Addr} {n n' c c' X Y : Nat} {w : World} (h : DR w w.heap.size A n c (dg 65536 X)) (h' : DR w w.heap.size A' n' c' (dg 65536 Y)) (hn : n ≤ 100000) (hn' : n' ≤ 100000) :
    Calls Try.prog 68 #[.slice A n c, .slice A' n' c'] w (DigPost w (n + n' + 1) (dg 65536 (X + Y))) := by
  have := plus_any A A' n n' c c' _ _ w h h' hn hn'
  rw [vl_dg d_two, vl_dg d_two] at this
  exact this
theorem DR.one (w : World) (g : Nat) (hg : g = w.heap.size) (z : Int) (x : Nat) (hz : z = x) (hx : x < 65536) : DR (w.alloc (.cells #[.int .i64 z] 3)) (w.alloc (.cells #[.int .i64 z] 3)).heap.size (some ⟨g, 0, none⟩) 1 1 [x] := by
  subst hz hg
  refine ⟨rfl, Nat.le_refl _, fun z hz => by rw [List.mem_singleton.1 hz]; exact hx, fun _ => ⟨_, rfl, by simp, fun j z hz => ?_⟩⟩
  match j, hz with
  | 0, hz => simp at hz; subst hz; simp [Addr.add]
theorem vl_single (x : Nat) : vl 65536 [x] = x := by simp [vl]
theorem trim1 (w : World) (g : Nat) (hg : g = w.heap.size) (z : Int) (x : Nat) (hz : z = x) (hx : x < 65536) :
    Calls Try.prog 84 #[.slice (some ⟨g, 0, none⟩) 1 1] (w.alloc (.cells #[.int .i64 z] 3)) fun e w' => ∃ m c, m ≤ 1 ∧ e = .returned (.slice (some ⟨g, 0, none⟩) m c) ∧ (w.alloc (.cells #[.int .i64 z] 3)) = w' ∧ DR w' w'.heap.size (some ⟨g, 0, none⟩) m c (dg 65536 x) := by
  refine (trim_any _ _ _ _ [x] _ (DR.one w g hg z x hz hx) (by omega)).mono ?_
  rintro e w' ⟨m, c, hm, rfl, rfl, hr⟩
  rw [vl_single] at hr
  exact ⟨m, c, hm, rfl, rfl, hr⟩
/-- What stands between two steps: the quotient's row, and the rest, in other blocks. -/
def PInv (w wr : World) (G : Nat) (lst : List Nat) (A : Option Addr) (n c R : Nat) : Prop :=
  Dk wr G lst ∧ Below G w wr ∧ DR wr wr.heap.size A n c (dg 65536 R) ∧ (∀ ad, A = some ad → G < ad.block)
theorem PInv.next {w wr w' : World} {G : Nat} {lst : List Nat} {A A2 : Option Addr} {n c R n2 c2 R2 : Nat} (h : PInv w wr G lst A n c R) (hb : Below wr.heap.size wr w') (hr : DR w' w'.heap.size A2 n2 c2 (dg 65536 R2)) (hf : ∀ ad, A2 = some ad → wr.heap.size ≤ ad.block) : PInv w w' G lst A2 n2 c2 R2 := by
  obtain ⟨h1, h2, h3, h4⟩ := h
  have hlt := h1.lt
  exact ⟨h1.keep (hb.block G hlt), h2.trans (hb.mono (Nat.le_of_lt hlt)), hr, fun ad e => by have := hf ad e; omega⟩
theorem PInv.store {w wr : World} {G : Nat} {pre hs : List Nat} {p : Nat} {A : Option Addr} {n c R : Nat} (h : PInv w wr G (pre ++ [] ++ p :: hs) A n c R) {k : Nat} (hk : pre.length = k) (v : Nat) (z : Int) (hz : z = v) : PInv w (wr.setCell ⟨G, k, none⟩ (.int .i64 z)) G (pre ++ [] ++ v :: hs) A n c R := by
  subst hz
  obtain ⟨h1, h2, h3, h4⟩ := h
  have hlt := h1.lt
  have e := h1.set_ (i := k) (by simp; omega) v
  rw [set_mid (ns := []) (by simp; omega)] at e
  refine ⟨by simpa using e, below_set h2 (Nat.le_refl _) (Nat.le_of_lt hlt) _, ?_, h4⟩
  have := h3.only (only_set (w := wr) (g := G) (i := k) (.int .i64 (v : Int))) (Nat.le_refl _) (fun _ ad e => by have := h4 ad e; omega)
  exact this.more (by simp [World.setCell])
theorem PInv.drewN {w wr : World} {G : Nat} {lst : List Nat} {A : Option Addr} {n c R : Nat} (h : PInv w wr G lst A n c R) (m : Nat) : PInv w (wr.drewN m) G lst A n c R :=
  ⟨h.1, below_drewN h.2.1 m, h.2.2.1.drewN m, h.2.2.2⟩
theorem PInv.alloc {w wr : World} {G : Nat} {lst : List Nat} {A : Option Addr} {n c R : Nat} (h : PInv w wr G lst A n c R) (o : Obj) : PInv w (wr.alloc o) G lst A n c R := by
  have hb : Below wr.heap.size wr (wr.alloc o) := (Below.refl _ _).alloc (Nat.le_refl _) o
  obtain ⟨h1, h2, h3, h4⟩ := h
  have hlt := h1.lt
  exact ⟨h1.keep (hb.block G hlt), h2.trans (hb.mono (Nat.le_of_lt hlt)), (h3.below hb).more hb.size, h4⟩
end Go.Proofs.Ytcfbemjnkiepdaa
