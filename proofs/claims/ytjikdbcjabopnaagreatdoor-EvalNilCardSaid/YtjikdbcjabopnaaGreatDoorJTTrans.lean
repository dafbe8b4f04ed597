import Derived.Test.YtjikdbcjabopnaaGreatDoorJTJoin
import Derived.Test.YtjikdbcjabopnaaGreatDoorJTScat
namespace Go.Proofs.YtjikdbcjabopnaaGreatDoor
open Go.RowKit
set_option linter.unusedVariables false
set_option maxRecDepth 100000
structure Good (n q k : Nat) (r v : Nat) (a : Nat → Nat) : Prop where
 nk : n = 2 ^ k
 k0 : 1 ≤ k
 k9 : k ≤ 9
 q0 : 2 ≤ q
 q1 : q ≤ 2305843009213693952
 hr : M (q : Int) ((r : Int) ^ n) (-1)
 hv : M (q : Int) ((v : Int) ^ n) (-1)
 rv : M (q : Int) ((r : Int) * (v : Int)) 1
 pw : ∀ i, i < 2 * n → a i = r ^ i % q
theorem Good.lt {n q k r v : Nat} {a : Nat → Nat} (h : Good n q k r v a) (i : Nat) (hi : i < 2 * n) : a i < q := by
 rw [h.pw i hi]; exact Nat.mod_lt _ (by have := h.q0; omega)
theorem one_side {q x y z : Int} (h1 : M q (x * z) 1) (h2 : M q (y * z) 1) : M q x y := by
 have e1 : M q (x * (y * z)) x := by have := (M.rfl (q := q) (a := x)).mul h2; rwa [Int.mul_one] at this
 have e2 : M q (x * (y * z)) y := by
  have := (M.rfl (q := q) (a := y)).mul h1
  rw [Int.mul_one] at this
  refine (M.of ?_).trans this
  rw [← Int.mul_assoc, ← Int.mul_assoc, Int.mul_comm x y]
 exact e1.symm.trans e2
theorem Good.back {n q k r v : Nat} {a : Nat → Nat} (h : Good n q k r v a) {K p hh : Nat} (hn : n = K * (2 * hh)) (hp : p < hh) : M (q : Int) (a ((2 * n - 2 * p * K) % (2 * n)) : Int) (pt 1 (v : Int) K p) := by
 have hn0 : 0 < n := by rw [h.nk]; exact Nat.two_pow_pos k
 have hle : 2 * p * K ≤ 2 * n := by
  rw [hn, show 2 * (K * (2 * hh)) = (2 * (2 * hh)) * K by rw [Nat.mul_comm K, ← Nat.mul_assoc]]
  exact Nat.mul_le_mul_right K (by omega)
 rw [h.pw _ (Nat.mod_lt _ (by omega))]
 refine (M.pow_nat _ _).trans ?_
 have hone : M (q : Int) ((r : Int) ^ (2 * n)) 1 := by
  rw [Nat.mul_comm, Int.pow_mul]
  exact (h.hr.pow 2).trans (M.of rfl)
 have e1 : pt 1 (v : Int) K p = (v : Int) ^ (2 * p * K) := by
  unfold pt; rw [Int.one_pow, Int.one_mul, Nat.mul_right_comm]
 rw [e1]
 refine one_side (z := (r : Int) ^ (2 * p * K)) ?_ ?_
 ·rw [← Int.pow_add]
  rcases Nat.eq_zero_or_pos (2 * p * K) with h0 | h0
  ·rw [h0, Nat.sub_zero, Nat.mod_self]; exact M.of rfl
  ·rw [Nat.mod_eq_of_lt (by omega), show 2 * n - 2 * p * K + 2 * p * K = 2 * n by omega]
   exact hone
 ·rw [Int.mul_comm]; exact cancel h.rv _
end Go.Proofs.YtjikdbcjabopnaaGreatDoor
