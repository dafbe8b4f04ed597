import Derived.Test.YtkbcobjhlpjieaaGreatDoorZTJoin
import Derived.Test.YtkbcobjhlpjieaaGreatDoorZTScat
namespace Go.Proofs.YtkbcobjhlpjieaaGreatDoor
open Go.RowKit
set_option linter.unusedVariables false
set_option maxRecDepth 100000
structure Good (n q k : Nat) (r v : Nat) (a : Nat → Nat) : Prop where
 nk : n = 2 ^ k
 k0 : 1 ≤ k
 k9 : k ≤ 9
 q0 : 2 ≤ q
 q1 : q ≤ 2305843009213693952
 hr : M (q : Int) ((r : Int) ^ n) (-1)
 hv : M (q : Int) ((v : Int) ^ n) (-1)
 rv : M (q : Int) ((r : Int) * (v : Int)) 1
 pw : ∀ i, i < 2 * n → a i = r ^ i % q
theorem Good.lt {n q k r v : Nat} {a : Nat → Nat} (h : Good n q k r v a) (i : Nat) (hi : i < 2 * n) : a i < q := by
 rw [h.pw i hi]; exact Nat.mod_lt _ (by have := h.q0; omega)
theorem Good.on {n q k r v : Nat} {a : Nat → Nat} (h : Good n q k r v a) {K p hh : Nat} (hn : n = K * (2 * hh)) (hp : p < hh) : M (q : Int) (a ((2 * p + 1) * K) : Int) (pt (r : Int) (r : Int) K p) := by
 rw [h.pw _ (by
  rw [hn, show 2 * (K * (2 * hh)) = (2 * (2 * hh)) * K by rw [Nat.mul_comm K, ← Nat.mul_assoc]]
  refine Nat.mul_lt_mul_of_pos_right (by omega) ?_
  rcases Nat.eq_zero_or_pos K with h1 | h1
  ·rw [h1, Nat.zero_mul] at hn; have := h.nk; have := Nat.two_pow_pos k; omega
  ·exact h1)]
 refine (M.pow_nat _ _).trans (M.of ?_)
 unfold pt
 rw [← Int.pow_add]; congr 1
 rw [Nat.add_mul, Nat.one_mul, Nat.add_comm, Nat.mul_right_comm]
end Go.Proofs.YtkbcobjhlpjieaaGreatDoor
