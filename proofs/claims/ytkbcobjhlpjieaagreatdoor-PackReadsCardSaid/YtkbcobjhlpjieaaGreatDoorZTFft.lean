import Derived.Test.YtkbcobjhlpjieaaGreatDoorZTMath
import Derived.Test.YtkbcobjhlpjieaaGreatDoorZTRev
import Derived.Test.YtkbcobjhlpjieaaGreatDoorZ9
namespace Go.Proofs.YtkbcobjhlpjieaaGreatDoor
set_option linter.unusedVariables false
set_option maxRecDepth 100000
def pt (c g : Int) (K p : Nat) : Int := c ^ K * g ^ (2 * K * p)
theorem pt_sq (c g : Int) (K p : Nat) : pt c g K p * pt c g K p = pt c g (2 * K) p := by
 unfold pt
 rw [Int.mul_assoc, ← Int.mul_assoc (g ^ (2 * K * p)), Int.mul_comm (g ^ (2 * K * p)) (c ^ K), Int.mul_assoc, ← Int.mul_assoc (c ^ K), ← Int.pow_add, ← Int.pow_add]
 congr 2
 ·omega
 ·rw [← Nat.add_mul]; congr 1; omega
theorem pt_far {q c g : Int} {K h : Nat} (hg : M q (g ^ (2 * K * h)) (-1)) (p : Nat) : M q (pt c g K (p + h)) (-pt c g K p) := by
 unfold pt
 rw [Nat.mul_add, Int.pow_add, ← Int.mul_assoc]
 have := (M.rfl (q := q) (a := c ^ K * g ^ (2 * K * p))).mul hg
 rwa [Int.mul_neg, Int.mul_one] at this
theorem S_pairs (h : Nat) (f : Nat → Int) : S (2 * h) f = S h (fun j => f (2 * j)) + S h (fun j => f (2 * j + 1)) := by
 induction h with
 | zero => rfl
 | succ h ih => rw [show 2 * (h + 1) = 2 * h + 1 + 1 by omega, S, S, ih, S, S]; omega
theorem M.sub {q a b c d : Int} (h : M q a b) (k : M q c d) : M q (a - c) (b - d) := by
 unfold M at *; rw [Int.sub_emod, h, k, ← Int.sub_emod]
theorem M.nat {q : Nat} (x : Nat) : M (q : Int) ((x % q : Nat) : Int) (x : Int) := by
 unfold M; rw [Int.natCast_emod, Int.emod_emod]
theorem M.lt {q x y : Nat} (h : M (q : Int) (x : Int) (y : Int)) (hx : x < q) (hy : y < q) : x = y := by
 unfold M at h; rw [Int.emod_eq_of_lt (by omega) (by omega), Int.emod_eq_of_lt (by omega) (by omega)] at h; omega
theorem M.dif {q a b : Nat} (hb : b < q) : M (q : Int) ((dif a b q : Nat) : Int) ((a : Int) - (b : Int)) := by
 unfold Go.Proofs.YtkbcobjhlpjieaaGreatDoor.dif
 refine (M.nat _).trans ?_
 unfold M
 rw [show ((a + q - b : Nat) : Int) = ((a : Int) - b) + q by omega, Int.add_emod_right]
theorem M.pow_nat {q : Nat} (x k : Nat) : M (q : Int) ((x ^ k % q : Nat) : Int) ((x : Int) ^ k) := by
 refine (M.nat _).trans (M.of ?_); rw [Int.natCast_pow]
def joinF (q h : Nat) (b f : Nat → Nat) (i : Nat) : Nat :=
 if i % (2 * h) < h then (f i + f (i + h) * b (i % (2 * h)) % q) % q else dif (f (i - h)) (f i * b (i % (2 * h) - h) % q) q
def part (c g : Int) (a : Nat → Int) (h N x p : Nat) : Int := S h (fun j => a (x + j * N) * pt c g N p ^ j)
theorem part_join (c g : Int) (a : Nat → Int) (h K x p : Nat) : part c g a (2 * h) K x p = part c g a h (2 * K) x p + pt c g K p * part c g a h (2 * K) (K + x) p := by
 unfold part
 rw [S_pairs, S_mul]
 congr 1
 ·refine S_congr fun j _ => ?_
  rw [← pt_sq, show x + 2 * j * K = x + j * (2 * K) by rw [Nat.mul_comm 2 j, Nat.mul_assoc], Int.pow_mul, Int.pow_succ, Int.pow_succ, Int.pow_zero, Int.one_mul]
 ·refine S_congr fun j _ => ?_
  rw [← pt_sq, show x + (2 * j + 1) * K = K + x + j * (2 * K) by rw [Nat.add_mul, Nat.mul_comm 2 j, Nat.mul_assoc]; omega, Int.pow_succ, Int.pow_mul, Int.pow_succ (pt c g K p), Int.pow_succ, Int.pow_zero, Int.one_mul]
  rw [← Int.mul_assoc, Int.mul_comm _ (pt c g K p)]
theorem pt_neg_pow {q c g : Int} {K h : Nat} (hg : M q (g ^ (2 * K * h)) (-1)) (p : Nat) : M q (pt c g (2 * K) (p + h)) (pt c g (2 * K) p) := by
 rw [← pt_sq, ← pt_sq]
 refine ((pt_far hg p).mul (pt_far hg p)).trans (M.of ?_)
 rw [Int.neg_mul_neg]
theorem part_far {q c g : Int} {K h : Nat} (hg : M q (g ^ (2 * K * h)) (-1)) (a : Nat → Int) (x p : Nat) : M q (part c g a h (2 * K) x (p + h)) (part c g a h (2 * K) x p) :=
 S_M fun j _ => M.rfl.mul ((pt_neg_pow hg p).pow j)
def Joined (q : Nat) (c g : Int) (a : Nat → Int) (k h : Nat) (f : Nat → Nat) : Prop :=
 ∀ b p, b < 2 ^ k → p < h → M (q : Int) (f (b * h + p) : Int) (part c g a h (2 ^ k) (rev k b) p)
theorem Joined.next {q : Nat} {c g : Int} {a : Nat → Int} {k h : Nat} {f b : Nat → Nat} (hq : 0 < q) (hg : M (q : Int) (g ^ (2 * 2 ^ k * h)) (-1))
    (hb : ∀ p, p < h → M (q : Int) (b p : Int) (pt c g (2 ^ k) p)) (H : Joined q c g a (k + 1) h f) : Joined q c g a k (2 * h) (joinF q h b f) := by
 intro b' p hb' hp
 have hpow : 2 ^ (k + 1) = 2 * 2 ^ k := by rw [Nat.pow_succ, Nat.mul_comm]
 have core : ∀ p, p < h → M (q : Int) (f (2 * b' * h + p) : Int) (part c g a h (2 * 2 ^ k) (rev k b') p) ∧ M (q : Int) ((f ((2 * b' + 1) * h + p) * b p % q : Nat) : Int) (pt c g (2 ^ k) p * part c g a h (2 * 2 ^ k) (2 ^ k + rev k b') p) := fun p hp => by
  have h1 := H (2 * b') p (by rw [hpow]; omega) hp
  have h2 := H (2 * b' + 1) p (by rw [hpow]; omega) hp
  rw [hpow, rev, show 2 * b' % 2 = 0 by omega, Nat.zero_mul, Nat.zero_add, show 2 * b' / 2 = b' by omega] at h1
  rw [hpow, rev, show (2 * b' + 1) % 2 = 1 by omega, Nat.one_mul, show (2 * b' + 1) / 2 = b' by omega] at h2
  refine ⟨h1, ?_⟩
  refine (M.nat _).trans ?_
  rw [Int.natCast_mul, Int.mul_comm]
  exact (hb p hp).mul h2
 have hi : (b' * (2 * h) + p) % (2 * h) = p := by rw [Nat.mul_comm, Nat.mul_add_mod]; exact Nat.mod_eq_of_lt hp
 have hbh : b' * (2 * h) = 2 * b' * h := by rw [Nat.mul_comm 2 b', Nat.mul_assoc]
 unfold joinF
 rw [hi]
 by_cases hlt : p < h
 ·rw [if_pos hlt]
  obtain ⟨c1, c2⟩ := core p hlt
  rw [part_join]
  refine (M.nat _).trans ?_
  rw [Int.natCast_add]
  rw [hbh]
  refine c1.add ?_
  rw [show 2 * b' * h + p + h = (2 * b' + 1) * h + p by rw [Nat.add_mul]; omega]
  exact c2
 ·rw [if_neg hlt]
  obtain ⟨p', rfl⟩ : ∃ p', p = p' + h := ⟨p - h, by omega⟩
  obtain ⟨c1, c2⟩ := core p' (by omega)
  rw [part_join]
  refine (M.dif (Nat.mod_lt _ hq)).trans ?_
  rw [hbh, show 2 * b' * h + (p' + h) - h = 2 * b' * h + p' by omega, show 2 * b' * h + (p' + h) = (2 * b' + 1) * h + p' by rw [Nat.add_mul]; omega, Nat.add_sub_cancel]
  refine (c1.sub c2).trans ?_
  have e1 := (part_far (c := c) hg a (rev k b') p').symm
  have e2 := (pt_far (c := c) hg p').symm.mul (part_far (c := c) hg a (2 ^ k + rev k b') p').symm
  rw [Int.neg_mul] at e2
  have := e1.add e2
  rwa [← Int.sub_eq_add_neg] at this
theorem Joined.done {q : Nat} {c g : Int} {a : Nat → Int} {n : Nat} {f : Nat → Nat} (H : Joined q c g a 0 n f) {p : Nat} (hp : p < n) : M (q : Int) (f p : Int) (S n (fun j => a j * (c * g ^ (2 * p)) ^ j)) := by
 have := H 0 p (by omega) hp
 rw [Nat.zero_mul, Nat.zero_add] at this
 refine this.trans (M.of ?_)
 unfold part
 refine S_congr fun j _ => ?_
 rw [show rev 0 0 = 0 from rfl, Nat.zero_add, Nat.pow_zero, Nat.mul_one]
 unfold pt
 rw [Int.pow_succ, Int.pow_zero, Int.one_mul, Nat.mul_one]
end Go.Proofs.YtkbcobjhlpjieaaGreatDoor
