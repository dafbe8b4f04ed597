import Derived.Test.YtopbibfpjgjalaaGreatDoorZ19
import Derived.Test.YtopbibfpjgjalaaGreatDoorZ11
import Derived.Test.YtopbibfpjgjalaaGreatDoorZTFac
namespace Go.Proofs.YtopbibfpjgjalaaGreatDoor
set_option linter.unusedVariables false
set_option maxRecDepth 100000
def pt (c g : Int) (K p : Nat) : Int := c ^ K * g ^ (2 * K * p)
theorem pt_sq (c g : Int) (K p : Nat) : pt c g K p * pt c g K p = pt c g (2 * K) p := by
 unfold pt
 rw [Int.mul_assoc, ← Int.mul_assoc (g ^ (2 * K * p)), Int.mul_comm (g ^ (2 * K * p)) (c ^ K), Int.mul_assoc, ← Int.mul_assoc (c ^ K), ← Int.pow_add, ← Int.pow_add]
 congr 2
 ·omega
 ·rw [← Nat.add_mul]; congr 1; omega
theorem zss {q c g : Int} {K h : Nat} (hg : M q (g ^ (2 * K * h)) (-1)) (p : Nat) : M q (pt c g K (p + h)) (-pt c g K p) := by
 unfold pt
 rw [Nat.mul_add, Int.pow_add, ← Int.mul_assoc]
 have := (M.rfl (q := q) (a := c ^ K * g ^ (2 * K * p))).mul hg
 rwa [Int.mul_neg, Int.mul_one] at this
theorem zzy (h : Nat) (f : Nat → Int) : S (2 * h) f = S h (fun j => f (2 * j)) + S h (fun j => f (2 * j + 1)) := by
 induction h with
 | zero => rfl
 | succ h ih => rw [show 2 * (h + 1) = 2 * h + 1 + 1 by omega, S, S, ih, S, S]; omega
theorem M.sub {q a b c d : Int} (h : M q a b) (k : M q c d) : M q (a - c) (b - d) := by
 unfold M at *; rw [Int.sub_emod, h, k, ← Int.sub_emod]
theorem M.nat {q : Nat} (x : Nat) : M (q : Int) ((x % q : Nat) : Int) (x : Int) := by
 unfold M; rw [Int.natCast_emod, Int.emod_emod]
theorem M.dif {q a b : Nat} (hb : b < q) : M (q : Int) ((dif a b q : Nat) : Int) ((a : Int) - (b : Int)) := by
 unfold Go.Proofs.YtopbibfpjgjalaaGreatDoor.dif
 refine (M.nat _).trans ?_
 unfold M
 rw [show ((a + q - b : Nat) : Int) = ((a : Int) - b) + q by omega, Int.add_emod_right]
theorem M.pow_nat {q : Nat} (x k : Nat) : M (q : Int) ((x ^ k % q : Nat) : Int) ((x : Int) ^ k) := by
 refine (M.nat _).trans (M.of ?_); rw [Int.natCast_pow]
def joinF (q h : Nat) (b f : Nat → Nat) (i : Nat) : Nat :=
 if i % (2 * h) < h then (f i + f (i + h) * b (i % (2 * h)) % q) % q else dif (f (i - h)) (f i * b (i % (2 * h) - h) % q) q
theorem znb {q h : Nat} {b f : Nat → Nat} (hq : 0 < q) (i : Nat) : joinF q h b f i < q := by
 unfold joinF
 split
 ·exact Nat.mod_lt _ hq
 ·exact Nat.mod_lt _ hq
def part (c g : Int) (a : Nat → Int) (h N x p : Nat) : Int := S h (fun j => a (x + j * N) * pt c g N p ^ j)
theorem ziv (c g : Int) (a : Nat → Int) (h K x p : Nat) : part c g a (2 * h) K x p = part c g a h (2 * K) x p + pt c g K p * part c g a h (2 * K) (K + x) p := by
 unfold part
 rw [zzy, S_mul]
 congr 1
 ·refine zat fun j _ => ?_
  rw [← pt_sq, show x + 2 * j * K = x + j * (2 * K) by rw [Nat.mul_comm 2 j, Nat.mul_assoc], Int.pow_mul, Int.pow_succ, Int.pow_succ, Int.pow_zero, Int.one_mul]
 ·refine zat fun j _ => ?_
  rw [← pt_sq, show x + (2 * j + 1) * K = K + x + j * (2 * K) by rw [Nat.add_mul, Nat.mul_comm 2 j, Nat.mul_assoc]; omega, Int.pow_succ, Int.pow_mul, Int.pow_succ (pt c g K p), Int.pow_succ, Int.pow_zero, Int.one_mul]
  rw [← Int.mul_assoc, Int.mul_comm _ (pt c g K p)]
theorem zox {q c g : Int} {K h : Nat} (hg : M q (g ^ (2 * K * h)) (-1)) (p : Nat) : M q (pt c g (2 * K) (p + h)) (pt c g (2 * K) p) := by
 rw [← pt_sq, ← pt_sq]
 refine ((zss hg p).mul (zss hg p)).trans (M.of ?_)
 rw [Int.neg_mul_neg]
theorem zmd {q c g : Int} {K h : Nat} (hg : M q (g ^ (2 * K * h)) (-1)) (a : Nat → Int) (x p : Nat) : M q (part c g a h (2 * K) x (p + h)) (part c g a h (2 * K) x p) :=
 S_M fun j _ => M.rfl.mul ((zox hg p).pow j)
def Joined (q : Nat) (c g : Int) (a : Nat → Int) (k h : Nat) (f : Nat → Nat) : Prop :=
 ∀ b p, b < 2 ^ k → p < h → M (q : Int) (f (b * h + p) : Int) (part c g a h (2 ^ k) (rev k b) p)
theorem Joined.next {q : Nat} {c g : Int} {a : Nat → Int} {k h : Nat} {f b : Nat → Nat} (hq : 0 < q) (hg : M (q : Int) (g ^ (2 * 2 ^ k * h)) (-1))
    (hb : ∀ p, p < h → M (q : Int) (b p : Int) (pt c g (2 ^ k) p)) (H : Joined q c g a (k + 1) h f) : Joined q c g a k (2 * h) (joinF q h b f) := by
 intro b' p hb' hp
 have hpow : 2 ^ (k + 1) = 2 * 2 ^ k := by rw [Nat.pow_succ, Nat.mul_comm]
 have core : ∀ p, p < h → M (q : Int) (f (2 * b' * h + p) : Int) (part c g a h (2 * 2 ^ k) (rev k b') p) ∧ M (q : Int) ((f ((2 * b' + 1) * h + p) * b p % q : Nat) : Int) (pt c g (2 ^ k) p * part c g a h (2 * 2 ^ k) (2 ^ k + rev k b') p) := fun p hp => by
  have h1 := H (2 * b') p (by rw [hpow]; omega) hp
  have h2 := H (2 * b' + 1) p (by rw [hpow]; omega) hp
  rw [hpow, rev, show 2 * b' % 2 = 0 by omega, Nat.zero_mul, Nat.zero_add, show 2 * b' / 2 = b' by omega] at h1
  rw [hpow, rev, show (2 * b' + 1) % 2 = 1 by omega, Nat.one_mul, show (2 * b' + 1) / 2 = b' by omega] at h2
  refine ⟨h1, ?_⟩
  refine (M.nat _).trans ?_
  rw [Int.natCast_mul, Int.mul_comm]
  exact (hb p hp).mul h2
 have hi : (b' * (2 * h) + p) % (2 * h) = p := by rw [Nat.mul_comm, Nat.mul_add_mod]; exact Nat.mod_eq_of_lt hp
 have hbh : b' * (2 * h) = 2 * b' * h := by rw [Nat.mul_comm 2 b', Nat.mul_assoc]
 unfold joinF
 rw [hi]
 by_cases hlt : p < h
 ·rw [if_pos hlt]
  obtain ⟨c1, c2⟩ := core p hlt
  rw [ziv]
  refine (M.nat _).trans ?_
  rw [Int.natCast_add]
  rw [hbh]
  refine c1.add ?_
  rw [show 2 * b' * h + p + h = (2 * b' + 1) * h + p by rw [Nat.add_mul]; omega]
  exact c2
 ·rw [if_neg hlt]
  obtain ⟨p', rfl⟩ : ∃ p', p = p' + h := ⟨p - h, by omega⟩
  obtain ⟨c1, c2⟩ := core p' (by omega)
  rw [ziv]
  refine (M.dif (Nat.mod_lt _ hq)).trans ?_
  rw [hbh, show 2 * b' * h + (p' + h) - h = 2 * b' * h + p' by omega, show 2 * b' * h + (p' + h) = (2 * b' + 1) * h + p' by rw [Nat.add_mul]; omega, Nat.add_sub_cancel]
  refine (c1.sub c2).trans ?_
  have e1 := (zmd (c := c) hg a (rev k b') p').symm
  have e2 := (zss (c := c) hg p').symm.mul (zmd (c := c) hg a (2 ^ k + rev k b') p').symm
  rw [Int.neg_mul] at e2
  have := e1.add e2
  rwa [← Int.sub_eq_add_neg] at this
theorem Joined.done {q : Nat} {c g : Int} {a : Nat → Int} {n : Nat} {f : Nat → Nat} (H : Joined q c g a 0 n f) {p : Nat} (hp : p < n) : M (q : Int) (f p : Int) (S n (fun j => a j * (c * g ^ (2 * p)) ^ j)) := by
 have := H 0 p (by omega) hp
 rw [Nat.zero_mul, Nat.zero_add] at this
 refine this.trans (M.of ?_)
 unfold part
 refine zat fun j _ => ?_
 rw [show rev 0 0 = 0 from rfl, Nat.zero_add, Nat.pow_zero, Nat.mul_one]
 unfold pt
 rw [Int.pow_succ, Int.pow_zero, Int.one_mul, Nat.mul_one]
theorem Joined.start {q : Nat} {c g : Int} {a : Nat → Int} {k : Nat} {f : Nat → Nat} (h : ∀ b, b < 2 ^ k → (f b : Int) = a (rev k b)) : Joined q c g a k 1 f := by
 intro b p hb hp
 obtain rfl : p = 0 := by omega
 rw [Nat.mul_one, Nat.add_zero, h b hb]
 refine M.of ?_
 unfold part
 rw [S, S, Int.zero_add, Nat.zero_mul, Nat.add_zero, Int.pow_zero, Int.mul_one]
def zcv (k : Nat) : Nat → Bool
 | 0 => true
 | n + 1 => (Nat.beq (rev k (rev k n)) n && Nat.blt (rev k n) (2 ^ k)) && zcv k n
theorem za2 {k : Nat} : ∀ n, zcv k n = true → ∀ x, x < n → rev k (rev k x) = x ∧ rev k x < 2 ^ k
 | 0, _, x, hx => by omega
 | n + 1, h, x, hx => by
  rw [zcv, Bool.and_eq_true, Bool.and_eq_true] at h
  rcases Nat.lt_or_eq_of_le (Nat.le_of_lt_succ hx) with g | g
  ·exact za2 n h.2 x g
  ·subst g; exact ⟨Nat.eq_of_beq_eq_true h.1.1, by simpa [Nat.blt_eq] using h.1.2⟩
theorem zp8 : (zcv 1 2 && zcv 2 4 && zcv 3 8 && zcv 4 16 && zcv 5 32 && zcv 6 64 && zcv 7 128 && zcv 8 256 && zcv 9 512) = true := by decide +kernel
theorem zem {k x : Nat} (h0 : 1 ≤ k) (h1 : k ≤ 9) (hx : x < 2 ^ k) : rev k (rev k x) = x ∧ rev k x < 2 ^ k := by
 have h := zp8
 simp only [Bool.and_eq_true] at h
 obtain ⟨⟨⟨⟨⟨⟨⟨⟨a, b⟩, c⟩, d⟩, e⟩, f⟩, g⟩, i⟩, j⟩ := h
 rcases (show k = 1 ∨ k = 2 ∨ k = 3 ∨ k = 4 ∨ k = 5 ∨ k = 6 ∨ k = 7 ∨ k = 8 ∨ k = 9 by omega) with rfl | rfl | rfl | rfl | rfl | rfl | rfl | rfl | rfl
 ·exact za2 2 a x hx
 ·exact za2 4 b x hx
 ·exact za2 8 c x hx
 ·exact za2 16 d x hx
 ·exact za2 32 e x hx
 ·exact za2 64 f x hx
 ·exact za2 128 g x hx
 ·exact za2 256 i x hx
 ·exact za2 512 j x hx
def midF (q h : Nat) (b f : Nat → Nat) (P e i : Nat) : Nat := if i % h < P ∨ (i % h = P ∧ i < e) then joinF q h b f i else f i
theorem ziq (q h : Nat) (b f : Nat → Nat) (i : Nat) : midF q h b f 0 0 i = f i := if_neg (by omega)
theorem zih (q h n : Nat) (b f : Nat → Nat) (P e : Nat) (he : n ≤ e) (hP : P < h) (i : Nat) (hi : i < n) : midF q h b f P e i = midF q h b f (P + 1) (P + 1) i := by
 unfold midF
 have hm := Nat.mod_le i h
 by_cases h1 : i % h < P
 ·rw [if_pos (.inl h1), if_pos (.inl (by omega))]
 ·by_cases h2 : i % h = P
  ·rw [if_pos (.inr ⟨h2, by omega⟩), if_pos (.inl (by omega))]
  ·rw [if_neg (by omega), if_neg (by omega)]
theorem zdy (q h : Nat) (b f : Nat → Nat) (P e : Nat) (i : Nat) (he : e ≤ P) : midF q h b f P e i = midF q h b f P 0 i := by
 unfold midF
 have hm := Nat.mod_le i h
 by_cases h1 : i % h < P
 ·rw [if_pos (.inl h1), if_pos (.inl h1)]
 ·rw [if_neg (by omega), if_neg (by omega)]
theorem zii (q h n : Nat) (b f : Nat → Nat) (hh : 0 < h) (i : Nat) : midF q h b f h 0 i = joinF q h b f i := if_pos (.inl (Nat.mod_lt i hh))
theorem zw1 {h P t : Nat} (hP : P < h) : (P + t * (2 * h)) % (2 * h) = P ∧ (P + t * (2 * h)) % h = P ∧ (P + t * (2 * h) + h) % (2 * h) = P + h ∧ (P + t * (2 * h) + h) % h = P := by
 have a1 : (P + t * (2 * h)) % (2 * h) = P := by rw [Nat.add_mul_mod_self_right]; exact Nat.mod_eq_of_lt (by omega)
 have a2 : (P + t * (2 * h)) % h = P := by rw [show t * (2 * h) = 2 * t * h by rw [Nat.mul_comm 2 t, Nat.mul_assoc], Nat.add_mul_mod_self_right]; exact Nat.mod_eq_of_lt hP
 refine ⟨a1, a2, ?_, ?_⟩
 ·rw [show P + t * (2 * h) + h = P + h + t * (2 * h) by omega, Nat.add_mul_mod_self_right]; exact Nat.mod_eq_of_lt (by omega)
 ·rw [Nat.add_mod_right, a2]
theorem zin (q h : Nat) (b f : Nat → Nat) (P t : Nat) (hP : P < h) (i : Nat) :
    (if i = P + t * (2 * h) + h then dif (f (P + t * (2 * h))) (f (P + t * (2 * h) + h) * b P % q) q
     else if i = P + t * (2 * h) then (f (P + t * (2 * h)) + f (P + t * (2 * h) + h) * b P % q) % q else midF q h b f P (P + t * (2 * h)) i) = midF q h b f P (P + t * (2 * h) + 2 * h) i := by
 obtain ⟨m1, m2, m3, m4⟩ := zw1 (t := t) hP
 generalize P + t * (2 * h) = e at *
 by_cases h1 : i = e + h
 ·subst h1
  rw [if_pos rfl, midF, if_pos (.inr ⟨m4, by omega⟩), joinF, if_neg (by omega), m3, Nat.add_sub_cancel, Nat.add_sub_cancel]
 ·rw [if_neg h1]
  by_cases h2 : i = e
  ·subst h2
   rw [if_pos rfl, midF, if_pos (.inr ⟨m2, by omega⟩), joinF, if_pos (by omega), m1]
  ·rw [if_neg h2, midF, midF]
   by_cases h3 : i % h < P ∨ (i % h = P ∧ i < e)
   ·rw [if_pos h3, if_pos (by omega)]
   ·rw [if_neg h3]
    rw [if_neg]
    intro h4
    rcases h4 with h4 | ⟨h4, h5⟩
    ·exact h3 (.inl h4)
    ·have h6 : e ≤ i := by omega
     have h7 : (i - e) % h = 0 := by
      have := Nat.sub_mod_eq_zero_of_mod_eq (m := i) (n := e) (k := h) (by omega)
      exact this
     have h8 := Nat.div_add_mod (i - e) h
     have h9 : (i - e) / h < 2 := by rw [Nat.div_lt_iff_lt_mul (by omega)]; omega
     generalize (i - e) / h = z at *
     rcases (show z = 0 ∨ z = 1 by omega) with h10 | h10
     ·rw [h10, h7] at h8; omega
     ·rw [h10, h7] at h8; omega
theorem zpz (q h : Nat) (b f : Nat → Nat) (P t : Nat) (hP : P < h) : midF q h b f P (P + t * (2 * h)) (P + t * (2 * h)) = f (P + t * (2 * h)) ∧ midF q h b f P (P + t * (2 * h)) (P + t * (2 * h) + h) = f (P + t * (2 * h) + h) := by
 obtain ⟨m1, m2, m3, m4⟩ := zw1 (t := t) hP
 unfold midF
 exact ⟨if_neg (by omega), if_neg (by omega)⟩
end Go.Proofs.YtopbibfpjgjalaaGreatDoor
