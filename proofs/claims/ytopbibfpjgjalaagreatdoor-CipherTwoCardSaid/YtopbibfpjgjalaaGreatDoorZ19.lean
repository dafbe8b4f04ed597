import Derived.Test.YtopbibfpjgjalaaGreatDoorRows
namespace Go.Proofs.YtopbibfpjgjalaaGreatDoor
set_option linter.unusedVariables false
set_option maxRecDepth 100000
def S : Nat → (Nat → Int) → Int
 | 0, _ => 0
 | n + 1, f => S n f + f n
def M (q a b : Int) : Prop := a % q = b % q
theorem M.rfl {q a : Int} : M q a a := Eq.refl _
theorem M.symm {q a b : Int} (h : M q a b) : M q b a := Eq.symm h
theorem M.trans {q a b c : Int} (h : M q a b) (k : M q b c) : M q a c := Eq.trans h k
theorem M.of {q a b : Int} (h : a = b) : M q a b := by rw [h]; exact M.rfl
theorem M.add {q a b c d : Int} (h : M q a b) (k : M q c d) : M q (a + c) (b + d) := by
 unfold M at *; rw [Int.add_emod, h, k, ← Int.add_emod]
theorem M.mul {q a b c d : Int} (h : M q a b) (k : M q c d) : M q (a * c) (b * d) := by
 unfold M at *; rw [Int.mul_emod, h, k, ← Int.mul_emod]
theorem M.pow {q a b : Int} (h : M q a b) : ∀ n : Nat, M q (a ^ n) (b ^ n)
 | 0 => by rw [Int.pow_zero, Int.pow_zero]; exact M.rfl
 | n + 1 => by rw [Int.pow_succ, Int.pow_succ]; exact (M.pow h n).mul h
theorem zat {n : Nat} {f g : Nat → Int} (h : ∀ i, i < n → f i = g i) : S n f = S n g := by
 induction n with
 | zero => rfl
 | succ n ih => rw [S, S, ih (fun i hi => h i (by omega)), h n (by omega)]
theorem S_M {q : Int} {n : Nat} {f g : Nat → Int} (h : ∀ i, i < n → M q (f i) (g i)) : M q (S n f) (S n g) := by
 induction n with
 | zero => exact M.rfl
 | succ n ih => exact (ih (fun i hi => h i (by omega))).add (h n (by omega))
theorem S_mul (n : Nat) (c : Int) (f : Nat → Int) : c * S n f = S n (fun i => c * f i) := by
 induction n with
 | zero => simp [S]
 | succ n ih => rw [S, S, Int.mul_add, ih]
theorem S_add (n : Nat) (f g : Nat → Int) : S n f + S n g = S n (fun i => f i + g i) := by
 induction n with
 | zero => simp [S]
 | succ n ih => rw [S, S, S, ← ih]; omega
theorem zsh (n : Nat) : S n (fun _ => 0) = 0 := by
 induction n with
 | zero => rfl
 | succ n ih => rw [S, ih]; rfl
theorem zms (n m : Nat) (f : Nat → Nat → Int) : S n (fun i => S m (fun j => f i j)) = S m (fun j => S n (fun i => f i j)) := by
 induction n with
 | zero => simp [S, zsh]
 | succ n ih => rw [S, ih, S_add]; rfl
theorem zyh (n : Nat) (c : Int) : S n (fun _ => c) = n * c := by
 induction n with
 | zero => simp [S]
 | succ n ih => rw [S, ih, Int.natCast_add, Int.add_mul]; simp
theorem S_one {n k : Nat} (hk : k < n) (f : Nat → Int) (h : ∀ i, i < n → i ≠ k → f i = 0) : S n f = f k := by
 induction n with
 | zero => omega
 | succ n ih =>
  rw [S]
  rcases Nat.lt_or_eq_of_le (Nat.le_of_lt_succ hk) with g | g
  ·rw [ih g (fun i hi hne => h i (by omega) hne), h n (by omega) (by omega), Int.add_zero]
  ·subst g
   rw [zat (g := fun _ => 0) (fun i hi => h i (by omega) (by omega)), zsh, Int.zero_add]
theorem zyn (n m : Nat) (f : Nat → Int) : S (n + m) f = S n f + S m (fun i => f (n + i)) := by
 induction m with
 | zero => simp [S]
 | succ m ih => rw [← Nat.add_assoc, S, S, ih]; omega
theorem zs4 (k : Nat) (x : Int) : S (2 ^ (k + 1)) (fun j => x ^ j) = (1 + x ^ (2 ^ k)) * S (2 ^ k) (fun j => x ^ j) := by
 rw [Nat.pow_succ, Nat.mul_two, zyn, Int.add_mul, Int.one_mul, S_mul]
 congr 1
 exact zat fun i _ => by rw [Int.pow_add]
theorem zfk {d : Nat} (h : d % 2 = 1) : (-1 : Int) ^ d = -1 := by
 obtain ⟨m, rfl⟩ : ∃ m, d = 2 * m + 1 := ⟨d / 2, by omega⟩
 rw [Int.pow_succ, Int.pow_mul]
 have : ((-1 : Int) ^ 2) = 1 := by decide
 rw [this, Int.one_pow]; rfl
theorem zmn (q : Int) : ∀ (k : Nat) (u : Int) (d : Nat), M q (u ^ (2 ^ k)) (-1) → 0 < d → d < 2 ^ k → M q (S (2 ^ k) (fun j => (u ^ (2 * d)) ^ j)) 0
 | 0, u, d, _, h0, h1 => by simp at h1; omega
 | k + 1, u, d, hu, h0, h1 => by
  rw [zs4]
  by_cases hd : d % 2 = 1
  ·have h2 : M q ((u ^ (2 * d)) ^ (2 ^ k)) (-1) := by
      rw [← Int.pow_mul, show 2 * d * 2 ^ k = 2 ^ (k + 1) * d by rw [Nat.pow_succ, Nat.mul_comm (2 ^ k) 2, Nat.mul_assoc, Nat.mul_comm d, ← Nat.mul_assoc], Int.pow_mul]
      exact (hu.pow d).trans (M.of (zfk hd))
   have h3 : M q (1 + (u ^ (2 * d)) ^ (2 ^ k)) 0 := M.rfl.add h2
   have := h3.mul (M.rfl (a := S (2 ^ k) (fun j => (u ^ (2 * d)) ^ j)))
   rwa [Int.zero_mul] at this
  ·obtain ⟨d', rfl⟩ : ∃ d', d = 2 * d' := ⟨d / 2, by omega⟩
   have ih := zmn q k (u ^ 2) d' (by rw [← Int.pow_mul, Nat.mul_comm, ← Nat.pow_succ]; exact hu) (by omega) (by rw [Nat.pow_succ] at h1; omega)
   have e : (u ^ 2) ^ (2 * d') = u ^ (2 * (2 * d')) := by rw [← Int.pow_mul]
   rw [e] at ih
   have := (M.rfl (q := q) (a := 1 + (u ^ (2 * (2 * d'))) ^ 2 ^ k)).mul ih
   rwa [Int.mul_zero] at this
theorem zzf (x : Int) (j d : Nat) : x ^ ((2 * j + 1) * d) = x ^ d * (x ^ (2 * d)) ^ j := by
 rw [← Int.pow_mul, ← Int.pow_add]
 congr 1
 rw [Nat.add_mul, Nat.one_mul, Nat.add_comm, Nat.mul_assoc, Nat.mul_comm j, ← Nat.mul_assoc]
theorem zr9 {q w v : Int} (hwv : M q (w * v) 1) (m : Nat) : M q (w ^ m * v ^ m) 1 := by
 have := hwv.pow m
 rwa [Int.one_pow, Int.mul_pow] at this
theorem zh2 (a b c : Int) : a * c * b = a * b * c := by rw [Int.mul_assoc, Int.mul_comm c b, ← Int.mul_assoc]
theorem zsf {q w v : Int} {k i d : Nat} (hw : M q (w ^ (2 ^ k)) (-1)) (hwv : M q (w * v) 1) (hd : 0 < d) (hi : i + d < 2 ^ k) :
    M q (S (2 ^ k) (fun j => w ^ ((2 * j + 1) * (i + d)) * v ^ ((2 * j + 1) * i))) 0 := by
 have h1 : M q (S (2 ^ k) (fun j => w ^ ((2 * j + 1) * (i + d)) * v ^ ((2 * j + 1) * i))) (S (2 ^ k) (fun j => w ^ d * (w ^ (2 * d)) ^ j)) := by
  refine S_M fun j _ => ?_
  rw [Nat.mul_add, Int.pow_add, zzf w j d, zh2]
  have := (zr9 hwv ((2 * j + 1) * i)).mul (M.rfl (a := w ^ d * (w ^ (2 * d)) ^ j))
  rwa [Int.one_mul] at this
 rw [← S_mul] at h1
 have := (M.rfl (q := q) (a := w ^ d)).mul (zmn q k w d hw hd (by omega))
 rw [Int.mul_zero] at this
 exact h1.trans this
theorem znh {q w v : Int} (hwv : M q (w * v) 1) (n i : Nat) : M q (S n (fun j => w ^ ((2 * j + 1) * i) * v ^ ((2 * j + 1) * i))) (n : Int) := by
 refine (S_M (g := fun _ => 1) fun j _ => zr9 hwv _).trans (M.of ?_)
 rw [zyh, Int.mul_one]
theorem apart {q w v : Int} {k i i' : Nat} (hw : M q (w ^ (2 ^ k)) (-1)) (hv : M q (v ^ (2 ^ k)) (-1)) (hwv : M q (w * v) 1) (hi : i < 2 ^ k) (hi' : i' < 2 ^ k) (hne : i ≠ i') :
    M q (S (2 ^ k) (fun j => w ^ ((2 * j + 1) * i) * v ^ ((2 * j + 1) * i'))) 0 := by
 rcases Nat.lt_or_gt_of_ne hne with g | g
 ·obtain ⟨d, rfl⟩ : ∃ d, i' = i + d := ⟨i' - i, by omega⟩
  have := zsf (q := q) (w := v) (v := w) (k := k) (i := i) (d := d) hv (by rw [Int.mul_comm]; exact hwv) (by omega) hi'
  refine (M.of (zat fun j _ => ?_)).trans this
  exact Int.mul_comm _ _
 ·obtain ⟨d, rfl⟩ : ∃ d, i = i' + d := ⟨i - i', by omega⟩
  exact zsf hw hwv (by omega) hi
def vals (w : Int) (n : Nat) (a : Nat → Int) (j : Nat) : Int := S n (fun i => a i * w ^ ((2 * j + 1) * i))
def back (v : Int) (n : Nat) (b : Nat → Int) (i : Nat) : Int := S n (fun j => b j * v ^ ((2 * j + 1) * i))
theorem zrl {q : Int} {n k : Nat} (hk : k < n) {f : Nat → Int} {c : Int} (h : ∀ i, i < n → i ≠ k → M q (f i) 0) (hc : M q (f k) c) : M q (S n f) c := by
 have h1 : M q (S n f) (S n (fun i => if i = k then f k else 0)) := S_M fun i hi => by
  by_cases e : i = k
  ·subst e; rw [if_pos rfl]; exact M.rfl
  ·rw [if_neg e]; exact h i hi e
 have h2 : S n (fun i => if i = k then f k else 0) = f k := by
  rw [S_one hk _ (fun i _ hne => if_neg hne), if_pos rfl]
 rw [h2] at h1
 exact h1.trans hc
theorem zfg {q w v : Int} {k : Nat} (hw : M q (w ^ (2 ^ k)) (-1)) (hv : M q (v ^ (2 ^ k)) (-1)) (hwv : M q (w * v) 1) (a : Nat → Int) {i' : Nat} (hi' : i' < 2 ^ k) :
    M q (back v (2 ^ k) (vals w (2 ^ k) a) i') (((2 ^ k : Nat) : Int) * a i') := by
 have e : back v (2 ^ k) (vals w (2 ^ k) a) i' = S (2 ^ k) (fun i => a i * S (2 ^ k) (fun j => w ^ ((2 * j + 1) * i) * v ^ ((2 * j + 1) * i'))) := by
  unfold back vals
  rw [zat (g := fun j => S (2 ^ k) (fun i => a i * (w ^ ((2 * j + 1) * i) * v ^ ((2 * j + 1) * i')))) (fun j _ => by
   rw [Int.mul_comm, S_mul]
   exact zat fun i _ => by rw [Int.mul_comm, Int.mul_assoc])]
  rw [zms]
  exact zat fun i _ => (S_mul _ _ _).symm
 rw [e]
 refine zrl hi' (fun i hi hne => ?_) ?_
 ·have := (M.rfl (q := q) (a := a i)).mul (apart hw hv hwv hi hi' hne)
  rwa [Int.mul_zero] at this
 ·have := (M.rfl (q := q) (a := a i')).mul (znh (q := q) hwv (2 ^ k) i')
  rwa [Int.mul_comm (a i') (((2 ^ k : Nat)) : Int)] at this
def nega (n : Nat) (a b : Nat → Int) (m : Nat) : Int := S n (fun i => S n (fun l => if i + l = m then a i * b l else if i + l = m + n then -(a i * b l) else 0))
theorem zcq (n : Nat) (c : Int) (f : Nat → Int) : S n f * c = S n (fun i => f i * c) := by
 rw [Int.mul_comm, S_mul]
 exact zat fun i _ => Int.mul_comm _ _
theorem zu0 {q x : Int} {n i l : Nat} (hx : M q (x ^ n) (-1)) (hi : i < n) (hl : l < n) (c : Int) :
    M q (S n (fun m => (if i + l = m then c else if i + l = m + n then -c else 0) * x ^ m)) (c * x ^ (i + l)) := by
 by_cases h : i + l < n
 ·refine zrl h (fun m hm hne => ?_) ?_
  ·rw [if_neg (Ne.symm hne), if_neg (by omega), Int.zero_mul]; exact M.rfl
  ·rw [if_pos rfl]; exact M.rfl
 ·refine zrl (k := i + l - n) (by omega) (fun m hm hne => ?_) ?_
  ·rw [if_neg (by omega), if_neg (by omega), Int.zero_mul]; exact M.rfl
  ·rw [if_neg (by omega), if_pos (by omega)]
   have e : c * x ^ (i + l) = c * x ^ (i + l - n) * x ^ n := by
    rw [Int.mul_assoc, ← Int.pow_add]; congr 2; omega
   rw [e]
   have := (M.rfl (q := q) (a := c * x ^ (i + l - n))).mul hx
   rw [Int.mul_neg, Int.mul_one] at this
   rw [Int.neg_mul]
   exact this.symm
theorem zqb {q x : Int} {n : Nat} (hx : M q (x ^ n) (-1)) (a b : Nat → Int) :
    M q (S n (fun m => nega n a b m * x ^ m)) (S n (fun i => a i * x ^ i) * S n (fun l => b l * x ^ l)) := by
 have e1 : S n (fun m => nega n a b m * x ^ m) = S n (fun i => S n (fun l => S n (fun m => (if i + l = m then a i * b l else if i + l = m + n then -(a i * b l) else 0) * x ^ m))) := by
  unfold nega
  rw [zat (g := fun m => S n (fun i => S n (fun l => (if i + l = m then a i * b l else if i + l = m + n then -(a i * b l) else 0) * x ^ m))) (fun m _ => by
   rw [zcq]
   exact zat fun i _ => zcq _ _ _)]
  rw [zms]
  exact zat fun i _ => zms _ _ _
 have e2 : S n (fun i => a i * x ^ i) * S n (fun l => b l * x ^ l) = S n (fun i => S n (fun l => a i * b l * x ^ (i + l))) := by
  rw [zcq]
  refine zat fun i _ => ?_
  rw [S_mul]
  refine zat fun l _ => ?_
  rw [Int.pow_add, Int.mul_assoc, Int.mul_assoc, ← Int.mul_assoc (x ^ i), Int.mul_comm (x ^ i) (b l), Int.mul_assoc]
 rw [e1, e2]
 exact S_M fun i hi => S_M fun l hl => zu0 hx hi hl _
theorem zc4 {q w : Int} {n : Nat} (hw : M q (w ^ n) (-1)) (a b : Nat → Int) (j : Nat) : M q (vals w n (nega n a b) j) (vals w n a j * vals w n b j) := by
 have hx : M q ((w ^ (2 * j + 1)) ^ n) (-1) := by
  rw [← Int.pow_mul, Nat.mul_comm, Int.pow_mul]
  exact (hw.pow (2 * j + 1)).trans (M.of (zfk (by omega)))
 have := zqb hx a b
 unfold vals
 rw [zat (g := fun m => nega n a b m * (w ^ (2 * j + 1)) ^ m) (fun m _ => by rw [Int.pow_mul]), zat (f := fun i => a i * w ^ ((2 * j + 1) * i)) (g := fun i => a i * (w ^ (2 * j + 1)) ^ i) (fun m _ => by rw [Int.pow_mul]), zat (f := fun i => b i * w ^ ((2 * j + 1) * i)) (g := fun i => b i * (w ^ (2 * j + 1)) ^ i) (fun m _ => by rw [Int.pow_mul])]
 exact this
theorem zua {q w v r : Int} {k : Nat} (hw : M q (w ^ (2 ^ k)) (-1)) (hv : M q (v ^ (2 ^ k)) (-1)) (hwv : M q (w * v) 1) (hr : M q (((2 ^ k : Nat) : Int) * r) 1) {a b : Nat → Int}
    (h : ∀ j, j < 2 ^ k → M q (vals w (2 ^ k) a j) (vals w (2 ^ k) b j)) {i : Nat} (hi : i < 2 ^ k) : M q (a i) (b i) := by
 have h1 := (zfg hw hv hwv a hi).symm
 have h2 := zfg hw hv hwv b hi
 have h3 : M q (back v (2 ^ k) (vals w (2 ^ k) a) i) (back v (2 ^ k) (vals w (2 ^ k) b) i) := S_M fun j hj => (h j hj).mul M.rfl
 have h4 := (h1.trans (h3.trans h2)).mul (M.rfl (a := r))
 have one : ∀ x : Int, M q (((2 ^ k : Nat) : Int) * x * r) x := fun x => by
  rw [zh2]
  have := hr.mul (M.rfl (a := x))
  rwa [Int.one_mul] at this
 exact (one (a i)).symm.trans (h4.trans (one (b i)))
def Sml (n : Nat) : Prop := n = 8 ∨ n = 16 ∨ n = 32 ∨ n = 64
def pw3 (n i : Nat) : Nat := 3 ^ i % (2 * n)
def atB (n i : Nat) : Nat := (pw3 n i - 1) / 2
theorem z0e (n i : Nat) : pw3 n i % 2 = 1 := by
 unfold pw3
 rw [Nat.mod_mul_right_mod]
 induction i with
 | zero => rfl
 | succ i ih => rw [Nat.pow_succ, Nat.mul_mod, ih]
theorem zwx (n i : Nat) : pw3 n i = 2 * atB n i + 1 := by
 have := z0e n i
 unfold atB
 omega
theorem at_lt {n : Nat} (hn : 0 < n) (i : Nat) : atB n i < n := by
 have h := zwx n i
 have : pw3 n i < 2 * n := Nat.mod_lt _ (by omega)
 omega
theorem zu5 (n i : Nat) : pw3 n (i + 1) = pw3 n i * 3 % (2 * n) := by
 unfold pw3
 rw [Nat.pow_succ, Nat.mod_mul_mod]
end Go.Proofs.YtopbibfpjgjalaaGreatDoor
