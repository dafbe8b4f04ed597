import Derived.Test.YtjikdbcjabopnaaGreatDoorJ8
import Derived.Test.YtjikdbcjabopnaaGreatDoorJ20
namespace Go.Proofs.YtjikdbcjabopnaaGreatDoor
set_option linter.unusedVariables false
def prodN (f : Nat → Nat) : Nat → Nat
 | 0 => 1
 | n + 1 => f (n + 1) * prodN f n
def sumN (f : Nat → Nat) : Nat → Nat
 | 0 => 0
 | n + 1 => f (n + 1) + sumN f n
def lstN (f : Nat → Nat) : Nat → List Nat
 | 0 => []
 | n + 1 => f (n + 1) :: lstN f n
theorem lprod_lst (f : Nat → Nat) : ∀ n, lprod (lstN f n) = prodN f n
 | 0 => rfl
 | n + 1 => by simp only [lstN, lprod, prodN, lprod_lst f n]
theorem lst_mem {f : Nat → Nat} {x : Nat} : ∀ {n}, x ∈ lstN f n → ∃ k, 1 ≤ k ∧ k ≤ n ∧ x = f k
 | 0, h => by cases h
 | n + 1, h => by
  rcases List.mem_cons.1 h with h | h
  ·exact ⟨n + 1, by omega, by omega, h⟩
  ·obtain ⟨k, h1, h2, h3⟩ := lst_mem h
   exact ⟨k, h1, by omega, h3⟩
theorem lst_len (f : Nat → Nat) : ∀ n, (lstN f n).length = n
 | 0 => rfl
 | n + 1 => by simp only [lstN, List.length_cons, lst_len f n]
theorem lst_nodup {f : Nat → Nat} : ∀ {n}, (∀ k l, 1 ≤ k → k ≤ n → 1 ≤ l → l ≤ n → f k = f l → k = l) → (lstN f n).Nodup
 | 0, _ => List.nodup_nil
 | n + 1, h => by
  refine List.nodup_cons.2 ⟨fun hm => ?_, lst_nodup fun k l a b c d e => h k l a (by omega) c (by omega) e⟩
  obtain ⟨k, h1, h2, h3⟩ := lst_mem hm
  have := h (n + 1) k (by omega) (by omega) h1 (by omega) h3
  omega
theorem lprod_erase {x : Nat} : ∀ {l : List Nat}, x ∈ l → lprod l = x * lprod (l.erase x)
 | [], h => by cases h
 | y :: l, h => by
  by_cases e : y = x
  ·subst e; rw [List.erase_cons_head]; rfl
  ·have hx : x ∈ l := by
      rcases List.mem_cons.1 h with g | g
      ·exact absurd g.symm e
      ·exact g
   rw [List.erase_cons_tail (by simpa using e)]
   simp only [lprod]
   rw [lprod_erase hx, Nat.mul_left_comm]
theorem few : ∀ (n : Nat) (l : List Nat), l.Nodup → (∀ x ∈ l, 1 ≤ x ∧ x ≤ n) → l.length ≤ n
 | 0, l, _, h => by
  cases l with
  | nil => simp
  | cons x l => have := h x List.mem_cons_self; omega
 | n + 1, l, hd, h => by
  by_cases hm : n + 1 ∈ l
  ·have h1 := few n (l.erase (n + 1)) (hd.erase _) (fun x hx => by
      have hx2 := (hd.mem_erase_iff).1 hx
      have := h x hx2.2
      have := hx2.1
      omega)
   rw [List.length_erase_of_mem hm] at h1
   omega
  ·have h1 := few n l hd (fun x hx => by
      have := h x hx
      have : x ≠ n + 1 := fun e => hm (by rw [← e]; exact hx)
      omega)
   omega
def fact : Nat → Nat
 | 0 => 1
 | n + 1 => (n + 1) * fact n
theorem all_of : ∀ (n : Nat) (l : List Nat), l.Nodup → (∀ x ∈ l, 1 ≤ x ∧ x ≤ n) → l.length = n → lprod l = fact n
 | 0, l, _, _, hl => by
  rw [List.eq_nil_of_length_eq_zero hl]; rfl
 | n + 1, l, hd, h, hl => by
  have hm : n + 1 ∈ l := by
   rcases Classical.em (n + 1 ∈ l) with g | g
   ·exact g
   ·have := few n l hd (fun x hx => by
       have := h x hx
       have : x ≠ n + 1 := fun e => g (by rw [← e]; exact hx)
       omega)
    omega
  rw [lprod_erase hm, all_of n (l.erase (n + 1)) (hd.erase _) (fun x hx => by
      have hx2 := (hd.mem_erase_iff).1 hx
      have := h x hx2.2
      have := hx2.1
      omega) (by rw [List.length_erase_of_mem hm]; omega)]
  rfl
def nearN (T h a k : Nat) : Nat := if a * k % T ≤ h then a * k % T else T - a * k % T
def sgnN (T h a k : Nat) : Int := if a * k % T ≤ h then 1 else -1
section
variable {T h a : Nat}
theorem rest_pos (hT : Irr T) (ha : ¬ T ∣ a) {k : Nat} (h0 : 1 ≤ k) (h1 : k < T) : 0 < a * k % T := by
 rcases Nat.eq_zero_or_pos (a * k % T) with g | g
 ·rcases hT.mul (Nat.dvd_of_mod_eq_zero g) with g | g
  ·exact absurd g ha
  ·have := Nat.le_of_dvd (by omega) g
   omega
 ·exact g
theorem near_in (hT : Irr T) (hh : T = 2 * h + 1) (ha : ¬ T ∣ a) {k : Nat} (h0 : 1 ≤ k) (h1 : k ≤ h) : 1 ≤ nearN T h a k ∧ nearN T h a k ≤ h := by
 have g1 := rest_pos hT ha h0 (by omega)
 have g2 : a * k % T < T := Nat.mod_lt _ hT.pos
 unfold nearN
 split <;> omega
theorem near_M (hh : T = 2 * h + 1) (k : Nat) : M (T : Int) ((a * k : Nat) : Int) (sgnN T h a k * (nearN T h a k : Int)) := by
 have g2 : a * k % T < T := Nat.mod_lt _ (by omega)
 have e : ((a * k : Nat) : Int) % (T : Int) = ((a * k % T : Nat) : Int) := (Int.natCast_emod _ _).symm
 unfold M nearN sgnN
 split
 ·rw [Int.one_mul, e]
  exact (Int.emod_eq_of_lt (by omega) (by omega)).symm
 ·rw [e, show (-1 : Int) * ((T - a * k % T : Nat) : Int) = ((a * k % T : Nat) : Int) + (T : Int) * (-1) by omega, Int.add_mul_emod_self_left]
  exact (Int.emod_eq_of_lt (by omega) (by omega)).symm
theorem dvd_sub_of {x y : Nat} (hle : y ≤ x) (h : x % T = y % T) : T ∣ x - y := by
 refine Nat.dvd_of_mod_eq_zero ?_
 have := Nat.sub_mod_eq_zero_of_mod_eq h
 exact this
theorem dvd_add_of {x y : Nat} (h : x % T + y % T = T) : T ∣ x + y := by
 refine Nat.dvd_of_mod_eq_zero ?_
 rw [Nat.add_mod, h, Nat.mod_self]
theorem near_inj (hT : Irr T) (hh : T = 2 * h + 1) (ha : ¬ T ∣ a) : ∀ k l, 1 ≤ k → k ≤ h → 1 ≤ l → l ≤ h → nearN T h a k = nearN T h a l → k = l := by
 have key : ∀ k l, 1 ≤ k → k ≤ h → 1 ≤ l → l ≤ h → l ≤ k → a * k % T = a * l % T → k = l := by
  intro k l h1 h2 h3 h4 hle e
  have hd := dvd_sub_of (Nat.mul_le_mul_left a hle) e
  rw [← Nat.mul_sub] at hd
  rcases hT.mul hd with g | g
  ·exact absurd g ha
  ·rcases Nat.eq_zero_or_pos (k - l) with z | z
   ·omega
   ·have := Nat.le_of_dvd z g
    omega
 have key2 : ∀ k l, 1 ≤ k → k ≤ h → 1 ≤ l → l ≤ h → a * k % T + a * l % T ≠ T := by
  intro k l h1 h2 h3 h4 e
  have hd := dvd_add_of e
  rw [← Nat.mul_add] at hd
  rcases hT.mul hd with g | g
  ·exact absurd g ha
  ·have := Nat.le_of_dvd (by omega) g
   omega
 intro k l h1 h2 h3 h4 e
 have m1 : a * k % T < T := Nat.mod_lt _ hT.pos
 have m2 : a * l % T < T := Nat.mod_lt _ hT.pos
 have same : a * k % T = a * l % T → k = l := fun e => by
  rcases Nat.le_total l k with g | g
  ·exact key k l h1 h2 h3 h4 g e
  ·exact (key l k h3 h4 h1 h2 g e.symm).symm
 have hk2 := key2 k l h1 h2 h3 h4
 unfold nearN at e
 split at e <;> split at e
 ·exact same e
 ·omega
 ·omega
 ·exact same (by omega)
theorem fact_not (hT : Irr T) : ∀ n, n < T → ¬ T ∣ fact n
 | 0, hn, hd => by
  have := Nat.le_of_dvd (by decide) hd
  have := hT.1
  simp [fact] at *
  omega
 | n + 1, hn, hd => by
  rcases hT.mul hd with g | g
  ·have := Nat.le_of_dvd (by omega) g
   omega
  ·exact fact_not hT n (by omega) g
def sgnP (T h a : Nat) : Nat → Int
 | 0 => 1
 | n + 1 => sgnN T h a (n + 1) * sgnP T h a n
theorem all_M (hh : T = 2 * h + 1) : ∀ n, M (T : Int) ((a ^ n * fact n : Nat) : Int) (sgnP T h a n * (prodN (nearN T h a) n : Int))
 | 0 => M.of rfl
 | n + 1 => by
  have h1 := near_M (a := a) hh (n + 1)
  have h2 := (h1.mul (all_M hh n))
  refine (M.of ?_).trans (h2.trans (M.of ?_))
  ·rw [← Int.natCast_mul]
   congr 1
   simp only [fact, Nat.pow_succ]
   rw [Nat.mul_assoc (a ^ n), Nat.mul_assoc a, Nat.mul_left_comm (a ^ n) a, Nat.mul_left_comm (a ^ n)]
  ·simp only [sgnP, prodN, Int.natCast_mul]
   rw [Int.mul_assoc, Int.mul_assoc, Int.mul_left_comm (nearN T h a (n + 1) : Int)]
theorem cancel_M (hT : Irr T) {x y : Int} {c : Nat} (hc : ¬ T ∣ c) (h : M (T : Int) (x * c) (y * c)) : M (T : Int) x y := by
 have hd : (T : Int) ∣ (x - y) * c := by
  rw [Int.sub_mul]
  exact Int.dvd_of_emod_eq_zero (Int.emod_eq_emod_iff_emod_sub_eq_zero.1 h)
 have hd2 : T ∣ (x - y).natAbs * c := by
  have := Int.natAbs_dvd_natAbs.2 hd
  rwa [Int.natAbs_mul, Int.natAbs_natCast, Int.natAbs_natCast] at this
 rcases hT.mul hd2 with g | g
 ·exact Int.emod_eq_emod_iff_emod_sub_eq_zero.2 (Int.emod_eq_zero_of_dvd (Int.ofNat_dvd_left.2 g))
 ·exact absurd g hc
theorem gauss0 (hT : Irr T) (hh : T = 2 * h + 1) (ha : ¬ T ∣ a) : M (T : Int) ((a ^ h : Nat) : Int) (sgnP T h a h) := by
 have e : prodN (nearN T h a) h = fact h := by
  rw [← lprod_lst]
  refine all_of h _ (lst_nodup (near_inj hT hh ha)) (fun x hx => ?_) (lst_len _ _)
  obtain ⟨k, h1, h2, rfl⟩ := lst_mem hx
  exact near_in hT hh ha h1 h2
 have h1 := all_M (a := a) hh h
 rw [e, Int.natCast_mul] at h1
 exact cancel_M hT (fact_not hT h (by omega)) h1
theorem sgn_pow (hh : T = 2 * h + 1) (k : Nat) : sgnN T h a k = (-1) ^ (2 * (a * k) / T) := by
 have e0 := Nat.div_add_mod (a * k) T
 have g2 : a * k % T < T := Nat.mod_lt _ (by omega)
 have e : 2 * (a * k) / T = 2 * (a * k / T) + 2 * (a * k % T) / T := by
  conv => lhs; rw [← e0, Nat.mul_add, Nat.mul_left_comm, Nat.mul_add_div (by omega)]
 rw [e, Int.pow_add, Int.pow_mul, show (-1 : Int) ^ 2 = 1 from rfl, Int.one_pow, Int.one_mul]
 unfold sgnN
 split
 ·rw [Nat.div_eq_of_lt (by omega)]; rfl
 ·rw [show 2 * (a * k % T) / T = 1 from Nat.div_eq_of_lt_le (by omega) (by omega)]; rfl
theorem sgnP_pow (hh : T = 2 * h + 1) : ∀ n, sgnP T h a n = (-1) ^ (sumN (fun k => 2 * (a * k) / T) n)
 | 0 => rfl
 | n + 1 => by
  simp only [sgnP, sumN]
  rw [sgnP_pow hh n, sgn_pow hh, ← Int.pow_add]
end
theorem sumN_congr {f g : Nat → Nat} : ∀ {n}, (∀ k, 1 ≤ k → k ≤ n → f k = g k) → sumN f n = sumN g n
 | 0, _ => rfl
 | n + 1, h => by
  simp only [sumN]
  rw [h (n + 1) (by omega) (by omega), sumN_congr fun k h1 h2 => h k h1 (by omega)]
theorem sumN_add (f g : Nat → Nat) : ∀ n, sumN (fun k => f k + g k) n = sumN f n + sumN g n
 | 0 => rfl
 | n + 1 => by simp only [sumN]; rw [sumN_add f g n]; omega
theorem sumN_zero : ∀ n, sumN (fun _ => 0) n = 0
 | 0 => rfl
 | n + 1 => by simp only [sumN]; rw [sumN_zero n]
theorem sumN_swap (f : Nat → Nat → Nat) (m : Nat) : ∀ n, sumN (fun k => sumN (fun j => f k j) m) n = sumN (fun j => sumN (fun k => f k j) n) m
 | 0 => by simp only [sumN]; rw [sumN_zero]
 | n + 1 => by
  simp only [sumN]
  rw [sumN_swap f m n, ← sumN_add]
theorem count_over (c : Nat) : ∀ n, c ≤ n → sumN (fun k => if c < k then 1 else 0) n = n - c
 | 0, h => by simp [sumN]
 | n + 1, h => by
  simp only [sumN]
  rcases Nat.lt_or_ge c (n + 1) with g | g
  ·rw [if_pos g, count_over c n (by omega)]; omega
  ·have : c = n + 1 := by omega
   subst this
   rw [if_neg (by omega), sumN_congr (g := fun _ => 0) fun k _ h2 => if_neg (by omega), sumN_zero]
   omega
theorem count_upto (q : Nat) : ∀ n, sumN (fun j => if j ≤ q then 1 else 0) n = min q n
 | 0 => by simp [sumN]
 | n + 1 => by
  simp only [sumN]
  rw [count_upto q n]
  split <;> omega
theorem floor_count {y T B : Nat} (hT : 0 < T) (hB : y / T ≤ B) : y / T = sumN (fun j => if j * T ≤ y then 1 else 0) B := by
 have h1 := count_upto (y / T) B
 rw [Nat.min_eq_left hB] at h1
 rw [← h1]
 refine sumN_congr fun j _ _ => ?_
 have : j ≤ y / T ↔ j * T ≤ y := Nat.le_div_iff_mul_le hT
 by_cases g : j ≤ y / T
 ·rw [if_pos g, if_pos (this.1 g)]
 ·rw [if_neg g, if_neg fun e => g (this.2 e)]
def tellE (a T : Nat) : Nat := sumN (fun j => j * T / (2 * a)) (a - 1)
theorem even_pow {m n : Nat} (h : m % 2 = n % 2) : (-1 : Int) ^ m = (-1) ^ n := by
 have e : ∀ k : Nat, (-1 : Int) ^ k = (-1) ^ (k % 2) := fun k => by
  conv => lhs; rw [← Nat.div_add_mod k 2, Int.pow_add, Int.pow_mul, show (-1 : Int) ^ 2 = 1 from rfl, Int.one_pow, Int.one_mul]
 rw [e m, e n, h]
theorem sum_parity {f g : Nat → Nat} : ∀ {n}, (∀ k, 1 ≤ k → k ≤ n → f k % 2 = g k % 2) → sumN f n % 2 = sumN g n % 2
 | 0, _ => rfl
 | n + 1, h => by
  simp only [sumN]
  have h1 := h (n + 1) (by omega) (by omega)
  have h2 := sum_parity (n := n) fun k a b => h k a (by omega)
  omega
theorem gauss_sum {T h a : Nat} (hT : Irr T) (hh : T = 2 * h + 1) (ha0 : 0 < a) (ha : 2 * a < T) (hev : h % 2 = 0) : sumN (fun k => 2 * (a * k) / T) h % 2 = tellE a T % 2 := by
 have hTp := hT.pos
 have e1 : sumN (fun k => 2 * (a * k) / T) h = sumN (fun k => sumN (fun j => if j * T ≤ 2 * (a * k) then 1 else 0) (a - 1)) h := by
  refine sumN_congr fun k h1 h2 => floor_count hTp ?_
  have h3 : a * (2 * k) < a * T := Nat.mul_lt_mul_of_pos_left (by omega) ha0
  have : 2 * (a * k) / T < a := (Nat.div_lt_iff_lt_mul hTp).2 (by rw [Nat.mul_left_comm]; exact h3)
  omega
 rw [e1, sumN_swap]
 refine sum_parity fun j h1 h2 => ?_
 have hc : j * T / (2 * a) ≤ h := by
  have h3 : j * T < a * T := Nat.mul_lt_mul_of_pos_right (by omega) hTp
  have : j * T / (2 * a) < h + 1 := (Nat.div_lt_iff_lt_mul (by omega)).2 (by
   rw [show (h + 1) * (2 * a) = a * T + a by rw [hh, Nat.mul_add, Nat.mul_one, Nat.add_mul, Nat.one_mul, Nat.mul_left_comm h 2 a, Nat.mul_left_comm a 2 h, Nat.mul_comm h a]; omega]
   omega)
  omega
 have hnd : ∀ k, j * T ≠ 2 * (a * k) := fun k e => by
  have hd : T ∣ 2 * a * k := ⟨j, by rw [Nat.mul_assoc, ← e, Nat.mul_comm]⟩
  have hd2 : 2 * a ∣ j * T := ⟨k, by rw [e, Nat.mul_assoc]⟩
  have hcop : Nat.Coprime (2 * a) T := by
   rcases hT.2 _ (Nat.gcd_dvd_right (2 * a) T) with g | g
   ·exact g
   ·have hdd := Nat.gcd_dvd_left (2 * a) T
    rw [g] at hdd
    have := Nat.le_of_dvd (by omega) hdd
    omega
  have := Nat.le_of_dvd (by omega) (Nat.Coprime.dvd_of_dvd_mul_right hcop hd2)
  omega
 have e2 : sumN (fun k => if j * T ≤ 2 * (a * k) then 1 else 0) h = h - j * T / (2 * a) := by
  rw [← count_over _ h hc]
  refine sumN_congr fun k _ _ => ?_
  have hk : j * T / (2 * a) < k ↔ j * T < k * (2 * a) := Nat.div_lt_iff_lt_mul (by omega)
  have e3 : k * (2 * a) = 2 * (a * k) := by rw [Nat.mul_left_comm, Nat.mul_comm k a]
  rw [e3] at hk
  have := hnd k
  by_cases g : j * T ≤ 2 * (a * k)
  ·rw [if_pos g, if_pos (hk.2 (by omega))]
  ·rw [if_neg g, if_neg fun x => g (by have := hk.1 x; omega)]
 rw [e2]
 omega
theorem tell_mod {a T : Nat} (ha0 : 0 < a) : tellE a T % 2 = tellE a (T % (4 * a)) % 2 := by
 refine sum_parity fun j _ _ => ?_
 have e : j * T = j * (T % (4 * a)) + 2 * a * (2 * (j * (T / (4 * a)))) := by
  conv => lhs; rw [← Nat.div_add_mod T (4 * a)]
  rw [Nat.mul_add, Nat.add_comm]
  congr 1
  rw [show 4 * a = 2 * a * 2 by omega]
  rw [Nat.mul_left_comm j, Nat.mul_assoc (2 * a) 2]
 rw [e, Nat.add_mul_div_left _ _ (by omega)]
 omega
theorem gauss {T a : Nat} (hT : Irr T) (h4 : T % 4 = 1) (ha0 : 0 < a) (ha : 2 * a < T) (ho : tellE a (T % (4 * a)) % 2 = 1) : a ^ ((T - 1) / 2) % T = T - 1 := by
 obtain ⟨h, hh⟩ : ∃ h, T = 2 * h + 1 := ⟨T / 2, by omega⟩
 have hna : ¬ T ∣ a := fun hd => by have := Nat.le_of_dvd ha0 hd; omega
 have h1 := gauss0 hT hh hna
 rw [sgnP_pow hh, even_pow (n := 1) (by rw [gauss_sum hT hh ha0 ha (by omega), tell_mod ha0, ho])] at h1
 have e : (T - 1) / 2 = h := by omega
 rw [e]
 have h2 : ((a ^ h : Nat) : Int) % (T : Int) = (-1) % (T : Int) := h1
 rw [← Int.natCast_emod, show (-1 : Int) = ((T - 1 : Nat) : Int) + (T : Int) * (-1) by omega, Int.add_mul_emod_self_left, ← Int.natCast_emod, Nat.mod_eq_of_lt (show T - 1 < T by omega)] at h2
 exact Int.ofNat.inj h2
set_option maxRecDepth 100000
def bit0 (m a T : Nat) : Bool := Nat.beq (Nat.mod (Nat.shiftRight m (Nat.mod T a)) (nat_lit 2)) (nat_lit 0)
theorem bit0_mod {m a T t : Nat} (h : T % a = t % a) : bit0 m a T = bit0 m a t := by
 show Nat.beq (Nat.mod (Nat.shiftRight m (T % a)) 2) 0 = Nat.beq (Nat.mod (Nat.shiftRight m (t % a)) 2) 0
 rw [h]
def tabB (m a : Nat) : Prop := ∀ t, t < 4 * a → t % 4 = 1 → bit0 m a t = true → t % a = 0 ∨ tellE a t % 2 = 1
instance (m a : Nat) : Decidable (tabB m a) := by unfold tabB; infer_instance
theorem tab_use {m a T : Nat} (ht : tabB m a) (hT : Irr T) (h4 : T % 4 = 1) (ha0 : 1 < a) (ha : 2 * a < T) (hb : bit0 m a T = true) : a ^ ((T - 1) / 2) % T = T - 1 := by
 have e : T % (4 * a) % a = T % a := Nat.mod_mod_of_dvd _ ⟨4, by rw [Nat.mul_comm]⟩
 have e4 : T % (4 * a) % 4 = T % 4 := Nat.mod_mod_of_dvd _ ⟨a, rfl⟩
 rcases ht (T % (4 * a)) (Nat.mod_lt _ (by omega)) (by omega) (by rw [← hb]; exact bit0_mod e) with g | g
 ·rw [e] at g
  rcases hT.2 a (Nat.dvd_of_mod_eq_zero g) with h | h <;> omega
 ·exact gauss hT h4 (by omega) ha g
theorem tab_3 : tabB 2 3 := by decide +kernel
theorem tab_5 : tabB 18 5 := by decide +kernel
theorem tab_7 : tabB 22 7 := by decide +kernel
theorem tab_11 : tabB 570 11 := by decide +kernel
theorem tab_13 : tabB 5658 13 := by decide +kernel
theorem tab_17 : tabB 107286 17 := by decide +kernel
theorem tab_19 : tabB 199410 19 := by decide +kernel
theorem tab_23 : tabB 340830 23 := by decide +kernel
theorem tab_29 : tabB 332473074 29 := by decide +kernel
theorem tab_31 : tabB 303908790 31 := by decide +kernel
theorem tab_37 : tabB 96068509338 37 := by decide +kernel
theorem tab_41 : tabB 1870503675702 41 := by decide +kernel
theorem tab_43 : tabB 3678700564050 43 := by decide +kernel
theorem tab_47 : tabB 4626135339998 47 := by decide +kernel
theorem tab_53 : tabB 5310023542746834 53 := by decide +kernel
theorem tab_59 : tabB 156326468341437114 59 := by decide +kernel
theorem tab_61 : tabB 1662926210933060154 61 := by decide +kernel
theorem tab_67 : tabB 61808106872519771730 67 := by decide +kernel
theorem tab_71 : tabB 20052041432995567486 71 := by decide +kernel
theorem tab_73 : tabB 9059857384996697084766 73 := by decide +kernel
theorem tab_79 : tabB 89932533647391829339958 79 := by decide +kernel
theorem tab_83 : tabB 2911111237809585785085594 83 := by decide +kernel
def isq : Nat → Nat → Nat → Nat
 | 0, s, _ => s
 | f + 1, s, T => isq f (cond (Nat.ble ((s + 2 ^ f) * (s + 2 ^ f)) T) (s + 2 ^ f) s) T
def sqBQ (T : Nat) : Bool := Nat.beq (isq 15 0 T * isq 15 0 T) T
def okC (T : Nat) : Bool := (cond (bit0 (nat_lit 2) (nat_lit 3) T) false (cond (bit0 (nat_lit 18) (nat_lit 5) T) false (cond (bit0 (nat_lit 22) (nat_lit 7) T) false (cond (bit0 (nat_lit 570) (nat_lit 11) T) false (cond (bit0 (nat_lit 5658) (nat_lit 13) T) false true)))))
def accT (T : Nat) : Bool := (cond (bit0 (nat_lit 107286) (nat_lit 17) T) true (cond (bit0 (nat_lit 199410) (nat_lit 19) T) true (cond (bit0 (nat_lit 340830) (nat_lit 23) T) true (cond (bit0 (nat_lit 332473074) (nat_lit 29) T) true (cond (bit0 (nat_lit 303908790) (nat_lit 31) T) true (cond (bit0 (nat_lit 96068509338) (nat_lit 37) T) true (cond (bit0 (nat_lit 1870503675702) (nat_lit 41) T) true (cond (bit0 (nat_lit 3678700564050) (nat_lit 43) T) true (cond (bit0 (nat_lit 4626135339998) (nat_lit 47) T) true (cond (bit0 (nat_lit 5310023542746834) (nat_lit 53) T) true (cond (bit0 (nat_lit 156326468341437114) (nat_lit 59) T) true (cond (bit0 (nat_lit 1662926210933060154) (nat_lit 61) T) true (cond (bit0 (nat_lit 61808106872519771730) (nat_lit 67) T) true (cond (bit0 (nat_lit 20052041432995567486) (nat_lit 71) T) true (cond (bit0 (nat_lit 9059857384996697084766) (nat_lit 73) T) true (cond (bit0 (nat_lit 89932533647391829339958) (nat_lit 79) T) true (cond (bit0 (nat_lit 2911111237809585785085594) (nat_lit 83) T) true (sqBQ T))))))))))))))))))
theorem cond_false_of {b c : Bool} (h : cond b false c = false) : b = true ∨ c = false := by cases b <;> simp_all
theorem cond_true_of {b c : Bool} (h : cond b true c = true) : b = true ∨ c = true := by cases b <;> simp_all
def Low (T : Nat) : Prop := bit0 2 3 T = true ∨ bit0 18 5 T = true ∨ bit0 22 7 T = true ∨ bit0 570 11 T = true ∨ bit0 5658 13 T = true
def High (T : Nat) : Prop := bit0 107286 17 T = true ∨ bit0 199410 19 T = true ∨ bit0 340830 23 T = true ∨ bit0 332473074 29 T = true ∨ bit0 303908790 31 T = true ∨ bit0 96068509338 37 T = true ∨ bit0 1870503675702 41 T = true ∨ bit0 3678700564050 43 T = true ∨ bit0 4626135339998 47 T = true ∨ bit0 5310023542746834 53 T = true ∨ bit0 156326468341437114 59 T = true ∨ bit0 1662926210933060154 61 T = true ∨ bit0 61808106872519771730 67 T = true ∨ bit0 20052041432995567486 71 T = true ∨ bit0 9059857384996697084766 73 T = true ∨ bit0 89932533647391829339958 79 T = true ∨ bit0 2911111237809585785085594 83 T = true
theorem okC_use {T : Nat} (h : okC T = false) : Low T := by
 unfold okC at h
 unfold Low
 rcases cond_false_of h with h | h
 ·exact .inl h
 rcases cond_false_of h with h | h
 ·exact .inr (.inl h)
 rcases cond_false_of h with h | h
 ·exact .inr (.inr (.inl h))
 rcases cond_false_of h with h | h
 ·exact .inr (.inr (.inr (.inl h)))
 rcases cond_false_of h with h | h
 ·exact .inr (.inr (.inr (.inr (h))))
 ·cases h
theorem accT_use {T : Nat} (h : accT T = true) : High T ∨ sqBQ T = true := by
 unfold accT at h
 unfold High
 rcases cond_true_of h with h | h
 ·exact .inl (.inl h)
 rcases cond_true_of h with h | h
 ·exact .inl (.inr (.inl h))
 rcases cond_true_of h with h | h
 ·exact .inl (.inr (.inr (.inl h)))
 rcases cond_true_of h with h | h
 ·exact .inl (.inr (.inr (.inr (.inl h))))
 rcases cond_true_of h with h | h
 ·exact .inl (.inr (.inr (.inr (.inr (.inl h)))))
 rcases cond_true_of h with h | h
 ·exact .inl (.inr (.inr (.inr (.inr (.inr (.inl h))))))
 rcases cond_true_of h with h | h
 ·exact .inl (.inr (.inr (.inr (.inr (.inr (.inr (.inl h)))))))
 rcases cond_true_of h with h | h
 ·exact .inl (.inr (.inr (.inr (.inr (.inr (.inr (.inr (.inl h))))))))
 rcases cond_true_of h with h | h
 ·exact .inl (.inr (.inr (.inr (.inr (.inr (.inr (.inr (.inr (.inl h)))))))))
 rcases cond_true_of h with h | h
 ·exact .inl (.inr (.inr (.inr (.inr (.inr (.inr (.inr (.inr (.inr (.inl h))))))))))
 rcases cond_true_of h with h | h
 ·exact .inl (.inr (.inr (.inr (.inr (.inr (.inr (.inr (.inr (.inr (.inr (.inl h)))))))))))
 rcases cond_true_of h with h | h
 ·exact .inl (.inr (.inr (.inr (.inr (.inr (.inr (.inr (.inr (.inr (.inr (.inr (.inl h))))))))))))
 rcases cond_true_of h with h | h
 ·exact .inl (.inr (.inr (.inr (.inr (.inr (.inr (.inr (.inr (.inr (.inr (.inr (.inr (.inl h)))))))))))))
 rcases cond_true_of h with h | h
 ·exact .inl (.inr (.inr (.inr (.inr (.inr (.inr (.inr (.inr (.inr (.inr (.inr (.inr (.inr (.inl h))))))))))))))
 rcases cond_true_of h with h | h
 ·exact .inl (.inr (.inr (.inr (.inr (.inr (.inr (.inr (.inr (.inr (.inr (.inr (.inr (.inr (.inr (.inl h)))))))))))))))
 rcases cond_true_of h with h | h
 ·exact .inl (.inr (.inr (.inr (.inr (.inr (.inr (.inr (.inr (.inr (.inr (.inr (.inr (.inr (.inr (.inr (.inl h))))))))))))))))
 rcases cond_true_of h with h | h
 ·exact .inl (.inr (.inr (.inr (.inr (.inr (.inr (.inr (.inr (.inr (.inr (.inr (.inr (.inr (.inr (.inr (.inr (h)))))))))))))))))
 exact .inr h
theorem low_use {T : Nat} (hT : Irr T) (h4 : T % 4 = 1) (hb : 166 < T) (h : Low T) : ∃ a, a < 1000 ∧ a ^ ((T - 1) / 2) % T = T - 1 := by
 unfold Low at h
 rcases h with h | h | h | h | h
 ·exact ⟨3, by omega, tab_use tab_3 hT h4 (by omega) (by omega) h⟩
 ·exact ⟨5, by omega, tab_use tab_5 hT h4 (by omega) (by omega) h⟩
 ·exact ⟨7, by omega, tab_use tab_7 hT h4 (by omega) (by omega) h⟩
 ·exact ⟨11, by omega, tab_use tab_11 hT h4 (by omega) (by omega) h⟩
 ·exact ⟨13, by omega, tab_use tab_13 hT h4 (by omega) (by omega) h⟩
theorem high_use {T : Nat} (hT : Irr T) (h4 : T % 4 = 1) (hb : 166 < T) (h : High T) : ∃ a, a < 1000 ∧ a ^ ((T - 1) / 2) % T = T - 1 := by
 unfold High at h
 rcases h with h | h | h | h | h | h | h | h | h | h | h | h | h | h | h | h | h
 ·exact ⟨17, by omega, tab_use tab_17 hT h4 (by omega) (by omega) h⟩
 ·exact ⟨19, by omega, tab_use tab_19 hT h4 (by omega) (by omega) h⟩
 ·exact ⟨23, by omega, tab_use tab_23 hT h4 (by omega) (by omega) h⟩
 ·exact ⟨29, by omega, tab_use tab_29 hT h4 (by omega) (by omega) h⟩
 ·exact ⟨31, by omega, tab_use tab_31 hT h4 (by omega) (by omega) h⟩
 ·exact ⟨37, by omega, tab_use tab_37 hT h4 (by omega) (by omega) h⟩
 ·exact ⟨41, by omega, tab_use tab_41 hT h4 (by omega) (by omega) h⟩
 ·exact ⟨43, by omega, tab_use tab_43 hT h4 (by omega) (by omega) h⟩
 ·exact ⟨47, by omega, tab_use tab_47 hT h4 (by omega) (by omega) h⟩
 ·exact ⟨53, by omega, tab_use tab_53 hT h4 (by omega) (by omega) h⟩
 ·exact ⟨59, by omega, tab_use tab_59 hT h4 (by omega) (by omega) h⟩
 ·exact ⟨61, by omega, tab_use tab_61 hT h4 (by omega) (by omega) h⟩
 ·exact ⟨67, by omega, tab_use tab_67 hT h4 (by omega) (by omega) h⟩
 ·exact ⟨71, by omega, tab_use tab_71 hT h4 (by omega) (by omega) h⟩
 ·exact ⟨73, by omega, tab_use tab_73 hT h4 (by omega) (by omega) h⟩
 ·exact ⟨79, by omega, tab_use tab_79 hT h4 (by omega) (by omega) h⟩
 ·exact ⟨83, by omega, tab_use tab_83 hT h4 (by omega) (by omega) h⟩
theorem sq_use {T : Nat} (hT : Irr T) (h : sqBQ T = true) : False := by
 have e : isq 15 0 T * isq 15 0 T = T := Nat.eq_of_beq_eq_true h
 generalize isq 15 0 T = s at e
 rcases hT.2 s ⟨s, e.symm⟩ with h1 | h1
 ·rw [h1] at e; have := hT.1; omega
 ·rw [h1] at e
  have h2 : T * 2 ≤ T * T := Nat.mul_le_mul_left T hT.1
  have := hT.1
  omega
noncomputable def svT (f : Nat) : Nat → Bool :=
 Nat.rec (motive := fun _ => Nat → Bool) (fun _ => true) (fun _ ih T => cond (accT T) (ih (Nat.add T (nat_lit 240240))) false) f
theorem svT_succ (f T : Nat) : svT (f + 1) T = cond (accT T) (svT f (T + 240240)) false := rfl
theorem svT_spec : ∀ {f T : Nat}, svT f T = true → ∀ i, i < f → accT (T + 240240 * i) = true
 | 0, T, _, i, hi => by omega
 | f + 1, T, h, i, hi => by
  rw [svT_succ] at h
  cases ho : accT T with
  | false => rw [ho] at h; cases h
  | true =>
   rw [ho, cond_true] at h
   rcases i with _ | i
   ·exact ho
   ·have := svT_spec h i (by omega)
    rw [show T + 240240 + 240240 * i = T + 240240 * (i + 1) by omega] at this
    exact this
noncomputable def svC (f : Nat) : Nat → Bool :=
 Nat.rec (motive := fun _ => Nat → Bool) (fun _ => true) (fun _ ih c => cond (cond (okC c) (svT (nat_lit 4470) c) true) (ih (Nat.add c (nat_lit 16))) false) f
theorem svC_succ (f c : Nat) : svC (f + 1) c = cond (cond (okC c) (svT 4470 c) true) (svC f (c + 16)) false := rfl
theorem svC_spec : ∀ {f c : Nat}, svC f c = true → ∀ i, i < f → cond (okC (c + 16 * i)) (svT 4470 (c + 16 * i)) true = true
 | 0, c, _, i, hi => by omega
 | f + 1, c, h, i, hi => by
  rw [svC_succ] at h
  cases ho : cond (okC c) (svT 4470 c) true with
  | false => rw [ho] at h; cases h
  | true =>
   rw [ho, cond_true] at h
   rcases i with _ | i
   ·exact ho
   ·have := svC_spec h i (by omega)
    rw [show c + 16 + 16 * i = c + 16 * (i + 1) by omega] at this
    exact this
theorem svC_0 : svC 2500 1 = true := by decide +kernel
theorem svC_1 : svC 2500 40001 = true := by decide +kernel
theorem svC_2 : svC 2500 80001 = true := by decide +kernel
theorem svC_3 : svC 2500 120001 = true := by decide +kernel
theorem svC_4 : svC 2500 160001 = true := by decide +kernel
theorem svC_5 : svC 2515 200001 = true := by decide +kernel
theorem sv_at {f c0 c : Nat} (h : svC f c0 = true) (h0 : c0 ≤ c) (h1 : c < c0 + 16 * f) (hm : c % 16 = c0 % 16) : cond (okC c) (svT 4470 c) true = true := by
 have := svC_spec h ((c - c0) / 16) (by omega)
 rwa [show c0 + 16 * ((c - c0) / 16) = c by omega] at this
theorem sv_all {c : Nat} (h : c < 240240) (h16 : c % 16 = 1) : cond (okC c) (svT 4470 c) true = true := by
 rcases Nat.lt_or_ge c 40001 with h | h
 ·exact sv_at svC_0 (by omega) (by omega) (by omega)
 rcases Nat.lt_or_ge c 80001 with h | h
 ·exact sv_at svC_1 (by omega) (by omega) (by omega)
 rcases Nat.lt_or_ge c 120001 with h | h
 ·exact sv_at svC_2 (by omega) (by omega) (by omega)
 rcases Nat.lt_or_ge c 160001 with h | h
 ·exact sv_at svC_3 (by omega) (by omega) (by omega)
 rcases Nat.lt_or_ge c 200001 with h | h
 ·exact sv_at svC_4 (by omega) (by omega) (by omega)
 rcases Nat.lt_or_ge c 240241 with h | h
 ·exact sv_at svC_5 (by omega) (by omega) (by omega)
 omega
theorem okC_mod (T : Nat) : okC (T % 240240) = okC T := by
 unfold okC
 rw [bit0_mod (m := 2) (show T % 240240 % 3 = T % 3 from Nat.mod_mod_of_dvd _ (by decide)), bit0_mod (m := 18) (show T % 240240 % 5 = T % 5 from Nat.mod_mod_of_dvd _ (by decide)), bit0_mod (m := 22) (show T % 240240 % 7 = T % 7 from Nat.mod_mod_of_dvd _ (by decide)), bit0_mod (m := 570) (show T % 240240 % 11 = T % 11 from Nat.mod_mod_of_dvd _ (by decide)), bit0_mod (m := 5658) (show T % 240240 % 13 = T % 13 from Nat.mod_mod_of_dvd _ (by decide))]
theorem small_irr {T : Nat} (hT : Irr T) (h16 : T % 16 = 1) (hs : T ≤ 166) : T = 17 ∨ T = 97 ∨ T = 113 := by
 have hd : ∀ t, t < 167 → t % 16 = 1 → t = 1 ∨ t = 17 ∨ t = 97 ∨ t = 113 ∨ ∃ d, d < 167 ∧ d ∣ t ∧ d ≠ 1 ∧ d ≠ t := by decide +kernel
 rcases hd T (by omega) h16 with h | h | h | h | ⟨d, _, h1, h2, h3⟩
 ·have := hT.1; omega
 ·exact .inl h
 ·exact .inr (.inl h)
 ·exact .inr (.inr h)
 ·rcases hT.2 d h1 with g | g
  ·exact absurd g h2
  ·exact absurd g h3
theorem least_no {T : Nat} (hT : Irr T) (h16 : T % 16 = 1) (h30 : T < 1073741824) : ∃ a, a < 1000 ∧ a ^ ((T - 1) / 2) % T = T - 1 := by
 rcases Nat.lt_or_ge 166 T with hb | hb
 ·cases ho : okC (T % 240240) with
  | false =>
   rw [okC_mod] at ho
   exact low_use hT (by omega) hb (okC_use ho)
  | true =>
   have h1 := sv_all (c := T % 240240) (Nat.mod_lt _ (by omega)) (by omega)
   rw [ho, cond_true] at h1
   have h2 := svT_spec h1 (T / 240240) (by omega)
   rw [show T % 240240 + 240240 * (T / 240240) = T by omega] at h2
   rcases accT_use h2 with h | h
   ·exact high_use hT (by omega) hb h
   ·exact (sq_use hT h).elim
 ·rcases small_irr hT h16 hb with rfl | rfl | rfl
  ·exact ⟨3, by omega, by decide⟩
  ·exact ⟨5, by omega, by decide +kernel⟩
  ·exact ⟨3, by omega, by decide +kernel⟩
theorem ctz_dvd : ∀ f x, 0 < x → x < 2 ^ f → 2 ^ ctzF f x ∣ x
 | 0, x, h0, h1 => by simp at h1; omega
 | f + 1, x, h0, h1 => by
  unfold ctzF
  rw [beq_iff]
  by_cases hx : x % 2 = 1
  ·rw [decide_eq_true hx, cond_true]; exact ⟨x, by rw [Nat.pow_zero, Nat.one_mul]⟩
  ·rw [decide_eq_false hx, cond_false]
   obtain ⟨k, hk⟩ := ctz_dvd f (x / 2) (by omega) (by rw [Nat.pow_succ] at h1; omega)
   refine ⟨k, ?_⟩
   rw [Nat.add_comm, Nat.pow_succ, Nat.mul_comm _ 2, Nat.mul_assoc, ← hk]
   omega
theorem ctz_pos {f x : Nat} (h0 : x % 2 = 0) : 1 ≤ ctzF (f + 1) x := by
 unfold ctzF
 rw [beq_iff, decide_eq_false (by omega), cond_false]
 omega
theorem hit_spec {n : Nat} : ∀ s x, hit n s x = true → x < n → ∃ i, i < s ∧ x ^ 2 ^ i % n + 1 = n
 | 0, x, h, _ => by cases h
 | s + 1, x, h, hx => by
  unfold hit at h
  rw [beq_iff] at h
  by_cases e : x + 1 = n
  ·exact ⟨0, by omega, by rw [Nat.pow_zero, Nat.pow_one, Nat.mod_eq_of_lt hx]; exact e⟩
  ·rw [decide_eq_false e, cond_false] at h
   obtain ⟨i, hi, h2⟩ := hit_spec s _ h (Nat.mod_lt _ (by omega))
   refine ⟨i + 1, by omega, ?_⟩
   rw [← Nat.pow_mod, ← Nat.pow_two, ← Nat.pow_mul] at h2
   rw [Nat.pow_succ, Nat.mul_comm]
   exact h2
theorem minus_sq {n y : Nat} (hn : 2 ≤ n) (h : y % n + 1 = n) : y ^ 2 % n = 1 := by
 rw [Nat.pow_mod, show y % n = n - 1 by omega]
 obtain ⟨k, rfl⟩ : ∃ k, n = k + 2 := ⟨n - 2, by omega⟩
 rw [show k + 2 - 1 = k + 1 by omega, show (k + 1) ^ 2 = 1 + (k + 2) * k by rw [Nat.pow_two, Nat.mul_succ, Nat.succ_mul, Nat.add_mul]; omega, Nat.add_mul_mod_self_left]
 exact Nat.mod_eq_of_lt (by omega)
theorem strong_half {n a : Nat} (hn : 3 ≤ n) (ho : n % 2 = 1) (h64 : n < 18446744073709551616) (h : strongS n a = true) : a ^ ((n - 1) / 2) % n = 1 ∨ a ^ ((n - 1) / 2) % n = n - 1 := by
 have hd := ctz_dvd 64 (n - 1) (by omega) (by omega)
 have hp : 1 ≤ tzS n := ctz_pos (by omega)
 have hs : (n - 1) = 2 ^ tzS n * oddS n := (Nat.mul_div_cancel' hd).symm
 obtain ⟨t, ht⟩ : ∃ t, tzS n = t + 1 := ⟨tzS n - 1, by omega⟩
 have hhalf : (n - 1) / 2 = oddS n * 2 ^ t := by
  rw [hs, ht, Nat.pow_succ, Nat.mul_comm (2 ^ t) 2, Nat.mul_assoc, Nat.mul_div_cancel_left _ (by omega), Nat.mul_comm]
 rw [hhalf, Nat.pow_mul]
 unfold strongS at h
 rw [beq_iff] at h
 by_cases h1 : a ^ oddS n % n = 1
 ·left
  rw [Nat.pow_mod, h1, Nat.one_pow]
  exact Nat.mod_eq_of_lt (by omega)
 ·rw [decide_eq_false h1, cond_false] at h
  obtain ⟨i, hi, h2⟩ := hit_spec _ _ h (Nat.mod_lt _ (by omega))
  rw [← Nat.pow_mod] at h2
  rw [ht] at hi
  rcases Nat.lt_or_ge i t with g | g
  ·left
   obtain ⟨k, hk⟩ : ∃ k, t = i + 1 + k := ⟨t - (i + 1), by omega⟩
   have h3 := minus_sq (by omega) h2
   rw [← Nat.pow_mul, ← Nat.pow_succ] at h3
   rw [hk, Nat.pow_add, Nat.pow_mul, Nat.pow_mod, h3, Nat.one_pow]
   exact Nat.mod_eq_of_lt (by omega)
  ·right
   rw [show t = i by omega]
   omega
theorem irr_of_least {T : Nat} (hT : 2 ≤ T) (h : ∀ p m, Irr p → T = p * m → p ≤ m → False) : Irr T := by
 obtain ⟨p, hp, ⟨m, hm⟩, hmin⟩ := least hT
 rcases Nat.lt_or_ge m 2 with g | g
 ·have : m = 1 := by
     rcases Nat.eq_zero_or_pos m with z | z
     ·rw [z, Nat.mul_zero] at hm; omega
     ·omega
  rw [this, Nat.mul_one] at hm
  rw [hm]; exact hp
 ·exact (h p m hp hm (hmin m g ⟨p, by rw [Nat.mul_comm]; exact hm⟩)).elim
theorem sq_below {T : Nat} (h16 : T % 16 = 1) (h30 : T < 1073741824) (hs : isS T = true) : ∃ x, x < 1000 ∧ x ^ ((T - 1) / 2) % T = T - 1 := by
 have h2 : 2 ≤ T := by
  rcases Nat.lt_or_ge T 2 with g | g
  ·unfold isS at hs
   rw [blt_iff, decide_eq_true g, cond_true] at hs
   cases hs
  ·exact g
 rcases Nat.lt_or_ge T 65536 with hb | hb
 ·rw [is_same] at hs
  unfold isR at hs
  rw [if_neg (by omega), if_pos hb] at hs
  have hs2 := (trialS_spec T).1 hs
  refine least_no (irr_of_least h2 fun p m hp hm hle => ?_) h16 h30
  have hpp : p * p ≤ T := by rw [hm]; exact Nat.mul_le_mul_left p hle
  have hlt : p < 256 := by
   rcases Nat.lt_or_ge p 256 with g | g
   ·exact g
   ·have := Nat.mul_le_mul g g
    omega
  exact hs2 p hlt hp.1 hpp (Nat.mod_eq_zero_of_dvd ⟨m, hm⟩)
 ·rw [great_same hb] at hs
  have hall : ∀ a ∈ L12, ¬ a ∣ T ∧ strongS T a = true := fun a ha => by
   have := List.all_eq_true.1 hs a ha
   rw [Bool.and_eq_true, beq_iff] at this
   exact ⟨fun hd => by simp [Nat.mod_eq_zero_of_dvd hd] at this, this.2⟩
  by_cases hx : ∃ a ∈ L12, a ^ ((T - 1) / 2) % T = T - 1
  ·obtain ⟨a, ha, h1⟩ := hx
   have h38 : ∀ a ∈ L12, a < 1000 := by decide
   exact ⟨a, h38 a ha, h1⟩
  ·have h1 : ∀ a ∈ L12, a ^ (T / 2) % T = 1 := fun a ha => by
      rw [show T / 2 = (T - 1) / 2 by omega]
      rcases strong_half (by omega) (by omega) (by omega) (hall a ha).2 with g | g
      ·exact g
      ·exact absurd ⟨a, ha, g⟩ hx
   refine least_no (irr_of_least h2 fun p m hp hm hle => ?_) h16 h30
   exact comp_none hp hm hle h30 h16 (fun a ha => (hall a ha).1) (fun a ha => (hall a ha).2) h1
end Go.Proofs.YtjikdbcjabopnaaGreatDoor
