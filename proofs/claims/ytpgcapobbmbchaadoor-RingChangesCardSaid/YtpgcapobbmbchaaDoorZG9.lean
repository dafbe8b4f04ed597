/-
  What the transforms of package ntt make, as functions of the lists and of the table alone, whatever the root is; that they go over sums.
-/
import Derived.Test.YtpgcapobbmbchaaDoorZG5
import Derived.Test.YtpgcapobbmbchaaDoorZG7
namespace Go.Proofs.YtpgcapobbmbchaaDoor
open Go.RowKit
set_option linter.unusedVariables false
set_option maxRecDepth 100000

/-- A list behind s joins. -/
def trF (q k : Nat) (b : Nat → Nat → Nat) (f : Nat → Nat) : Nat → Nat → Nat
  | 0, i => f (rev k i)
  | s + 1, i => joinF q (2 ^ s) (b s) (trF q k b f s) i
theorem trF_lt {q k n : Nat} {b : Nat → Nat → Nat} {f : Nat → Nat} (hq : 0 < q) (hnk : n = 2 ^ k) (h0 : 1 ≤ k) (h9 : k ≤ 9) (hf : ∀ i, i < n → f i < q) : ∀ s i, i < n → trF q k b f s i < q
  | 0, i, hi => by
    have := (rev_two h0 h9 (show i < 2 ^ k by rw [← hnk]; exact hi)).2
    rw [← hnk] at this
    exact hf _ this
  | s + 1, i, _ => joinF_lt hq i
def onF (k : Nat) (a : Nat → Nat) (s P : Nat) : Nat := a ((2 * P + 1) * 2 ^ (k - (s + 1)))
def baF (n k : Nat) (a : Nat → Nat) (s P : Nat) : Nat := a ((2 * n - 2 * P * 2 ^ (k - (s + 1))) % (2 * n))
set_option maxHeartbeats 2000000 in
theorem transform_onE (p n q k : Nat) (a e : Nat → Nat) (gp ge : Nat) (A : Option Addr) (cp : Nat) (f : Nat → Nat) (w : World) (hT : Tb w w.heap.size p n q a e gp ge) (hnk : Hid (n = 2 ^ k)) (hk0 : 1 ≤ k) (hk9 : k ≤ 9) (hq0 : 2 ≤ q) (hq1 : q ≤ 2305843009213693952) (hal : Hid (∀ i, i < 2 * n → a i < q)) (hX : FX w A n cp f) (hf : Hid (∀ i, i < n → f i < q)) :
    Calls Tryd.prog 158 #[.pointer (some ⟨p, 0, none⟩), .slice A n cp, .func (.func 159) #[.pointer (some ⟨p, 0, none⟩)] #[]] w fun ee w' => ee = .returned (.slice (some ⟨w.heap.size, 0, none⟩) n n) ∧ UW w' w.heap.size n (trF q k (onF k a) f k) ∧ Ext w w' := by
  have HT := Lib.hid hT
  have hp := hT.hp
  have t0 := hT.size
  have hn2 := two_le hk0 hk9
  rw [← hnk.out] at hn2
  obtain ⟨hn0, hn1⟩ := hn2
  have HL := Lib.hid (fun s => trF_lt (b := onF k a) (show 0 < q by omega) hnk.out hk0 hk9 hf.out s)
  clear hT
  obtain ⟨b, hb⟩ : ∃ b, b = onF k a := ⟨_, rfl⟩
  have HB := Lib.hid hb
  rw [← hb] at HL ⊢
  clear hb
  go_enter Tryd.func158, Tryd.ntmps158
  go_wp2_with fail
  refine (scattered_any A n cp k f w hX hnk hk0 hk9).mono ?_
  rintro ee w1 ⟨rfl, hu, k1⟩
  go_wp2_with fail
  go_loopw [8] (fun i wr => ∃ s : Nat, s ≤ k ∧ i = .int .i64 ((2 ^ s : Nat) : Int) ∧ UW wr w.heap.size n (trF q k b f s) ∧ Ext w wr) (fun i _ => n - (intOf i).toNat)
  case atStart => exact ⟨0, by omega, rfl, hu, k1⟩
  case round =>
    obtain ⟨s, hs, rfl, hu2, kr⟩ := hrel
    clear hu k1
    have p0 := cell_ext kr t0
    have hsz := RW.lt hu2
    have hh0 := Nat.two_pow_pos s
    by_cases hlt : s < k
    · have HK := Lib.hid (pow_split hnk.out hlt)
      have hhn : 2 ^ s < n := by rw [hnk.out]; exact Nat.pow_lt_pow_right (by omega) hlt
      have HP := Lib.hid (show 2 ^ (s + 1) = 2 ^ s * 2 by rw [Nat.pow_succ])
      have e1 : k - s - 1 = k - (s + 1) := by omega
      rw [e1] at HK
      clear e1
      have HNX := Lib.hid (show ∀ i, joinF q (2 ^ s) (fun P => a ((2 * P + 1) * 2 ^ (k - (s + 1)))) (trF q k b f s) i = trF q k b f (s + 1) i from fun i => by rw [HB.out]; rfl)
      have HLs := Lib.hid (HL.out s)
      generalize 2 ^ (k - (s + 1)) = K at *
      generalize 2 ^ s = hf2 at *
      go_wp2_with fail
      refine (join_on w.heap.size p n q hf2 K a e gp ge w.heap.size _ wr (HT.out.below kr) hu2 (by omega) (Nat.le_refl _) HK hh0 (by omega) (by omega) (by omega) hq1 HLs hal).mono ?_
      rintro ee w2 ⟨rfl, hu3, k3⟩
      have hu4 := hu3.congr (f' := trF q k b f (s + 1)) fun i _ => HNX.out i
      clear hu3
      go_wp2
      refine ⟨⟨s + 1, by omega, ?_, hu4, Below.trans kr k3⟩, ?_⟩
      · rw [HP.out]; go_num
      · simp [intOf]; omega
    · obtain rfl : s = k := by omega
      have hge : ((2 ^ s : Nat) : Int) = (n : Int) := by rw [hnk.out]
      rw [hge]
      clear hge
      go_wp2
      go_ret
      exact ⟨rfl, hu2, kr⟩
set_option maxHeartbeats 2000000 in
theorem transform_backE (p n q k : Nat) (a e : Nat → Nat) (gp ge : Nat) (A : Option Addr) (cp : Nat) (f : Nat → Nat) (w : World) (hT : Tb w w.heap.size p n q a e gp ge) (hnk : Hid (n = 2 ^ k)) (hk0 : 1 ≤ k) (hk9 : k ≤ 9) (hq0 : 2 ≤ q) (hq1 : q ≤ 2305843009213693952) (hal : Hid (∀ i, i < 2 * n → a i < q)) (hX : FX w A n cp f) (hf : Hid (∀ i, i < n → f i < q)) :
    Calls Tryd.prog 158 #[.pointer (some ⟨p, 0, none⟩), .slice A n cp, .func (.func 160) #[.pointer (some ⟨p, 0, none⟩)] #[]] w fun ee w' => ee = .returned (.slice (some ⟨w.heap.size, 0, none⟩) n n) ∧ UW w' w.heap.size n (trF q k (baF n k a) f k) ∧ Ext w w' := by
  have HT := Lib.hid hT
  have hp := hT.hp
  have t0 := hT.size
  have hn2 := two_le hk0 hk9
  rw [← hnk.out] at hn2
  obtain ⟨hn0, hn1⟩ := hn2
  have HL := Lib.hid (fun s => trF_lt (b := baF n k a) (show 0 < q by omega) hnk.out hk0 hk9 hf.out s)
  clear hT
  obtain ⟨b, hb⟩ : ∃ b, b = baF n k a := ⟨_, rfl⟩
  have HB := Lib.hid hb
  rw [← hb] at HL ⊢
  clear hb
  go_enter Tryd.func158, Tryd.ntmps158
  go_wp2_with fail
  refine (scattered_any A n cp k f w hX hnk hk0 hk9).mono ?_
  rintro ee w1 ⟨rfl, hu, k1⟩
  go_wp2_with fail
  go_loopw [8] (fun i wr => ∃ s : Nat, s ≤ k ∧ i = .int .i64 ((2 ^ s : Nat) : Int) ∧ UW wr w.heap.size n (trF q k b f s) ∧ Ext w wr) (fun i _ => n - (intOf i).toNat)
  case atStart => exact ⟨0, by omega, rfl, hu, k1⟩
  case round =>
    obtain ⟨s, hs, rfl, hu2, kr⟩ := hrel
    clear hu k1
    have p0 := cell_ext kr t0
    have hsz := RW.lt hu2
    have hh0 := Nat.two_pow_pos s
    by_cases hlt : s < k
    · have HK := Lib.hid (pow_split hnk.out hlt)
      have hhn : 2 ^ s < n := by rw [hnk.out]; exact Nat.pow_lt_pow_right (by omega) hlt
      have HP := Lib.hid (show 2 ^ (s + 1) = 2 ^ s * 2 by rw [Nat.pow_succ])
      have e1 : k - s - 1 = k - (s + 1) := by omega
      rw [e1] at HK
      clear e1
      have HNX := Lib.hid (show ∀ i, joinF q (2 ^ s) (fun P => a ((2 * n - 2 * P * 2 ^ (k - (s + 1))) % (2 * n))) (trF q k b f s) i = trF q k b f (s + 1) i from fun i => by rw [HB.out]; rfl)
      have HLs := Lib.hid (HL.out s)
      generalize 2 ^ (k - (s + 1)) = K at *
      generalize 2 ^ s = hf2 at *
      go_wp2_with fail
      refine (join_back w.heap.size p n q hf2 K a e gp ge w.heap.size _ wr (HT.out.below kr) hu2 (by omega) (Nat.le_refl _) HK hh0 (by omega) (by omega) (by omega) hq1 HLs hal).mono ?_
      rintro ee w2 ⟨rfl, hu3, k3⟩
      have hu4 := hu3.congr (f' := trF q k b f (s + 1)) fun i _ => HNX.out i
      clear hu3
      go_wp2
      refine ⟨⟨s + 1, by omega, ?_, hu4, Below.trans kr k3⟩, ?_⟩
      · rw [HP.out]; go_num
      · simp [intOf]; omega
    · obtain rfl : s = k := by omega
      have hge : ((2 ^ s : Nat) : Int) = (n : Int) := by rw [hnk.out]
      rw [hge]
      clear hge
      go_wp2
      go_ret
      exact ⟨rfl, hu2, kr⟩
theorem values_E (p n q k : Nat) (a e : Nat → Nat) (gp ge : Nat) (A : Option Addr) (cp : Nat) (f : Nat → Nat) (w : World) (hT : Tb w w.heap.size p n q a e gp ge) (hnk : Hid (n = 2 ^ k)) (hk0 : 1 ≤ k) (hk9 : k ≤ 9) (hq0 : 2 ≤ q) (hq1 : q ≤ 2305843009213693952) (hal : Hid (∀ i, i < 2 * n → a i < q)) (hX : FX w A n cp f) (hf : Hid (∀ i, i < n → f i < q)) :
    Calls Tryd.prog 142 #[.pointer (some ⟨p, 0, none⟩), .slice A n cp] w fun ee w' => ee = .returned (.slice (some ⟨w.heap.size, 0, none⟩) n n) ∧ UW w' w.heap.size n (trF q k (onF k a) f k) ∧ Ext w w' := by
  have HT := Lib.hid hT
  clear hT
  go_enter Tryd.func142, Tryd.ntmps142
  go_wp2_with fail
  refine (transform_onE p n q k a e gp ge A cp f w HT.out hnk hk0 hk9 hq0 hq1 hal hX hf).mono ?_
  rintro ee w1 ⟨rfl, hu, k1⟩
  go_wp2
  go_ret
  exact ⟨rfl, hu, k1⟩
set_option maxHeartbeats 2000000 in
theorem coefficients_E (p n q k : Nat) (a e : Nat → Nat) (gp ge : Nat) (A : Option Addr) (cp : Nat) (f : Nat → Nat) (w : World) (hT : Tb w w.heap.size p n q a e gp ge) (hnk : Hid (n = 2 ^ k)) (hk0 : 1 ≤ k) (hk9 : k ≤ 9) (hq0 : 2 ≤ q) (hq1 : q ≤ 2305843009213693952) (hal : Hid (∀ i, i < 2 * n → a i < q)) (hel_ : Hid (∀ i, i < n → e i < q)) (hX : FX w A n cp f) (hf : Hid (∀ i, i < n → f i < q)) :
    Calls Tryd.prog 143 #[.pointer (some ⟨p, 0, none⟩), .slice A n cp] w fun ee w' => ee = .returned (.slice (some ⟨w.heap.size, 0, none⟩) n n) ∧ UW w' w.heap.size n (fun i => trF q k (baF n k a) f k i * e i % q) ∧ Ext w w' := by
  have HT := Lib.hid hT
  have t1 := hT.prime
  have t3 := hT.ends
  have hp := hT.hp
  have hge := hT.hge
  have hn2 := two_le hk0 hk9
  rw [← hnk.out] at hn2
  obtain ⟨hn0, hn1⟩ := hn2
  clear hT
  go_enter Tryd.func143, Tryd.ntmps143
  go_wp2_with fail
  refine (transform_backE p n q k a e gp ge A cp f w HT.out hnk hk0 hk9 hq0 hq1 hal hX hf).mono ?_
  rintro ee w1 ⟨rfl, hu, k1⟩
  have HFL := Lib.hid (trF_lt (b := baF n k a) (show 0 < q by omega) hnk.out hk0 hk9 hf.out k)
  obtain ⟨F, hFd⟩ : ∃ F, F = trF q k (baF n k a) f k := ⟨_, rfl⟩
  rw [← hFd] at hu HFL
  have HFD := Lib.hid hFd
  clear hFd
  have t3' := cell_ext k1 t3
  go_wp2_with fail
  clear t3'
  go_loopw [18] (fun i wr => ∃ m : Nat, m ≤ n ∧ i = .int .i64 (m : Int) ∧ UW wr w.heap.size n (fun i => if i < m then F i * e i % q else F i) ∧ Ext w wr) (fun i _ => n - (intOf i).toNat)
  case atStart => exact ⟨0, by omega, rfl, hu.congr fun i _ => by rw [if_neg (by omega)], k1⟩
  case round =>
    obtain ⟨m, hm, rfl, hu2, kr⟩ := hrel
    clear hu
    have hsz := RW.lt hu2
    by_cases hlt : m < n
    · have hen := HT.out.en
      have c0 := cell_ext kr (hen.by_ hlt)
      have c1 := cell_ext kr (hen.share hlt)
      have t1' := cell_ext kr t1
      have f0 := RW.cell hu2 hlt
      have z0 := RW.frozen hu2 m
      have hFl := HFL.out m hlt
      have hel := hel_.out m hlt
      simp only [Nat.lt_irrefl, if_false] at f0
      have HS := Lib.hid (show ∀ i, i < n → (if i = m then F m * e m % q else if i < m then F i * e i % q else F i) = if i < m + 1 then F i * e i % q else F i from fun i _ => by
        by_cases h1 : i = m
        · subst h1; rw [if_pos rfl, if_pos (by omega)]
        · rw [if_neg h1]
          by_cases h2 : i < m
          · rw [if_pos h2, if_pos (by omega)]
          · rw [if_neg h2, if_neg (by omega)])
      generalize F m = Fm at *
      generalize e m = em at *
      have i0 : (0 : Int) ≤ (m : Int) := by omega
      have i1 : (m : Int) < (n : Int) := by omega
      clear hen
      go_wp2_with fail
      have kV : Ext wr (wr.alloc (Obj.cells #[Value.int IntKind.u64 (em : Int), Value.int IntKind.u64 (shr em q : Int)] 147)) := (Ext.refl wr).alloc _
      have x0 : (wr.alloc (Obj.cells #[Value.int IntKind.u64 (em : Int), Value.int IntKind.u64 (shr em q : Int)] 147)).cell? ⟨wr.heap.size, 0, none⟩ = some (.int .u64 (em : Int)) := by simp
      have x1 : (wr.alloc (Obj.cells #[Value.int IntKind.u64 (em : Int), Value.int IntKind.u64 (shr em q : Int)] 147)).cell? ⟨wr.heap.size, 1, none⟩ = some (.int .u64 (shr em q : Int)) := by simp
      generalize wr.alloc (Obj.cells #[Value.int IntKind.u64 (em : Int), Value.int IntKind.u64 (shr em q : Int)] 147) = V at *
      have v0 := cell_ext kV f0
      have v1 := cell_ext kV t1'
      have zV := kept_free kV hsz z0
      have huV := hu2.below (B := 0) kV
      have krV := kr.trans kV
      obtain ⟨X, hX0⟩ : ∃ X, X = wr.heap.size := ⟨_, rfl⟩
      rw [← hX0] at x0 x1 hsz ⊢
      have hXg : X ≠ w.heap.size := by omega
      have hpg : p ≠ w.heap.size := by omega
      clear hX0 f0 z0 t1' c0 c1 kr hu2 kV
      go_region_law (first
          | (go_simp; go_at_call 161; refine (times_m Fm em q _ (by omega) hq1 hel (by omega)).mono ?_; rintro e2 w3 ⟨y, HM, hlm, rfl, k3⟩; have k3' := (Ext.refl _).drew.trans k3; have d0 := cell_ext k3' v0; have z3 := kept_free k3' (RW.lt huV) zV)
          | fail)
      all_goals
        have hu4 := (UW.below (B := 0) huV k3').set hlt y
        have kr4 := (krV.trans k3').set (p := ⟨w.heap.size, m, none⟩) (Nat.le_refl _) (.int .u64 (y : Int))
        have hu5 := hu4.congr (f' := fun i => if i < m + 1 then F i * e i % q else F i) fun i hi => by rw [HM.out]; exact HS.out i hi
        clear hu4 huV
        go_wp2
        exact ⟨⟨m + 1, by omega, by go_num, hu5, kr4⟩, by simp [intOf]; omega⟩
    · obtain rfl : m = n := by omega
      have hfin := hu2.congr (f' := fun i => F i * e i % q) fun i hi => by rw [if_pos hi]
      clear hu2
      go_wp2
      go_ret
      exact ⟨rfl, by rw [← HFD.out]; exact hfin, kr⟩
/-- What Mul makes. -/
def mulF (n q k : Nat) (a e f f' : Nat → Nat) (i : Nat) : Nat := trF q k (baF n k a) (fun j => trF q k (onF k a) f k j * trF q k (onF k a) f' k j % q) k i * e i % q
set_option maxHeartbeats 4000000 in
theorem mulE_any (p n q k : Nat) (a e : Nat → Nat) (gp ge : Nat) (A A' : Option Addr) (c c' : Nat) (f f' : Nat → Nat) (w : World) (hT : Tb w w.heap.size p n q a e gp ge) (hnk : Hid (n = 2 ^ k)) (hk0 : 1 ≤ k) (hk9 : k ≤ 9) (hq0 : 2 ≤ q) (hq1 : q ≤ 2305843009213693952) (hal : Hid (∀ i, i < 2 * n → a i < q)) (hel_ : Hid (∀ i, i < n → e i < q)) (hX : FX w A n c f) (hf : Hid (∀ i, i < n → f i < q)) (hX' : FX w A' n c' f') (hf' : Hid (∀ i, i < n → f' i < q)) :
    Calls Tryd.prog 114 #[.pointer (some ⟨p, 0, none⟩), .slice A n c, .slice A' n c'] w fun ee w' => ∃ g : Nat, ee = .returned (.tuple #[.slice (some ⟨g, 0, none⟩) n n, .int .i64 0]) ∧ UW w' g n (mulF n q k a e f f') ∧ Ext w w' := by
  unfold mulF
  have hn2 := two_le hk0 hk9
  rw [← hnk.out] at hn2
  obtain ⟨hn0, hn1⟩ := hn2
  have HT := Lib.hid hT
  have HX := Lib.hid hX
  have HX' := Lib.hid hX'
  have H1 := Lib.hid (two_lists hX hf.out hX' hf'.out)
  clear hT hX hX'
  go_enter Tryd.func114, Tryd.ntmps114
  go_wp2_with fail
  have kV : Ext w (w.alloc (.cells #[.slice A n c, .slice A' n c'] 22)) := (Ext.refl w).alloc _
  refine (check_yes _ p n q w.heap.size 2 a e gp ge (fun j => if j = 0 then A else A') (fun j => if j = 0 then c else c') (fun j => if j = 0 then f else f') _ (HT.out.ext kV) (by omega) (by omega) (by omega) (by omega) H1).mono ?_
  rintro ee w' ⟨rfl, rfl⟩
  clear H1
  go_wp2_with fail
  refine (values_E p n q k a e gp ge A c f _ (HT.out.ext kV) hnk hk0 hk9 hq0 hq1 hal (HX.out.ext kV) hf).mono ?_
  rintro ee w2 ⟨rfl, hu, k2⟩
  have HF := Lib.hid (trF_lt (b := onF k a) (show 0 < q by omega) hnk.out hk0 hk9 hf.out k)
  obtain ⟨F, hFd⟩ : ∃ F, F = trF q k (onF k a) f k := ⟨_, rfl⟩
  rw [← hFd] at hu HF
  have HFD := Lib.hid hFd
  clear hFd
  rw [show (w.alloc (.cells #[.slice A n c, .slice A' n c'] 22)).heap.size = w.heap.size + 1 by simp] at hu
  have kw2 := kV.trans k2
  clear kV k2
  go_wp2_with fail
  refine (values_E p n q k a e gp ge A' c' f' _ (HT.out.ext kw2) hnk hk0 hk9 hq0 hq1 hal (HX'.out.ext kw2) hf').mono ?_
  rintro ee w3 ⟨rfl, hv, k3⟩
  have HG := Lib.hid (trF_lt (b := onF k a) (show 0 < q by omega) hnk.out hk0 hk9 hf'.out k)
  obtain ⟨G, hGd⟩ : ∃ G, G = trF q k (onF k a) f' k := ⟨_, rfl⟩
  rw [← hGd] at hv HG
  have HGD := Lib.hid hGd
  clear hGd
  have hgs := RW.lt hu
  have hu3 := hu.below (B := 0) k3
  have kw3 := kw2.trans k3
  have hvs := RW.lt hv
  have hne : w2.heap.size ≠ w.heap.size + 1 := by omega
  clear hu kw2 k3
  obtain ⟨g1, hg1⟩ : ∃ g1, g1 = w.heap.size + 1 := ⟨_, rfl⟩
  obtain ⟨g2, hg2⟩ : ∃ g2, g2 = w2.heap.size := ⟨_, rfl⟩
  rw [← hg1] at hu3 hgs hne ⊢
  rw [← hg2] at hv hvs hne hgs ⊢
  have hg1w : w.heap.size ≤ g1 := by omega
  have hg2w : w.heap.size ≤ g2 := by omega
  clear hg1 hg2
  go_wp2_with fail
  go_loopw [27] (fun i wr => ∃ m : Nat, m ≤ n ∧ i = .int .i64 (m : Int) ∧ UW wr g1 n (fun i => if i < m then F i * G i % q else F i) ∧ UW wr g2 n G ∧ Ext w wr) (fun i _ => n - (intOf i).toNat)
  case atStart => exact ⟨0, by omega, rfl, hu3.congr fun i _ => by rw [if_neg (by omega)], hv, kw3⟩
  case round =>
    obtain ⟨m, hm, rfl, hu4, hv4, kr⟩ := hrel
    clear hu3 hv kw3
    have hsz := RW.lt hu4
    by_cases hlt : m < n
    · have t1 := (HT.out.ext kr).prime
      have hp := (HT.out).hp
      have hp2 := kr.size
      have f0 := RW.cell hu4 hlt
      have z0 := RW.frozen hu4 m
      have e0 := RW.cell hv4 hlt
      have hFl := HF.out m hlt
      have hGl := HG.out m hlt
      simp only [Nat.lt_irrefl, if_false] at f0
      have HS := Lib.hid (show ∀ i, i < n → (if i = m then F m * G m % q else if i < m then F i * G i % q else F i) = if i < m + 1 then F i * G i % q else F i from fun i _ => by
        by_cases h1 : i = m
        · subst h1; rw [if_pos rfl, if_pos (by omega)]
        · rw [if_neg h1]
          by_cases h2 : i < m
          · rw [if_pos h2, if_pos (by omega)]
          · rw [if_neg h2, if_neg (by omega)])
      generalize F m = Fm at *
      generalize G m = Gm at *
      have i0 : (0 : Int) ≤ (m : Int) := by omega
      have i1 : (m : Int) < (n : Int) := by omega
      have hpg : p ≠ g1 := by omega
      go_wp2_with fail
      go_region_law (first
          | (go_simp; go_at_call 139; refine (mul_m Fm Gm q _ (by omega) hq1 hGl hFl).mono ?_; rintro e2 w5 ⟨y, HM, hlm, rfl, k5⟩; have k5' := (Ext.refl _).drew.trans k5; have d0 := cell_ext k5' f0; have z3 := kept_free k5' hsz z0)
          | fail)
      all_goals
        have hu5 := (UW.below (B := 0) hu4 k5').set hlt y
        have hv5 := UW.below (B := 0) hv4 k5'
        have hv6 : UW (w5.setCell ⟨g1, m, none⟩ (.int .u64 (y : Int))) g2 n G := RW.keep hv5 (Below.heap_setCell _ _ _ _ (fun e => hne e))
        have kr5 := (kr.trans k5').set (p := ⟨g1, m, none⟩) hg1w (.int .u64 (y : Int))
        have hu6 := hu5.congr (f' := fun i => if i < m + 1 then F i * G i % q else F i) fun i hi => by rw [HM.out]; exact HS.out i hi
        clear hu5 hu4 hv4 hv5
        go_wp2
        exact ⟨⟨m + 1, by omega, by go_num, hu6, hv6, kr5⟩, by simp [intOf]; omega⟩
    · obtain rfl : m = n := by omega
      have hfin := hu4.congr (f' := fun i => F i * G i % q) fun i hi => by rw [if_pos hi]
      have HL := Lib.hid (show ∀ i, i < m → F i * G i % q < q from fun i _ => Nat.mod_lt _ (by omega))
      clear hu4 hv4
      go_wp2_with fail
      refine (coefficients_E p m q k a e gp ge (some ⟨g1, 0, none⟩) m _ _ (HT.out.ext kr) hnk hk0 hk9 hq0 hq1 hal hel_ hfin.fx HL).mono ?_
      rintro ee w6 ⟨rfl, hr6, k6⟩
      go_wp2
      go_ret2
      exact ⟨_, rfl, by rw [← HFD.out, ← HGD.out]; exact hr6, kr.trans k6⟩
/-- Naturals below q that are alike modulo q. -/
theorem lin_join {q : Nat} (hq : 0 < q) (h : Nat) (b F G H : Nat → Nat) (hH : ∀ i, H i = (F i + G i) % q) (i : Nat) : joinF q h b H i = (joinF q h b F i + joinF q h b G i) % q := by
  have hs : ∀ i, M (q : Int) (H i : Int) ((F i : Int) + (G i : Int)) := fun i => by
    rw [hH]; exact (M.nat _).trans (M.of (Int.natCast_add _ _))
  have hm : ∀ (X : Nat → Nat) i c, M (q : Int) ((X i * c % q : Nat) : Int) ((X i : Int) * (c : Int)) := fun X i c => (M.nat _).trans (M.of (Int.natCast_mul _ _))
  refine M.lt (q := q) ?_ (joinF_lt hq i) (Nat.mod_lt _ hq)
  refine M.trans ?_ ((M.nat _).trans (M.of (Int.natCast_add _ _))).symm
  unfold joinF
  by_cases hlt : i % (2 * h) < h
  · simp only [if_pos hlt]
    have one : ∀ X : Nat → Nat, M (q : Int) (((X i + X (i + h) * b (i % (2 * h)) % q) % q : Nat) : Int) ((X i : Int) + (X (i + h) : Int) * (b (i % (2 * h)) : Int)) := fun X => (M.nat _).trans ((M.of (Int.natCast_add _ _)).trans (M.rfl.add (hm X _ _)))
    refine (one H).trans (M.trans ?_ ((one F).add (one G)).symm)
    refine ((hs i).add ((hs (i + h)).mul M.rfl)).trans (M.of ?_)
    rw [Int.add_mul]; omega
  · simp only [if_neg hlt]
    have one : ∀ X : Nat → Nat, M (q : Int) ((dif (X (i - h)) (X i * b (i % (2 * h) - h) % q) q : Nat) : Int) ((X (i - h) : Int) - (X i : Int) * (b (i % (2 * h) - h) : Int)) := fun X => (M.dif (Nat.mod_lt _ hq)).trans (M.rfl.sub (hm X _ _))
    refine (one H).trans (M.trans ?_ ((one F).add (one G)).symm)
    refine ((hs (i - h)).sub ((hs i).mul M.rfl)).trans (M.of ?_)
    rw [Int.add_mul]; omega
theorem lin_tr {q k : Nat} (hq : 0 < q) (b : Nat → Nat → Nat) (f g : Nat → Nat) : ∀ s i, trF q k b (fun i => (f i + g i) % q) s i = (trF q k b f s i + trF q k b g s i) % q
  | 0, i => rfl
  | s + 1, i => lin_join hq _ _ _ _ _ (lin_tr hq b f g s) i
theorem mulF_comm (n q k : Nat) (a e f f' : Nat → Nat) : mulF n q k a e f f' = mulF n q k a e f' f := by
  funext i
  unfold mulF
  rw [show (fun j => trF q k (onF k a) f k j * trF q k (onF k a) f' k j % q) = (fun j => trF q k (onF k a) f' k j * trF q k (onF k a) f k j % q) from funext fun j => by rw [Nat.mul_comm]]
theorem mul_over {q : Nat} (x y z : Nat) : x * ((y + z) % q) % q = (x * y % q + x * z % q) % q := by
  rw [Nat.mul_mod, Nat.mod_mod, ← Nat.mul_mod, Nat.mul_add, Nat.add_mod]
theorem mulF_over {n q k : Nat} (hq : 0 < q) (a e f f' : Nat → Nat) : mulF n q k a e f (fun i => (f i + f' i) % q) = fun i => (mulF n q k a e f f i + mulF n q k a e f f' i) % q := by
  funext i
  unfold mulF
  rw [show (fun j => trF q k (onF k a) f k j * trF q k (onF k a) (fun i => (f i + f' i) % q) k j % q) = (fun j => (trF q k (onF k a) f k j * trF q k (onF k a) f k j % q + trF q k (onF k a) f k j * trF q k (onF k a) f' k j % q) % q) from funext fun j => by rw [lin_tr hq, mul_over]]
  rw [lin_tr hq, Nat.mul_comm, mul_over, Nat.mul_comm (e i), Nat.mul_comm (e i)]
theorem mulF_lt {n q k : Nat} (hq : 0 < q) (a e f f' : Nat → Nat) (i : Nat) : mulF n q k a e f f' i < q := Nat.mod_lt _ hq
end Go.Proofs.YtpgcapobbmbchaaDoor

/-
  What Mul of package ring makes, as a function of the lists and of the tables alone.
-/
namespace Go.Proofs.YtpgcapobbmbchaaDoor
open Go.RowKit
set_option linter.unusedVariables false
set_option maxRecDepth 100000

theorem productE_any (p n q k : Nat) (a e : Nat → Nat) (A A' : Option Addr) (c c' : Nat) (f f' : Nat → Nat) (w : World) (hT : Tab w p n q a e) (hk : Hid (1 ≤ k ∧ k ≤ 9 ∧ n = 2 ^ k)) (hX : FX w A n c f) (hX' : FX w A' n c' f') (hf : Hid (∀ i, i < n → f i < q)) (hf' : Hid (∀ i, i < n → f' i < q)) :
    Calls Tryd.prog 70 #[.agg #[.int .u64 (q : Int), .pointer (some ⟨p, 0, none⟩)], .slice A n c, .slice A' n c'] w fun ee w' => ∃ g : Nat, ee = .returned (.slice (some ⟨g, 0, none⟩) n n) ∧ UW w' g n (mulF n q k a e f f') ∧ Ext w w' := by
  have kV : Ext w (w.alloc (.cells #[.int .u64 (q : Int), .pointer (some ⟨p, 0, none⟩)] 93)) := (Ext.refl w).alloc _
  have HX := Lib.hid (hX.ext kV)
  have HX' := Lib.hid (hX'.ext kV)
  obtain ⟨gp, ge, ht⟩ := (hT.ext kV).tb
  have HT := Lib.hid ht
  have HA := Lib.hid hT.al
  have HE := Lib.hid hT.el
  have hq0 := hT.q0
  have hq1 := hT.q1
  clear hX hX' hT ht
  go_enter Tryd.func70, Tryd.ntmps70
  go_wp2_with fail
  refine (mulE_any p n q k a e gp ge A A' c c' f f' _ HT.out (Lib.hid hk.out.2.2) hk.out.1 hk.out.2.1 hq0 (by omega) HA HE HX.out hf HX'.out hf').mono ?_
  rintro ee w2 ⟨g, rfl, hu, k2⟩
  go_wp2
  go_ret
  exact ⟨g, rfl, hu, kV.trans k2⟩
set_option maxHeartbeats 4000000 in
theorem prodE2_any (b7 b5 b6 n q p L c L' c' cj cj' j : Nat) (A A' Aj Aj' : Option Addr) (f f' : Nat → Nat) (k : Nat) (a e : Nat → Nat) (w : World) (h7 : w.cell? ⟨b7, 0, none⟩ = some (.func (.func 70) #[] #[])) (h5 : w.cell? ⟨b5, 0, none⟩ = some (.slice A L c)) (h6 : w.cell? ⟨b6, 0, none⟩ = some (.slice A' L' c')) (hj : j < L) (hj' : j < L') (hA : ∃ ad, A = some ad ∧ w.cell? (ad.add j) = some (.slice Aj n cj)) (hA' : ∃ ad, A' = some ad ∧ w.cell? (ad.add j) = some (.slice Aj' n cj')) (hX : FX w Aj n cj f) (hX' : FX w Aj' n cj' f') (hn0 : 2 ≤ n) (hn : n ≤ 32) (hL : L ≤ 1000000) (hL' : L' ≤ 1000000) (hq0 : 0 < q) (hq : q < 18446744073709551616) (hf : Hid (∀ i, i < n → f i < q)) (hf' : Hid (∀ i, i < n → f' i < q)) (hT : Tab w p n q a e) (hk : Hid (1 ≤ k ∧ k ≤ 9 ∧ n = 2 ^ k)) :
    Calls Tryd.prog 110 (#[.agg #[.int .u64 (q : Int), .pointer (some ⟨p, 0, none⟩)], .int .i64 (j : Int)] ++ #[.pointer (some ⟨b7, 0, none⟩), .pointer (some ⟨b5, 0, none⟩), .pointer (some ⟨b6, 0, none⟩)]) w fun ee w' => ∃ (A2 : Option Addr) (c2 : Nat) (F : Nat → Nat), ee = .returned (.slice A2 n c2) ∧ FX w' A2 n c2 F ∧ Hid (F = mulF n q k a e f f') ∧ Ext w w' := by
  have kV : Ext w (w.alloc (.cells #[.int .u64 (q : Int), .pointer (some ⟨p, 0, none⟩)] 93)) := (Ext.refl w).alloc _
  have HX := Lib.hid (hX.ext kV)
  have HX' := Lib.hid (hX'.ext kV)
  have x7 := cell_ext kV h7
  have x5 := cell_ext kV h5
  have x6 := cell_ext kV h6
  obtain ⟨ad, rfl, hc⟩ := hA
  obtain ⟨ad', rfl, hc'⟩ := hA'
  have xj := cell_ext kV hc
  have xj' := cell_ext kV hc'
  have hb7 : b7 < w.heap.size := World.block_lt_of_cell? _ _ h7
  have hb5 : b5 < w.heap.size := World.block_lt_of_cell? _ _ h5
  have hb6 : b6 < w.heap.size := World.block_lt_of_cell? _ _ h6
  have HT := Lib.hid (hT.ext kV)
  clear hX hX' hT
  rw [show (#[Value.agg #[.int .u64 (q : Int), .pointer (some ⟨p, 0, none⟩)], .int .i64 (j : Int)] ++ #[.pointer (some ⟨b7, 0, none⟩), .pointer (some ⟨b5, 0, none⟩), .pointer (some ⟨b6, 0, none⟩)] : Array Value) = #[.agg #[.int .u64 (q : Int), .pointer (some ⟨p, 0, none⟩)], .int .i64 (j : Int), .pointer (some ⟨b7, 0, none⟩), .pointer (some ⟨b5, 0, none⟩), .pointer (some ⟨b6, 0, none⟩)] from rfl]
  have i0 : (0 : Int) ≤ (j : Int) := by omega
  have i1 : (j : Int) < (L : Int) := by omega
  have i2 : (j : Int) < (L' : Int) := by omega
  go_enter Tryd.func110, Tryd.ntmps110
  go_wp2_with fail
  have f0 : (w.alloc (.cells #[.int .u64 (q : Int), .pointer (some ⟨p, 0, none⟩)] 93)).cell? ⟨w.heap.size, 0, none⟩ = some (.int .u64 (q : Int)) := by simp
  have f1 : (w.alloc (.cells #[.int .u64 (q : Int), .pointer (some ⟨p, 0, none⟩)] 93)).cell? ⟨w.heap.size, 1, none⟩ = some (.pointer (some ⟨p, 0, none⟩)) := by simp
  generalize w.alloc (.cells #[.int .u64 (q : Int), .pointer (some ⟨p, 0, none⟩)] 93) = V at *
  clear h7 h5 h6 hc hc'
  go_region_held3 (fun w' => w'.cell? ⟨b7, 0, none⟩ = some (.func (.func 70) #[] #[]) ∧ w'.cell? ⟨b5, 0, none⟩ = some (.slice (some ad) L c) ∧ w'.cell? ⟨b6, 0, none⟩ = some (.slice (some ad') L' c') ∧ w'.cell? (ad.add j) = some (.slice Aj n cj) ∧ w'.cell? (ad'.add j) = some (.slice Aj' n cj') ∧ w'.cell? ⟨w.heap.size, 0, none⟩ = some (.int .u64 (q : Int)) ∧ w'.cell? ⟨w.heap.size, 1, none⟩ = some (.pointer (some ⟨p, 0, none⟩))) (go_keep)
    (first
      | (go_at_call 70; refine (productE_any p n q k a e Aj Aj' cj cj' f f' _ (HT.out.ext (Ext.refl _).drew) hk (FX.ext HX.out (Ext.refl _).drew) (FX.ext HX'.out (Ext.refl _).drew) hf hf').mono ?_; rintro e2 w5 ⟨g5, rfl, hu5, k5⟩; have k5' := (Ext.refl _).drew.trans k5; have d0 := cell_ext k5' x7; have d1 := cell_ext k5' x5; have d2 := cell_ext k5' x6; have d3 := cell_ext k5' xj; have d4 := cell_ext k5' xj'; have d5 := cell_ext k5' f0; have d6 := cell_ext k5' f1)
      | fail)
  go_wp2
  go_ret
  exact ⟨_, _, _, rfl, UW.fx hu5, Lib.hid rfl, kV.trans k5'⟩
theorem prodE_makes {w : World} {r n M : Nat} {q p : Nat → Nat} {a e : Nat → Nat → Nat} {A A' : Option Addr} {L c c' : Nat} {As As' : Nat → Option Addr} {ns cs ns' cs' : Nat → Nat} {f f' : Nat → Nat → Nat} (hR : Rg w r n M q p a e) (hP : PB w A L c As ns cs f) (hP' : PB w A' L c' As' ns' cs' f') (hE : El n M q L ns f ∧ El n M q L ns' f') (k : Nat) (hk : Hid (1 ≤ k ∧ k ≤ 9 ∧ n = 2 ^ k)) (b5 b6 b7 : Nat) :
    ∀ w2, Ext w w2 → w2.cell? ⟨b5, 0, none⟩ = some (.slice A L c) → w2.cell? ⟨b6, 0, none⟩ = some (.slice A' L c') → w2.cell? ⟨b7, 0, none⟩ = some (.func (.func 70) #[] #[]) → Makes 110 #[.pointer (some ⟨b7, 0, none⟩), .pointer (some ⟨b5, 0, none⟩), .pointer (some ⟨b6, 0, none⟩)] w2 n L q p (fun j F => F = mulF n (q j) k (a j) (e j) (f j) (f' j)) := fun w2 k2 h5 h6 h7 j w1 hj k1 => by
  obtain ⟨x1, x2, x3⟩ := el_cell (hP.1.ext (k2.trans k1)) hE.1 hj
  obtain ⟨x1', x2', x3'⟩ := el_cell (hP'.1.ext (k2.trans k1)) hE.2 hj
  have hLM := hE.1.2.1
  have hq := hR.ql j (by omega)
  have h32 := hR.l1
  exact prodE2_any b7 b5 b6 n (q j) (p j) L c L c' (cs j) (cs' j) j A A' (As j) (As' j) (f j) (f' j) k (a j) (e j) w1 (cell_ext k1 h7) (cell_ext k1 h5) (cell_ext k1 h6) hj hj x1 x1' x2 x2' hR.n0 hR.n1 (by omega) (by omega) (by omega) (by omega) (Lib.hid x3) (Lib.hid x3') ((hR.ext (k2.trans k1)).tab j (by omega)) hk
set_option maxHeartbeats 2000000 in
theorem rMulE_any (r n M : Nat) (q p : Nat → Nat) (a e : Nat → Nat → Nat) (A A' : Option Addr) (L c c' : Nat) (As As' : Nat → Option Addr) (ns cs ns' cs' : Nat → Nat) (f f' : Nat → Nat → Nat) (w : World) (hR : Rg w r n M q p a e) (hP : Hid (PB w A L c As ns cs f)) (hP' : Hid (PB w A' L c' As' ns' cs' f')) (hE : El n M q L ns f ∧ El n M q L ns' f') (k : Nat) (hk : Hid (1 ≤ k ∧ k ≤ 9 ∧ n = 2 ^ k)) :
    Calls Tryd.prog 25 #[.pointer (some ⟨r, 0, none⟩), .agg #[.slice A L c], .agg #[.slice A' L c']] w (Made w n L (fun j F => F = mulF n (q j) k (a j) (e j) (f j) (f' j))) := by
  have HR := Lib.hid hR
  have HE := Lib.hid hE
  clear hR hE
  go_enter Tryd.func25, Tryd.ntmps25
  go_wp2_with fail
  obtain ⟨V, hV⟩ : ∃ V, V = ((w.alloc (.cells #[.slice A L c] 25)).alloc (.cells #[.slice A' L c'] 25)).alloc (.cells #[.slice none 0 0] 25) := ⟨_, rfl⟩
  rw [← hV]
  have kV : Ext w V := by rw [hV]; exact ((((Ext.refl w).alloc _).alloc _).alloc _)
  have hr0 : RW V (w.heap.size + 1 + 1) 25 1 (fun _ => .slice none 0 0) := by
    have : RW V ((w.alloc (.cells #[.slice A L c] 25)).alloc (.cells #[.slice A' L c'] 25)).heap.size 25 1 (fun _ => .slice none 0 0) := by rw [hV]; exact heap_alloc_new _ _
    rwa [show ((w.alloc (.cells #[.slice A L c] 25)).alloc (.cells #[.slice A' L c'] 25)).heap.size = w.heap.size + 1 + 1 by simp] at this
  refine (ofTwo_any r n M q p a e A A' L c c' As As' ns cs ns' cs' f f' _ _ (fun j F => F = mulF n (q j) k (a j) (e j) (f j) (f' j)) V (HR.out.ext kV) (Lib.hid (hP.out.ext kV)) (Lib.hid (hP'.out.ext kV)) HE.out (Lib.hid (prodE_makes (HR.out.ext kV) (hP.out.ext kV) (hP'.out.ext kV) HE.out k hk _ _ _))).mono ?_
  rintro ee w2 ⟨G, Bs, ds, F, rfl, hpm, hF, k2⟩
  have hr2 := hr0.ext k2
  have c0 := hr2.cell (i := 0) (by omega)
  have z0 := hr2.frozen 0
  have hsz := hr2.lt
  go_wp2_with fail
  have d0 := ret_cell hr2 (.slice (some ⟨G, 0, none⟩) (L) (L))
  have d1 := (kV.trans k2).set (p := ⟨w.heap.size + 1 + 1, 0, none⟩) (by show w.heap.size ≤ w.heap.size + 1 + 1; omega) (.slice (some ⟨G, 0, none⟩) (L) (L))
  have d2 := hpm.aside hr2 rfl (.slice (some ⟨G, 0, none⟩) (L) (L))
  generalize w2.setCell ⟨w.heap.size + 1 + 1, 0, none⟩ (.slice (some ⟨G, 0, none⟩) (L) (L)) = w5 at *
  exact bodyPost_ret (v := .tuple #[.agg #[.slice (some ⟨G, 0, none⟩) (L) (L)], .int .i64 0]) (by simp [results, Tryd.results25, go_sem, d0]) rfl ⟨G, Bs, ds, F, rfl, d2, hF, d1⟩
end Go.Proofs.YtpgcapobbmbchaaDoor

/-
  The law RingLaws walked.
-/
namespace Go.Proofs.YtpgcapobbmbchaaDoor
open Go.RowKit
set_option linter.unusedVariables false
set_option maxRecDepth 100000

set_option maxHeartbeats 2000000 in
/-- The document's answer: may two elements go together? -/
theorem two5_any (n : Nat) (B : Option Addr) (M bc : Nat) (q : Nat → Nat) (A A' : Option Addr) (L c L' c' : Nat) (As As' : Nat → Option Addr) (ns cs ns' cs' : Nat → Nat) (f f' : Nat → Nat → Nat) (w : World) (hQ : FX w B M bc q) (hM : M ≤ 1000) (hX : PX w A L c As ns cs f) (hL : L ≤ 1000) (hn : Hid (∀ j, j < L → ns j ≤ 100000)) (hX' : PX w A' L' c' As' ns' cs' f') (hL' : L' ≤ 1000) (hn' : Hid (∀ j, j < L' → ns' j ≤ 100000)) :
    Calls Tryd.prog 26 #[.int .i64 (n : Int), .slice B M bc, .agg #[.slice A L c], .agg #[.slice A' L' c']] w fun ee w' => ∃ z : Int, (z = 0 ∧ (El n M q L ns f ∧ El n M q L' ns' f') ∧ L = L' ∨ z = 3 ∧ ¬ (El n M q L ns f ∧ El n M q L' ns' f') ∨ z = 10 ∧ (El n M q L ns f ∧ El n M q L' ns' f') ∧ L ≠ L') ∧ ee = .returned (.int .i64 z) ∧ Ext w w' := by
  have HX := Lib.hid hX
  have HX' := Lib.hid hX'
  have HQ := Lib.hid hQ
  clear hX hX' hQ
  have kV : Ext w ((w.alloc (.cells #[.slice A L c] 25)).alloc (.cells #[.slice A' L' c'] 25)) := ((Ext.refl w).alloc _).alloc _
  have x6 : ((w.alloc (.cells #[.slice A L c] 25)).alloc (.cells #[.slice A' L' c'] 25)).cell? ⟨w.heap.size, 0, none⟩ = some (.slice A L c) := cell_ext ((Ext.refl _).alloc _) (one_at w _ _)
  have x7 : ((w.alloc (.cells #[.slice A L c] 25)).alloc (.cells #[.slice A' L' c'] 25)).cell? ⟨w.heap.size + 1, 0, none⟩ = some (.slice A' L' c') := by
    rw [show w.heap.size + 1 = (w.alloc (.cells #[.slice A L c] 25)).heap.size by simp]
    exact one_at _ _ _
  go_enter Tryd.func26, Tryd.ntmps26
  go_wp2_with fail
  generalize (w.alloc (.cells #[.slice A L c] 25)).alloc (.cells #[.slice A' L' c'] 25) = V at *
  refine (element_any n B M bc q A L c As ns cs f V (HQ.out.ext kV) hM (HX.out.ext kV) hL hn).mono ?_
  rintro ee w1 (⟨h1, rfl, k1⟩ | ⟨h1, rfl, k1⟩)
  case inr =>
    have H1 := Lib.hid h1
    clear h1
    go_wp2
    go_ret
    exact ⟨3, .inr (.inl ⟨rfl, fun h => H1.out h.1⟩), rfl, kV.trans k1⟩
  have H1 := Lib.hid h1
  have y6 := cell_ext k1 x6
  have y7 := cell_ext k1 x7
  clear h1
  go_wp2_with fail
  refine (element_any n B M bc q A' L' c' As' ns' cs' f' w1 (HQ.out.ext (kV.trans k1)) hM (HX'.out.ext (kV.trans k1)) hL' hn').mono ?_
  rintro ee w2 (⟨h2, rfl, k2⟩ | ⟨h2, rfl, k2⟩)
  case inr =>
    have H2 := Lib.hid h2
    clear h2
    go_wp2
    go_ret
    exact ⟨3, .inr (.inl ⟨rfl, fun h => H2.out h.2⟩), rfl, kV.trans (k1.trans k2)⟩
  have H2 := Lib.hid h2
  have z6 := cell_ext k2 y6
  have z7 := cell_ext k2 y7
  clear h2
  by_cases hLL : L = L'
  · have HLL := Lib.hid hLL
    have hne : ((L : Int) != (L' : Int)) = false := by simp; omega
    clear hLL
    go_wp2
    go_ret
    exact ⟨0, .inl ⟨rfl, ⟨H1.out, H2.out⟩, HLL.out⟩, rfl, kV.trans (k1.trans k2)⟩
  · have HLL := Lib.hid hLL
    have hne : ((L : Int) != (L' : Int)) = true := by simp; omega
    clear hLL
    go_wp2
    go_ret
    exact ⟨10, .inr (.inr ⟨rfl, ⟨H1.out, H2.out⟩, HLL.out⟩), rfl, kV.trans (k1.trans k2)⟩
theorem two_held {w : World} {x : Nat} {A A' : Option Addr} {L c L' c' : Nat} (hx : w.cell? ⟨x, 0, none⟩ = some (.slice A L c)) (hx' : w.cell? ⟨x, 1, none⟩ = some (.slice A' L' c')) : 0 < 2 → ∃ ad, some (⟨x, 0, none⟩ : Addr) = some ad ∧ ∀ j, j < 2 → w.cell? (ad.add j) = some (.slice (if j = 0 then A else A') (if j = 0 then L else L') (if j = 0 then c else c')) := fun _ => ⟨_, rfl, fun j hj => by
  rcases (show j = 0 ∨ j = 1 by omega) with rfl | rfl
  · exact hx
  · exact hx'⟩
theorem two_rows {w w' : World} {A A' : Option Addr} {L c L' c' : Nat} {As As' : Nat → Option Addr} {ns cs ns' cs' : Nat → Nat} {f f' : Nat → Nat → Nat} (h : PW w A L c As ns cs f) (h' : PW w A' L' c' As' ns' cs' f') (k : Ext w w') : ∀ j, j < 2 → (0 < (if j = 0 then L else L') → ∃ ad, (if j = 0 then A else A') = some ad ∧ ∀ i, i < (if j = 0 then L else L') → w'.cell? (ad.add i) = some (.slice ((if j = 0 then As else As') i) ((if j = 0 then ns else ns') i) ((if j = 0 then cs else cs') i))) ∧ (if j = 0 then L else L') ≤ maxLen ∧ ∀ i, i < (if j = 0 then L else L') → (if j = 0 then ns else ns') i ≤ maxLen := fun j hj => by
  rcases (show j = 0 ∨ j = 1 by omega) with rfl | rfl
  · exact ⟨(h.px.ext k).cells, h.len, h.lens⟩
  · exact ⟨(h'.px.ext k).cells, h'.len, h'.lens⟩
theorem dif_back {x y q : Nat} (hx : x < q) (hy : y < q) : dif ((x + y) % q) y q = x := by
  refine M.lt (q := q) ?_ (Nat.mod_lt _ (by omega)) hx
  refine (M.dif hy).trans ?_
  refine (M.sub ((M.nat _).trans (M.of (Int.natCast_add _ _))) M.rfl).trans (M.of (by omega))
theorem el_made {n M L : Nat} {q : Nat → Nat} {F : Nat → Nat → Nat} (h0 : 0 < L) (h1 : L ≤ M) (h : ∀ j, j < L → ∀ i, i < n → F j i < q j) : El n M q L (fun _ => n) F := ⟨h0, h1, fun j hj => ⟨rfl, h j hj⟩⟩
set_option maxHeartbeats 16000000 in
theorem ringLaws_walk {n : Int} {B : Option Addr} {Lp pc : Nat} {q : Nat → Nat} {A : Option Addr} {L c : Nat} {As : Nat → Option Addr} {ns cs : Nat → Nat} {f : Nat → Nat → Nat} {A' : Option Addr} {L' c' : Nat} {As' : Nat → Option Addr} {ns' cs' : Nat → Nat} {f' : Nat → Nat → Nat} (w : World) (n0 : -9223372036854775808 ≤ n) (n1 : n < 9223372036854775808) (hQ : FX w B Lp pc q) (hLp : Lp ≤ maxLen) (hq : Hid (∀ j, j < Lp → q j < 18446744073709551616)) (hP : Hid (PW w A L c As ns cs f)) (hP' : Hid (PW w A' L' c' As' ns' cs' f')) (hT : Tabs w) :
    Calls Tryd.prog 9 #[.int .i64 n, .slice B Lp pc, .agg #[.slice A L c], .agg #[.slice A' L' c']] w fun e w' => e = .returned (.bool true) ∧ Ext w w' := by
  have HT := Lib.hid hT
  have HQ := Lib.hid hQ
  clear hT hQ
  have ka : Ext w ((w.alloc (.cells #[.slice A L c] 25)).alloc (.cells #[.slice A' L' c'] 25)) := ((Ext.refl w).alloc _).alloc _
  have xa0 : ((w.alloc (.cells #[.slice A L c] 25)).alloc (.cells #[.slice A' L' c'] 25)).cell? ⟨w.heap.size, 0, none⟩ = some (.slice A L c) := cell_ext ((Ext.refl _).alloc _) (one_at w _ _)
  have xb0 : ((w.alloc (.cells #[.slice A L c] 25)).alloc (.cells #[.slice A' L' c'] 25)).cell? ⟨w.heap.size + 1, 0, none⟩ = some (.slice A' L' c') := by
    rw [show w.heap.size + 1 = (w.alloc (.cells #[.slice A L c] 25)).heap.size by simp]
    exact one_at _ _ _
  go_enter Tryd.func9, Tryd.ntmps9
  go_wp2_with fail
  refine (fixed5_any _ (HT.out.ext ka)).mono ?_
  rintro ee w1 ⟨rfl, k1⟩
  have xa1 := cell_ext k1 xa0
  have xb1 := cell_ext k1 xb0
  have e1 := ka.trans k1
  clear k1 ka xa0 xb0
  go_wp2_with fail
  have kb : Ext w1 (w1.alloc (.cells #[.slice A L c, .slice A' L' c'] 25)) := (Ext.refl w1).alloc _
  refine (made_any n B Lp pc q (some ⟨w1.heap.size, 0, none⟩) 2 2 (fun j => if j = 0 then A else A') (fun j => if j = 0 then L else L') (fun j => if j = 0 then c else c') (fun j => if j = 0 then As else As') (fun j => if j = 0 then ns else ns') (fun j => if j = 0 then cs else cs') _ n0 n1 hLp (by omega) (HQ.out.ext (e1.trans kb)) hq (HT.out.ext (e1.trans kb)) (Lib.hid (two_held (two_at0 _ _ _ _) (two_at1 _ _ _ _))) (Lib.hid (two_rows hP.out hP'.out (e1.trans kb)))).mono ?_
  rintro ee w2 (⟨h25, r, p, a, e, rfl, hRg, k2⟩ | ⟨_, rfl, k2⟩)
  case inr =>
    go_wp2
    go_ret
    exact ⟨rfl, e1.trans (kb.trans k2)⟩
  have hL30 := h25.1.2.1
  have hn32 := h25.1.1
  have hn2 := (h25.2.2.2 0 h25.2.1).1.1
  have hl := h25.1.2.2 0 (by omega)
  have hl' := h25.1.2.2 1 (by omega)
  have hLa : L ≤ 30 := hl.1
  have hLb : L' ≤ 30 := hl'.1
  have HNS := Lib.hid (show ∀ i, i < L → ns i ≤ 100 from hl.2)
  have HNS' := Lib.hid (show ∀ i, i < L' → ns' i ≤ 100 from hl'.2)
  have HRG := Lib.hid hRg
  clear h25 hRg hl hl' hLp
  have e2 := e1.trans (kb.trans k2)
  have xa2 := cell_ext (kb.trans k2) xa1
  have xb2 := cell_ext (kb.trans k2) xb1
  clear e1 kb k2 xa1 xb1
  obtain ⟨N, rfl⟩ := Int.eq_ofNat_of_zero_le (show 0 ≤ n by omega)
  rw [show ((N : Int)).toNat = N by omega] at HRG
  have HN := Lib.hid (show N ≤ 32 by omega)
  clear n0 n1 hn2 hn32
  go_wp2_with fail
  refine (two5_any N B Lp pc q A A' L c L' c' As As' ns cs ns' cs' f f' w2 (HQ.out.ext e2) (by omega) (hP.out.px.ext e2) (by omega) (Lib.hid fun j hj => by have := HNS.out j hj; show ns j ≤ 100000; omega) (hP'.out.px.ext e2) (by omega) (Lib.hid fun j hj => by have := HNS'.out j hj; show ns' j ≤ 100000; omega)).mono ?_
  rintro ee w3 ⟨z, hz, rfl, k3⟩
  have e3 := e2.trans k3
  rcases hz with ⟨rfl, hEl, hLL⟩ | ⟨rfl, _⟩ | ⟨rfl, _⟩
  case inr.inl =>
    go_wp2
    go_ret
    exact ⟨rfl, e3⟩
  case inr.inr =>
    go_wp2
    go_ret
    exact ⟨rfl, e3⟩
  subst hLL
  have xa3 := cell_ext k3 xa2
  have xb3 := cell_ext k3 xb2
  have HR3 := Lib.hid (HRG.out.ext k3)
  have HPa := Lib.hid (pb_few (n := 0) (Lp := 0) hP.out hLa HNS.out)
  have HPb := Lib.hid (pb_few (n := 0) (Lp := 0) hP'.out hLb HNS'.out)
  have HEa := Lib.hid hEl.1
  have HEb := Lib.hid hEl.2
  obtain ⟨k, hk⟩ := (HRG.out.tab 0 HRG.out.l0).nk
  have HK := Lib.hid hk
  have hL0 := hEl.1.1
  have hLM := hEl.1.2.1
  have HQL := Lib.hid (show ∀ j, j < L → 0 < q j from fun j hj => by have := HRG.out.ql j (by omega); omega)
  have HLTa := Lib.hid (show ∀ j, j < L → ∀ i, i < N → f j i < q j from fun j hj i hi => by
    have h1 := HEa.out.2.2 j hj
    exact h1.2 i (by rw [h1.1]; exact hi))
  have HLTb := Lib.hid (show ∀ j, j < L → ∀ i, i < N → f' j i < q j from fun j hj i hi => by
    have h1 := HEb.out.2.2 j hj
    exact h1.2 i (by rw [h1.1]; exact hi))
  clear k3 e2 xa2 xb2 hEl hk HRG HNS HNS'
  go_wp2_with fail
  refine (rMulE_any r N Lp q p a e (A) (A') L c c' As As' ns cs ns' cs' (f) (f') _ (HR3.out.ext (Ext.refl w3)) (Lib.hid (HPa.out.ext e3)) (Lib.hid (HPb.out.ext e3)) ⟨HEa.out, HEb.out⟩ k HK).mono ?_
  rintro ee w4 ⟨Gx, Asx, csx, Fx, rfl, hpm, hFx, kn⟩
  have HMx := Lib.hid hpm
  have kc : Ext w4 (w4.alloc (.cells #[.slice (some ⟨Gx, 0, none⟩) L L] 25)) := (Ext.refl w4).alloc _
  have e4 := e3.trans (kn.trans kc)
  have xa4 := cell_ext (kn.trans kc) xa3
  have xb4 := cell_ext (kn.trans kc) xb3
  have xx4 : (w4.alloc (.cells #[.slice (some ⟨Gx, 0, none⟩) L L] 25)).cell? ⟨w4.heap.size, 0, none⟩ = some (.slice (some ⟨Gx, 0, none⟩) L L) := one_at _ _ _
  have qx4 := kc
  have rg4 := (Ext.refl w3).trans (kn.trans kc)
  have HEx := Lib.hid (el_made (n := N) (M := Lp) (q := q) (F := Fx) hL0 hLM (fun j hj i hi => by rw [hFx.out j hj]; exact mulF_lt (HQL.out j hj) _ _ _ _ _))
  clear kn kc hpm xa3 xb3 e3
  go_wp2_with fail
  refine (rMulE_any r N Lp q p a e (A') (A) L c' c As' As ns' cs' ns cs (f') (f) _ (HR3.out.ext rg4) (Lib.hid (HPb.out.ext e4)) (Lib.hid (HPa.out.ext e4)) ⟨HEb.out, HEa.out⟩ k HK).mono ?_
  rintro ee w5 ⟨Gy, Asy, csy, Fy, rfl, hpm, hFy, kn⟩
  have HMy := Lib.hid hpm
  have kc : Ext w5 (w5.alloc (.cells #[.slice (some ⟨Gy, 0, none⟩) L L] 25)) := (Ext.refl w5).alloc _
  have e5 := e4.trans (kn.trans kc)
  have xa5 := cell_ext (kn.trans kc) xa4
  have xb5 := cell_ext (kn.trans kc) xb4
  have xx5 := cell_ext (kn.trans kc) xx4
  have xy5 : (w5.alloc (.cells #[.slice (some ⟨Gy, 0, none⟩) L L] 25)).cell? ⟨w5.heap.size, 0, none⟩ = some (.slice (some ⟨Gy, 0, none⟩) L L) := one_at _ _ _
  have qx5 := qx4.trans (kn.trans kc)
  have qy5 := kc
  have rg5 := rg4.trans (kn.trans kc)
  have HEy := Lib.hid (el_made (n := N) (M := Lp) (q := q) (F := Fy) hL0 hLM (fun j hj i hi => by rw [hFy.out j hj]; exact mulF_lt (HQL.out j hj) _ _ _ _ _))
  clear kn kc hpm xa4 xb4 xx4 qx4 e4
  go_wp2_with fail
  refine (rAdd_any r N Lp q p a e (A) (A') L c c' As As' ns cs ns' cs' (f) (f') _ (HR3.out.ext rg5) (Lib.hid (HPa.out.ext e5)) (Lib.hid (HPb.out.ext e5)) ⟨HEa.out, HEb.out⟩).mono ?_
  rintro ee w6 ⟨Gs, Ass, css, Fs, rfl, hpm, hFs, kn⟩
  have HMs := Lib.hid hpm
  have kc : Ext w6 (w6.alloc (.cells #[.slice (some ⟨Gs, 0, none⟩) L L] 25)) := (Ext.refl w6).alloc _
  have e6 := e5.trans (kn.trans kc)
  have xa6 := cell_ext (kn.trans kc) xa5
  have xb6 := cell_ext (kn.trans kc) xb5
  have xx6 := cell_ext (kn.trans kc) xx5
  have xy6 := cell_ext (kn.trans kc) xy5
  have xs6 : (w6.alloc (.cells #[.slice (some ⟨Gs, 0, none⟩) L L] 25)).cell? ⟨w6.heap.size, 0, none⟩ = some (.slice (some ⟨Gs, 0, none⟩) L L) := one_at _ _ _
  have qx6 := qx5.trans (kn.trans kc)
  have qy6 := qy5.trans (kn.trans kc)
  have qs6 := kc
  have rg6 := rg5.trans (kn.trans kc)
  have HEs := Lib.hid (el_made (n := N) (M := Lp) (q := q) (F := Fs) hL0 hLM (fun j hj i hi => by rw [hFs.out j hj]; exact Nat.mod_lt _ (HQL.out j hj)))
  clear kn kc hpm xa5 xb5 xx5 xy5 qx5 qy5 e5
  go_wp2_with fail
  refine (rMulE_any r N Lp q p a e (A) (some ⟨Gs, 0, none⟩) L c L As Ass ns cs (fun _ => N) css (f) (Fs) _ (HR3.out.ext rg6) (Lib.hid (HPa.out.ext e6)) (Lib.hid ((HMs.out.ext qs6).pb (by omega) (by have := HN.out; omega))) ⟨HEa.out, HEs.out⟩ k HK).mono ?_
  rintro ee w7 ⟨Gz, Asz, csz, Fz, rfl, hpm, hFz, kn⟩
  have HMz := Lib.hid hpm
  have kc : Ext w7 (w7.alloc (.cells #[.slice (some ⟨Gz, 0, none⟩) L L] 25)) := (Ext.refl w7).alloc _
  have e7 := e6.trans (kn.trans kc)
  have xa7 := cell_ext (kn.trans kc) xa6
  have xb7 := cell_ext (kn.trans kc) xb6
  have xx7 := cell_ext (kn.trans kc) xx6
  have xy7 := cell_ext (kn.trans kc) xy6
  have xs7 := cell_ext (kn.trans kc) xs6
  have xz7 : (w7.alloc (.cells #[.slice (some ⟨Gz, 0, none⟩) L L] 25)).cell? ⟨w7.heap.size, 0, none⟩ = some (.slice (some ⟨Gz, 0, none⟩) L L) := one_at _ _ _
  have qx7 := qx6.trans (kn.trans kc)
  have qy7 := qy6.trans (kn.trans kc)
  have qs7 := qs6.trans (kn.trans kc)
  have qz7 := kc
  have rg7 := rg6.trans (kn.trans kc)
  have HEz := Lib.hid (el_made (n := N) (M := Lp) (q := q) (F := Fz) hL0 hLM (fun j hj i hi => by rw [hFz.out j hj]; exact mulF_lt (HQL.out j hj) _ _ _ _ _))
  clear kn kc hpm xa6 xb6 xx6 xy6 xs6 qx6 qy6 qs6 e6
  go_wp2_with fail
  refine (rMulE_any r N Lp q p a e (A) (A) L c c As As ns cs ns cs (f) (f) _ (HR3.out.ext rg7) (Lib.hid (HPa.out.ext e7)) (Lib.hid (HPa.out.ext e7)) ⟨HEa.out, HEa.out⟩ k HK).mono ?_
  rintro ee w8 ⟨Gu, Asu, csu, Fu, rfl, hpm, hFu, kn⟩
  have HMu := Lib.hid hpm
  have kc : Ext w8 (w8.alloc (.cells #[.slice (some ⟨Gu, 0, none⟩) L L] 25)) := (Ext.refl w8).alloc _
  have e8 := e7.trans (kn.trans kc)
  have xa8 := cell_ext (kn.trans kc) xa7
  have xb8 := cell_ext (kn.trans kc) xb7
  have xx8 := cell_ext (kn.trans kc) xx7
  have xy8 := cell_ext (kn.trans kc) xy7
  have xs8 := cell_ext (kn.trans kc) xs7
  have xz8 := cell_ext (kn.trans kc) xz7
  have xu8 : (w8.alloc (.cells #[.slice (some ⟨Gu, 0, none⟩) L L] 25)).cell? ⟨w8.heap.size, 0, none⟩ = some (.slice (some ⟨Gu, 0, none⟩) L L) := one_at _ _ _
  have qx8 := qx7.trans (kn.trans kc)
  have qy8 := qy7.trans (kn.trans kc)
  have qs8 := qs7.trans (kn.trans kc)
  have qz8 := qz7.trans (kn.trans kc)
  have qu8 := kc
  have rg8 := rg7.trans (kn.trans kc)
  have HEu := Lib.hid (el_made (n := N) (M := Lp) (q := q) (F := Fu) hL0 hLM (fun j hj i hi => by rw [hFu.out j hj]; exact mulF_lt (HQL.out j hj) _ _ _ _ _))
  clear kn kc hpm xa7 xb7 xx7 xy7 xs7 xz7 qx7 qy7 qs7 qz7 e7
  go_wp2_with fail
  refine (rAdd_any r N Lp q p a e (some ⟨Gu, 0, none⟩) (some ⟨Gx, 0, none⟩) L L L Asu Asx (fun _ => N) csu (fun _ => N) csx (Fu) (Fx) _ (HR3.out.ext rg8) (Lib.hid ((HMu.out.ext qu8).pb (by omega) (by have := HN.out; omega))) (Lib.hid ((HMx.out.ext qx8).pb (by omega) (by have := HN.out; omega))) ⟨HEu.out, HEx.out⟩).mono ?_
  rintro ee w9 ⟨Gv, Asv, csv, Fv, rfl, hpm, hFv, kn⟩
  have HMv := Lib.hid hpm
  have kc : Ext w9 (w9.alloc (.cells #[.slice (some ⟨Gv, 0, none⟩) L L] 25)) := (Ext.refl w9).alloc _
  have e9 := e8.trans (kn.trans kc)
  have xa9 := cell_ext (kn.trans kc) xa8
  have xb9 := cell_ext (kn.trans kc) xb8
  have xx9 := cell_ext (kn.trans kc) xx8
  have xy9 := cell_ext (kn.trans kc) xy8
  have xs9 := cell_ext (kn.trans kc) xs8
  have xz9 := cell_ext (kn.trans kc) xz8
  have xu9 := cell_ext (kn.trans kc) xu8
  have xv9 : (w9.alloc (.cells #[.slice (some ⟨Gv, 0, none⟩) L L] 25)).cell? ⟨w9.heap.size, 0, none⟩ = some (.slice (some ⟨Gv, 0, none⟩) L L) := one_at _ _ _
  have qx9 := qx8.trans (kn.trans kc)
  have qy9 := qy8.trans (kn.trans kc)
  have qs9 := qs8.trans (kn.trans kc)
  have qz9 := qz8.trans (kn.trans kc)
  have qu9 := qu8.trans (kn.trans kc)
  have qv9 := kc
  have rg9 := rg8.trans (kn.trans kc)
  have HEv := Lib.hid (el_made (n := N) (M := Lp) (q := q) (F := Fv) hL0 hLM (fun j hj i hi => by rw [hFv.out j hj]; exact Nat.mod_lt _ (HQL.out j hj)))
  clear kn kc hpm xa8 xb8 xx8 xy8 xs8 xz8 xu8 qx8 qy8 qs8 qz8 qu8 e8
  go_wp2_with fail
  refine (rSub_any r N Lp q p a e (some ⟨Gs, 0, none⟩) (A') L L c' Ass As' (fun _ => N) css ns' cs' (Fs) (f') _ (HR3.out.ext rg9) (Lib.hid ((HMs.out.ext qs9).pb (by omega) (by have := HN.out; omega))) (Lib.hid (HPb.out.ext e9)) ⟨HEs.out, HEb.out⟩).mono ?_
  rintro ee w10 ⟨Gd, Asd, csd, Fd, rfl, hpm, hFd, kn⟩
  have HMd := Lib.hid hpm
  have kc : Ext w10 (w10.alloc (.cells #[.slice (some ⟨Gd, 0, none⟩) L L] 25)) := (Ext.refl w10).alloc _
  have e10 := e9.trans (kn.trans kc)
  have xa10 := cell_ext (kn.trans kc) xa9
  have xb10 := cell_ext (kn.trans kc) xb9
  have xx10 := cell_ext (kn.trans kc) xx9
  have xy10 := cell_ext (kn.trans kc) xy9
  have xs10 := cell_ext (kn.trans kc) xs9
  have xz10 := cell_ext (kn.trans kc) xz9
  have xu10 := cell_ext (kn.trans kc) xu9
  have xv10 := cell_ext (kn.trans kc) xv9
  have xd10 : (w10.alloc (.cells #[.slice (some ⟨Gd, 0, none⟩) L L] 25)).cell? ⟨w10.heap.size, 0, none⟩ = some (.slice (some ⟨Gd, 0, none⟩) L L) := one_at _ _ _
  have qx10 := qx9.trans (kn.trans kc)
  have qy10 := qy9.trans (kn.trans kc)
  have qs10 := qs9.trans (kn.trans kc)
  have qz10 := qz9.trans (kn.trans kc)
  have qu10 := qu9.trans (kn.trans kc)
  have qv10 := qv9.trans (kn.trans kc)
  have qd10 := kc
  have rg10 := rg9.trans (kn.trans kc)
  have HEd := Lib.hid (el_made (n := N) (M := Lp) (q := q) (F := Fd) hL0 hLM (fun j hj i hi => by rw [hFd.out j hj]; exact Nat.mod_lt _ (HQL.out j hj)))
  clear kn kc hpm xa9 xb9 xx9 xy9 xs9 xz9 xu9 xv9 qx9 qy9 qs9 qz9 qu9 qv9 e9
  go_wp2_with fail
  refine (same5_yes (some ⟨Gx, 0, none⟩) (some ⟨Gy, 0, none⟩) L L L Asx Asy (fun _ => N) csx csy Fx Fy _ (HMx.out.px.ext qx10) (HMy.out.px.ext qy10) (by omega) (Lib.hid fun _ _ => by show N ≤ 100000; have := HN.out; omega) (Lib.hid fun j hj i hi => by rw [hFx.out j hj, hFy.out j hj, mulF_comm])).mono ?_
  rintro ee w11 ⟨rfl, k11⟩
  have yz := cell_ext k11 xz10
  have yv := cell_ext k11 xv10
  have yd := cell_ext k11 xd10
  have ya := cell_ext k11 xa10
  go_wp2_with fail
  refine (same5_yes (some ⟨Gz, 0, none⟩) (some ⟨Gv, 0, none⟩) L L L Asz Asv (fun _ => N) csz csv Fz Fv _ (HMz.out.px.ext (qz10.trans k11)) (HMv.out.px.ext (qv10.trans k11)) (by omega) (Lib.hid fun _ _ => by show N ≤ 100000; have := HN.out; omega) (Lib.hid fun j hj i hi => by rw [hFz.out j hj, hFv.out j hj, hFs.out j hj, hFu.out j hj, hFx.out j hj, mulF_over (HQL.out j hj)])).mono ?_
  rintro ee w12 ⟨rfl, k12⟩
  have zd := cell_ext k12 yd
  have za := cell_ext k12 ya
  have HPn := Lib.hid (show PX w A L c As (fun _ => N) cs f from ⟨HPa.out.1.room, fun h0 => by
    obtain ⟨ad, e', hc⟩ := HPa.out.1.cells h0
    exact ⟨ad, e', fun j hj => by have := hc j hj; rwa [(HEa.out.2.2 j hj).1] at this⟩, fun j hj => by have := HPa.out.1.rows j hj; rwa [(HEa.out.2.2 j hj).1] at this⟩)
  go_wp2_with fail
  refine (same5_yes (some ⟨Gd, 0, none⟩) A L L c Asd As (fun _ => N) csd cs Fd f _ (HMd.out.px.ext (qd10.trans (k11.trans k12))) (HPn.out.ext (e10.trans (k11.trans k12))) (by omega) (Lib.hid fun _ _ => by show N ≤ 100000; have := HN.out; omega) (Lib.hid fun j hj i hi => by rw [hFd.out j hj, hFs.out j hj]; exact dif_back (HLTa.out j hj i hi) (HLTb.out j hj i hi))).mono ?_
  rintro ee w13 ⟨rfl, k13⟩
  go_wp2
  go_ret
  exact ⟨rfl, e10.trans (k11.trans (k12.trans k13))⟩
end Go.Proofs.YtpgcapobbmbchaaDoor
