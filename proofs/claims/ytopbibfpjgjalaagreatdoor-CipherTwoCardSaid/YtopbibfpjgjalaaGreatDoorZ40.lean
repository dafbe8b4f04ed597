import Derived.Test.YtopbibfpjgjalaaGreatDoorZVTape
import Derived.Lib.SliceRun
namespace Go.Proofs.YtopbibfpjgjalaaGreatDoor
open Go.RowKit
set_option linter.unusedVariables false
set_option maxRecDepth 100000
theorem ztc : (Tryz.prog.info? 26).map (fun i => (i.zero, i.size, i.bytes)) = some (some (.int .u64 0), 1, 8) := by kernel_rfl
theorem zpt (w0 : World) : (w0.alloc (.cells #[] 26)).ownsRow w0.heap.size 26 1 (.slice (some ⟨w0.heap.size, 0, none⟩) 0 0) 0 (u64s []) :=
 ⟨rfl, .inr ⟨w0.heap.size, 0, #[], rfl, Nat.le_refl _, (show (w0.heap.push (.cells #[] 26))[w0.heap.size]? = _ by simp), Nat.le_refl _, Nat.zero_le _, rfl, rfl⟩⟩
theorem zis {w0 : World} {ops : Array Oper} {rest : List Oper} {o : Oper} {a : Act} {Q : Exit → Act → World → Prop} (hgd : o.guard = none) (s x : Operand)
    (ho : o.op = .call { callee := .builtin .append, args := #[s, x], argTypes := #[22, 22] })
    (g : Nat) (hg : g = w0.heap.size) (ad : Addr) (n c : Nat) (xs : List Nat) (hs : a.eval s = .slice (some ⟨g, 0, none⟩) 0 0) (hx : a.eval x = .slice (some ad) n c) (hX : NX w0 (some ad) n c xs) (hn : n ≤ 100000)
    (h : ∀ A2 c2 w', NX w' A2 n c2 xs → Ext w0 w' → wpList Tryz.prog ops Q rest (a.put o.dst (.slice A2 n c2)) w') : wpList Tryz.prog ops Q (o :: rest) a (w0.alloc (.cells #[] 26)) := by
 obtain ⟨i0, hi, hz0, hz1, hz2⟩ := info_parts ztc
 subst hg
 have hX' : NX (w0.alloc (.cells #[] 26)) (some ad) n c xs := hX.ext ((Ext.refl w0).alloc _)
 refine wpList_append_own _ hgd s x 22 ho w0.heap.size 26 i0 (.int .u64 0) 1 8 Tryz.underlying22 hi hz0 hz1 hz2 rfl (by decide) _ _ _ hs (zpt w0) ad n c (u64s xs) hx (by rw [za8, hX.len]; omega) (fun j u hu => ?_) zhi (by unfold maxLen; omega) (by omega) (by simp) ?_
 ·unfold u64s at hu
  rw [List.getElem?_map] at hu
  obtain ⟨z, hz, rfl⟩ := Option.map_eq_some_iff.1 hu
  have hl := (List.getElem?_eq_some_iff.1 hz).1
  obtain ⟨ad', e, _, hc⟩ := hX'.cells (by have := hX.len; omega)
  injection e with e
  subst e
  exact hc j z hz
 ·intro v2 w2 hown2 hgrow2 _
  obtain ⟨A2, c2, rfl, hr2⟩ := zc2 (zs := xs) (n := n) (by simpa [u64s] using hown2) hX.lt
  refine h A2 c2 w2 hr2 ?_
  refine Below.grown ((Ext.refl w0).alloc _) hgrow2 (by simp) (fun k e => ?_)
  simp [Value.ownBlock] at e
  omega
theorem zo6 (A : Option Addr) (n c : Nat) (xs : List Nat) (w : World) (hX : Hid (NX w A n c xs)) (hn : n ≤ 100000) :
    Calls Tryz.prog 34 #[.slice A n c] w fun e w' => ∃ A2 c2, e = .returned (.slice A2 n c2) ∧ Hid (NX w' A2 n c2 xs) ∧ Hid (Ext w w') := by
 rcases A with _ | ad
 ·obtain rfl : n = 0 := by
     rcases Nat.eq_zero_or_pos n with h0 | h0
     ·exact h0
     ·obtain ⟨ad, e, _⟩ := hX.out.cells h0
      cases e
  have HN := Lib.hid (hX.out.eq_nil rfl)
  have heq := Lib.run_eql_slice_nil (P := Tryz.prog) w 22 26 none 0 c 0 0 Tryz.underlying22
  go_enter Tryz.func34, Tryz.ntmps34
  go_wp2
  go_ret
  exact ⟨none, 0, rfl, Lib.hid (by rw [HN.out]; exact Rd.none_ _ _ _ _ _ _), Lib.hid (Ext.refl _)⟩
 ·have heq := Lib.run_eql_slice_nil (P := Tryz.prog) w 22 26 (some ad) n c 0 0 Tryz.underlying22
  go_enter Tryz.func34, Tryz.ntmps34
  go_wp2_with (at_builtin; refine zis rfl _ _ rfl w.heap.size rfl ad n c xs rfl rfl hX.out hn ?_; intro A2 c2 w2 h1 h2; have H1 := Lib.hid h1; have H2 := Lib.hid h2; clear h1 h2)
  go_ret
  exact ⟨A2, c2, rfl, H1, H2⟩
theorem zl3 (A : Option Addr) (n c : Nat) (xs : List Nat) (w : World) (hX : Hid (NX w A n c xs)) (hn : n ≤ 100000) :
    Calls Tryz.prog 10 #[.slice A n c] w fun e w' => ∃ p, e = .returned (.pointer (some ⟨p, 0, none⟩)) ∧ w.heap.size ≤ p ∧ Hid (Tp w' p xs) ∧ Hid (Ext w w') := by
 go_enter Tryz.func10, Tryz.ntmps10
 go_wp2_with fail
 refine (zo6 A n c xs w hX hn).mono ?_
 rintro e w1 ⟨A2, c2, rfl, h1, h2⟩
 go_wp2
 go_ret
 refine ⟨w1.heap.size, rfl, h2.out.size, Lib.hid ⟨A2, c2, ?_, ?_⟩, Lib.hid (h2.out.alloc _)⟩
 ·rw [h1.out.len]; exact heap_alloc_new _ _
 ·rw [h1.out.len]; exact h1.out.ext ((Ext.refl _).alloc _)
theorem zv2 (x : Nat) (w : World) :
    Calls Tryz.prog 225 #[.int .u64 (x : Int)] w fun e w' => e = .returned (.bool true) ∧ w = w' := by
 go_enter Tryz.func225, Tryz.ntmps225
 go_wp2
 go_ret
 exact ⟨rfl, rfl⟩
theorem and3 (x : Nat) (hx : x < W64) : bits .and .u64 (x : Int) 3 = ((x % 4 : Nat) : Int) := by
 rw [zad] at hx
 rw [show (3 : Int) = ((3 : Nat) : Int) from rfl, bits_and_u64_nat _ _ hx (by omega), show x &&& 3 = x % 4 from Nat.and_two_pow_sub_one_eq_mod x 2]
theorem z3b (y k : Nat) : ((y : Int) != (k : Int)) = !decide (y = k) := by
 by_cases h : y = k
 ·subst h; simp
 ·have : ¬ (y : Int) = (k : Int) := by omega
  simp [h, bne, this]
theorem zld (x : Nat) (w : World) (hx : x < W64) :
    Calls Tryz.prog 162 #[.int .u64 (x : Int)] w fun e w' => e = .returned (.bool (tgood x)) ∧ w = w' := by
 have h := and3 x hx
 have hl : x % 4 < 4 := Nat.mod_lt _ (by omega)
 rw [zad] at hx
 unfold tgood
 generalize x % 4 = y at *
 have HN := Lib.hid (z3b y 3)
 go_enter Tryz.func162, Tryz.ntmps162
 go_wp2
 go_ret
 exact ⟨congrArg (fun b => Ending.returned (.bool b)) HN.out, rfl⟩
theorem zyq (r : Nat) (hr : r < 18446744073709551616) : bits .xor .u64 IntKind.u64.max (r : Int) = ((18446744073709551615 - r : Nat) : Int) := by
 have h2 : (BitVec.ofInt 64 (r : Int)).toNat = r := by
  rw [BitVec.ofInt_natCast, BitVec.toNat_ofNat]; exact Nat.mod_eq_of_lt (by omega)
 show IntKind.u64.wrap ((BitVec.ofInt 64 IntKind.u64.max ^^^ BitVec.ofInt 64 (r : Int)).toNat : Int) = _
 rw [show BitVec.ofInt 64 IntKind.u64.max = BitVec.allOnes 64 by decide, BitVec.allOnes_xor, BitVec.toNat_not, h2, IntKind.wrap_u64]
 omega
theorem zr7 (x b r : Nat) (w : World) (hx : x < W64) (hr : r < 18446744073709551616) (hb : w.cell? ⟨b, 0, none⟩ = some (.int .u64 (r : Int))) :
    Calls Tryz.prog 223 #[.int .u64 (x : Int), .pointer (some ⟨b, 0, none⟩)] w fun e w' => e = .returned (.bool (decide (x ≤ 18446744073709551615 - r))) ∧ w = w' := by
 rw [zad] at hx
 have HX := Lib.hid (zyq r hr)
 go_enter Tryz.func223, Tryz.ntmps223
 go_wp2
 go_ret
 refine ⟨congrArg (fun b => Ending.returned (.bool b)) (?_ : decide ((x : Int) ≤ bits .xor .u64 IntKind.u64.max (r : Int)) = _), rfl⟩
 rw [HX.out]
 exact decide_eq_decide.2 (by omega)
theorem zux (q : Nat) (hq0 : 0 < q) (hq : q < 18446744073709551616) : (IntKind.u64.wrap (-(q : Int))).tmod (q : Int) = (((18446744073709551616 - q) % q : Nat) : Int) := by
 rw [IntKind.wrap_u64, show (-(q : Int)) % 18446744073709551616 = ((18446744073709551616 - q : Nat) : Int) by omega]
 rfl
theorem app1 (a b : Value) : #[a] ++ #[b] = #[a, b] := rfl
theorem app0 (a : Value) : #[a] ++ (#[] : Array Value) = #[a] := rfl
theorem zoe (p q b : Nat) (V : World) (hq0 : 0 < q) (hq : q < 18446744073709551616) (hb : V.heap[b]? = some (.cells #[.int .u64 (((18446744073709551616 - q) % q : Nat) : Int)] 26 (0, 0))) (hne : b ≠ p) :
    Asks 223 #[.pointer (some ⟨b, 0, none⟩)] p V (bgood q) := by
 intro x w1 hx k1
 rw [app1]
 have hl := Nat.mod_lt (18446744073709551616 - q) hq0
 unfold bgood
 generalize (18446744073709551616 - q) % q = r at *
 refine zr7 x b r w1 hx (by omega) ?_
 have hlt : b < V.heap.size := (Array.getElem?_eq_some_iff.1 hb).1
 refine (World.cell?_of_block (a := ⟨b, 0, none⟩) (k1.block b hlt (fun e => hne (by injection e)))).trans ?_
 rw [cell_of_row V b 0 _ _ _ hb]
 rfl
theorem zj8 (p : Nat) (V : World) : Asks 162 #[] p V tgood := by
 intro x w1 hx k1
 rw [app0]
 exact zld x w1 hx
theorem zrp (p : Nat) (V : World) : Asks 225 #[] p V (fun _ => true) := by
 intro x w1 hx k1
 rw [app0]
 exact zv2 x w1
def TPost (w : World) (p : Nat) (l : List Nat) (e : Ending) (w' : World) : Prop :=
 (∃ x r, zai tgood l = (some x, r) ∧ e = .returned (.tuple #[.int .i64 (tval x), .int .i64 0]) ∧ Tp w' p r ∧ On p w w') ∨
 (zai tgood l = (none, []) ∧ e = .returned (.tuple #[.int .i64 0, .int .i64 11]) ∧ Tp w' p [] ∧ On p w w')
set_option maxHeartbeats 1000000 in
theorem zk0 (p : Nat) (l : List Nat) (w : World) (hT : Hid (Tp w p l)) (hn : l.length ≤ 100000) :
    Calls Tryz.prog 97 #[.pointer (some ⟨p, 0, none⟩)] w (TPost w p l) := by
 go_enter Tryz.func97, Tryz.ntmps97
 go_wp2_with fail
 refine (zjg 162 #[] tgood p l w hT hn (Lib.hid Tryz.call162) (Lib.hid (zj8 p w))).mono ?_
 rintro ee w2 (⟨x, r, h1, h2, rfl, h4, h5⟩ | ⟨h1, rfl, h4, h5⟩)
 ·have H1 := Lib.hid h1
  have H4 := Lib.hid h4
  have H5 := Lib.hid h5
  have h3 := and3 x h2
  have hl : x % 4 < 4 := Nat.mod_lt _ (by omega)
  rw [zad] at h2
  have HV := Lib.hid (show tval x = if x % 4 = 2 then -1 else ((x % 4 : Nat) : Int) from rfl)
  clear h1 h4 h5
  generalize x % 4 = y at *
  by_cases hy : y = 2
  ·subst hy
   have HV2 := Lib.hid (HV.out.trans (if_pos rfl))
   go_wp2
   go_ret2
   exact .inl ⟨x, r, H1.out, by rw [HV2.out]; rfl, H4.out, H5.out⟩
  ·have HV2 := Lib.hid (HV.out.trans (if_neg hy))
   have hb : ((y : Int) == 2) = false := by simp; omega
   clear HV
   go_wp2
   go_ret2
   exact .inl ⟨x, r, H1.out, by rw [HV2.out]; rfl, H4.out, H5.out⟩
 ·have H1 := Lib.hid h1
  have H4 := Lib.hid h4
  have H5 := Lib.hid h5
  have h3 : bits .and .u64 0 3 = 0 := by decide
  clear h1 h4 h5
  go_wp2
  go_ret2
  exact .inr ⟨H1.out, rfl, H4.out, H5.out⟩
theorem zy8 {a b : Int} (h : a = b) : Ending.returned (.int .i64 a) = .returned (.int .i64 b) := by rw [h]
theorem zvr {a b : Bool} (h : a = b) : Ending.returned (.bool a) = .returned (.bool b) := by rw [h]
theorem zex (n : Nat) (w : World) (h0 : 1 ≤ n) (h1 : n ≤ 16) :
    Calls Tryz.prog 167 #[.int .i64 (n : Int)] w fun e w' => e = .returned (.bool true) ∧ w = w' := by
 go_enter Tryz.func167, Tryz.ntmps167
 go_wp2
 go_ret
 exact ⟨zvr (decide_eq_true (by omega)), rfl⟩
theorem zdv (x m : Nat) (hx : x < 18446744073709551616) (hm : m < 18446744073709551616) : bits .and .u64 (x : Int) (m : Int) = ((Nat.land x m : Nat) : Int) := bits_and_u64_nat _ _ hx hm
theorem z0w (x : Nat) (hx : x < 4194304) : bits .and .i64 (x : Int) 127 = ((x % 128 : Nat) : Int) := by
 show IntKind.i64.wrap ((BitVec.ofInt 64 (x : Int) &&& BitVec.ofInt 64 127).toNat : Int) = _
 rw [BitVec.toNat_and, show (BitVec.ofInt 64 (x : Int)).toNat = x by rw [BitVec.ofInt_natCast, BitVec.toNat_ofNat]; exact Nat.mod_eq_of_lt (by omega), show (BitVec.ofInt 64 127).toNat = 2 ^ 7 - 1 by decide, Nat.and_two_pow_sub_one_eq_mod, IntKind.wrap_i64]
 omega
set_option maxHeartbeats 1000000 in
theorem zl9 (x : Nat) (w : World) (hx : x < 65536) :
    Calls Tryz.prog 226 #[.int .u64 (x : Int)] w fun e w' => e = .returned (.int .i64 (popS x : Int)) ∧ w = w' := by
 have a1 := zdv (x / 2) 6148914691236517205 (by omega) (by omega)
 have a2 := zdv x 6148914691236517205 (by omega) (by omega)
 have b1 := zck (x / 2) 6148914691236517205
 have b2 := zck x 6148914691236517205
 have lA := z0a hx
 have a3 := zdv (popA x / 4) 3689348814741910323 (by omega) (by omega)
 have a4 := zdv (popA x) 3689348814741910323 (by omega) (by omega)
 have b3 := zck (popA x / 4) 3689348814741910323
 have b4 := zck (popA x) 3689348814741910323
 have lB := zxt lA
 have a5 := zdv (popB (popA x) / 16 + popB (popA x)) 1085102592571150095 (by omega) (by omega)
 have lC := zyz lB
 have lD := zzd lC
 have lE := zzz lD
 have lF := zxk lE
 have a6 := z0w _ lF
 have eA : popA x = Nat.land (x / 2) 6148914691236517205 + Nat.land x 6148914691236517205 := rfl
 have eB : popB (popA x) = Nat.land (popA x / 4) 3689348814741910323 + Nat.land (popA x) 3689348814741910323 := rfl
 have eC : popC (popB (popA x)) = Nat.land (popB (popA x) / 16 + popB (popA x)) 1085102592571150095 := rfl
 have eD : popD (popC (popB (popA x))) = popC (popB (popA x)) + popC (popB (popA x)) / 256 := rfl
 have eE : popE (popD (popC (popB (popA x)))) = popD (popC (popB (popA x))) + popD (popC (popB (popA x))) / 65536 := rfl
 have eF : popF (popE (popD (popC (popB (popA x))))) = popE (popD (popC (popB (popA x)))) + popE (popD (popC (popB (popA x)))) / 4294967296 := rfl
 have eS : popS x = popF (popE (popD (popC (popB (popA x))))) % 128 := rfl
 generalize popS x = s at *
 generalize popF (popE (popD (popC (popB (popA x))))) = f at *
 generalize popE (popD (popC (popB (popA x)))) = e at *
 generalize popD (popC (popB (popA x))) = d at *
 generalize popC (popB (popA x)) = c at *
 generalize popB (popA x) = b at *
 generalize popA x = a at *
 rw [← eC] at a5
 generalize Nat.land (x / 2) 6148914691236517205 = u1 at *
 generalize Nat.land x 6148914691236517205 = u2 at *
 generalize Nat.land (a / 4) 3689348814741910323 = u3 at *
 generalize Nat.land a 3689348814741910323 = u4 at *
 subst eA
 subst eB
 clear eC
 subst eD eE eF eS
 simp only [Int.cast_ofNat_Int, Int.natCast_add, Int.natCast_ediv] at a1 a2 a3 a4 a5 a6
 go_enter Tryz.func226, Tryz.ntmps226
 go_wp2
 go_ret
 exact ⟨zy8 (by omega), rfl⟩
theorem zxz (n : Nat) (h1 : n ≤ 16) : IntKind.u64.wrap (IntKind.u64.wrap (2 ^ n) - 1) = ((2 ^ n - 1 : Nat) : Int) := by
 have h2 : 2 ^ n ≤ 2 ^ 16 := Nat.pow_le_pow_right (by omega) h1
 have h0 := Nat.two_pow_pos n
 rw [show (2 : Int) ^ n = ((2 ^ n : Nat) : Int) by rw [Int.natCast_pow]; rfl]
 generalize 2 ^ n = k at *
 rw [IntKind.wrap_u64, IntKind.wrap_u64]
 omega
theorem zke (n x : Nat) (h1 : n ≤ 16) (hx : x < W64) : bits .and .u64 (x : Int) ((2 ^ n - 1 : Nat) : Int) = ((x % 2 ^ n : Nat) : Int) := by
 have h2 : 2 ^ n ≤ 2 ^ 16 := Nat.pow_le_pow_right (by omega) h1
 rw [zad] at hx
 rw [bits_and_u64_nat _ _ hx (by omega), Nat.and_two_pow_sub_one_eq_mod]
theorem zvi (n x : Nat) (h1 : n ≤ 16) (hx : x < W64) : bits .and .u64 ((x : Int) / 2 ^ n) ((2 ^ n - 1 : Nat) : Int) = ((x / 2 ^ n % 2 ^ n : Nat) : Int) := by
 have := zke n (x / 2 ^ n) h1 (Nat.lt_of_le_of_lt (Nat.div_le_self _ _) hx)
 rw [← this, Int.natCast_ediv, Int.natCast_pow]
 rfl
def EPost (w : World) (p n : Nat) (l : List Nat) (e : Ending) (w' : World) : Prop :=
 (∃ x r, l = x :: r ∧ e = .returned (.tuple #[.int .i64 (errS n x), .int .i64 0]) ∧ Tp w' p r ∧ On p w w') ∨
 (l = [] ∧ e = .returned (.tuple #[.int .i64 0, .int .i64 11]) ∧ Tp w' p [] ∧ On p w w')
theorem zpc {l r : List Nat} {x : Nat} (h : zai (fun _ => true) l = (some x, r)) : l = x :: r := by
 cases l with
 | nil => simp [zai] at h
 | cons y l => simp [zai] at h; rw [h.1, h.2]
theorem zo0 {l : List Nat} (h : zai (fun _ => true) l = (none, [])) : l = [] := by
 cases l with
 | nil => rfl
 | cons y l => simp [zai] at h
theorem ztq {a b : Int} {v : Value} (h : a = b) : Ending.returned (.tuple #[.int .i64 a, v]) = .returned (.tuple #[.int .i64 b, v]) := by rw [h]
theorem zqe {P : Program} {f : FuncId} {args : Array Value} {w : World} {n : Nat} {v : Value} (h : Calls P f args (w.drewN n) fun e w' => e = .returned v ∧ w.drewN n = w') : Calls P f args (w.drewN n) fun e w'' => e = .returned v ∧ ∃ m, w'' = w.drewN m :=
 h.mono fun _ _ ⟨he, hm⟩ => ⟨he, n, hm.symm⟩
set_option maxHeartbeats 1000000 in
theorem zrm (p n : Nat) (l : List Nat) (w : World) (hT : Hid (Tp w p l)) (hn : l.length ≤ 100000) (h0 : 1 ≤ n) (h16 : n ≤ 16) :
    Calls Tryz.prog 169 #[.pointer (some ⟨p, 0, none⟩), .int .i64 (n : Int)] w (EPost w p n l) := by
 have h2 : 2 ^ n ≤ 2 ^ 16 := Nat.pow_le_pow_right (by omega) h16
 have HN := Lib.hid (zxz n h16)
 have H2 := Lib.hid (Nat.two_pow_pos n)
 have H3 := Lib.hid h2
 clear h2
 go_enter Tryz.func169, Tryz.ntmps169
 go_wp2_with (go_at_call 167; refine (zex n _ h0 h16).mono ?_; rintro ee w2 ⟨rfl, rfl⟩)
 refine (zjg 225 #[] (fun _ => true) p l w hT hn (Lib.hid Tryz.call225) (Lib.hid (zrp p w))).mono ?_
 rintro ee w2 (⟨x, r, h1, h2, rfl, h4, h5⟩ | ⟨h1, rfl, h4, h5⟩)
 ·have G1 := Lib.hid (zpc h1)
  have G4 := Lib.hid h4
  have G5 := Lib.hid h5
  have A1 := Lib.hid (zke n x h16 h2)
  have A2 := Lib.hid (zvi n x h16 h2)
  have L1 := Lib.hid (Nat.mod_lt x H2.out)
  have L2 := Lib.hid (Nat.mod_lt (x / 2 ^ n) H2.out)
  have HS := Lib.hid (show errS n x = (popS (x % 2 ^ n) : Int) - (popS (x / 2 ^ n % 2 ^ n) : Int) from rfl)
  have q1 := zhl h16 L1.out
  have q2 := zhl h16 L2.out
  rw [zad] at h2
  clear h1 h4 h5
  go_wp2
  rw [HN.out]
  have a1 := A1.out
  have a2 := A2.out
  have l1 : x % 2 ^ n < 65536 := by have := L1.out; have := H3.out; omega
  have l2 : x / 2 ^ n % 2 ^ n < 65536 := by have := L2.out; have := H3.out; omega
  generalize x % 2 ^ n = y1 at *
  generalize x / 2 ^ n % 2 ^ n = y2 at *
  have hw : IntKind.i64.wrap ((popS y1 : Int) - (popS y2 : Int)) = (popS y1 : Int) - (popS y2 : Int) := by rw [IntKind.wrap_i64]; omega
  generalize 2 ^ n - 1 = M at *
  go_quiet ((go_at_call 226; exact zqe (zl9 _ _ (by omega))))
  clear hw
  go_wp2
  go_ret2
  exact .inl ⟨x, r, G1.out, ztq (by rw [HS.out]), G4.out.ext ((Ext.refl _).drewN _), G5.out.drewN _⟩
 ·have G1 := Lib.hid (zo0 h1)
  have G4 := Lib.hid h4
  have G5 := Lib.hid h5
  have A1 := Lib.hid (zke n 0 h16 (by rw [zad]; omega))
  clear h1 h4 h5
  go_wp2
  rw [HN.out]
  have a1 := A1.out
  have s0 : popS 0 = 0 := by decide
  simp only [Nat.zero_mod, Int.natCast_zero] at a1
  generalize 2 ^ n - 1 = M at *
  have o1 := zl9 0
  rw [s0] at o1
  simp only [Int.natCast_zero] at o1
  clear s0
  go_quiet ((go_at_call 226; exact zqe (o1 _ (by omega))))
  go_wp2
  go_ret2
  exact .inr ⟨G1.out, rfl, G4.out.ext ((Ext.refl _).drewN _), G5.out.drewN _⟩
def IW (w : World) (g : Nat) (zs : List Int) : Prop := w.heap[g]? = some (.cells (zs.map (Value.int .i64)).toArray 2 (0, 0))
section
variable {w w' : World} {g : Nat} {zs : List Int}
theorem IW.lt (h : IW w g zs) : g < w.heap.size := (Array.getElem?_eq_some_iff.1 h).1
theorem IW.cell (h : IW w g zs) {i : Nat} {z : Int} (hz : zs[i]? = some z) : w.cell? ⟨g, i, none⟩ = some (.int .i64 z) := by
 rw [cell_of_row w g i _ _ (0, 0) h]
 simp [hz]
theorem IW.frozen (h : IW w g zs) (i : Nat) : w.frozen? ⟨g, i, none⟩ = false := by
 unfold IW at h
 simp [World.frozen?, h]
theorem IW.on (h : IW w g zs) {p : Nat} (k : On p w w') (hne : g ≠ p) : IW w' g zs := (k.block g h.lt (fun e => hne (by injection e))).trans h
theorem IW.set (h : IW w g zs) (i : Nat) (z : Int) : IW (w.setCell ⟨g, i, none⟩ (.int .i64 z)) g (zs.set i z) := by
 unfold IW at h ⊢
 simp [World.setCell, Array.getElem?_modify, h, List.map_set]
theorem IW.aside (h : IW w g zs) {a : Addr} {z : Int} (ha : w.cell? a = some (.int .u64 z)) : a.block ≠ g := by
 intro e
 subst e
 unfold IW at h
 unfold World.cell? at ha
 rw [h] at ha
 simp only at ha
 split at ha
 ·cases ha
 ·simp at ha
theorem NX.far {A : Option Addr} {n c : Nat} {xs : List Nat} (hX : NX w A n c xs) (h : IW w g zs) (i : Nat) (v : Value) : NX (w.setCell ⟨g, i, none⟩ v) A n c xs := by
 refine ⟨hX.len, hX.room, hX.lt, fun hn => ?_⟩
 obtain ⟨ad, rfl, hb, hc⟩ := hX.cells hn
 refine ⟨ad, rfl, by simpa using hb, fun j x hx => ?_⟩
 have h1 := hc j x hx
 rw [zdp]
 ·exact h1
 ·intro e
  exact h.aside h1 (by rw [← e])
theorem Tp.far {p : Nat} {l : List Nat} (hT : Tp w p l) (h : IW w g zs) (hne : p ≠ g) (i : Nat) (v : Value) : Tp (w.setCell ⟨g, i, none⟩ v) p l := by
 obtain ⟨A, c, h1, h2⟩ := hT
 exact ⟨A, c, (Below.heap_setCell _ _ _ _ (fun e => hne (by simpa using e))).trans h1, h2.far h i v⟩
end
theorem On.store {p g : Nat} {a b : World} (h : On p a b) (hg : a.heap.size ≤ g) (i : Nat) (v : Value) : On p a (b.setCell ⟨g, i, none⟩ v) :=
 ⟨h.os, h.tape, h.output, by simpa [World.setCell] using h.size, fun k hk hne => (Below.heap_setCell _ _ _ _ (fun e => by simp at e; omega)).trans (h.block k hk hne)⟩
structure LX (w : World) (A : Option Addr) (n c : Nat) (zs : List Int) : Prop where
 len : zs.length = n
 room : n ≤ c
 cells : 0 < n → ∃ ad, A = some ad ∧ ∀ (j : Nat) (z : Int), zs[j]? = some z → w.cell? (ad.add j) = some (.int .i64 z)
theorem IW.lx {w : World} {g : Nat} {zs : List Int} {n : Nat} (h : IW w g zs) (hn : zs.length = n) : LX w (some ⟨g, 0, none⟩) n n zs :=
 ⟨hn, Nat.le_refl _, fun _ => ⟨_, rfl, fun j z hz => by rw [Addr.add_lit, Nat.zero_add]; exact h.cell hz⟩⟩
theorem zsc : (Tryz.prog.info? 2).map (fun i => (i.zero, i.size, i.bytes)) = some (some (.int .i64 0), 1, 8) := by kernel_rfl
def newJ (n : Nat) : Array Value := ((List.replicate n (0 : Int)).map (Value.int .i64)).toArray
theorem zp5 (w : World) (n : Nat) : IW (w.alloc (.cells (newJ n) 2)) w.heap.size (List.replicate n 0) := heap_alloc_new w _
theorem zfp (c : Nat) (hc : c ≤ 1000000) (w : World) :
    (Instr.makeSlice 30 (.int .i64 (c : Int)) (.int .i64 (c : Int))).run Tryz.prog w = .ok (.slice (some ⟨w.heap.size, 0, none⟩) c c) (w.alloc (.cells (newJ c) 2)) := by
 obtain ⟨i0, hi, hz0, hz1, hz2⟩ := info_parts zsc
 have hr := run_make (P := Tryz.prog) w 30 2 i0 (.int .i64 0) Tryz.underlying30 hi hz0 .i64 .i64 (c : Int) (c : Int) (by omega) (by omega) (by rw [hz2]; omega) (by omega)
 rw [hz1] at hr
 simp only [Int.toNat_natCast] at hr
 rw [hr]
 have e : madeCells (Value.int .i64 0).cells (c * 1) = newJ c := by
  apply Array.toList_inj.1
  rw [Nat.mul_one]
  refine (toList_madeCells_one (Value.int .i64 0) c).trans ?_
  simp [newJ]
 rw [e]
theorem zcr (n : Nat) (w : World) (h0 : 1 ≤ n) (h1 : n ≤ 4096) :
    Calls Tryz.prog 95 #[.int .i64 (n : Int)] w fun e w' => e = .returned (.bool true) ∧ w = w' := by
 have hd : decide ((n : Int) ≤ 4096) = true := decide_eq_true (by omega)
 go_enter Tryz.func95, Tryz.ntmps95
 go_wp2
 go_ret
 exact ⟨rfl, rfl⟩
def DPost (w : World) (p n : Nat) (l : List Nat) (e : Ending) (w' : World) : Prop :=
 (∃ acc r A, ternS l n = some (acc, r) ∧ e = .returned (.tuple #[.slice A n n, .int .i64 0]) ∧ LX w' A n n acc ∧ Tp w' p r ∧ On p w w') ∨
 (ternS l n = none ∧ e = .returned (.tuple #[.slice none 0 0, .int .i64 11]) ∧ Tp w' p [] ∧ On p w w')
set_option maxHeartbeats 2000000 in
theorem zql (p n : Nat) (l : List Nat) (w : World) (hT : Hid (Tp w p l)) (hl : l.length ≤ 100000) (hn : n ≤ 4096) :
    Calls Tryz.prog 96 #[.int .i64 (n : Int), .func (.func 97) #[.pointer (some ⟨p, 0, none⟩)] #[]] w (DPost w p n l) := by
 have hmk := zfp n (by omega)
 go_enter Tryz.func96, Tryz.ntmps96
 go_wp2
 clear hmk
 have kA : Ext w (w.alloc (.cells (newJ n) 2)) := (Ext.refl w).alloc _
 have hI := Lib.hid (zp5 w n)
 have HT := Lib.hid (hT.out.ext kA)
 have hp := hT.out.lt
 have HO := Lib.hid (On.of (p := p) kA)
 obtain ⟨g, hg⟩ : ∃ g, g = w.heap.size := ⟨_, rfl⟩
 rw [← hg] at hI hp ⊢
 have hgw : w.heap.size ≤ g := by omega
 generalize w.alloc (.cells (newJ n) 2) = V at *
 clear hg kA
 go_loopw [14] (fun i wr => ∃ (k : Nat) (acc : List Int) (r : List Nat), k ≤ n ∧ i = .int .i64 (k : Int) ∧ Hid (ternS l k = some (acc, r)) ∧ Hid (IW wr g (acc ++ List.replicate (n - k) 0)) ∧ Hid (Tp wr p r) ∧ Hid (On p w wr)) (fun i _ => n - (intOf i).toNat)
 case atStart => exact ⟨0, [], l, by omega, rfl, Lib.hid rfl, hI, HT, HO⟩
 case round =>
  obtain ⟨k, acc, r, hk, rfl, ht, hI2, hT2, hO2⟩ := hrel
  obtain ⟨hr, hac, _⟩ := zdb ht.out
  by_cases hlt : k < n
  ·have i0 : (0 : Int) ≤ (k : Int) := by omega
   have i1 : (k : Int) < (n : Int) := by omega
   have HAC := Lib.hid hac
   clear hac
   go_wp2_with fail
   refine (zk0 p r wr hT2 (by omega)).mono ?_
   rintro ee w2 (⟨x, r2, h1, rfl, h4, h5⟩ | ⟨h1, rfl, h4, h5⟩)
   ·have HI := Lib.hid (hI2.out.on h5 (by omega))
    have h0c : (acc ++ List.replicate (n - k) (0 : Int))[k]? = some 0 := by
     rw [List.getElem?_append_right (by rw [HAC.out]; omega), HAC.out, Nat.sub_self, List.getElem?_replicate, if_pos (by omega)]
    have c0 := HI.out.cell h0c
    have z0 := HI.out.frozen k
    have hsz := HI.out.lt
    have es : (acc ++ List.replicate (n - k) (0 : Int)).set k (tval x) = (acc ++ [tval x]) ++ List.replicate (n - (k + 1)) 0 := by
     rw [List.set_append_right _ _ (by rw [HAC.out]; omega), HAC.out, Nat.sub_self, show n - k = n - (k + 1) + 1 by omega, List.replicate_succ, List.set_cons_zero, List.append_assoc]
     rfl
    have HI2 := Lib.hid (HI.out.set k (tval x))
    rw [es] at HI2
    have HT2 := Lib.hid (h4.far HI.out (by omega) k (.int .i64 (tval x)))
    have HO3 := Lib.hid ((hO2.out.trans h5).store hgw k (.int .i64 (tval x)))
    have HS := Lib.hid (zg5 ht.out h1)
    clear h1 h4 h5 es h0c
    generalize tval x = y at *
    go_wp2
    exact ⟨⟨k + 1, _, _, by omega, by go_num, HS, HI2, HT2, HO3⟩, by simp [intOf]; omega⟩
   ·have HS := Lib.hid (show ternS l n = none by
       have := zmb (zqn ht.out h1) (n - (k + 1))
       rwa [show k + 1 + (n - (k + 1)) = n by omega] at this)
    have H4 := Lib.hid h4
    have H5 := Lib.hid (hO2.out.trans h5)
    clear h1 h4 h5
    go_wp2
    go_ret2
    exact .inr ⟨HS.out, rfl, H4.out, H5.out⟩
  ·obtain rfl : k = n := by omega
   have HI3 := Lib.hid (show IW wr g acc by
    have := hI2.out
    rwa [Nat.sub_self, List.replicate_zero, List.append_nil] at this)
   have HAC := Lib.hid hac
   clear hac
   go_wp2
   go_ret2
   exact .inl ⟨acc, r, _, ht.out, rfl, HI3.out.lx HAC.out, hT2.out, hO2.out⟩
theorem zee (p n : Nat) (l : List Nat) (w : World) (hT : Hid (Tp w p l)) (hl : l.length ≤ 100000) (h0 : 1 ≤ n) (hn : n ≤ 4096) :
    Calls Tryz.prog 47 #[.pointer (some ⟨p, 0, none⟩), .int .i64 (n : Int)] w (DPost w p n l) := by
 go_enter Tryz.func47, Tryz.ntmps47
 go_wp2_with (go_at_call 95; refine (zcr n _ h0 hn).mono ?_; rintro ee w2 ⟨rfl, rfl⟩)
 refine (zql p n l w hT hl hn).mono ?_
 rintro ee w2 (⟨acc, r, A, h1, rfl, h3, h4, h5⟩ | ⟨h1, rfl, h4, h5⟩)
 ·have H1 := Lib.hid h1
  have H3 := Lib.hid h3
  have H4 := Lib.hid h4
  have H5 := Lib.hid h5
  clear h1 h3 h4 h5
  go_wp2
  go_ret2
  exact .inl ⟨acc, r, A, H1.out, rfl, H3.out, H4.out, H5.out⟩
 ·have H1 := Lib.hid h1
  have H4 := Lib.hid h4
  have H5 := Lib.hid h5
  clear h1 h4 h5
  go_wp2
  go_ret2
  exact .inr ⟨H1.out, rfl, H4.out, H5.out⟩
theorem zyr (w : World) (xs : List Nat) (n : Nat) (hn : xs.length = n) (hx : ∀ x ∈ xs, x < W64) : NX (w.alloc (.cells (u64s xs ++ []).toArray 26)) (some ⟨w.heap.size, 0, none⟩) n n xs :=
 Bk.rd (sp := []) (heap_alloc_new w _) hx hn (Nat.le_refl _)
end Go.Proofs.YtopbibfpjgjalaaGreatDoor
