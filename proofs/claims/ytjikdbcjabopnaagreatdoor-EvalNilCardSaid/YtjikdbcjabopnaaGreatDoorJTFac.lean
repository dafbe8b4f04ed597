import Derived.Test.YtjikdbcjabopnaaGreatDoorJ11
import Derived.Test.YtjikdbcjabopnaaGreatDoorJ9
namespace Go.Proofs.YtjikdbcjabopnaaGreatDoor
open Go.RowKit
set_option linter.unusedVariables false
set_option maxRecDepth 100000
set_option maxHeartbeats 1000000 in
theorem div64_zero (m : Int) (w : World) (h1 : 0 < m) (m1 : m < 18446744073709551616) :
    Calls Tryz.prog 274 #[.int .u64 0, .int .u64 0, .int .u64 m] w (DivPost 0 m w) := by
 have hmz : (m == 0) = false := by simp; omega
 have hmz2 : ¬ m = 0 := by omega
 have hml : decide (m ≤ 0) = false := by simp; omega
 have HZ := Lib.hid (show (0 : Int) * 18446744073709551616 / m = 0 by rw [Int.zero_mul, Int.zero_ediv])
 go_enter Tryz.func274, Tryz.ntmps274
 go_wp2
 go_quiet (fail)
 go_wp2
 go_ret2
 exact ⟨_, _, congrArg Ending.returned (tup2 HZ.out.symm rfl), rfl⟩
def shr (b q : Nat) : Nat := b * 18446744073709551616 / q
theorem divN_any (b q : Nat) (w : World) (h1 : b < q) (m1 : q < 18446744073709551616) :
    Calls Tryz.prog 274 #[.int .u64 (b : Int), .int .u64 0, .int .u64 (q : Int)] w fun e w' => ∃ r : Int, e = .returned (.tuple #[.int .u64 ((shr b q : Nat) : Int), .int .u64 r]) ∧ Ext w w' := by
 have hs : ((shr b q : Nat) : Int) = (b : Int) * 18446744073709551616 / (q : Int) := by
  unfold shr; rw [Int.natCast_ediv, Int.natCast_mul]; rfl
 rw [hs]
 rcases Nat.eq_zero_or_pos b with h0 | h0
 ·subst h0
  exact (div64_zero q w (by omega) (by omega)).mono fun e w' ⟨r, n, he, hw⟩ => ⟨r, he, by rw [hw]; exact (Ext.refl w).drewN n⟩
 ·exact (div64_any b q w (by omega) (by omega) (by omega)).mono fun e w' ⟨r, n, he, hw⟩ => ⟨r, he, by rw [hw]; exact (Ext.refl w).drewN n⟩
theorem factorOf_any (b q : Nat) (w : World) (h1 : b < q) (m1 : q < 18446744073709551616) :
    Calls Tryz.prog 239 #[.int .u64 (b : Int), .int .u64 (q : Int)] w fun e w' => e = .returned (.agg #[.int .u64 (b : Int), .int .u64 ((shr b q : Nat) : Int)]) ∧ Ext w w' := by
 generalize hs : shr b q = s
 have HS := Lib.hid hs
 clear hs
 go_enter Tryz.func239, Tryz.ntmps239
 go_wp2_with fail
 refine (divN_any b q _ h1 m1).mono ?_
 rw [HS.out]
 rintro e w1 ⟨r, rfl, k1⟩
 have c0 : w1.cell? ⟨w.heap.size, 0, none⟩ = some (.int .u64 0) := kept_cell k1 (by simp) (by simp)
 have c1 : w1.cell? ⟨w.heap.size, 1, none⟩ = some (.int .u64 0) := kept_cell k1 (by simp) (by simp)
 have z0 : w1.frozen? ⟨w.heap.size, 0, none⟩ = false := kept_free k1 (by simp) (by simp)
 have z1 : w1.frozen? ⟨w.heap.size, 1, none⟩ = false := kept_free k1 (by simp) (by simp)
 have kw : Ext w w1 := ((Ext.refl w).alloc _).trans k1
 go_wp2
 exact bodyPost_ret (v := .agg #[.int .u64 (b : Int), .int .u64 (s : Int)]) (by simp [results, Tryz.results239, go_sem, c0, c1]) rfl ⟨rfl, (kw.set (p := ⟨w.heap.size, 0, none⟩) (Nat.le_refl _) _).set (p := ⟨w.heap.size, 1, none⟩) (Nat.le_refl _) _⟩
def dif (a b q : Nat) : Nat := (a + q - b) % q
end Go.Proofs.YtjikdbcjabopnaaGreatDoor
