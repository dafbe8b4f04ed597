import Derived.Test.YtkbcobjhlpjieaaGreatDoorZ12
import Derived.Test.YtkbcobjhlpjieaaGreatDoorZNRow
namespace Go.Proofs.YtkbcobjhlpjieaaGreatDoor
open Go.RowKit
set_option linter.unusedVariables false
set_option maxRecDepth 100000
def InPlace (g : Nat) (pre post : List Nat) (sp : List Value) (n : Nat) (R : List Nat → Nat → Prop) (w : World) (e : Ending) (w' : World) : Prop :=
 ∃ (ns : List Nat) (C : Nat), e = .returned (.int .u64 (C : Int)) ∧ ns.length = n ∧ (∀ x ∈ ns, x < W64) ∧ C < W64 ∧ R ns C ∧ Bk w' g (pre ++ ns ++ post) sp ∧ w.grownBy w' (some g)
set_option maxHeartbeats 1000000 in
theorem addTimes_any (g o cp : Nat) (A : Option Addr) (n c B q : Nat) (pre ps post ds : List Nat) (sp : List Value) (w : World) (hk : Bk w g (pre ++ ps ++ post) sp) (ho : pre.length = o) (hp : ps.length = n) (hps : ∀ x ∈ ps, x < W64)
    (h : NR w B A n c ds) (hB : B ≤ w.heap.size) (hne : 0 < n → ∀ ad, A = some ad → ad.block ≠ g) (hn : n ≤ 1000000) (hcp : n ≤ cp) (hq : q < 18446744073709551616) :
    Calls Tryz.prog 179 #[.slice (some ⟨g, o, none⟩) n cp, .slice A n c, .int .u64 (q : Int)] w (InPlace g pre post sp n (fun ns C => nv ns + W64 ^ n * C = nv ps + q * nv ds) w) := by
 have HD := Lib.hid h.len
 have W0 : 0 < W64 := by rw [W64_eq]; omega
 go_enter Tryz.func179, Tryz.ntmps179
 go_wp2
 go_loopw [7, 12] (fun q' i wr => ∃ (k Q : Nat) (ns : List Nat), k ≤ n ∧ i = .int .i64 k ∧ q' = .int .u64 (Q : Int) ∧ Bk wr g (pre ++ ns ++ ps.drop k ++ post) sp ∧ w.grownBy wr (some g) ∧ TimesInv W64 ps ds q k ns Q) (fun _ i _ => n - (intOf i).toNat)
 case atStart => exact ⟨0, 0, [], by omega, rfl, rfl, by simpa using hk, World.grownBy.refl _ _, timesInv_zero W0⟩
 case round =>
  obtain ⟨k, Q, ns, hkn, rfl, rfl, hb, hg, hinv⟩ := hrel
  have hQ := hinv.2.2.1
  rw [W64_eq] at hQ
  by_cases hlt : k < n
  ·obtain ⟨ad, x, rfl, hbl, hxb, hx, hc⟩ := (h.only hg hB hne).at_ hlt
   rw [W64_eq] at hxb
   obtain ⟨p, hp1, hp2⟩ := drop_next (show k < ps.length by omega)
   have hpb := hps p (List.mem_of_getElem? hp1)
   rw [hp2] at hb
   have hb' : Bk wr g (pre ++ ns ++ p :: (ps.drop (k + 1) ++ post)) sp := by simpa using hb
   have hlen : o + k = pre.length + ns.length := by rw [ho, hinv.1]
   have hcell := hb'.cell (get_mid (p := p) (post := ps.drop (k + 1) ++ post) hlen)
   have hfz := hb'.frozen (o + k)
   have hset : ∀ v : Nat, Bk (wr.setCell ⟨g, o + k, none⟩ (.int .u64 (v : Int))) g (pre ++ (ns ++ [v]) ++ ps.drop (k + 1) ++ post) sp := fun v => by
    have := hb'.set_ (i := o + k) (by simp; omega) v
    rw [set_mid hlen] at this
    simpa using this
   have hgs : ∀ v : Value, w.grownBy (wr.setCell ⟨g, o + k, none⟩ v) (some g) := fun v => only_trans hg (only_set v)
   have HS := Lib.hid hset
   have HG := Lib.hid hgs
   clear hlen hset hgs hb hb' hp2
   rw [W64_eq] at hpb
   obtain ⟨t1, t2, t3⟩ := mu_eq hxb hq hpb hQ
   have HJ := Lib.hid (muW_int x q p Q)
   have HN := Lib.hid (hinv.step (z := muW x q p Q) (Q' := muC x q p Q) (by rw [hx, hp1, W64_eq, Option.getD_some, Option.getD_some]; exact t1) (by rw [W64_eq]; exact t2) (by rw [W64_eq]; exact t3))
   clear hx hp1 t1
   go_wp2_with fail
   refine (mulWord_any (x : Int) (q : Int) (p : Int) (Q : Int) _ (by omega) (by omega) (by omega) (by omega) (by omega) (by omega) (by omega) (by omega)).mono ?_
   rw [HJ.out.1, HJ.out.2]
   rintro e w' ⟨rfl, rfl⟩
   go_wp2
   exact ⟨⟨k + 1, _, _, by omega, by go_num, rfl, HS.out _, HG.out _, HN.out⟩, by simp [intOf]; omega⟩
  ·obtain rfl : k = n := by omega
   obtain ⟨f1, f2, f4, f5⟩ := hinv
   rw [List.take_of_length_le (l := ps) (by omega), List.take_of_length_le (l := ds) (by rw [HD.out]; omega)] at f5
   rw [List.drop_of_length_le (by omega), List.append_nil] at hb
   have F5 := Lib.hid f5
   have F1 := Lib.hid f1
   clear f5 f1
   go_wp2
   go_ret
   exact ⟨_, _, rfl, F1.out, f2, f4, F5.out, hb, hg⟩
end Go.Proofs.YtkbcobjhlpjieaaGreatDoor
