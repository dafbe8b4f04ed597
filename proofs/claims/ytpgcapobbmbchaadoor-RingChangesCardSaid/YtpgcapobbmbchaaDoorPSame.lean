/-
  The program's test for primes and the document's answer are the same, for every number.
-/
import Derived.Test.YtpgcapobbmbchaaDoorPRun0
import Derived.Test.YtpgcapobbmbchaaDoorPRun1
import Derived.Test.YtpgcapobbmbchaaDoorPRun2
import Derived.Test.YtpgcapobbmbchaaDoorPRun3
namespace Go.Proofs.YtpgcapobbmbchaaDoor

theorem is_same (n : Nat) : isS n = isR n := by
  unfold isR
  by_cases h0 : n < 2
  · rw [if_pos h0]
    unfold isS
    rw [blt_iff, decide_eq_true h0, cond_true]
  · rw [if_neg h0]
    by_cases h : n < 65536
    · rw [if_pos h]
      refine small_same (by omega) h ?_
      rcases Nat.lt_or_ge n 16384 with g | g
      · exact run0 n (by omega) g
      rcases Nat.lt_or_ge n 32768 with g2 | g2
      · exact run1 n g g2
      rcases Nat.lt_or_ge n 49152 with g3 | g3
      · exact run2 n g2 g3
      · exact run3 n g3 h
    · rw [if_neg h]
      exact great_same (by omega)
end Go.Proofs.YtpgcapobbmbchaaDoor
