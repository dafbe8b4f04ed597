/-
  The two tests of numbers from 16384 to 32767 held against each other, by the kernel's own reckoning.
-/
import Derived.Test.YtpgcapobbmbchaaDoorPMath
namespace Go.Proofs.YtpgcapobbmbchaaDoor
set_option maxRecDepth 100000

theorem run1_0 : runF 1024 16384 = true := by decide +kernel
theorem run1_1 : runF 1024 17408 = true := by decide +kernel
theorem run1_2 : runF 1024 18432 = true := by decide +kernel
theorem run1_3 : runF 1024 19456 = true := by decide +kernel
theorem run1_4 : runF 1024 20480 = true := by decide +kernel
theorem run1_5 : runF 1024 21504 = true := by decide +kernel
theorem run1_6 : runF 1024 22528 = true := by decide +kernel
theorem run1_7 : runF 1024 23552 = true := by decide +kernel
theorem run1_8 : runF 1024 24576 = true := by decide +kernel
theorem run1_9 : runF 1024 25600 = true := by decide +kernel
theorem run1_10 : runF 1024 26624 = true := by decide +kernel
theorem run1_11 : runF 1024 27648 = true := by decide +kernel
theorem run1_12 : runF 1024 28672 = true := by decide +kernel
theorem run1_13 : runF 1024 29696 = true := by decide +kernel
theorem run1_14 : runF 1024 30720 = true := by decide +kernel
theorem run1_15 : runF 1024 31744 = true := by decide +kernel
theorem run1 (m : Nat) (h0 : 16384 ≤ m) (h1 : m < 32768) : chkF m = true := by
  rcases Nat.lt_or_ge m 17408 with g | g
  · exact runF_spec 1024 16384 run1_0 m (by omega) (by omega)
  rcases Nat.lt_or_ge m 18432 with g | g
  · exact runF_spec 1024 17408 run1_1 m (by omega) (by omega)
  rcases Nat.lt_or_ge m 19456 with g | g
  · exact runF_spec 1024 18432 run1_2 m (by omega) (by omega)
  rcases Nat.lt_or_ge m 20480 with g | g
  · exact runF_spec 1024 19456 run1_3 m (by omega) (by omega)
  rcases Nat.lt_or_ge m 21504 with g | g
  · exact runF_spec 1024 20480 run1_4 m (by omega) (by omega)
  rcases Nat.lt_or_ge m 22528 with g | g
  · exact runF_spec 1024 21504 run1_5 m (by omega) (by omega)
  rcases Nat.lt_or_ge m 23552 with g | g
  · exact runF_spec 1024 22528 run1_6 m (by omega) (by omega)
  rcases Nat.lt_or_ge m 24576 with g | g
  · exact runF_spec 1024 23552 run1_7 m (by omega) (by omega)
  rcases Nat.lt_or_ge m 25600 with g | g
  · exact runF_spec 1024 24576 run1_8 m (by omega) (by omega)
  rcases Nat.lt_or_ge m 26624 with g | g
  · exact runF_spec 1024 25600 run1_9 m (by omega) (by omega)
  rcases Nat.lt_or_ge m 27648 with g | g
  · exact runF_spec 1024 26624 run1_10 m (by omega) (by omega)
  rcases Nat.lt_or_ge m 28672 with g | g
  · exact runF_spec 1024 27648 run1_11 m (by omega) (by omega)
  rcases Nat.lt_or_ge m 29696 with g | g
  · exact runF_spec 1024 28672 run1_12 m (by omega) (by omega)
  rcases Nat.lt_or_ge m 30720 with g | g
  · exact runF_spec 1024 29696 run1_13 m (by omega) (by omega)
  rcases Nat.lt_or_ge m 31744 with g | g
  · exact runF_spec 1024 30720 run1_14 m (by omega) (by omega)
  exact runF_spec 1024 31744 run1_15 m (by omega) (by omega)
end Go.Proofs.YtpgcapobbmbchaaDoor
