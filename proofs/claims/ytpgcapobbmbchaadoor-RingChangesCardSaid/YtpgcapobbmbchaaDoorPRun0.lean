/-
  The two tests of numbers from 0 to 16383 held against each other, by the kernel's own reckoning.
-/
import Derived.Test.YtpgcapobbmbchaaDoorPMath
namespace Go.Proofs.YtpgcapobbmbchaaDoor
set_option maxRecDepth 100000

theorem run0_0 : runF 1024 0 = true := by decide +kernel
theorem run0_1 : runF 1024 1024 = true := by decide +kernel
theorem run0_2 : runF 1024 2048 = true := by decide +kernel
theorem run0_3 : runF 1024 3072 = true := by decide +kernel
theorem run0_4 : runF 1024 4096 = true := by decide +kernel
theorem run0_5 : runF 1024 5120 = true := by decide +kernel
theorem run0_6 : runF 1024 6144 = true := by decide +kernel
theorem run0_7 : runF 1024 7168 = true := by decide +kernel
theorem run0_8 : runF 1024 8192 = true := by decide +kernel
theorem run0_9 : runF 1024 9216 = true := by decide +kernel
theorem run0_10 : runF 1024 10240 = true := by decide +kernel
theorem run0_11 : runF 1024 11264 = true := by decide +kernel
theorem run0_12 : runF 1024 12288 = true := by decide +kernel
theorem run0_13 : runF 1024 13312 = true := by decide +kernel
theorem run0_14 : runF 1024 14336 = true := by decide +kernel
theorem run0_15 : runF 1024 15360 = true := by decide +kernel
theorem run0 (m : Nat) (h0 : 0 ≤ m) (h1 : m < 16384) : chkF m = true := by
  rcases Nat.lt_or_ge m 1024 with g | g
  · exact runF_spec 1024 0 run0_0 m (by omega) (by omega)
  rcases Nat.lt_or_ge m 2048 with g | g
  · exact runF_spec 1024 1024 run0_1 m (by omega) (by omega)
  rcases Nat.lt_or_ge m 3072 with g | g
  · exact runF_spec 1024 2048 run0_2 m (by omega) (by omega)
  rcases Nat.lt_or_ge m 4096 with g | g
  · exact runF_spec 1024 3072 run0_3 m (by omega) (by omega)
  rcases Nat.lt_or_ge m 5120 with g | g
  · exact runF_spec 1024 4096 run0_4 m (by omega) (by omega)
  rcases Nat.lt_or_ge m 6144 with g | g
  · exact runF_spec 1024 5120 run0_5 m (by omega) (by omega)
  rcases Nat.lt_or_ge m 7168 with g | g
  · exact runF_spec 1024 6144 run0_6 m (by omega) (by omega)
  rcases Nat.lt_or_ge m 8192 with g | g
  · exact runF_spec 1024 7168 run0_7 m (by omega) (by omega)
  rcases Nat.lt_or_ge m 9216 with g | g
  · exact runF_spec 1024 8192 run0_8 m (by omega) (by omega)
  rcases Nat.lt_or_ge m 10240 with g | g
  · exact runF_spec 1024 9216 run0_9 m (by omega) (by omega)
  rcases Nat.lt_or_ge m 11264 with g | g
  · exact runF_spec 1024 10240 run0_10 m (by omega) (by omega)
  rcases Nat.lt_or_ge m 12288 with g | g
  · exact runF_spec 1024 11264 run0_11 m (by omega) (by omega)
  rcases Nat.lt_or_ge m 13312 with g | g
  · exact runF_spec 1024 12288 run0_12 m (by omega) (by omega)
  rcases Nat.lt_or_ge m 14336 with g | g
  · exact runF_spec 1024 13312 run0_13 m (by omega) (by omega)
  rcases Nat.lt_or_ge m 15360 with g | g
  · exact runF_spec 1024 14336 run0_14 m (by omega) (by omega)
  exact runF_spec 1024 15360 run0_15 m (by omega) (by omega)
end Go.Proofs.YtpgcapobbmbchaaDoor
