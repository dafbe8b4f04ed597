/-
  The two tests of numbers from 49152 to 65535 held against each other, by the kernel's own reckoning.
-/
import Derived.Test.YtpgcapobbmbchaaDoorPMath
namespace Go.Proofs.YtpgcapobbmbchaaDoor
set_option maxRecDepth 100000

theorem run3_0 : runF 1024 49152 = true := by decide +kernel
theorem run3_1 : runF 1024 50176 = true := by decide +kernel
theorem run3_2 : runF 1024 51200 = true := by decide +kernel
theorem run3_3 : runF 1024 52224 = true := by decide +kernel
theorem run3_4 : runF 1024 53248 = true := by decide +kernel
theorem run3_5 : runF 1024 54272 = true := by decide +kernel
theorem run3_6 : runF 1024 55296 = true := by decide +kernel
theorem run3_7 : runF 1024 56320 = true := by decide +kernel
theorem run3_8 : runF 1024 57344 = true := by decide +kernel
theorem run3_9 : runF 1024 58368 = true := by decide +kernel
theorem run3_10 : runF 1024 59392 = true := by decide +kernel
theorem run3_11 : runF 1024 60416 = true := by decide +kernel
theorem run3_12 : runF 1024 61440 = true := by decide +kernel
theorem run3_13 : runF 1024 62464 = true := by decide +kernel
theorem run3_14 : runF 1024 63488 = true := by decide +kernel
theorem run3_15 : runF 1024 64512 = true := by decide +kernel
theorem run3 (m : Nat) (h0 : 49152 ≤ m) (h1 : m < 65536) : chkF m = true := by
  rcases Nat.lt_or_ge m 50176 with g | g
  · exact runF_spec 1024 49152 run3_0 m (by omega) (by omega)
  rcases Nat.lt_or_ge m 51200 with g | g
  · exact runF_spec 1024 50176 run3_1 m (by omega) (by omega)
  rcases Nat.lt_or_ge m 52224 with g | g
  · exact runF_spec 1024 51200 run3_2 m (by omega) (by omega)
  rcases Nat.lt_or_ge m 53248 with g | g
  · exact runF_spec 1024 52224 run3_3 m (by omega) (by omega)
  rcases Nat.lt_or_ge m 54272 with g | g
  · exact runF_spec 1024 53248 run3_4 m (by omega) (by omega)
  rcases Nat.lt_or_ge m 55296 with g | g
  · exact runF_spec 1024 54272 run3_5 m (by omega) (by omega)
  rcases Nat.lt_or_ge m 56320 with g | g
  · exact runF_spec 1024 55296 run3_6 m (by omega) (by omega)
  rcases Nat.lt_or_ge m 57344 with g | g
  · exact runF_spec 1024 56320 run3_7 m (by omega) (by omega)
  rcases Nat.lt_or_ge m 58368 with g | g
  · exact runF_spec 1024 57344 run3_8 m (by omega) (by omega)
  rcases Nat.lt_or_ge m 59392 with g | g
  · exact runF_spec 1024 58368 run3_9 m (by omega) (by omega)
  rcases Nat.lt_or_ge m 60416 with g | g
  · exact runF_spec 1024 59392 run3_10 m (by omega) (by omega)
  rcases Nat.lt_or_ge m 61440 with g | g
  · exact runF_spec 1024 60416 run3_11 m (by omega) (by omega)
  rcases Nat.lt_or_ge m 62464 with g | g
  · exact runF_spec 1024 61440 run3_12 m (by omega) (by omega)
  rcases Nat.lt_or_ge m 63488 with g | g
  · exact runF_spec 1024 62464 run3_13 m (by omega) (by omega)
  rcases Nat.lt_or_ge m 64512 with g | g
  · exact runF_spec 1024 63488 run3_14 m (by omega) (by omega)
  exact runF_spec 1024 64512 run3_15 m (by omega) (by omega)
end Go.Proofs.YtpgcapobbmbchaaDoor
