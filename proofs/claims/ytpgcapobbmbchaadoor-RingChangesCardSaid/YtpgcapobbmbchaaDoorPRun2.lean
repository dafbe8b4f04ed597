/-
  The two tests of numbers from 32768 to 49151 held against each other, by the kernel's own reckoning.
-/
import Derived.Test.YtpgcapobbmbchaaDoorPMath
namespace Go.Proofs.YtpgcapobbmbchaaDoor
set_option maxRecDepth 100000

theorem run2_0 : runF 1024 32768 = true := by decide +kernel
theorem run2_1 : runF 1024 33792 = true := by decide +kernel
theorem run2_2 : runF 1024 34816 = true := by decide +kernel
theorem run2_3 : runF 1024 35840 = true := by decide +kernel
theorem run2_4 : runF 1024 36864 = true := by decide +kernel
theorem run2_5 : runF 1024 37888 = true := by decide +kernel
theorem run2_6 : runF 1024 38912 = true := by decide +kernel
theorem run2_7 : runF 1024 39936 = true := by decide +kernel
theorem run2_8 : runF 1024 40960 = true := by decide +kernel
theorem run2_9 : runF 1024 41984 = true := by decide +kernel
theorem run2_10 : runF 1024 43008 = true := by decide +kernel
theorem run2_11 : runF 1024 44032 = true := by decide +kernel
theorem run2_12 : runF 1024 45056 = true := by decide +kernel
theorem run2_13 : runF 1024 46080 = true := by decide +kernel
theorem run2_14 : runF 1024 47104 = true := by decide +kernel
theorem run2_15 : runF 1024 48128 = true := by decide +kernel
theorem run2 (m : Nat) (h0 : 32768 ≤ m) (h1 : m < 49152) : chkF m = true := by
  rcases Nat.lt_or_ge m 33792 with g | g
  · exact runF_spec 1024 32768 run2_0 m (by omega) (by omega)
  rcases Nat.lt_or_ge m 34816 with g | g
  · exact runF_spec 1024 33792 run2_1 m (by omega) (by omega)
  rcases Nat.lt_or_ge m 35840 with g | g
  · exact runF_spec 1024 34816 run2_2 m (by omega) (by omega)
  rcases Nat.lt_or_ge m 36864 with g | g
  · exact runF_spec 1024 35840 run2_3 m (by omega) (by omega)
  rcases Nat.lt_or_ge m 37888 with g | g
  · exact runF_spec 1024 36864 run2_4 m (by omega) (by omega)
  rcases Nat.lt_or_ge m 38912 with g | g
  · exact runF_spec 1024 37888 run2_5 m (by omega) (by omega)
  rcases Nat.lt_or_ge m 39936 with g | g
  · exact runF_spec 1024 38912 run2_6 m (by omega) (by omega)
  rcases Nat.lt_or_ge m 40960 with g | g
  · exact runF_spec 1024 39936 run2_7 m (by omega) (by omega)
  rcases Nat.lt_or_ge m 41984 with g | g
  · exact runF_spec 1024 40960 run2_8 m (by omega) (by omega)
  rcases Nat.lt_or_ge m 43008 with g | g
  · exact runF_spec 1024 41984 run2_9 m (by omega) (by omega)
  rcases Nat.lt_or_ge m 44032 with g | g
  · exact runF_spec 1024 43008 run2_10 m (by omega) (by omega)
  rcases Nat.lt_or_ge m 45056 with g | g
  · exact runF_spec 1024 44032 run2_11 m (by omega) (by omega)
  rcases Nat.lt_or_ge m 46080 with g | g
  · exact runF_spec 1024 45056 run2_12 m (by omega) (by omega)
  rcases Nat.lt_or_ge m 47104 with g | g
  · exact runF_spec 1024 46080 run2_13 m (by omega) (by omega)
  rcases Nat.lt_or_ge m 48128 with g | g
  · exact runF_spec 1024 47104 run2_14 m (by omega) (by omega)
  exact runF_spec 1024 48128 run2_15 m (by omega) (by omega)
end Go.Proofs.YtpgcapobbmbchaaDoor
