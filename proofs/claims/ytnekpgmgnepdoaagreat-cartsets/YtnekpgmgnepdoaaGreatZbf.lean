import Derived.Test.YtnekpgmgnepdoaaGreatZaa
namespace Go.Proofs.YtnekpgmgnepdoaaGreat
namespace V
theorem zero_at (i : Nat) : zero.at_ i = 0 := by
 by_cases h : i < 16
 ·exact of_at _ h (by omega)
 ·show zero.1.getD i 0 = 0
  have : ¬ i < zero.1.length := by rw [zero.2.1]; exact h
  simp [List.getD, this]
end V
end Go.Proofs.YtnekpgmgnepdoaaGreat
