/-
  As deep as may be, and no deeper: blocks.
-/
import Derived.Test.YtccmodefjgjpeaaGreatDoorDeepBa
import Derived.Test.YtccmodefjgjpeaaGreatDoorDeepBb
namespace Go.Proofs.YtccmodefjgjpeaaGreatDoor
theorem deep_b : ∀ k, k < 70 → code (parseT (deepB k)) = if k ≤ 63 then 0 else 4 := by
  intro k hk
  rcases Nat.lt_or_ge k 50 with h | h
  · exact deep_b_a k (Nat.zero_le _) h
  · exact deep_b_b k h hk
end Go.Proofs.YtccmodefjgjpeaaGreatDoor
