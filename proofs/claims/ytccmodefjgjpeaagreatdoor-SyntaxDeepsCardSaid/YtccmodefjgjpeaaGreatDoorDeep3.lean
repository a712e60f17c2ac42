/-
  As deep as may be, and no deeper: places of arrays.
-/
import Derived.Test.YtccmodefjgjpeaaGreatDoorDeepCa
import Derived.Test.YtccmodefjgjpeaaGreatDoorDeepCb
namespace Go.Proofs.YtccmodefjgjpeaaGreatDoor
theorem deep_a3 : ∀ k, k < 70 → code (parseT (deepA k 3)) = if k ≤ 63 then 0 else 4 := by
  intro k hk
  rcases Nat.lt_or_ge k 50 with h | h
  · exact deep_c_a k (Nat.zero_le _) h
  · exact deep_c_b k h hk
end Go.Proofs.YtccmodefjgjpeaaGreatDoor
