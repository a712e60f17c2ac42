/-
  As deep as may be, and no deeper: kind 2.
-/
import Derived.Test.YtccmodefjgjpeaaGreatDoorDeepM
namespace Go.Proofs.YtccmodefjgjpeaaGreatDoor
set_option maxRecDepth 100000 in
theorem deep_a2 : ∀ k, k < 70 → code (parseT (deepA k 2)) = if k ≤ 63 then 0 else 4 := by decide +kernel
end Go.Proofs.YtccmodefjgjpeaaGreatDoor
