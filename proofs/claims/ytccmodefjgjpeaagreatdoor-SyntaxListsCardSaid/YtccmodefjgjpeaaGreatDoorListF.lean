/-
  A comma behind the last one: no program.
-/
import Derived.Test.YtccmodefjgjpeaaGreatDoorListM
namespace Go.Proofs.YtccmodefjgjpeaaGreatDoor
set_option maxRecDepth 100000 in
set_option maxHeartbeats 4000000 in
theorem list_f : ∀ p, p < 30 → codeL (parseT (listF p)) = 3 := by decide +kernel
set_option maxRecDepth 100000 in
set_option maxHeartbeats 4000000 in
theorem list_g : ∀ p, p < 30 → codeL (parseT (listG p)) = 3 := by decide +kernel
end Go.Proofs.YtccmodefjgjpeaaGreatDoor
