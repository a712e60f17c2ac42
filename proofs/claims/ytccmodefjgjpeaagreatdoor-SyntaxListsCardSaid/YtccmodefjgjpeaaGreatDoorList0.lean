/-
  A call with so many arguments, a function with so many parameters: 0 parameters to 9.
-/
import Derived.Test.YtccmodefjgjpeaaGreatDoorListM
namespace Go.Proofs.YtccmodefjgjpeaaGreatDoor
set_option maxRecDepth 100000 in
set_option maxHeartbeats 4000000 in
theorem list_p0 : ∀ a, a < 30 → chkL a 0 (parseT (listT a 0)) = true := by decide +kernel
set_option maxRecDepth 100000 in
set_option maxHeartbeats 4000000 in
theorem list_p1 : ∀ a, a < 30 → chkL a 1 (parseT (listT a 1)) = true := by decide +kernel
set_option maxRecDepth 100000 in
set_option maxHeartbeats 4000000 in
theorem list_p2 : ∀ a, a < 30 → chkL a 2 (parseT (listT a 2)) = true := by decide +kernel
set_option maxRecDepth 100000 in
set_option maxHeartbeats 4000000 in
theorem list_p3 : ∀ a, a < 30 → chkL a 3 (parseT (listT a 3)) = true := by decide +kernel
set_option maxRecDepth 100000 in
set_option maxHeartbeats 4000000 in
theorem list_p4 : ∀ a, a < 30 → chkL a 4 (parseT (listT a 4)) = true := by decide +kernel
set_option maxRecDepth 100000 in
set_option maxHeartbeats 4000000 in
theorem list_p5 : ∀ a, a < 30 → chkL a 5 (parseT (listT a 5)) = true := by decide +kernel
set_option maxRecDepth 100000 in
set_option maxHeartbeats 4000000 in
theorem list_p6 : ∀ a, a < 30 → chkL a 6 (parseT (listT a 6)) = true := by decide +kernel
set_option maxRecDepth 100000 in
set_option maxHeartbeats 4000000 in
theorem list_p7 : ∀ a, a < 30 → chkL a 7 (parseT (listT a 7)) = true := by decide +kernel
set_option maxRecDepth 100000 in
set_option maxHeartbeats 4000000 in
theorem list_p8 : ∀ a, a < 30 → chkL a 8 (parseT (listT a 8)) = true := by decide +kernel
set_option maxRecDepth 100000 in
set_option maxHeartbeats 4000000 in
theorem list_p9 : ∀ a, a < 30 → chkL a 9 (parseT (listT a 9)) = true := by decide +kernel
end Go.Proofs.YtccmodefjgjpeaaGreatDoor
