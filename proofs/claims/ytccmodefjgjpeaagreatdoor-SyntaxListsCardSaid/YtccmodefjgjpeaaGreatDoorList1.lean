/-
  A call with so many arguments, a function with so many parameters: 10 parameters to 19.
-/
import Derived.Test.YtccmodefjgjpeaaGreatDoorListM
namespace Go.Proofs.YtccmodefjgjpeaaGreatDoor
set_option maxRecDepth 100000 in
set_option maxHeartbeats 4000000 in
theorem list_p10 : ∀ a, a < 30 → chkL a 10 (parseT (listT a 10)) = true := by decide +kernel
set_option maxRecDepth 100000 in
set_option maxHeartbeats 4000000 in
theorem list_p11 : ∀ a, a < 30 → chkL a 11 (parseT (listT a 11)) = true := by decide +kernel
set_option maxRecDepth 100000 in
set_option maxHeartbeats 4000000 in
theorem list_p12 : ∀ a, a < 30 → chkL a 12 (parseT (listT a 12)) = true := by decide +kernel
set_option maxRecDepth 100000 in
set_option maxHeartbeats 4000000 in
theorem list_p13 : ∀ a, a < 30 → chkL a 13 (parseT (listT a 13)) = true := by decide +kernel
set_option maxRecDepth 100000 in
set_option maxHeartbeats 4000000 in
theorem list_p14 : ∀ a, a < 30 → chkL a 14 (parseT (listT a 14)) = true := by decide +kernel
set_option maxRecDepth 100000 in
set_option maxHeartbeats 4000000 in
theorem list_p15 : ∀ a, a < 30 → chkL a 15 (parseT (listT a 15)) = true := by decide +kernel
set_option maxRecDepth 100000 in
set_option maxHeartbeats 4000000 in
theorem list_p16 : ∀ a, a < 30 → chkL a 16 (parseT (listT a 16)) = true := by decide +kernel
set_option maxRecDepth 100000 in
set_option maxHeartbeats 4000000 in
theorem list_p17 : ∀ a, a < 30 → chkL a 17 (parseT (listT a 17)) = true := by decide +kernel
set_option maxRecDepth 100000 in
set_option maxHeartbeats 4000000 in
theorem list_p18 : ∀ a, a < 30 → chkL a 18 (parseT (listT a 18)) = true := by decide +kernel
set_option maxRecDepth 100000 in
set_option maxHeartbeats 4000000 in
theorem list_p19 : ∀ a, a < 30 → chkL a 19 (parseT (listT a 19)) = true := by decide +kernel
end Go.Proofs.YtccmodefjgjpeaaGreatDoor
