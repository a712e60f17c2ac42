/-
  A call with so many arguments, a function with so many parameters: 20 parameters to 29.
-/
import Derived.Test.YtccmodefjgjpeaaGreatDoorListM
namespace Go.Proofs.YtccmodefjgjpeaaGreatDoor
set_option maxRecDepth 100000 in
set_option maxHeartbeats 4000000 in
theorem list_p20 : ∀ a, a < 30 → chkL a 20 (parseT (listT a 20)) = true := by decide +kernel
set_option maxRecDepth 100000 in
set_option maxHeartbeats 4000000 in
theorem list_p21 : ∀ a, a < 30 → chkL a 21 (parseT (listT a 21)) = true := by decide +kernel
set_option maxRecDepth 100000 in
set_option maxHeartbeats 4000000 in
theorem list_p22 : ∀ a, a < 30 → chkL a 22 (parseT (listT a 22)) = true := by decide +kernel
set_option maxRecDepth 100000 in
set_option maxHeartbeats 4000000 in
theorem list_p23 : ∀ a, a < 30 → chkL a 23 (parseT (listT a 23)) = true := by decide +kernel
set_option maxRecDepth 100000 in
set_option maxHeartbeats 4000000 in
theorem list_p24 : ∀ a, a < 30 → chkL a 24 (parseT (listT a 24)) = true := by decide +kernel
set_option maxRecDepth 100000 in
set_option maxHeartbeats 4000000 in
theorem list_p25 : ∀ a, a < 30 → chkL a 25 (parseT (listT a 25)) = true := by decide +kernel
set_option maxRecDepth 100000 in
set_option maxHeartbeats 4000000 in
theorem list_p26 : ∀ a, a < 30 → chkL a 26 (parseT (listT a 26)) = true := by decide +kernel
set_option maxRecDepth 100000 in
set_option maxHeartbeats 4000000 in
theorem list_p27 : ∀ a, a < 30 → chkL a 27 (parseT (listT a 27)) = true := by decide +kernel
set_option maxRecDepth 100000 in
set_option maxHeartbeats 4000000 in
theorem list_p28 : ∀ a, a < 30 → chkL a 28 (parseT (listT a 28)) = true := by decide +kernel
set_option maxRecDepth 100000 in
set_option maxHeartbeats 4000000 in
theorem list_p29 : ∀ a, a < 30 → chkL a 29 (parseT (listT a 29)) = true := by decide +kernel
end Go.Proofs.YtccmodefjgjpeaaGreatDoor
