/-
  As deep as may be, and no deeper: blocks, 50 to 69.
-/
import Derived.Test.YtccmodefjgjpeaaGreatDoorDeepM
namespace Go.Proofs.YtccmodefjgjpeaaGreatDoor
set_option maxRecDepth 100000 in
set_option maxHeartbeats 4000000 in
theorem deep_b_50 : code (parseT (deepB 50)) = 0 := by decide +kernel
set_option maxRecDepth 100000 in
set_option maxHeartbeats 4000000 in
theorem deep_b_51 : code (parseT (deepB 51)) = 0 := by decide +kernel
set_option maxRecDepth 100000 in
set_option maxHeartbeats 4000000 in
theorem deep_b_52 : code (parseT (deepB 52)) = 0 := by decide +kernel
set_option maxRecDepth 100000 in
set_option maxHeartbeats 4000000 in
theorem deep_b_53 : code (parseT (deepB 53)) = 0 := by decide +kernel
set_option maxRecDepth 100000 in
set_option maxHeartbeats 4000000 in
theorem deep_b_54 : code (parseT (deepB 54)) = 0 := by decide +kernel
set_option maxRecDepth 100000 in
set_option maxHeartbeats 4000000 in
theorem deep_b_55 : code (parseT (deepB 55)) = 0 := by decide +kernel
set_option maxRecDepth 100000 in
set_option maxHeartbeats 4000000 in
theorem deep_b_56 : code (parseT (deepB 56)) = 0 := by decide +kernel
set_option maxRecDepth 100000 in
set_option maxHeartbeats 4000000 in
theorem deep_b_57 : code (parseT (deepB 57)) = 0 := by decide +kernel
set_option maxRecDepth 100000 in
set_option maxHeartbeats 4000000 in
theorem deep_b_58 : code (parseT (deepB 58)) = 0 := by decide +kernel
set_option maxRecDepth 100000 in
set_option maxHeartbeats 4000000 in
theorem deep_b_59 : code (parseT (deepB 59)) = 0 := by decide +kernel
set_option maxRecDepth 100000 in
set_option maxHeartbeats 4000000 in
theorem deep_b_60 : code (parseT (deepB 60)) = 0 := by decide +kernel
set_option maxRecDepth 100000 in
set_option maxHeartbeats 4000000 in
theorem deep_b_61 : code (parseT (deepB 61)) = 0 := by decide +kernel
set_option maxRecDepth 100000 in
set_option maxHeartbeats 4000000 in
theorem deep_b_62 : code (parseT (deepB 62)) = 0 := by decide +kernel
set_option maxRecDepth 100000 in
set_option maxHeartbeats 4000000 in
theorem deep_b_63 : code (parseT (deepB 63)) = 0 := by decide +kernel
set_option maxRecDepth 100000 in
set_option maxHeartbeats 4000000 in
theorem deep_b_64 : code (parseT (deepB 64)) = 4 := by decide +kernel
set_option maxRecDepth 100000 in
set_option maxHeartbeats 4000000 in
theorem deep_b_65 : code (parseT (deepB 65)) = 4 := by decide +kernel
set_option maxRecDepth 100000 in
set_option maxHeartbeats 4000000 in
theorem deep_b_66 : code (parseT (deepB 66)) = 4 := by decide +kernel
set_option maxRecDepth 100000 in
set_option maxHeartbeats 4000000 in
theorem deep_b_67 : code (parseT (deepB 67)) = 4 := by decide +kernel
set_option maxRecDepth 100000 in
set_option maxHeartbeats 4000000 in
theorem deep_b_68 : code (parseT (deepB 68)) = 4 := by decide +kernel
set_option maxRecDepth 100000 in
set_option maxHeartbeats 4000000 in
theorem deep_b_69 : code (parseT (deepB 69)) = 4 := by decide +kernel
theorem deep_b_b (k : Nat) (h : 50 ≤ k) (h2 : k < 70) : code (parseT (deepB k)) = if k ≤ 63 then 0 else 4 := by
  have : k = 50 ∨ k = 51 ∨ k = 52 ∨ k = 53 ∨ k = 54 ∨ k = 55 ∨ k = 56 ∨ k = 57 ∨ k = 58 ∨ k = 59 ∨ k = 60 ∨ k = 61 ∨ k = 62 ∨ k = 63 ∨ k = 64 ∨ k = 65 ∨ k = 66 ∨ k = 67 ∨ k = 68 ∨ k = 69 := by omega
  rcases this with rfl | rfl | rfl | rfl | rfl | rfl | rfl | rfl | rfl | rfl | rfl | rfl | rfl | rfl | rfl | rfl | rfl | rfl | rfl | rfl
  · exact deep_b_50
  · exact deep_b_51
  · exact deep_b_52
  · exact deep_b_53
  · exact deep_b_54
  · exact deep_b_55
  · exact deep_b_56
  · exact deep_b_57
  · exact deep_b_58
  · exact deep_b_59
  · exact deep_b_60
  · exact deep_b_61
  · exact deep_b_62
  · exact deep_b_63
  · exact deep_b_64
  · exact deep_b_65
  · exact deep_b_66
  · exact deep_b_67
  · exact deep_b_68
  · exact deep_b_69
end Go.Proofs.YtccmodefjgjpeaaGreatDoor
