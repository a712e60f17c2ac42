/-
  As deep as may be, and no deeper: places of arrays, 50 to 69.
-/
import Derived.Test.YtccmodefjgjpeaaGreatDoorDeepM
namespace Go.Proofs.YtccmodefjgjpeaaGreatDoor
set_option maxRecDepth 100000 in
set_option maxHeartbeats 4000000 in
theorem deep_c_50 : code (parseT (deepA 50 3)) = 0 := by decide +kernel
set_option maxRecDepth 100000 in
set_option maxHeartbeats 4000000 in
theorem deep_c_51 : code (parseT (deepA 51 3)) = 0 := by decide +kernel
set_option maxRecDepth 100000 in
set_option maxHeartbeats 4000000 in
theorem deep_c_52 : code (parseT (deepA 52 3)) = 0 := by decide +kernel
set_option maxRecDepth 100000 in
set_option maxHeartbeats 4000000 in
theorem deep_c_53 : code (parseT (deepA 53 3)) = 0 := by decide +kernel
set_option maxRecDepth 100000 in
set_option maxHeartbeats 4000000 in
theorem deep_c_54 : code (parseT (deepA 54 3)) = 0 := by decide +kernel
set_option maxRecDepth 100000 in
set_option maxHeartbeats 4000000 in
theorem deep_c_55 : code (parseT (deepA 55 3)) = 0 := by decide +kernel
set_option maxRecDepth 100000 in
set_option maxHeartbeats 4000000 in
theorem deep_c_56 : code (parseT (deepA 56 3)) = 0 := by decide +kernel
set_option maxRecDepth 100000 in
set_option maxHeartbeats 4000000 in
theorem deep_c_57 : code (parseT (deepA 57 3)) = 0 := by decide +kernel
set_option maxRecDepth 100000 in
set_option maxHeartbeats 4000000 in
theorem deep_c_58 : code (parseT (deepA 58 3)) = 0 := by decide +kernel
set_option maxRecDepth 100000 in
set_option maxHeartbeats 4000000 in
theorem deep_c_59 : code (parseT (deepA 59 3)) = 0 := by decide +kernel
set_option maxRecDepth 100000 in
set_option maxHeartbeats 4000000 in
theorem deep_c_60 : code (parseT (deepA 60 3)) = 0 := by decide +kernel
set_option maxRecDepth 100000 in
set_option maxHeartbeats 4000000 in
theorem deep_c_61 : code (parseT (deepA 61 3)) = 0 := by decide +kernel
set_option maxRecDepth 100000 in
set_option maxHeartbeats 4000000 in
theorem deep_c_62 : code (parseT (deepA 62 3)) = 0 := by decide +kernel
set_option maxRecDepth 100000 in
set_option maxHeartbeats 4000000 in
theorem deep_c_63 : code (parseT (deepA 63 3)) = 0 := by decide +kernel
set_option maxRecDepth 100000 in
set_option maxHeartbeats 4000000 in
theorem deep_c_64 : code (parseT (deepA 64 3)) = 4 := by decide +kernel
set_option maxRecDepth 100000 in
set_option maxHeartbeats 4000000 in
theorem deep_c_65 : code (parseT (deepA 65 3)) = 4 := by decide +kernel
set_option maxRecDepth 100000 in
set_option maxHeartbeats 4000000 in
theorem deep_c_66 : code (parseT (deepA 66 3)) = 4 := by decide +kernel
set_option maxRecDepth 100000 in
set_option maxHeartbeats 4000000 in
theorem deep_c_67 : code (parseT (deepA 67 3)) = 4 := by decide +kernel
set_option maxRecDepth 100000 in
set_option maxHeartbeats 4000000 in
theorem deep_c_68 : code (parseT (deepA 68 3)) = 4 := by decide +kernel
set_option maxRecDepth 100000 in
set_option maxHeartbeats 4000000 in
theorem deep_c_69 : code (parseT (deepA 69 3)) = 4 := by decide +kernel
theorem deep_c_b (k : Nat) (h : 50 ≤ k) (h2 : k < 70) : code (parseT (deepA k 3)) = if k ≤ 63 then 0 else 4 := by
  have : k = 50 ∨ k = 51 ∨ k = 52 ∨ k = 53 ∨ k = 54 ∨ k = 55 ∨ k = 56 ∨ k = 57 ∨ k = 58 ∨ k = 59 ∨ k = 60 ∨ k = 61 ∨ k = 62 ∨ k = 63 ∨ k = 64 ∨ k = 65 ∨ k = 66 ∨ k = 67 ∨ k = 68 ∨ k = 69 := by omega
  rcases this with rfl | rfl | rfl | rfl | rfl | rfl | rfl | rfl | rfl | rfl | rfl | rfl | rfl | rfl | rfl | rfl | rfl | rfl | rfl | rfl
  · exact deep_c_50
  · exact deep_c_51
  · exact deep_c_52
  · exact deep_c_53
  · exact deep_c_54
  · exact deep_c_55
  · exact deep_c_56
  · exact deep_c_57
  · exact deep_c_58
  · exact deep_c_59
  · exact deep_c_60
  · exact deep_c_61
  · exact deep_c_62
  · exact deep_c_63
  · exact deep_c_64
  · exact deep_c_65
  · exact deep_c_66
  · exact deep_c_67
  · exact deep_c_68
  · exact deep_c_69
end Go.Proofs.YtccmodefjgjpeaaGreatDoor
