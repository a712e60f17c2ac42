/-
  As deep as may be, and no deeper: places of arrays, 0 to 49.
-/
import Derived.Test.YtccmodefjgjpeaaGreatDoorDeepM
namespace Go.Proofs.YtccmodefjgjpeaaGreatDoor
set_option maxRecDepth 100000 in
set_option maxHeartbeats 4000000 in
theorem deep_c_0 : code (parseT (deepA 0 3)) = 0 := by decide +kernel
set_option maxRecDepth 100000 in
set_option maxHeartbeats 4000000 in
theorem deep_c_1 : code (parseT (deepA 1 3)) = 0 := by decide +kernel
set_option maxRecDepth 100000 in
set_option maxHeartbeats 4000000 in
theorem deep_c_2 : code (parseT (deepA 2 3)) = 0 := by decide +kernel
set_option maxRecDepth 100000 in
set_option maxHeartbeats 4000000 in
theorem deep_c_3 : code (parseT (deepA 3 3)) = 0 := by decide +kernel
set_option maxRecDepth 100000 in
set_option maxHeartbeats 4000000 in
theorem deep_c_4 : code (parseT (deepA 4 3)) = 0 := by decide +kernel
set_option maxRecDepth 100000 in
set_option maxHeartbeats 4000000 in
theorem deep_c_5 : code (parseT (deepA 5 3)) = 0 := by decide +kernel
set_option maxRecDepth 100000 in
set_option maxHeartbeats 4000000 in
theorem deep_c_6 : code (parseT (deepA 6 3)) = 0 := by decide +kernel
set_option maxRecDepth 100000 in
set_option maxHeartbeats 4000000 in
theorem deep_c_7 : code (parseT (deepA 7 3)) = 0 := by decide +kernel
set_option maxRecDepth 100000 in
set_option maxHeartbeats 4000000 in
theorem deep_c_8 : code (parseT (deepA 8 3)) = 0 := by decide +kernel
set_option maxRecDepth 100000 in
set_option maxHeartbeats 4000000 in
theorem deep_c_9 : code (parseT (deepA 9 3)) = 0 := by decide +kernel
set_option maxRecDepth 100000 in
set_option maxHeartbeats 4000000 in
theorem deep_c_10 : code (parseT (deepA 10 3)) = 0 := by decide +kernel
set_option maxRecDepth 100000 in
set_option maxHeartbeats 4000000 in
theorem deep_c_11 : code (parseT (deepA 11 3)) = 0 := by decide +kernel
set_option maxRecDepth 100000 in
set_option maxHeartbeats 4000000 in
theorem deep_c_12 : code (parseT (deepA 12 3)) = 0 := by decide +kernel
set_option maxRecDepth 100000 in
set_option maxHeartbeats 4000000 in
theorem deep_c_13 : code (parseT (deepA 13 3)) = 0 := by decide +kernel
set_option maxRecDepth 100000 in
set_option maxHeartbeats 4000000 in
theorem deep_c_14 : code (parseT (deepA 14 3)) = 0 := by decide +kernel
set_option maxRecDepth 100000 in
set_option maxHeartbeats 4000000 in
theorem deep_c_15 : code (parseT (deepA 15 3)) = 0 := by decide +kernel
set_option maxRecDepth 100000 in
set_option maxHeartbeats 4000000 in
theorem deep_c_16 : code (parseT (deepA 16 3)) = 0 := by decide +kernel
set_option maxRecDepth 100000 in
set_option maxHeartbeats 4000000 in
theorem deep_c_17 : code (parseT (deepA 17 3)) = 0 := by decide +kernel
set_option maxRecDepth 100000 in
set_option maxHeartbeats 4000000 in
theorem deep_c_18 : code (parseT (deepA 18 3)) = 0 := by decide +kernel
set_option maxRecDepth 100000 in
set_option maxHeartbeats 4000000 in
theorem deep_c_19 : code (parseT (deepA 19 3)) = 0 := by decide +kernel
set_option maxRecDepth 100000 in
set_option maxHeartbeats 4000000 in
theorem deep_c_20 : code (parseT (deepA 20 3)) = 0 := by decide +kernel
set_option maxRecDepth 100000 in
set_option maxHeartbeats 4000000 in
theorem deep_c_21 : code (parseT (deepA 21 3)) = 0 := by decide +kernel
set_option maxRecDepth 100000 in
set_option maxHeartbeats 4000000 in
theorem deep_c_22 : code (parseT (deepA 22 3)) = 0 := by decide +kernel
set_option maxRecDepth 100000 in
set_option maxHeartbeats 4000000 in
theorem deep_c_23 : code (parseT (deepA 23 3)) = 0 := by decide +kernel
set_option maxRecDepth 100000 in
set_option maxHeartbeats 4000000 in
theorem deep_c_24 : code (parseT (deepA 24 3)) = 0 := by decide +kernel
set_option maxRecDepth 100000 in
set_option maxHeartbeats 4000000 in
theorem deep_c_25 : code (parseT (deepA 25 3)) = 0 := by decide +kernel
set_option maxRecDepth 100000 in
set_option maxHeartbeats 4000000 in
theorem deep_c_26 : code (parseT (deepA 26 3)) = 0 := by decide +kernel
set_option maxRecDepth 100000 in
set_option maxHeartbeats 4000000 in
theorem deep_c_27 : code (parseT (deepA 27 3)) = 0 := by decide +kernel
set_option maxRecDepth 100000 in
set_option maxHeartbeats 4000000 in
theorem deep_c_28 : code (parseT (deepA 28 3)) = 0 := by decide +kernel
set_option maxRecDepth 100000 in
set_option maxHeartbeats 4000000 in
theorem deep_c_29 : code (parseT (deepA 29 3)) = 0 := by decide +kernel
set_option maxRecDepth 100000 in
set_option maxHeartbeats 4000000 in
theorem deep_c_30 : code (parseT (deepA 30 3)) = 0 := by decide +kernel
set_option maxRecDepth 100000 in
set_option maxHeartbeats 4000000 in
theorem deep_c_31 : code (parseT (deepA 31 3)) = 0 := by decide +kernel
set_option maxRecDepth 100000 in
set_option maxHeartbeats 4000000 in
theorem deep_c_32 : code (parseT (deepA 32 3)) = 0 := by decide +kernel
set_option maxRecDepth 100000 in
set_option maxHeartbeats 4000000 in
theorem deep_c_33 : code (parseT (deepA 33 3)) = 0 := by decide +kernel
set_option maxRecDepth 100000 in
set_option maxHeartbeats 4000000 in
theorem deep_c_34 : code (parseT (deepA 34 3)) = 0 := by decide +kernel
set_option maxRecDepth 100000 in
set_option maxHeartbeats 4000000 in
theorem deep_c_35 : code (parseT (deepA 35 3)) = 0 := by decide +kernel
set_option maxRecDepth 100000 in
set_option maxHeartbeats 4000000 in
theorem deep_c_36 : code (parseT (deepA 36 3)) = 0 := by decide +kernel
set_option maxRecDepth 100000 in
set_option maxHeartbeats 4000000 in
theorem deep_c_37 : code (parseT (deepA 37 3)) = 0 := by decide +kernel
set_option maxRecDepth 100000 in
set_option maxHeartbeats 4000000 in
theorem deep_c_38 : code (parseT (deepA 38 3)) = 0 := by decide +kernel
set_option maxRecDepth 100000 in
set_option maxHeartbeats 4000000 in
theorem deep_c_39 : code (parseT (deepA 39 3)) = 0 := by decide +kernel
set_option maxRecDepth 100000 in
set_option maxHeartbeats 4000000 in
theorem deep_c_40 : code (parseT (deepA 40 3)) = 0 := by decide +kernel
set_option maxRecDepth 100000 in
set_option maxHeartbeats 4000000 in
theorem deep_c_41 : code (parseT (deepA 41 3)) = 0 := by decide +kernel
set_option maxRecDepth 100000 in
set_option maxHeartbeats 4000000 in
theorem deep_c_42 : code (parseT (deepA 42 3)) = 0 := by decide +kernel
set_option maxRecDepth 100000 in
set_option maxHeartbeats 4000000 in
theorem deep_c_43 : code (parseT (deepA 43 3)) = 0 := by decide +kernel
set_option maxRecDepth 100000 in
set_option maxHeartbeats 4000000 in
theorem deep_c_44 : code (parseT (deepA 44 3)) = 0 := by decide +kernel
set_option maxRecDepth 100000 in
set_option maxHeartbeats 4000000 in
theorem deep_c_45 : code (parseT (deepA 45 3)) = 0 := by decide +kernel
set_option maxRecDepth 100000 in
set_option maxHeartbeats 4000000 in
theorem deep_c_46 : code (parseT (deepA 46 3)) = 0 := by decide +kernel
set_option maxRecDepth 100000 in
set_option maxHeartbeats 4000000 in
theorem deep_c_47 : code (parseT (deepA 47 3)) = 0 := by decide +kernel
set_option maxRecDepth 100000 in
set_option maxHeartbeats 4000000 in
theorem deep_c_48 : code (parseT (deepA 48 3)) = 0 := by decide +kernel
set_option maxRecDepth 100000 in
set_option maxHeartbeats 4000000 in
theorem deep_c_49 : code (parseT (deepA 49 3)) = 0 := by decide +kernel
theorem deep_c_a (k : Nat) (h : 0 ≤ k) (h2 : k < 50) : code (parseT (deepA k 3)) = if k ≤ 63 then 0 else 4 := by
  have : k = 0 ∨ k = 1 ∨ k = 2 ∨ k = 3 ∨ k = 4 ∨ k = 5 ∨ k = 6 ∨ k = 7 ∨ k = 8 ∨ k = 9 ∨ k = 10 ∨ k = 11 ∨ k = 12 ∨ k = 13 ∨ k = 14 ∨ k = 15 ∨ k = 16 ∨ k = 17 ∨ k = 18 ∨ k = 19 ∨ k = 20 ∨ k = 21 ∨ k = 22 ∨ k = 23 ∨ k = 24 ∨ k = 25 ∨ k = 26 ∨ k = 27 ∨ k = 28 ∨ k = 29 ∨ k = 30 ∨ k = 31 ∨ k = 32 ∨ k = 33 ∨ k = 34 ∨ k = 35 ∨ k = 36 ∨ k = 37 ∨ k = 38 ∨ k = 39 ∨ k = 40 ∨ k = 41 ∨ k = 42 ∨ k = 43 ∨ k = 44 ∨ k = 45 ∨ k = 46 ∨ k = 47 ∨ k = 48 ∨ k = 49 := by omega
  rcases this with rfl | rfl | rfl | rfl | rfl | rfl | rfl | rfl | rfl | rfl | rfl | rfl | rfl | rfl | rfl | rfl | rfl | rfl | rfl | rfl | rfl | rfl | rfl | rfl | rfl | rfl | rfl | rfl | rfl | rfl | rfl | rfl | rfl | rfl | rfl | rfl | rfl | rfl | rfl | rfl | rfl | rfl | rfl | rfl | rfl | rfl | rfl | rfl | rfl | rfl
  · exact deep_c_0
  · exact deep_c_1
  · exact deep_c_2
  · exact deep_c_3
  · exact deep_c_4
  · exact deep_c_5
  · exact deep_c_6
  · exact deep_c_7
  · exact deep_c_8
  · exact deep_c_9
  · exact deep_c_10
  · exact deep_c_11
  · exact deep_c_12
  · exact deep_c_13
  · exact deep_c_14
  · exact deep_c_15
  · exact deep_c_16
  · exact deep_c_17
  · exact deep_c_18
  · exact deep_c_19
  · exact deep_c_20
  · exact deep_c_21
  · exact deep_c_22
  · exact deep_c_23
  · exact deep_c_24
  · exact deep_c_25
  · exact deep_c_26
  · exact deep_c_27
  · exact deep_c_28
  · exact deep_c_29
  · exact deep_c_30
  · exact deep_c_31
  · exact deep_c_32
  · exact deep_c_33
  · exact deep_c_34
  · exact deep_c_35
  · exact deep_c_36
  · exact deep_c_37
  · exact deep_c_38
  · exact deep_c_39
  · exact deep_c_40
  · exact deep_c_41
  · exact deep_c_42
  · exact deep_c_43
  · exact deep_c_44
  · exact deep_c_45
  · exact deep_c_46
  · exact deep_c_47
  · exact deep_c_48
  · exact deep_c_49
end Go.Proofs.YtccmodefjgjpeaaGreatDoor
