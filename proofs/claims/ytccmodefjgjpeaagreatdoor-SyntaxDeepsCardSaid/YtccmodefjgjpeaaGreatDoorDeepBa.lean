/-
  As deep as may be, and no deeper: blocks, 0 to 49.
-/
import Derived.Test.YtccmodefjgjpeaaGreatDoorDeepM
namespace Go.Proofs.YtccmodefjgjpeaaGreatDoor
set_option maxRecDepth 100000 in
set_option maxHeartbeats 4000000 in
theorem deep_b_0 : code (parseT (deepB 0)) = 0 := by decide +kernel
set_option maxRecDepth 100000 in
set_option maxHeartbeats 4000000 in
theorem deep_b_1 : code (parseT (deepB 1)) = 0 := by decide +kernel
set_option maxRecDepth 100000 in
set_option maxHeartbeats 4000000 in
theorem deep_b_2 : code (parseT (deepB 2)) = 0 := by decide +kernel
set_option maxRecDepth 100000 in
set_option maxHeartbeats 4000000 in
theorem deep_b_3 : code (parseT (deepB 3)) = 0 := by decide +kernel
set_option maxRecDepth 100000 in
set_option maxHeartbeats 4000000 in
theorem deep_b_4 : code (parseT (deepB 4)) = 0 := by decide +kernel
set_option maxRecDepth 100000 in
set_option maxHeartbeats 4000000 in
theorem deep_b_5 : code (parseT (deepB 5)) = 0 := by decide +kernel
set_option maxRecDepth 100000 in
set_option maxHeartbeats 4000000 in
theorem deep_b_6 : code (parseT (deepB 6)) = 0 := by decide +kernel
set_option maxRecDepth 100000 in
set_option maxHeartbeats 4000000 in
theorem deep_b_7 : code (parseT (deepB 7)) = 0 := by decide +kernel
set_option maxRecDepth 100000 in
set_option maxHeartbeats 4000000 in
theorem deep_b_8 : code (parseT (deepB 8)) = 0 := by decide +kernel
set_option maxRecDepth 100000 in
set_option maxHeartbeats 4000000 in
theorem deep_b_9 : code (parseT (deepB 9)) = 0 := by decide +kernel
set_option maxRecDepth 100000 in
set_option maxHeartbeats 4000000 in
theorem deep_b_10 : code (parseT (deepB 10)) = 0 := by decide +kernel
set_option maxRecDepth 100000 in
set_option maxHeartbeats 4000000 in
theorem deep_b_11 : code (parseT (deepB 11)) = 0 := by decide +kernel
set_option maxRecDepth 100000 in
set_option maxHeartbeats 4000000 in
theorem deep_b_12 : code (parseT (deepB 12)) = 0 := by decide +kernel
set_option maxRecDepth 100000 in
set_option maxHeartbeats 4000000 in
theorem deep_b_13 : code (parseT (deepB 13)) = 0 := by decide +kernel
set_option maxRecDepth 100000 in
set_option maxHeartbeats 4000000 in
theorem deep_b_14 : code (parseT (deepB 14)) = 0 := by decide +kernel
set_option maxRecDepth 100000 in
set_option maxHeartbeats 4000000 in
theorem deep_b_15 : code (parseT (deepB 15)) = 0 := by decide +kernel
set_option maxRecDepth 100000 in
set_option maxHeartbeats 4000000 in
theorem deep_b_16 : code (parseT (deepB 16)) = 0 := by decide +kernel
set_option maxRecDepth 100000 in
set_option maxHeartbeats 4000000 in
theorem deep_b_17 : code (parseT (deepB 17)) = 0 := by decide +kernel
set_option maxRecDepth 100000 in
set_option maxHeartbeats 4000000 in
theorem deep_b_18 : code (parseT (deepB 18)) = 0 := by decide +kernel
set_option maxRecDepth 100000 in
set_option maxHeartbeats 4000000 in
theorem deep_b_19 : code (parseT (deepB 19)) = 0 := by decide +kernel
set_option maxRecDepth 100000 in
set_option maxHeartbeats 4000000 in
theorem deep_b_20 : code (parseT (deepB 20)) = 0 := by decide +kernel
set_option maxRecDepth 100000 in
set_option maxHeartbeats 4000000 in
theorem deep_b_21 : code (parseT (deepB 21)) = 0 := by decide +kernel
set_option maxRecDepth 100000 in
set_option maxHeartbeats 4000000 in
theorem deep_b_22 : code (parseT (deepB 22)) = 0 := by decide +kernel
set_option maxRecDepth 100000 in
set_option maxHeartbeats 4000000 in
theorem deep_b_23 : code (parseT (deepB 23)) = 0 := by decide +kernel
set_option maxRecDepth 100000 in
set_option maxHeartbeats 4000000 in
theorem deep_b_24 : code (parseT (deepB 24)) = 0 := by decide +kernel
set_option maxRecDepth 100000 in
set_option maxHeartbeats 4000000 in
theorem deep_b_25 : code (parseT (deepB 25)) = 0 := by decide +kernel
set_option maxRecDepth 100000 in
set_option maxHeartbeats 4000000 in
theorem deep_b_26 : code (parseT (deepB 26)) = 0 := by decide +kernel
set_option maxRecDepth 100000 in
set_option maxHeartbeats 4000000 in
theorem deep_b_27 : code (parseT (deepB 27)) = 0 := by decide +kernel
set_option maxRecDepth 100000 in
set_option maxHeartbeats 4000000 in
theorem deep_b_28 : code (parseT (deepB 28)) = 0 := by decide +kernel
set_option maxRecDepth 100000 in
set_option maxHeartbeats 4000000 in
theorem deep_b_29 : code (parseT (deepB 29)) = 0 := by decide +kernel
set_option maxRecDepth 100000 in
set_option maxHeartbeats 4000000 in
theorem deep_b_30 : code (parseT (deepB 30)) = 0 := by decide +kernel
set_option maxRecDepth 100000 in
set_option maxHeartbeats 4000000 in
theorem deep_b_31 : code (parseT (deepB 31)) = 0 := by decide +kernel
set_option maxRecDepth 100000 in
set_option maxHeartbeats 4000000 in
theorem deep_b_32 : code (parseT (deepB 32)) = 0 := by decide +kernel
set_option maxRecDepth 100000 in
set_option maxHeartbeats 4000000 in
theorem deep_b_33 : code (parseT (deepB 33)) = 0 := by decide +kernel
set_option maxRecDepth 100000 in
set_option maxHeartbeats 4000000 in
theorem deep_b_34 : code (parseT (deepB 34)) = 0 := by decide +kernel
set_option maxRecDepth 100000 in
set_option maxHeartbeats 4000000 in
theorem deep_b_35 : code (parseT (deepB 35)) = 0 := by decide +kernel
set_option maxRecDepth 100000 in
set_option maxHeartbeats 4000000 in
theorem deep_b_36 : code (parseT (deepB 36)) = 0 := by decide +kernel
set_option maxRecDepth 100000 in
set_option maxHeartbeats 4000000 in
theorem deep_b_37 : code (parseT (deepB 37)) = 0 := by decide +kernel
set_option maxRecDepth 100000 in
set_option maxHeartbeats 4000000 in
theorem deep_b_38 : code (parseT (deepB 38)) = 0 := by decide +kernel
set_option maxRecDepth 100000 in
set_option maxHeartbeats 4000000 in
theorem deep_b_39 : code (parseT (deepB 39)) = 0 := by decide +kernel
set_option maxRecDepth 100000 in
set_option maxHeartbeats 4000000 in
theorem deep_b_40 : code (parseT (deepB 40)) = 0 := by decide +kernel
set_option maxRecDepth 100000 in
set_option maxHeartbeats 4000000 in
theorem deep_b_41 : code (parseT (deepB 41)) = 0 := by decide +kernel
set_option maxRecDepth 100000 in
set_option maxHeartbeats 4000000 in
theorem deep_b_42 : code (parseT (deepB 42)) = 0 := by decide +kernel
set_option maxRecDepth 100000 in
set_option maxHeartbeats 4000000 in
theorem deep_b_43 : code (parseT (deepB 43)) = 0 := by decide +kernel
set_option maxRecDepth 100000 in
set_option maxHeartbeats 4000000 in
theorem deep_b_44 : code (parseT (deepB 44)) = 0 := by decide +kernel
set_option maxRecDepth 100000 in
set_option maxHeartbeats 4000000 in
theorem deep_b_45 : code (parseT (deepB 45)) = 0 := by decide +kernel
set_option maxRecDepth 100000 in
set_option maxHeartbeats 4000000 in
theorem deep_b_46 : code (parseT (deepB 46)) = 0 := by decide +kernel
set_option maxRecDepth 100000 in
set_option maxHeartbeats 4000000 in
theorem deep_b_47 : code (parseT (deepB 47)) = 0 := by decide +kernel
set_option maxRecDepth 100000 in
set_option maxHeartbeats 4000000 in
theorem deep_b_48 : code (parseT (deepB 48)) = 0 := by decide +kernel
set_option maxRecDepth 100000 in
set_option maxHeartbeats 4000000 in
theorem deep_b_49 : code (parseT (deepB 49)) = 0 := by decide +kernel
theorem deep_b_a (k : Nat) (h : 0 ≤ k) (h2 : k < 50) : code (parseT (deepB k)) = if k ≤ 63 then 0 else 4 := by
  have : k = 0 ∨ k = 1 ∨ k = 2 ∨ k = 3 ∨ k = 4 ∨ k = 5 ∨ k = 6 ∨ k = 7 ∨ k = 8 ∨ k = 9 ∨ k = 10 ∨ k = 11 ∨ k = 12 ∨ k = 13 ∨ k = 14 ∨ k = 15 ∨ k = 16 ∨ k = 17 ∨ k = 18 ∨ k = 19 ∨ k = 20 ∨ k = 21 ∨ k = 22 ∨ k = 23 ∨ k = 24 ∨ k = 25 ∨ k = 26 ∨ k = 27 ∨ k = 28 ∨ k = 29 ∨ k = 30 ∨ k = 31 ∨ k = 32 ∨ k = 33 ∨ k = 34 ∨ k = 35 ∨ k = 36 ∨ k = 37 ∨ k = 38 ∨ k = 39 ∨ k = 40 ∨ k = 41 ∨ k = 42 ∨ k = 43 ∨ k = 44 ∨ k = 45 ∨ k = 46 ∨ k = 47 ∨ k = 48 ∨ k = 49 := by omega
  rcases this with rfl | rfl | rfl | rfl | rfl | rfl | rfl | rfl | rfl | rfl | rfl | rfl | rfl | rfl | rfl | rfl | rfl | rfl | rfl | rfl | rfl | rfl | rfl | rfl | rfl | rfl | rfl | rfl | rfl | rfl | rfl | rfl | rfl | rfl | rfl | rfl | rfl | rfl | rfl | rfl | rfl | rfl | rfl | rfl | rfl | rfl | rfl | rfl | rfl | rfl
  · exact deep_b_0
  · exact deep_b_1
  · exact deep_b_2
  · exact deep_b_3
  · exact deep_b_4
  · exact deep_b_5
  · exact deep_b_6
  · exact deep_b_7
  · exact deep_b_8
  · exact deep_b_9
  · exact deep_b_10
  · exact deep_b_11
  · exact deep_b_12
  · exact deep_b_13
  · exact deep_b_14
  · exact deep_b_15
  · exact deep_b_16
  · exact deep_b_17
  · exact deep_b_18
  · exact deep_b_19
  · exact deep_b_20
  · exact deep_b_21
  · exact deep_b_22
  · exact deep_b_23
  · exact deep_b_24
  · exact deep_b_25
  · exact deep_b_26
  · exact deep_b_27
  · exact deep_b_28
  · exact deep_b_29
  · exact deep_b_30
  · exact deep_b_31
  · exact deep_b_32
  · exact deep_b_33
  · exact deep_b_34
  · exact deep_b_35
  · exact deep_b_36
  · exact deep_b_37
  · exact deep_b_38
  · exact deep_b_39
  · exact deep_b_40
  · exact deep_b_41
  · exact deep_b_42
  · exact deep_b_43
  · exact deep_b_44
  · exact deep_b_45
  · exact deep_b_46
  · exact deep_b_47
  · exact deep_b_48
  · exact deep_b_49
end Go.Proofs.YtccmodefjgjpeaaGreatDoor
