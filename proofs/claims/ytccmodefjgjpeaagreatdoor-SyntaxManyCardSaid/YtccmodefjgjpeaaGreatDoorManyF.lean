/-
  So many functions: what the grammar makes of them; so many statements, as the statement writes them.
-/
import Derived.Test.YtccmodefjgjpeaaGreatDoorManyM
import Derived.Test.YtccmodefjgjpeaaGreatDoorDeepM
namespace Go.Proofs.YtccmodefjgjpeaaGreatDoor

def funT : List UInt8 := [102, 117, 110, 99, 32, 102, 40, 41, 32, 123, 32, 125, 10]
def retT : List UInt8 := [114, 101, 116, 117, 114, 110, 59]
def hdT : List UInt8 := [102, 117, 110, 99, 32, 109, 97, 105, 110, 40, 41, 32, 123]
set_option maxRecDepth 100000 in
set_option maxHeartbeats 4000000 in
theorem many_f : ∀ m, m < 8 → code (parseT (rep (28 + m) funT)) = if m ≤ 4 then 0 else 5 := by decide +kernel
theorem rep_rets : ∀ n, rep n retT ++ [125] = retsB n
  | 0 => rfl
  | n + 1 => by
    have := rep_rets n
    simp only [rep, retsB, List.append_assoc, this]
    rfl
theorem many_b (n : Nat) : hdT ++ rep n retT ++ [125] = manyB n := by
  rw [List.append_assoc, rep_rets]
  rfl
theorem many_good (n : Nat) (h : n ≤ 1000) : ∃ s, parseT (hdT ++ rep n retT ++ [125]) = .good s := by rw [many_b]; exact (many_res n).1 h
theorem many_bad (n : Nat) (h : 1000 < n) : ∃ p, parseT (hdT ++ rep n retT ++ [125]) = .bad p 5 := by rw [many_b]; exact (many_res n).2 h
end Go.Proofs.YtccmodefjgjpeaaGreatDoor
