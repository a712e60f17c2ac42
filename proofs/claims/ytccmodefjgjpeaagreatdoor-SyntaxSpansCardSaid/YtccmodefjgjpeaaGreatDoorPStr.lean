/-
  What a text takes in memory.
-/
import Derived.Test.YtccmodefjgjpeaaGreatDoorRows
import Derived.KernelRfl
import Derived.WalkKit
namespace Go.Proofs.YtccmodefjgjpeaaGreatDoor
theorem Tryz.infoStr2 : (Tryz.prog.info? 9).map (fun i => (i.zero, i.size, i.bytes)) = some (some (.string ⟨#[]⟩), 1, 16) := by kernel_rfl
end Go.Proofs.YtccmodefjgjpeaaGreatDoor
