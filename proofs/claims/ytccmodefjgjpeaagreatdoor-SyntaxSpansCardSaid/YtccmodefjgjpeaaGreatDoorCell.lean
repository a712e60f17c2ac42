/-
  A cell of a block that is known.
-/
import Derived.Test.YtccmodefjgjpeaaGreatDoorTree
namespace Go.Proofs.YtccmodefjgjpeaaGreatDoor
theorem cellK {w : World} {g : Nat} {a : Array Value} {t : TypeId} {fr : Nat × Nat} (h : w.heap[g]? = some (.cells a t fr)) (o : Nat) : w.cell? ⟨g, o, none⟩ = a[o]? := by simp [World.cell?, h]
end Go.Proofs.YtccmodefjgjpeaaGreatDoor
