/-
  rewindref18: its words, its numbers.
-/
import Derived.Test.YtdknejmhlfpdfaaDoorOrS
import Derived.Test.YtdknejmhlfpdfaaDoorOrD
import Derived.Test.YtdknejmhlfpdfaaDoorRefHas
namespace Go.Proofs.YtdknejmhlfpdfaaDoor
open Go.RowKit

def kwV : Array Value := #[Value.string (bs (kwB 0)), .string (bs (kwB 1)), .string (bs (kwB 2)), .string (bs (kwB 3)), .string (bs (kwB 4)), .string (bs (kwB 5)), .string (bs (kwB 6)), .string (bs (kwB 7)), .string (bs (kwB 8)), .string (bs (kwB 9)), .string (bs (kwB 10)), .string (bs (kwB 11)), .string (bs (kwB 12)), .string (bs (kwB 13)), .string (bs (kwB 14)), .string (bs (kwB 15)), .string (bs (kwB 16)), .string (bs (kwB 17)), .string (bs (kwB 18)), .string (bs (kwB 19)), .string (bs (kwB 20))]
theorem kwV_get : ∀ i : Fin 21, kwV[i.1]? = some (.string (bs (kwB i.1))) := by
  intro ⟨i, hi⟩
  have : i = 0 ∨ i = 1 ∨ i = 2 ∨ i = 3 ∨ i = 4 ∨ i = 5 ∨ i = 6 ∨ i = 7 ∨ i = 8 ∨ i = 9 ∨ i = 10 ∨ i = 11 ∨ i = 12 ∨ i = 13 ∨ i = 14 ∨ i = 15 ∨ i = 16 ∨ i = 17 ∨ i = 18 ∨ i = 19 ∨ i = 20 := by omega
  rcases this with rfl | rfl | rfl | rfl | rfl | rfl | rfl | rfl | rfl | rfl | rfl | rfl | rfl | rfl | rfl | rfl | rfl | rfl | rfl | rfl | rfl <;> rfl
theorem kwV_cell (w : World) (k : Nat) (hk : k < 21) : (w.alloc (.cells kwV 9)).cell? ⟨w.heap.size, k, none⟩ = some (.string (bs (kwB k))) := by
  rw [cellC (heapOne w kwV 9)]
  exact kwV_get ⟨k, hk⟩
/-- What number answers. -/
def NoP (t : List UInt8) (w : World) (e : Ending) (w' : World) : Prop :=
  Below w.heap.size w w' ∧ ((∃ n, numO t = some n ∧ e = .returned (.tuple #[.int .i64 n, .bool true])) ∨ (numO t = none ∧ ∃ n, e = .returned (.tuple #[.int .i64 n, .bool false])))
end Go.Proofs.YtdknejmhlfpdfaaDoor
