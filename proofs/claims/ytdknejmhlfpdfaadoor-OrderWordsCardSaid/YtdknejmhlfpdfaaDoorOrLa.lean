/-
  The statement OrderParses, walked.
-/
import Derived.Test.YtdknejmhlfpdfaaDoorOrL
namespace Go.Proofs.YtdknejmhlfpdfaaDoor
open Go.RowKit

theorem box3 {w w' : World} {g B : Nat} {a b c : Value} {t : TypeId} (hb : Below B w w') (hg : g < B) (h : w.heap[g]? = some (.cells #[a, b, c] t (0, 0))) : w'.heap[g]? = some (.cells #[a, b, c] t (0, 0)) := (hb.block _ hg).trans h
theorem box3c {w : World} {g : Nat} {a b c : Value} {t : TypeId} (h : w.heap[g]? = some (.cells #[a, b, c] t (0, 0))) : w.cell? ⟨g, 0, none⟩ = some a ∧ w.cell? ⟨g, 1, none⟩ = some b ∧ w.cell? ⟨g, 2, none⟩ = some c := ⟨cellC h 0, cellC h 1, cellC h 2⟩
theorem str_self (b : ByteArray) : (b.toList == b.toList) = true := beq_self_eq_true _
end Go.Proofs.YtdknejmhlfpdfaaDoor
