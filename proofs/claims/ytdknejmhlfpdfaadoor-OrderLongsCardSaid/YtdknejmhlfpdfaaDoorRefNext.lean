/-
  The reference's Next: the same token, or that there is none.
-/
import Derived.Test.YtdknejmhlfpdfaaDoorRefNextA
import Derived.Test.YtdknejmhlfpdfaaDoorRefNextB
import Derived.Test.YtdknejmhlfpdfaaDoorRefNextC
namespace Go.Proofs.YtdknejmhlfpdfaaDoor
open Go.RowKit

theorem nextBad_of (t : List UInt8) (k f : Nat) (h : skipTo false t k = f) : nextT t k = ⟨(tokL (t.drop f)).1, f, f + (tokL (t.drop f)).2⟩ ∧ nextBad t k = ((tokL (t.drop f)).2 == 0 && decide (f < t.length)) := by
  have h1 : nextT t k = ⟨(tokL (t.drop f)).1, f, f + (tokL (t.drop f)).2⟩ := by simp [nextT, h]
  refine ⟨h1, ?_⟩
  unfold nextBad
  rw [h1]
  dsimp only
  congr 1
  rw [Bool.eq_iff_iff, beq_iff_eq, beq_iff_eq]
  omega

end Go.Proofs.YtdknejmhlfpdfaaDoor
