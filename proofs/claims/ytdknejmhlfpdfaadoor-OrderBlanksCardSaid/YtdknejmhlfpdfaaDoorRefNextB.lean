/-
  The reference's Next at a number, and at a sign.
-/
import Derived.Test.YtdknejmhlfpdfaaDoorRefHas
namespace Go.Proofs.YtdknejmhlfpdfaaDoor
open Go.RowKit

/-- The token of a number of n digits, or that it is none. -/
def numT (b : Bool) (f n : Nat) : Tok := if b then ⟨0, f, f⟩ else ⟨2, f, f + n⟩
theorem refNum_ret {f i : Nat} (h : f ≤ i) : Ending.returned (.tuple #[tokV ⟨2, f, i⟩, .int .i64 0]) = .returned (.tuple #[tokV (numT false f (i - f)), .int .i64 (badC false)]) := by
  simp [numT, badC, tokV]; omega

end Go.Proofs.YtdknejmhlfpdfaaDoor
