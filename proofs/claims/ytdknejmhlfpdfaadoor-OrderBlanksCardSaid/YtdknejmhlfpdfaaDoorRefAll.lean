/-
  The reference's All; whether two lists of tokens are the same.
-/
import Derived.Test.YtdknejmhlfpdfaaDoorRefNext
namespace Go.Proofs.YtdknejmhlfpdfaaDoor
open Go.RowKit

end Go.Proofs.YtdknejmhlfpdfaaDoor
