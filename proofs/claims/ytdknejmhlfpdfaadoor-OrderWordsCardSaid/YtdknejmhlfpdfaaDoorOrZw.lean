/-
  Package order's Words: what it answers.
-/
import Derived.Test.YtdknejmhlfpdfaaDoorOrE
import Derived.Test.YtdknejmhlfpdfaaDoorOrZ
namespace Go.Proofs.YtdknejmhlfpdfaaDoor
open Go.RowKit

theorem or_words : WoC XO := fun w hX => words_calls w hX

end Go.Proofs.YtdknejmhlfpdfaaDoor
