/-
  Package order's own four functions: what they answer, and what they ask of the world.
-/
import Derived.Test.YtdknejmhlfpdfaaDoorOrK
import Derived.Test.YtdknejmhlfpdfaaDoorOrO
namespace Go.Proofs.YtdknejmhlfpdfaaDoor
open Go.RowKit

theorem or_parse : PaC XO := fun t ht w hX => parse_calls t ht w hX
theorem or_good : GoC XO := fun o ho w hX => good_calls o ho w hX
theorem or_text : TeC XO := fun o ho w hX => text_calls o ho w hX
theorem or_keep : KeC XO := fun _ _ _ h hb hB => h.below hb hB
theorem or_x {W : World} (h : laidMetH Tryd.prog laidO W) : XO W := xo_of_laid h

end Go.Proofs.YtdknejmhlfpdfaaDoor
