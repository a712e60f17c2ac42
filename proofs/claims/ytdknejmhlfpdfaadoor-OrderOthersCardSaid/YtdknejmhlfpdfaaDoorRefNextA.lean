/-
  The reference's Next at the text's end, and at a name.
-/
import Derived.Test.YtdknejmhlfpdfaaDoorRefHas
import Derived.Deep.RegionWith
import Derived.BigRegion
namespace Go.Proofs.YtdknejmhlfpdfaaDoor
open Go.RowKit

end Go.Proofs.YtdknejmhlfpdfaaDoor
