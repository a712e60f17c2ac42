/-
  rewindref18.Text: an order's line.
-/
import Derived.Test.YtdknejmhlfpdfaaDoorOrP
namespace Go.Proofs.YtdknejmhlfpdfaaDoor
open Go.RowKit

theorem bs_app (a b : List UInt8) : bs a ++ bs b = bs (a ++ b) := WideShapes.bytes_inj (by rw [ByteArray.data_append, Array.toList_append, bs_toList, bs_toList, bs_toList])
theorem itoa_len6 {n : Int} (h : i64 n) : (bs (Lib.itoa n)).size ≤ 20 := by rw [bs_size]; exact (itoa_len20 h).2
end Go.Proofs.YtdknejmhlfpdfaaDoor
