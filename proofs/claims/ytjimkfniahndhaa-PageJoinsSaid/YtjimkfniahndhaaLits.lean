/-
  Literal slices of spans, and texts of zero bytes.
-/
import Derived.Test.YtjimkfniahndhaaBlankW
import Derived.Test.YtjimkfniahndhaaAwake
import Derived.Laws.OwnMore
namespace Go.Proofs.Ytjimkfniahndhaa
open Go.RowKit

theorem spAt_lit1 (w : World) (a b : Int) : SpAt (w.alloc (.cells #[.int .i64 a, .int .i64 b] 41)) (w.heap.size + 1) (some ⟨w.heap.size, 0, none⟩) 1 [(a, b)] := by
  refine ⟨rfl, fun _ => ⟨w.heap.size, 0, rfl, by omega, fun i hi => ?_⟩⟩
  obtain rfl : i = 0 := by simp at hi; omega
  exact ⟨row_cell (by simp), row_cell (by simp)⟩

theorem spAt_lit2 (w : World) (a b c d : Int) : SpAt (w.alloc (.cells #[.int .i64 a, .int .i64 b, .int .i64 c, .int .i64 d] 41)) (w.heap.size + 1) (some ⟨w.heap.size, 0, none⟩) 2 [(a, b), (c, d)] := by
  refine ⟨rfl, fun _ => ⟨w.heap.size, 0, rfl, by omega, fun i hi => ?_⟩⟩
  have : i = 0 ∨ i = 1 := by simp at hi; omega
  rcases this with rfl | rfl
  · exact ⟨row_cell (by simp), row_cell (by simp)⟩
  · exact ⟨row_cell (by simp), row_cell (by simp)⟩

/-- A text of n zero bytes. -/
def zeros (n : Nat) : ByteArray := ⟨(List.replicate n (0 : UInt8)).toArray⟩
theorem zeros_size (n : Nat) : (zeros n).size = n := by
  show (List.replicate n (0 : UInt8)).toArray.size = n
  simp

/-- 'string(make([]byte, n))': the row, and the text made of it. -/
theorem make_zeros (n : Nat) (hn : n ≤ 1000) : ∃ M : Array Value, (∀ W : World, (Instr.makeSlice 49 (.int .i64 (n : Int)) (.int .i64 (n : Int))).run Try.prog W = .ok (.slice (some ⟨W.heap.size, 0, none⟩) n n) (W.alloc (.cells M 5))) ∧
    ∀ W : World, (convert 49 9 (.slice (some ⟨W.heap.size, 0, none⟩) n n)).run Try.prog (W.alloc (.cells M 5)) = .ok (.string (zeros n)) (W.alloc (.cells M 5)) := by
  obtain ⟨i0, hi, hz0, hz1, hz2⟩ := info_parts Try.info5
  refine ⟨madeCells (Value.int .u8 0).cells (((n : Nat) : Int).toNat * i0.size), fun W => ?_, fun W => ?_⟩
  · have h := run_make (P := Try.prog) W 49 5 i0 (.int .u8 0) Try.underlying49 hi hz0 .i64 .i64 (n : Int) (n : Int) (by omega) (by omega) (by rw [hz2]; omega) (by omega)
    simpa using h
  · have hb : Lib.Bytes (W.alloc (.cells (madeCells (Value.int .u8 0).cells (((n : Nat) : Int).toNat * i0.size)) 5)) W.heap.size 0 (zeros n) := by
      intro i hi'
      have hin : i < n := by rwa [zeros_size] at hi'
      have e0 : (zeros n)[i] = 0 := by
        show (List.replicate n (0 : UInt8)).toArray[i]'(by simpa using hin) = 0
        simp
      rw [e0]
      refine row_cell ?_
      rw [hz1, Nat.zero_add, ← Array.getElem?_toList]
      have : (Value.int IntKind.u8 0).cells = #[.int .u8 0] := rfl
      rw [this, toList_madeCells_one]
      simp [hin]
    have h := Lib.run_convert_whole (P := Try.prog) _ 49 5 9 Try.underlying49 Try.underlying5 Try.underlying9 W.heap.size 0 (zeros n) hb n
    rwa [zeros_size] at h

end Go.Proofs.Ytjimkfniahndhaa
