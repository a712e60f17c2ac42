/-
  page.Blank: a text, blanked but for some spans, or that one of them is none.
-/
import Derived.Test.YtjimkfniahndhaaCover
import Derived.Test.YtjimkfniahndhaaBlanks
import Derived.Test.YtjimkfniahndhaaMathC
import Derived.Lib.BufferWrite
import Derived.Lib.SlBytesRow
import Derived.Laws.CopyOwn
namespace Go.Proofs.Ytjimkfniahndhaa
open Go.RowKit

/-- A blanked text. -/
def blankS (s : ByteArray) (L : List Sp) : ByteArray := ⟨(blankL s.data.toList L).toArray⟩
theorem blankS_size (s : ByteArray) (L : List Sp) : (blankS s L).size = s.size := by
  show (blankL s.data.toList L).toArray.size = _
  simp [blankL_length]

/-- A row holds the text, blanked but for the spans L. -/
def RowIs (s : ByteArray) (L : List Sp) (R : Array Value) : Prop := R.toList = Lib.byteCells (blankL s.data.toList L)

theorem rowIs_size {s : ByteArray} {L : List Sp} {R : Array Value} (h : RowIs s L R) : R.size = s.size := by
  have h1 := congrArg List.length h
  simpa [Lib.byteCells_length, blankL_length] using h1

theorem rowIs_start {s : ByteArray} {R : Array Value} (h : BlankTo s s.size R) : RowIs s [] R := by
  apply List.ext_getElem
  · simp [Lib.byteCells_length, blankL_length, h.1]
  · intro i h1 h2
    have hi : i < s.size := by rw [← h.1]; simpa using h1
    have h3 := h.2 i hi hi
    rw [Array.getElem?_eq_getElem (by rw [h.1]; exact hi)] at h3
    simp only [Array.getElem_toList]
    rw [Option.some.inj h3]
    simp only [Lib.byteCells, List.getElem_map]
    rw [blankL_get _ _ i (by simpa using hi)]
    have e : s.data.toList[i]'(by simpa using hi) = s[i] := rfl
    rw [e]
    simp [byteV, blankB, inB]
    split
    · rename_i hc; rw [hc]
    · rfl

theorem rowIs_step {s : ByteArray} {L : List Sp} {R : Array Value} (h : RowIs s L R) (a b : Nat) (hab : a ≤ b) (hb : b ≤ s.size) :
    RowIs s (L ++ [((a : Int), (b : Int))]) (R.toList.take a ++ Lib.byteCells (s.extract a b).data.toList ++ R.toList.drop (a + (s.extract a b).size)).toArray := by
  have hsz := rowIs_size h
  have hx : (s.extract a b).size = b - a := by simp; omega
  rw [hx, show a + (b - a) = b from by omega]
  unfold RowIs
  rw [List.toList_toArray, h]
  have hl : (Lib.byteCells (s.extract a b).data.toList).length = b - a := by rw [Lib.byteCells_length, ← Lib.size_eq, hx]
  apply List.ext_getElem?
  intro i
  have e : ∀ (j : Nat) (hj : j < s.data.toList.length), s.data.toList[j] = s[j]'(by simpa using hj) := fun _ _ => rfl
  by_cases hi : i < s.size
  · have hi' : i < s.data.toList.length := by simpa using hi
    have hr : (Lib.byteCells (blankL s.data.toList (L ++ [((a : Int), (b : Int))])))[i]? = some (.int .u8 ((if s[i] = 10 || (inB L i || (decide ((a : Int) ≤ i) && decide ((i : Int) < b))) then s[i] else (32 : UInt8)).toNat : Int)) := by
      rw [List.getElem?_eq_getElem (by rw [Lib.byteCells_length, blankL_length]; exact hi')]
      simp only [Lib.byteCells, List.getElem_map]
      rw [blankL_get _ _ i hi', inB_snoc, e i hi']
    have hq : (Lib.byteCells (blankL s.data.toList L))[i]? = some (.int .u8 ((if s[i] = 10 || inB L i then s[i] else (32 : UInt8)).toNat : Int)) := by
      rw [List.getElem?_eq_getElem (by rw [Lib.byteCells_length, blankL_length]; exact hi')]
      simp only [Lib.byteCells, List.getElem_map]
      rw [blankL_get _ _ i hi', e i hi']
    rw [hr]
    by_cases h1 : i < a
    · rw [List.getElem?_append_left (by simp [Lib.byteCells_length, blankL_length]; omega), List.getElem?_append_left (by simp [Lib.byteCells_length, blankL_length]; omega), List.getElem?_take, if_pos h1, hq]
      have d1 : decide ((a : Int) ≤ i) = false := by simp; omega
      rw [d1, Bool.false_and, Bool.or_false]
    · have hta : (List.take a (Lib.byteCells (blankL s.data.toList L))).length = a := by simp [Lib.byteCells_length, blankL_length]; omega
      by_cases h2 : i < b
      · rw [List.getElem?_append_left (by rw [List.length_append, hta, hl]; omega), List.getElem?_append_right (by rw [hta]; omega), hta]
        have d1 : decide ((a : Int) ≤ i) = true := by simp; omega
        have d2 : decide ((i : Int) < b) = true := by simp; omega
        rw [d1, d2, List.getElem?_eq_getElem (by rw [hl]; omega)]
        simp only [Lib.byteCells, List.getElem_map]
        have e2 : (s.extract a b).data.toList[i - a]'(by rw [← Lib.size_eq, hx]; omega) = s[i] := by
          have : (s.extract a b)[i - a]'(by rw [hx]; omega) = s[i] := by
            rw [ByteArray.getElem_extract]
            congr 1
            omega
          exact this
        rw [e2]
        simp
      · rw [List.getElem?_append_right (by rw [List.length_append, hta, hl]; omega), List.length_append, hta, hl, List.getElem?_drop, show b + (i - (a + (b - a))) = i from by omega, hq]
        have d2 : decide ((i : Int) < b) = false := by simp; omega
        rw [d2, Bool.and_false, Bool.or_false]
  · rw [List.getElem?_eq_none (by simp [Lib.byteCells_length, blankL_length]; omega), List.getElem?_eq_none (by simp [Lib.byteCells_length, blankL_length]; omega)]

theorem rowIs_bytes {s : ByteArray} {L : List Sp} {R : Array Value} (h : RowIs s L R) {w : World} {g : Nat} (hg : w.heap[g]? = some (.cells R 5 (0, 0))) : Lib.Bytes w g 0 (blankS s L) := by
  intro i hi
  have hi' : i < s.size := by rwa [blankS_size] at hi
  have hb : (blankS s L)[i] = (blankL s.data.toList L)[i]'(by rw [blankL_length]; simpa using hi') := rfl
  have hc : w.cell? ⟨g, 0 + i, none⟩ = R.toList[i]? := by simp [World.cell?, hg]
  rw [hc, h, hb, List.getElem?_eq_getElem (by rw [Lib.byteCells_length, blankL_length]; simpa using hi')]
  simp [Lib.byteCells]

end Go.Proofs.Ytjimkfniahndhaa
