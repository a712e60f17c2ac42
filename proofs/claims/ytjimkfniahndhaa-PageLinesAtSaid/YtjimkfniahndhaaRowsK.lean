/-
  Rows of spans, in the words of the sort's contract and in our own.
-/
import Derived.Shelf.GgSortFunc.RowK
import Derived.Test.YtjimkfniahndhaaSpans
namespace Go.Proofs.Ytjimkfniahndhaa
open Go.RowKit Go.Lib Go.Sort

/-- A span's two cells. -/
def encSp (x : Int × Int) : List Value := [.int .i64 x.1, .int .i64 x.2]

theorem flatK_get (d : Array (Int × Int)) (i : Nat) (h : i < d.size) : (flatK encSp 2 d)[i * 2]! = .int .i64 (d[i]).1 ∧ (flatK encSp 2 d)[i * 2 + 1]! = .int .i64 (d[i]).2 := by
  constructor
  · rw [get_flatK encSp 2 d (i * 2) (by omega), show i * 2 / 2 = i from by omega, show i * 2 % 2 = 0 from by omega, getElem!_pos d i h]
    rfl
  · rw [get_flatK encSp 2 d (i * 2 + 1) (by omega), show (i * 2 + 1) / 2 = i from by omega, show (i * 2 + 1) % 2 = 1 from by omega, getElem!_pos d i h]
    rfl

theorem holdsK_of_own {w : World} {g n : Nat} {cur : Array Value} {xs : List Sp} (hl : xs.length = n) (hg : w.heap[g]? = some (.cells cur 41 (0, 0))) (ht : cur.toList.take (n * 2) = flatS xs) : HoldsK encSp 2 w g 0 xs.toArray := by
  intro j hj
  rw [size_flatK] at hj
  have hj2 : j < xs.length * 2 := by simpa using hj
  have key : w.cell? ⟨g, 0 + j, none⟩ = (flatS xs)[j]? := by
    rw [← ht, List.getElem?_take, if_pos (by omega)]
    simp [World.cell?, hg]
  refine ⟨?_, by simp [World.frozen?, hg]⟩
  rw [key]
  obtain ⟨i, hi⟩ : ∃ i, i = j / 2 := ⟨_, rfl⟩
  have hix : i < xs.length := by omega
  have h1 := flatS_get xs i hix
  have h2 := flatK_get xs.toArray i (by simpa using hix)
  rcases Nat.mod_two_eq_zero_or_one j with h0 | h0
  · obtain rfl : j = i * 2 := by omega
    rw [h1.1, h2.1]; simp
  · obtain rfl : j = i * 2 + 1 := by omega
    rw [h1.2, h2.2]; simp

theorem spAt_of_holdsK {w : World} {g : Nat} {d : Array (Int × Int)} (h : HoldsK encSp 2 w g 0 d) (hg : g < w.heap.size) : SpAt w w.heap.size (some ⟨g, 0, none⟩) d.toList.length d.toList := by
  refine ⟨rfl, fun _ => ⟨g, 0, rfl, hg, fun i hi => ?_⟩⟩
  have hi' : i < d.size := by simpa using hi
  have h2 := flatK_get d i hi'
  have c1 := (h (i * 2) (by rw [size_flatK]; omega)).1
  have c2 := (h (i * 2 + 1) (by rw [size_flatK]; omega)).1
  rw [h2.1] at c1
  rw [h2.2] at c2
  rw [Nat.add_assoc]
  exact ⟨by simpa using c1, by simpa using c2⟩

end Go.Proofs.Ytjimkfniahndhaa
