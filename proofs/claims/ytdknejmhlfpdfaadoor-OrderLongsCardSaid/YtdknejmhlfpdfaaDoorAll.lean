/-
  token.All: a text's tokens, or where something is none.
-/
import Derived.Test.YtdknejmhlfpdfaaDoorToks
import Derived.RegionTactic
import Derived.Deep.QuietTactic
import Derived.BigQuiet
namespace Go.Proofs.YtdknejmhlfpdfaaDoor
open Go.RowKit

/-- What All answers. -/
def AllPost (s : ByteArray) (w : World) (e : Ending) (w' : World) : Prop :=
  Below w.heap.size w w' ∧ ((∃ p, (toks s.data.toList 0).2 = some p ∧ e = .returned (.tuple #[.slice none 0 0, .int .i64 (p : Int), .int .i64 2])) ∨
  ((toks s.data.toList 0).2 = none ∧ ∃ A c, e = .returned (.tuple #[.slice A (toks s.data.toList 0).1.length c, .int .i64 0, .int .i64 0]) ∧ TkAt w' w'.heap.size A (toks s.data.toList 0).1.length (toks s.data.toList 0).1))
/-- What All's loop knows at the head of a round. -/
def AllI (s : ByteArray) (w : World) (k : Nat) (pre : List Tok) (v i : Value) (wr : World) : Prop :=
  k ≤ s.size ∧ i = .int .i64 (k : Int) ∧ pre.length ≤ k ∧ toks s.data.toList 0 = (pre ++ (toks s.data.toList k).1, (toks s.data.toList k).2) ∧ wr.ownsRow w.heap.size 79 3 v pre.length (flatT pre) ∧ Below w.heap.size w wr

theorem own_some {w : World} {base n : Nat} {e : TypeId} {size : Nat} {v : Value} {xs : List Value} (h : w.ownsRow base e size v (n + 1) xs) : ∃ g cap, v = .slice (some ⟨g, 0, none⟩) (n + 1) cap := by
  rcases h.2 with ⟨_, h0⟩ | ⟨g, cap, cur, hv, _⟩
  · omega
  · exact ⟨g, cap, hv⟩
theorem box_after {W w3 : World} {base n : Nat} {e t : TypeId} {size : Nat} {v : Value} {xs : List Value} {a b c : Value} {o : Obj} (h : W.ownsRow base e size v n xs) (hg : ((W.alloc (.cells #[a, b, c] t)).alloc o).grownBy w3 v.ownBlock) :
    w3.cell? ⟨W.heap.size, 0, none⟩ = some a ∧ w3.cell? ⟨W.heap.size, 1, none⟩ = some b ∧ w3.cell? ⟨W.heap.size, 2, none⟩ = some c := by
  have hne : some W.heap.size ≠ v.ownBlock := fun e => by
    rcases h.2 with ⟨rfl, _⟩ | ⟨g, cap, cur, rfl, hb, hgg, _⟩
    · simp [Value.ownBlock] at e
    · have : W.heap.size = g := by simpa [Value.ownBlock] using e
      have hlt := (Array.getElem?_eq_some_iff.1 hgg).1
      omega
  have hk := hg.block W.heap.size (by simp; omega) hne
  have h0 : ((W.alloc (.cells #[a, b, c] t)).alloc o).heap[W.heap.size]? = some (.cells #[a, b, c] t (0, 0)) := by
    show ((W.heap.push _).push _)[W.heap.size]? = _
    simp [Array.getElem?_push]
  rw [h0] at hk
  refine ⟨?_, ?_, ?_⟩ <;> simp [World.cell?, hk]

theorem own_below {w w' : World} {base n : Nat} {e : TypeId} {size : Nat} {v : Value} {xs : List Value} (h : w.ownsRow base e size v n xs) (hB : Below w.heap.size w w') : w'.ownsRow base e size v n xs := by
  refine ⟨h.1, ?_⟩
  rcases h.2 with h0 | ⟨g, cap, cur, hv, hb, hg, hnc, hcm, hcs, ht⟩
  · exact .inl h0
  · exact .inr ⟨g, cap, cur, hv, hb, (hB.block g (Array.getElem?_eq_some_iff.1 hg).1).trans hg, hnc, hcm, hcs, ht⟩

end Go.Proofs.YtdknejmhlfpdfaaDoor
