/-
  rewindref18.split: a line's words.
-/
import Derived.Test.YtdknejmhlfpdfaaDoorOrM
import Derived.Test.YtdknejmhlfpdfaaDoorOrB
import Derived.BigRegion
import Derived.StillTailTactics
namespace Go.Proofs.YtdknejmhlfpdfaaDoor
open Go.RowKit

theorem wgt_mem {l : List (List UInt8)} {a : List UInt8} (h : a ∈ l) : a.length + 1 ≤ wgt l := by
  induction l with
  | nil => cases h
  | cons x r ih =>
    simp only [wgt]
    rcases List.mem_cons.1 h with rfl | h
    · omega
    · have := ih h; omega
theorem wsS_len (t : List UInt8) (k : Nat) : (wsS (t.take k)).1.length ≤ k ∧ ∀ l ∈ (wsS (t.take k)).1, l.length ≤ k := by
  have h1 := ws_len (t.take k)
  have h2 := wgt_ws (t.take k)
  unfold wsM at h1 h2
  rw [List.length_take] at h1 h2
  exact ⟨by omega, fun l hl => by have := wgt_mem hl; omega⟩
/-- What split answers. -/
def SplP (l : List (List UInt8)) (w : World) (e : Ending) (w' : World) : Prop :=
  Below w.heap.size w w' ∧ ∃ v, e = .returned v ∧ w'.ownsRow w.heap.size 9 1 v l.length (strsP l)
theorem wstep_word0 {l : List (List UInt8)} {c : UInt8} (h : ¬ (c = 32 ∨ c = 9)) : wstep (l, false) c = (l ++ [[c]], true) := by
  unfold wstep
  rw [if_neg h]; simp
theorem wstep_word1 {l : List (List UInt8)} {a : List UInt8} {c : UInt8} (h : ¬ (c = 32 ∨ c = 9)) : wstep (l ++ [a], true) c = (l ++ [a ++ [c]], true) := by
  unfold wstep
  rw [if_neg h]; simp
theorem u8_ne {c : UInt8} {n : Nat} (h : c.toNat ≠ n) : ((c.toNat : Int) == (n : Int)) = false := beq_eq_false_iff_ne.2 (by omega)
end Go.Proofs.YtdknejmhlfpdfaaDoor
