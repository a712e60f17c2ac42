/-
  The reference's Next: the same token, or that there is none.
-/
import Derived.Test.YtdknejmhlfpdfaaGreatDoorRefNextA
import Derived.Test.YtdknejmhlfpdfaaGreatDoorRefNextB
import Derived.Test.YtdknejmhlfpdfaaGreatDoorRefNextC
namespace Go.Proofs.YtdknejmhlfpdfaaGreatDoor
open Go.RowKit

theorem nextBad_of (t : List UInt8) (k f : Nat) (h : skipTo false t k = f) : nextT t k = ⟨(tokL (t.drop f)).1, f, f + (tokL (t.drop f)).2⟩ ∧ nextBad t k = ((tokL (t.drop f)).2 == 0 && decide (f < t.length)) := by
  have h1 : nextT t k = ⟨(tokL (t.drop f)).1, f, f + (tokL (t.drop f)).2⟩ := by simp [nextT, h]
  refine ⟨h1, ?_⟩
  unfold nextBad
  rw [h1]
  dsimp only
  congr 1
  rw [Bool.eq_iff_iff, beq_iff_eq, beq_iff_eq]
  omega

theorem refNext0_calls (s : ByteArray) (hs : s.size ≤ 100000) (k : Nat) (hk : k ≤ s.size) (w : World) :
    Calls Tryz.prog 41 #[.string s, .int .i64 (k : Int)] w fun e w' => e = .returned (.tuple #[tokV (nextT s.data.toList k), .int .i64 (badC (nextBad s.data.toList k))]) ∧ Below w.heap.size w w' := by
  have hle := skipTo_le false s.data.toList k (by rw [sizeL]; exact hk)
  rw [sizeL] at hle
  generalize hf : skipTo false s.data.toList k = f at hle
  obtain ⟨e1, e2⟩ := nextBad_of s.data.toList k f hf
  rw [e1, e2, sizeL]
  clear e1 e2
  by_cases hlt : f < s.size
  · cases el : isLet s[f]
    · cases ed : isDig s[f]
      · rw [tokL_sign s f hlt el ed]
        refine (refSign s hs k f hk hlt hf el ed w).mono fun e w' ⟨he, hB⟩ => ⟨?_, hB⟩
        rw [he]
        simp [hlt]
      · rw [tokL_num s f hlt el ed]
        refine (refNum s hs k f hk hlt hf el ed w).mono fun e w' ⟨he, hB⟩ => ⟨?_, hB⟩
        rw [he]
        have hpos : 0 < run isDig (s.data.toList.drop f) := by rw [drop_cons s f hlt, run_cons, if_pos ed]; omega
        cases hb : numBad (s.data.toList.drop f) (run isDig (s.data.toList.drop f))
        · have : (run isDig (s.data.toList.drop f) == 0) = false := by rw [beq_eq_false_iff_ne]; omega
          simp [numT, this]
        · simp [numT, hlt]
    · rw [tokL_name s f hlt el]
      refine (refName s hs k f hk hlt hf el w).mono fun e w' ⟨he, hB⟩ => ⟨?_, hB⟩
      rw [he]
      have hpos : 0 < run isAl (s.data.toList.drop f) := by rw [drop_cons s f hlt, run_cons, if_pos (by simp [isAl, el])]; omega
      have : (run isAl (s.data.toList.drop f) == 0) = false := by rw [beq_eq_false_iff_ne]; omega
      simp [this, badC]
  · obtain rfl : f = s.size := by omega
    rw [List.drop_eq_nil_of_le (by rw [sizeL]; omega)]
    refine (refEnd s hs k hk hf w).mono fun e w' ⟨he, hB⟩ => ⟨?_, hB⟩
    rw [he]
    simp [tokL, badC]
theorem refNext_calls (s : ByteArray) (hs : s.size ≤ 100000) (k : Nat) (hk : k ≤ s.size) (w : World) (_ : Tabs w) :
    Calls Tryz.prog 41 #[.string s, .int .i64 (k : Int)] w fun e w' => e = .returned (.tuple #[tokV (nextT s.data.toList k), .int .i64 (badC (nextBad s.data.toList k))]) ∧ Below w.heap.size w w' := refNext0_calls s hs k hk w

end Go.Proofs.YtdknejmhlfpdfaaGreatDoor
