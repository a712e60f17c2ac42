/-
  Plain facts on signs: the first of the table that fits.
-/
import Derived.Test.YtdknejmhlfpdfaaGreatDoorMathA
namespace Go.Proofs.YtdknejmhlfpdfaaGreatDoor

def hasP (r b : List UInt8) : Bool := r.take b.length == b
theorem sgn_len (j : Nat) (hj : j < 23) : (signsL.getD j []).length = if j < 6 then 2 else 1 := by
  have : ∀ j : Fin 23, (signsL.getD j.1 []).length = if j.1 < 6 then 2 else 1 := by decide
  exact this ⟨j, hj⟩
theorem sgn_two (j : Nat) (hj : j < 6) : signsL.getD j [] ∈ twoL := by
  have : ∀ j : Fin 6, signsL.getD j.1 [] ∈ twoL := by decide
  exact this ⟨j, hj⟩
theorem sgn_one (j : Nat) (h6 : 6 ≤ j) (hj : j < 23) : signsL.getD j [] ∈ oneL := by
  have : ∀ j : Fin 23, 6 ≤ j.1 → signsL.getD j.1 [] ∈ oneL := by decide
  exact this ⟨j, hj⟩ h6
theorem two_sgn : ∀ b ∈ twoL, ∃ j : Fin 6, signsL.getD j.1 [] = b := by decide
theorem one_sgn : ∀ b ∈ oneL, ∃ j : Fin 23, 6 ≤ j.1 ∧ signsL.getD j.1 [] = b := by decide

theorem sign_first (r : List UInt8) (i : Nat) (hi : i < 23) (hn : ∀ j, j < i → hasP r (signsL.getD j []) = false) (h : hasP r (signsL.getD i []) = true) : signL r = (signsL.getD i []).length := by
  have hl := sgn_len i hi
  unfold hasP at h
  rw [hl] at h ⊢
  rw [beq_iff_eq] at h
  unfold signL
  by_cases h6 : i < 6
  · rw [if_pos h6] at h ⊢
    have : isTwo (r.take 2) = true := by rw [h]; simpa [isTwo] using sgn_two i h6
    rw [if_pos this]
  · rw [if_neg h6] at h ⊢
    have h2 : ¬ isTwo (r.take 2) = true := fun hc => by
      have hm : r.take 2 ∈ twoL := by simpa [isTwo] using hc
      obtain ⟨j, hj⟩ := two_sgn _ hm
      have := hn j.1 (by omega)
      unfold hasP at this
      rw [sgn_len j.1 (by omega), if_pos j.2, hj] at this
      simp at this
    have h1 : isOne (r.take 1) = true := by rw [h]; simpa [isOne] using sgn_one i (by omega) hi
    rw [if_neg h2, if_pos h1]
theorem sign_none (r : List UInt8) (hn : ∀ j, j < 23 → hasP r (signsL.getD j []) = false) : signL r = 0 := by
  unfold signL
  have h2 : ¬ isTwo (r.take 2) = true := fun hc => by
    have hm : r.take 2 ∈ twoL := by simpa [isTwo] using hc
    obtain ⟨j, hj⟩ := two_sgn _ hm
    have := hn j.1 (by omega)
    unfold hasP at this
    rw [sgn_len j.1 (by omega), if_pos j.2, hj] at this
    simp at this
  have h1 : ¬ isOne (r.take 1) = true := fun hc => by
    have hm : r.take 1 ∈ oneL := by simpa [isOne] using hc
    obtain ⟨j, h6, hj⟩ := one_sgn _ hm
    have := hn j.1 (by omega)
    unfold hasP at this
    rw [sgn_len j.1 (by omega), if_neg (by omega), hj] at this
    simp at this
  rw [if_neg h2, if_neg h1]

end Go.Proofs.YtdknejmhlfpdfaaGreatDoor
