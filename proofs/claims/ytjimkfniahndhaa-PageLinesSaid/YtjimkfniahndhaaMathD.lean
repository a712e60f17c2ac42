/-
  More plain facts on the lines of a list of bytes.
-/
import Derived.Test.YtjimkfniahndhaaMathA
namespace Go.Proofs.Ytjimkfniahndhaa

theorem spansFrom_num (l : List UInt8) (p ln fr i : Nat) (h : i < (spansFrom l p ln fr).length) : ((spansFrom l p ln fr)[i]).1 = ln + i := by
  induction l generalizing p ln fr i with
  | nil => simp [spansFrom] at h ⊢; omega
  | cons c r ih =>
    by_cases hc : c = 10
    · have e : spansFrom (c :: r) p ln fr = (ln, fr, p) :: spansFrom r (p + 1) (ln + 1) (p + 1) := by simp [spansFrom, hc]
      simp only [e] at h ⊢
      cases i with
      | zero => simp
      | succ i => simp only [List.getElem_cons_succ]; rw [ih (p + 1) (ln + 1) (p + 1) i (by simpa using h)]; omega
    · have e : spansFrom (c :: r) p ln fr = spansFrom r (p + 1) ln fr := by simp [spansFrom, hc]
      simp only [e] at h ⊢
      exact ih (p + 1) ln fr i h

theorem spansFrom_count (l : List UInt8) (p ln fr c : Nat) : (spansFrom l p ln fr).length + ln = (goPlace l (ln, c)).1 + 1 := by
  induction l generalizing p ln fr c with
  | nil => simp [spansFrom, goPlace]; omega
  | cons d r ih =>
    unfold spansFrom goPlace
    split
    · have := ih (p + 1) (ln + 1) (p + 1) 1
      simp only [List.length_cons]; omega
    · exact ih (p + 1) ln fr (c + 1)

theorem spans_num (t : List UInt8) (i : Nat) (h : i < (spans t).length) : ((spans t)[i]).1 = i + 1 := by
  have := spansFrom_num t 0 1 0 i h
  simp only [spans]; omega

theorem spans_count (t : List UInt8) : (spans t).length = (placeOf t t.length).1 := by
  have := spansFrom_count t 0 1 0 1
  rw [placeOf, List.take_length]
  unfold spans; omega

theorem spans_at (t : List UInt8) (x : Ln) (hx : x ∈ spans t) : x.1 - 1 < (spans t).length ∧ (spans t)[x.1 - 1]? = some x := by
  obtain ⟨i, hi, e⟩ := List.getElem_of_mem hx
  have h1 := spans_num t i hi
  rw [e] at h1
  have : x.1 - 1 = i := by omega
  rw [this]
  exact ⟨hi, by rw [List.getElem?_eq_getElem hi, e]⟩

/-- Behind a line is the byte 10, or nothing; within it there is none. -/
theorem spansFrom_bytes (l : List UInt8) (p ln fr : Nat) (h : fr ≤ p) (x : Ln) (hx : x ∈ spansFrom l p ln fr) :
    (x.2.2 = p + l.length ∨ l[x.2.2 - p]? = some 10) ∧ (∀ j, p ≤ j → x.2.1 ≤ j → j < x.2.2 → l[j - p]? ≠ some 10) := by
  induction l generalizing p ln fr with
  | nil =>
    simp [spansFrom] at hx; subst hx
    exact ⟨.inl (by simp), fun j h1 _ h3 => by simp at h3; omega⟩
  | cons c r ih =>
    unfold spansFrom at hx
    split at hx
    · rename_i hc
      rcases List.mem_cons.1 hx with rfl | hx
      · exact ⟨.inr (by simp [hc]), fun j h1 _ h3 => by simp at h3; omega⟩
      · have hm := spansFrom_mem r (p + 1) (ln + 1) (p + 1) (Nat.le_refl _) x hx
        obtain ⟨h1, h2⟩ := ih (p + 1) (ln + 1) (p + 1) (Nat.le_refl _) hx
        refine ⟨?_, fun j g1 g2 g3 => ?_⟩
        · rcases h1 with h1 | h1
          · left; simp; omega
          · right; rw [show x.2.2 - p = (x.2.2 - (p + 1)) + 1 from by omega]; simpa using h1
        · have := h2 j (by omega) g2 g3
          rw [show j - p = (j - (p + 1)) + 1 from by omega]; simpa using this
    · rename_i hc
      have hm := spansFrom_mem r (p + 1) ln fr (by omega) x hx
      obtain ⟨h1, h2⟩ := ih (p + 1) ln fr (by omega) hx
      refine ⟨?_, fun j g1 g2 g3 => ?_⟩
      · rcases h1 with h1 | h1
        · left; simp; omega
        · right; rw [show x.2.2 - p = (x.2.2 - (p + 1)) + 1 from by omega]; simpa using h1
      · by_cases e : j = p
        · subst e; simp; exact hc
        · have := h2 j (by omega) g2 g3
          rw [show j - p = (j - (p + 1)) + 1 from by omega]; simpa using this

theorem spans_bytes (t : List UInt8) (x : Ln) (hx : x ∈ spans t) : (x.2.2 = t.length ∨ t[x.2.2]? = some 10) ∧ (∀ j, x.2.1 ≤ j → j < x.2.2 → t[j]? ≠ some 10) := by
  obtain ⟨h1, h2⟩ := spansFrom_bytes t 0 1 0 (Nat.le_refl _) x hx
  exact ⟨by simpa using h1, fun j g1 g2 => by simpa using h2 j (Nat.zero_le _) g1 g2⟩

/-- A line begins behind the byte 10 that ends the one ahead of it; the first one at 0. -/
theorem spansFrom_next (l : List UInt8) (p ln fr i : Nat) (h : i + 1 < (spansFrom l p ln fr).length) : ((spansFrom l p ln fr)[i + 1]).2.1 = ((spansFrom l p ln fr)[i]).2.2 + 1 := by
  induction l generalizing p ln fr i with
  | nil => simp [spansFrom] at h
  | cons c r ih =>
    by_cases hc : c = 10
    · have e : spansFrom (c :: r) p ln fr = (ln, fr, p) :: spansFrom r (p + 1) (ln + 1) (p + 1) := by simp [spansFrom, hc]
      simp only [e] at h ⊢
      cases i with
      | zero =>
        have hl : 0 < (spansFrom r (p + 1) (ln + 1) (p + 1)).length := by simpa using h
        have hx := spansFrom_mem r (p + 1) (ln + 1) (p + 1) (Nat.le_refl _) _ (List.getElem_mem hl)
        have hn := spansFrom_num r (p + 1) (ln + 1) (p + 1) 0 hl
        simpa using hx.2.2.2.2.2.2 (by omega)
      | succ i => exact ih (p + 1) (ln + 1) (p + 1) i (by simpa using h)
    · have e : spansFrom (c :: r) p ln fr = spansFrom r (p + 1) ln fr := by simp [spansFrom, hc]
      simp only [e] at h ⊢
      exact ih (p + 1) ln fr i h

theorem spans_next (t : List UInt8) (x y : Ln) (hx : x ∈ spans t) (hy : y ∈ spans t) (e : y.1 = x.1 + 1) : y.2.1 = x.2.2 + 1 := by
  obtain ⟨i, hi, rfl⟩ := List.getElem_of_mem hx
  obtain ⟨j, hj, rfl⟩ := List.getElem_of_mem hy
  have h1 := spans_num t i hi
  have h2 := spans_num t j hj
  obtain rfl : j = i + 1 := by omega
  exact spansFrom_next t 0 1 0 i hj

theorem spans_first (t : List UInt8) (x : Ln) (hx : x ∈ spans t) (e : x.1 = 1) : x.2.1 = 0 := by
  have := spansFrom_mem t 0 1 0 (Nat.le_refl _) x hx
  exact this.2.2.2.2.2.2 e

end Go.Proofs.Ytjimkfniahndhaa
