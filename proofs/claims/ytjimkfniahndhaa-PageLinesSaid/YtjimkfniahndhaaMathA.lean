/-
  Plain facts on lines of a list of bytes: the spans of its lines, and the line and the column of a place.
-/
namespace Go.Proofs.Ytjimkfniahndhaa

/-- A line: its number, where it begins, where it ends. -/
abbrev Ln := Nat × Nat × Nat

/-- The lines of what is left of a text, from the place p on, in line ln that begins at fr. -/
def spansFrom : List UInt8 → Nat → Nat → Nat → List Ln
  | [], p, ln, fr => [(ln, fr, p)]
  | c :: r, p, ln, fr => if c = 10 then (ln, fr, p) :: spansFrom r (p + 1) (ln + 1) (p + 1) else spansFrom r (p + 1) ln fr

def spans (t : List UInt8) : List Ln := spansFrom t 0 1 0

/-- The line and the column behind the bytes of a list, from a line and a column on. -/
def goPlace : List UInt8 → Nat × Nat → Nat × Nat
  | [], x => x
  | c :: r, x => goPlace r (if c = 10 then (x.1 + 1, 1) else (x.1, x.2 + 1))

def placeOf (t : List UInt8) (at' : Nat) : Nat × Nat := goPlace (t.take at') (1, 1)

theorem goPlace_append (a b : List UInt8) (x : Nat × Nat) : goPlace (a ++ b) x = goPlace b (goPlace a x) := by
  induction a generalizing x with
  | nil => rfl
  | cons c r ih => simp [goPlace, ih]

theorem placeOf_succ (t : List UInt8) (k : Nat) (h : k < t.length) :
    placeOf t (k + 1) = if t[k] = 10 then ((placeOf t k).1 + 1, 1) else ((placeOf t k).1, (placeOf t k).2 + 1) := by
  unfold placeOf
  rw [List.take_succ_eq_append_getElem h, goPlace_append]
  simp [goPlace]

theorem spansFrom_ne (l : List UInt8) (p ln fr : Nat) : spansFrom l p ln fr ≠ [] := by
  induction l generalizing p ln fr with
  | nil => simp [spansFrom]
  | cons c r ih => unfold spansFrom; split <;> simp [ih]

/-- Each line's numbers are small, and in order. -/
theorem spansFrom_mem (l : List UInt8) (p ln fr : Nat) (h : fr ≤ p) (x : Ln) (hx : x ∈ spansFrom l p ln fr) :
    ln ≤ x.1 ∧ x.1 ≤ ln + l.length ∧ fr ≤ x.2.1 ∧ x.2.1 ≤ x.2.2 ∧ p ≤ x.2.2 ∧ x.2.2 ≤ p + l.length ∧ (x.1 = ln → x.2.1 = fr) := by
  induction l generalizing p ln fr with
  | nil => simp [spansFrom] at hx; subst hx; simp; exact h
  | cons c r ih =>
    unfold spansFrom at hx
    split at hx
    · rcases List.mem_cons.1 hx with rfl | hx
      · simp; omega
      · have := ih (p + 1) (ln + 1) (p + 1) (Nat.le_refl _) hx
        simp; omega
    · have := ih (p + 1) ln fr (by omega) hx
      simp; omega

/-- The line of a place, found by going through the lines, is the place's. -/
theorem spansFrom_place (l : List UInt8) (p ln fr : Nat) (h : fr ≤ p) (pre : List Ln) (x : Ln) (hp : pre ++ [x] <+: spansFrom l p ln fr) (k : Nat)
    (hk : p ≤ k) (hpre : ∀ y ∈ pre, y.2.2 < k) (hx : k ≤ x.2.2) :
    goPlace (l.take (k - p)) (ln, p - fr + 1) = (x.1, k - x.2.1 + 1) := by
  induction l generalizing p ln fr pre with
  | nil =>
    simp only [spansFrom] at hp
    obtain ⟨q, hq⟩ := hp
    cases pre with
    | nil => simp at hq; obtain ⟨rfl, _⟩ := hq; simp at hx; obtain rfl : k = p := by omega
             simp [goPlace]
    | cons y r => simp at hq
  | cons c r ih =>
    unfold spansFrom at hp
    by_cases hc : c = 10
    · rw [if_pos hc] at hp
      cases pre with
      | nil =>
        obtain ⟨q, hq⟩ := hp
        simp at hq; obtain ⟨rfl, _⟩ := hq; simp at hx; obtain rfl : k = p := by omega
        simp [goPlace]
      | cons y pre =>
        obtain ⟨q, hq⟩ := hp
        simp at hq; obtain ⟨rfl, hq⟩ := hq
        have h1 := hpre (ln, fr, p) (by simp)
        simp at h1
        have := ih (p + 1) (ln + 1) (p + 1) (Nat.le_refl _) pre ⟨q, by simpa using hq⟩ (by omega) (fun z hz => hpre z (by simp [hz]))
        rw [show k - p = (k - (p + 1)) + 1 from by omega, List.take_succ_cons, goPlace, if_pos hc]
        simpa using this
    · rw [if_neg hc] at hp
      by_cases hkp : k = p
      · subst hkp
        cases pre with
        | nil =>
          have hm : x ∈ spansFrom r (k + 1) ln fr := hp.subset (by simp)
          have hh : (spansFrom r (k + 1) ln fr).head? = some x := by obtain ⟨q, hq⟩ := hp; rw [← hq]; rfl
          have key : ∀ (l : List UInt8) (p : Nat), (spansFrom l p ln fr).head? = some x → x.1 = ln ∧ x.2.1 = fr := by
            intro l
            induction l with
            | nil => intro p hq; simp [spansFrom] at hq; subst hq; simp
            | cons d s ihs => intro p hq; unfold spansFrom at hq; split at hq; (· simp at hq; subst hq; simp); (· exact ihs _ hq)
          obtain ⟨e1, e2⟩ := key _ _ hh
          simp [goPlace, e1, e2]
        | cons y pre =>
          have hm : y ∈ spansFrom r (k + 1) ln fr := hp.subset (by simp)
          have h1 := spansFrom_mem r (k + 1) ln fr (by omega) y hm
          have h2 := hpre y (by simp)
          omega
      · have := ih (p + 1) ln fr (by omega) pre hp (by omega) hpre
        rw [show k - p = (k - (p + 1)) + 1 from by omega, List.take_succ_cons, goPlace, if_neg hc]
        rw [show p + 1 - fr + 1 = p - fr + 1 + 1 from by omega] at this
        simpa using this

theorem spans_place (t : List UInt8) (pre : List Ln) (x : Ln) (hp : pre ++ [x] <+: spans t) (k : Nat) (hpre : ∀ y ∈ pre, y.2.2 < k) (hx : k ≤ x.2.2) :
    placeOf t k = (x.1, k - x.2.1 + 1) := by
  have := spansFrom_place t 0 1 0 (Nat.le_refl _) pre x hp k (Nat.zero_le _) hpre hx
  simpa [placeOf] using this

/-- The last line ends where the text does. -/
theorem spansFrom_last (l : List UInt8) (p ln fr : Nat) : ∃ q x, spansFrom l p ln fr = q ++ [x] ∧ x.2.2 = p + l.length := by
  induction l generalizing p ln fr with
  | nil => exact ⟨[], (ln, fr, p), rfl, by simp⟩
  | cons c r ih =>
    unfold spansFrom
    split
    · obtain ⟨q, x, e, hx⟩ := ih (p + 1) (ln + 1) (p + 1)
      exact ⟨(ln, fr, p) :: q, x, by rw [e]; rfl, by rw [hx]; simp; omega⟩
    · obtain ⟨q, x, e, hx⟩ := ih (p + 1) ln fr
      exact ⟨q, x, e, by rw [hx]; simp; omega⟩

theorem spans_none (t : List UInt8) (k : Nat) (h : ∀ y ∈ spans t, y.2.2 < k) : t.length < k := by
  obtain ⟨q, x, e, hx⟩ := spansFrom_last t 0 1 0
  have := h x (by unfold spans; rw [e]; simp)
  omega

/-- Of each place there is a line that it lies in, the first that reaches it. -/
theorem spans_some (t : List UInt8) (k : Nat) (h : k ≤ t.length) : ∃ pre x, pre ++ [x] <+: spans t ∧ (∀ y ∈ pre, y.2.2 < k) ∧ k ≤ x.2.2 := by
  have gen : ∀ l : List Ln, (∃ y ∈ l, k ≤ y.2.2) → ∃ pre x, pre ++ [x] <+: l ∧ (∀ y ∈ pre, y.2.2 < k) ∧ k ≤ x.2.2 := by
    intro l
    induction l with
    | nil => rintro ⟨y, hy, _⟩; simp at hy
    | cons a r ih =>
      rintro ⟨y, hy, hk⟩
      by_cases ha : k ≤ a.2.2
      · exact ⟨[], a, ⟨r, rfl⟩, by simp, ha⟩
      · rcases List.mem_cons.1 hy with rfl | hy
        · exact absurd hk ha
        · obtain ⟨pre, x, hp, h1, h2⟩ := ih ⟨y, hy, hk⟩
          obtain ⟨q, hq⟩ := hp
          exact ⟨a :: pre, x, ⟨q, by simp [← hq]⟩, fun z hz => by rcases List.mem_cons.1 hz with rfl | hz; (· omega); (· exact h1 z hz), h2⟩
  obtain ⟨q, x, e, hx⟩ := spansFrom_last t 0 1 0
  exact gen _ ⟨x, by unfold spans; rw [e]; simp, by omega⟩

/-- A line's number tells which it is. -/
theorem spansFrom_unique (l : List UInt8) (p ln fr : Nat) (h : fr ≤ p) (x y : Ln) (hx : x ∈ spansFrom l p ln fr) (hy : y ∈ spansFrom l p ln fr) (e : x.1 = y.1) : x = y := by
  induction l generalizing p ln fr with
  | nil => simp [spansFrom] at hx hy; rw [hx, hy]
  | cons c r ih =>
    unfold spansFrom at hx hy
    split at hx
    · rename_i hc
      rw [if_pos hc] at hy
      rcases List.mem_cons.1 hx with rfl | hx <;> rcases List.mem_cons.1 hy with rfl | hy
      · rfl
      · have := spansFrom_mem r (p + 1) (ln + 1) (p + 1) (Nat.le_refl _) y hy; simp at e; omega
      · have := spansFrom_mem r (p + 1) (ln + 1) (p + 1) (Nat.le_refl _) x hx; simp at e; omega
      · exact ih (p + 1) (ln + 1) (p + 1) (Nat.le_refl _) hx hy
    · rename_i hc
      rw [if_neg hc] at hy
      exact ih (p + 1) ln fr (by omega) hx hy

/-- A line begins behind the end of each line ahead of it. -/
theorem spansFrom_rise (l : List UInt8) (p ln fr : Nat) (h : fr ≤ p) (pre : List Ln) (x : Ln) (hp : pre ++ [x] <+: spansFrom l p ln fr) : ∀ y ∈ pre, y.2.2 < x.2.1 := by
  induction l generalizing p ln fr pre with
  | nil =>
    obtain ⟨q, hq⟩ := hp
    cases pre with
    | nil => simp
    | cons y r => simp [spansFrom] at hq
  | cons c r ih =>
    unfold spansFrom at hp
    split at hp
    · cases pre with
      | nil => simp
      | cons y pre =>
        obtain ⟨q, hq⟩ := hp
        simp at hq; obtain ⟨rfl, hq⟩ := hq
        have hq' : pre ++ [x] <+: spansFrom r (p + 1) (ln + 1) (p + 1) := ⟨q, by simpa using hq⟩
        intro z hz
        rcases List.mem_cons.1 hz with rfl | hz
        · have := spansFrom_mem r (p + 1) (ln + 1) (p + 1) (Nat.le_refl _) x (hq'.subset (by simp)); simp; omega
        · exact ih (p + 1) (ln + 1) (p + 1) (Nat.le_refl _) pre hq' z hz
    · exact ih (p + 1) ln fr (by omega) pre hp

/-- A place of a line has its number as its line, and as its column how far it is from its beginning. -/
theorem spans_in (t : List UInt8) (x : Ln) (hx : x ∈ spans t) (k : Nat) (h1 : x.2.1 ≤ k) (h2 : k ≤ x.2.2) : placeOf t k = (x.1, k - x.2.1 + 1) := by
  obtain ⟨pre, q, e⟩ := List.append_of_mem hx
  have hp : pre ++ [x] <+: spans t := ⟨q, by rw [e]; simp⟩
  exact spans_place t pre x hp k (fun y hy => by have := spansFrom_rise t 0 1 0 (Nat.le_refl _) pre x hp y hy; omega) h2

/-- A place's line is one of the lines, and the place lies in it. -/
theorem spans_of (t : List UInt8) (k : Nat) (h : k ≤ t.length) : ∃ x ∈ spans t, x.2.1 ≤ k ∧ k ≤ x.2.2 ∧ placeOf t k = (x.1, k - x.2.1 + 1) := by
  obtain ⟨pre, x, hp, h1, h2⟩ := spans_some t k h
  refine ⟨x, hp.subset (by simp), ?_, h2, spans_place t pre x hp k h1 h2⟩
  -- the line begins at 0, or right behind the end of the one ahead of it
  have gen : ∀ (l : List UInt8) (p ln fr : Nat) (pre : List Ln), fr ≤ k → fr ≤ p → pre ++ [x] <+: spansFrom l p ln fr → (∀ y ∈ pre, y.2.2 < k) → x.2.1 ≤ k := by
    intro l
    induction l with
    | nil =>
      intro p ln fr pre hf _ hp _
      obtain ⟨q, hq⟩ := hp
      cases pre with
      | nil => simp [spansFrom] at hq; obtain ⟨rfl, _⟩ := hq; exact hf
      | cons y r => simp [spansFrom] at hq
    | cons c r ih =>
      intro p ln fr pre hf hfp hp hpre
      unfold spansFrom at hp
      split at hp
      · cases pre with
        | nil => obtain ⟨q, hq⟩ := hp; simp at hq; obtain ⟨rfl, _⟩ := hq; exact hf
        | cons y pre =>
          obtain ⟨q, hq⟩ := hp
          simp at hq; obtain ⟨rfl, hq⟩ := hq
          have := hpre (ln, fr, p) (by simp)
          simp at this
          exact ih (p + 1) (ln + 1) (p + 1) pre (by omega) (Nat.le_refl _) ⟨q, by simpa using hq⟩ (fun z hz => hpre z (by simp [hz]))
      · exact ih (p + 1) ln fr pre hf (by omega) hp hpre
  exact gen t 0 1 0 pre (Nat.zero_le _) (Nat.le_refl _) hp h1

theorem spans_mem (t : List UInt8) (x : Ln) (hx : x ∈ spans t) : 1 ≤ x.1 ∧ x.1 ≤ t.length + 1 ∧ x.2.1 ≤ x.2.2 ∧ x.2.2 ≤ t.length := by
  have := spansFrom_mem t 0 1 0 (Nat.le_refl _) x hx
  omega

theorem spans_unique (t : List UInt8) (x y : Ln) (hx : x ∈ spans t) (hy : y ∈ spans t) (e : x.1 = y.1) : x = y := spansFrom_unique t 0 1 0 (Nat.le_refl _) x y hx hy e

end Go.Proofs.Ytjimkfniahndhaa
