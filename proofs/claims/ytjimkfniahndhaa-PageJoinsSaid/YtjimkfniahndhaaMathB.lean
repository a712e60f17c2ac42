/-
  Plain facts on spans: the cover of sorted spans, and what lies in one of them.
-/
namespace Go.Proofs.Ytjimkfniahndhaa

def covStep (out : List (Int × Int)) (s : Int × Int) : List (Int × Int) :=
  match out.getLast? with
  | some l => if s.1 ≤ l.2 then out.dropLast ++ [(l.1, max l.2 s.2)] else out ++ [s]
  | none => [s]

def covL (zs : List (Int × Int)) : List (Int × Int) := zs.foldl covStep []

theorem covL_snoc (zs : List (Int × Int)) (s : Int × Int) : covL (zs ++ [s]) = covStep (covL zs) s := by simp [covL]
theorem covL_take (zs : List (Int × Int)) (k : Nat) (h : k < zs.length) : covL (zs.take (k + 1)) = covStep (covL (zs.take k)) zs[k] := by
  rw [List.take_succ_eq_append_getElem h, covL_snoc]
theorem covStep_nil (s : Int × Int) : covStep [] s = [s] := rfl
theorem covStep_join (init : List (Int × Int)) (l s : Int × Int) (h : s.1 ≤ l.2) : covStep (init ++ [l]) s = init ++ [(l.1, max l.2 s.2)] := by simp [covStep, h]
theorem covStep_apart (init : List (Int × Int)) (l s : Int × Int) (h : ¬ s.1 ≤ l.2) : covStep (init ++ [l]) s = init ++ [l] ++ [s] := by simp [covStep, h]

theorem covL_le (zs : List (Int × Int)) : (covL zs).length ≤ zs.length := by
  have gen : ∀ (zs out : List (Int × Int)), (zs.foldl covStep out).length ≤ out.length + zs.length := by
    intro zs
    induction zs with
    | nil => simp
    | cons s r ih =>
      intro out
      have h1 := ih (covStep out s)
      have h2 : (covStep out s).length ≤ out.length + 1 := by
        unfold covStep
        split
        · rename_i l hl
          have : out ≠ [] := by intro e; simp [e] at hl
          have : 0 < out.length := List.length_pos_iff.2 this
          split <;> simp <;> omega
        · simp
      simp only [List.foldl_cons, List.length_cons]
      omega
  have := gen zs []
  simpa [covL] using this

def inS (l : List (Int × Int)) (p : Int) : Prop := ∃ x ∈ l, x.1 ≤ p ∧ p < x.2

theorem split_in (L : List (Int × Int)) (x : Int × Int) (p : Int) : inS (L ++ [x]) p ↔ inS L p ∨ (x.1 ≤ p ∧ p < x.2) := by
  simp only [inS, List.mem_append, List.mem_singleton]
  constructor
  · rintro ⟨y, hy | rfl, h⟩
    · exact .inl ⟨y, hy, h⟩
    · exact .inr h
  · rintro (⟨y, hy, h⟩ | h)
    · exact ⟨y, .inl hy, h⟩
    · exact ⟨x, .inr rfl, h⟩

/-- The cover of sorted spans: it covers what they cover; each begins where one of them does; they rise; each span is of one's own kind. -/
theorem covL_spec (zs : List (Int × Int)) (hs : zs.Pairwise (fun a b => a.1 ≤ b.1)) (hf : ∀ x ∈ zs, x.1 < x.2) :
    (∀ p, inS (covL zs) p ↔ inS zs p) ∧ (∀ x ∈ covL zs, x.1 < x.2 ∧ (∃ a ∈ zs, x.1 = a.1) ∧ (∃ b ∈ zs, x.2 = b.2)) ∧ (∀ l, (covL zs).getLast? = some l → ∃ a ∈ zs, l.1 = a.1) := by
  have gen : ∀ n (zs : List (Int × Int)), zs.length = n → zs.Pairwise (fun a b => a.1 ≤ b.1) → (∀ x ∈ zs, x.1 < x.2) →
      (∀ p, inS (covL zs) p ↔ inS zs p) ∧ (∀ x ∈ covL zs, x.1 < x.2 ∧ (∃ a ∈ zs, x.1 = a.1) ∧ (∃ b ∈ zs, x.2 = b.2)) := by
    intro n
    induction n with
    | zero => intro zs h _ _; obtain rfl := List.eq_nil_of_length_eq_zero h; simp [covL, inS]
    | succ n ih =>
      intro zs h hs hf
      obtain ⟨ys, s, rfl⟩ : ∃ ys s, zs = ys ++ [s] := by
        rcases List.eq_nil_or_concat zs with rfl | ⟨a, b, e⟩
        · simp at h
        · exact ⟨a, b, by rw [e, List.concat_eq_append]⟩
      have hys := ih ys (by simpa using h) (List.pairwise_append.1 hs).1 (fun x hx => hf x (by simp [hx]))
      have hle : ∀ a ∈ ys, a.1 ≤ s.1 := fun a ha => (List.pairwise_append.1 hs).2.2 a ha s (by simp)
      have hsf := hf s (by simp)
      obtain ⟨h1, h2⟩ := hys
      rw [covL_snoc]
      generalize hc : covL ys = out at h1 h2
      rcases List.eq_nil_or_concat out with rfl | ⟨init, l, rfl⟩
      · rw [covStep_nil]
        constructor
        · intro p
          rw [split_in ys s, ← h1 p]
          exact split_in [] s p
        · intro x hx; simp at hx; subst hx; exact ⟨hsf, ⟨_, by simp, rfl⟩, ⟨_, by simp, rfl⟩⟩
      · rw [List.concat_eq_append] at h1 h2 ⊢
        have hl := h2 l (by simp)
        obtain ⟨a0, ha0, e0⟩ := hl.2.1
        have hla : l.1 ≤ s.1 := by rw [e0]; exact hle a0 ha0
        by_cases hj : s.1 ≤ l.2
        · rw [covStep_join init l s hj]
          constructor
          · intro p
            have := h1 p
            rw [split_in init, split_in ys, ← this, split_in init]
            simp only
            constructor
            · rintro (h | ⟨g1, g2⟩)
              · exact .inl (.inl h)
              · by_cases hp : p < l.2
                · exact .inl (.inr ⟨g1, hp⟩)
                · exact .inr ⟨by omega, by omega⟩
            · rintro ((h | ⟨g1, g2⟩) | ⟨g1, g2⟩)
              · exact .inl h
              · exact .inr ⟨g1, by omega⟩
              · exact .inr ⟨by omega, by omega⟩
          · intro x hx
            rcases List.mem_append.1 hx with hx | hx
            · obtain ⟨g1, ⟨a, ha, g2⟩, ⟨b, hb, g3⟩⟩ := h2 x (by simp [hx])
              exact ⟨g1, ⟨a, by simp [ha], g2⟩, ⟨b, by simp [hb], g3⟩⟩
            · simp at hx; subst hx
              obtain ⟨g1, _, ⟨b, hb, g3⟩⟩ := hl
              refine ⟨by simp only; omega, ⟨a0, by simp [ha0], e0⟩, ?_⟩
              by_cases hm : l.2 ≤ s.2
              · exact ⟨s, by simp, by simp only; omega⟩
              · exact ⟨b, by simp [hb], by simp only; omega⟩
        · rw [covStep_apart init l s hj]
          constructor
          · intro p
            have := h1 p
            rw [split_in (init ++ [l]) s, split_in ys s, this]
          · intro x hx
            rcases List.mem_append.1 hx with hx | hx
            · obtain ⟨g1, ⟨a, ha, g2⟩, ⟨b, hb, g3⟩⟩ := h2 x hx
              exact ⟨g1, ⟨a, by simp [ha], g2⟩, ⟨b, by simp [hb], g3⟩⟩
            · simp at hx; subst hx; exact ⟨hsf, ⟨_, by simp, rfl⟩, ⟨_, by simp, rfl⟩⟩
  obtain ⟨h1, h2⟩ := gen _ zs rfl hs hf
  exact ⟨h1, h2, fun l hl => (h2 l (List.mem_of_getLast? hl)).2.1⟩

end Go.Proofs.Ytjimkfniahndhaa
