/-
  Plain facts on blanked texts.
-/
import Derived.Test.YtjimkfniahndhaaMathB
namespace Go.Proofs.Ytjimkfniahndhaa

def inB (L : List (Int × Int)) (p : Int) : Bool := L.any fun x => decide (x.1 ≤ p) && decide (p < x.2)

theorem inB_iff (L : List (Int × Int)) (p : Int) : inB L p = true ↔ inS L p := by
  simp only [inB, inS, List.any_eq_true, Bool.and_eq_true, decide_eq_true_eq]

theorem inB_snoc (L : List (Int × Int)) (x : Int × Int) (p : Int) : inB (L ++ [x]) p = (inB L p || (decide (x.1 ≤ p) && decide (p < x.2))) := by simp [inB]

theorem inS_filter (xs : List (Int × Int)) (p : Int) : inS (xs.filter fun x => decide (x.1 < x.2)) p ↔ inS xs p := by
  simp only [inS, List.mem_filter, decide_eq_true_eq]
  constructor
  · rintro ⟨x, ⟨h1, _⟩, h2⟩; exact ⟨x, h1, h2⟩
  · rintro ⟨x, h1, h2⟩; exact ⟨x, ⟨h1, by omega⟩, h2⟩

theorem inS_perm {xs ys : List (Int × Int)} (h : xs.Perm ys) (p : Int) : inS xs p ↔ inS ys p := by
  simp only [inS, h.mem_iff]

def blankL (t : List UInt8) (L : List (Int × Int)) : List UInt8 := t.mapIdx fun i c => if c = 10 || inB L i then c else 32

theorem blankL_congr (t : List UInt8) (L M : List (Int × Int)) (h : ∀ p, inS L p ↔ inS M p) : blankL t L = blankL t M := by
  unfold blankL
  congr 1
  funext i c
  have : inB L i = inB M i := by
    rw [Bool.eq_iff_iff, inB_iff, inB_iff]; exact h i
  rw [this]

theorem blankL_length (t : List UInt8) (L : List (Int × Int)) : (blankL t L).length = t.length := by simp [blankL]
theorem blankL_get (t : List UInt8) (L : List (Int × Int)) (i : Nat) (h : i < t.length) : (blankL t L)[i]'(by rw [blankL_length]; exact h) = if t[i] = 10 || inB L i then t[i] else 32 := by simp [blankL]

theorem blankL_again (t : List UInt8) (L : List (Int × Int)) : blankL (blankL t L) L = blankL t L := by
  apply List.ext_getElem
  · simp [blankL_length]
  · intro i h1 h2
    have h3 : i < t.length := by simpa [blankL_length] using h2
    rw [blankL_get _ L i (by simpa [blankL_length] using h2)]
    rw [blankL_get t L i h3]
    by_cases h10 : (t[i] = 10 || inB L i) = true
    · rw [if_pos h10, if_pos h10]
    · rw [if_neg h10]; split <;> rfl

/-- The cover of the sorted ones covers what all cover. -/
theorem cov_same (xs zs : List (Int × Int)) (hp : zs.Perm (xs.filter fun x => decide (x.1 < x.2))) (hs : zs.Pairwise (fun a b => a.1 ≤ b.1)) (p : Int) : inS (covL zs) p ↔ inS xs p := by
  have hf : ∀ x ∈ zs, x.1 < x.2 := fun x hx => by
    have := hp.mem_iff.1 hx
    simpa using (List.mem_filter.1 this).2
  rw [(covL_spec zs hs hf).1 p, inS_perm hp, inS_filter]

theorem cov_good (xs zs : List (Int × Int)) (n : Int) (hp : zs.Perm (xs.filter fun x => decide (x.1 < x.2))) (hs : zs.Pairwise (fun a b => a.1 ≤ b.1)) (hg : ∀ x ∈ xs, 0 ≤ x.1 ∧ x.1 ≤ x.2 ∧ x.2 ≤ n) :
    ∀ x ∈ covL zs, 0 ≤ x.1 ∧ x.1 < x.2 ∧ x.2 ≤ n := by
  have hm : ∀ x ∈ zs, x ∈ xs ∧ x.1 < x.2 := fun x hx => by
    have := List.mem_filter.1 (hp.mem_iff.1 hx)
    exact ⟨this.1, by simpa using this.2⟩
  intro x hx
  obtain ⟨h1, ⟨a, ha, e1⟩, ⟨b, hb, e2⟩⟩ := (covL_spec zs hs (fun x hx => (hm x hx).2)).2.1 x hx
  have ga := hg a (hm a ha).1
  have gb := hg b (hm b hb).1
  omega

end Go.Proofs.Ytjimkfniahndhaa
