/-
  A call with so many arguments, a function with so many parameters: what the grammar makes of them.
-/
import Derived.Test.YtccmodefjgjpeaaGreatDoorList0
import Derived.Test.YtccmodefjgjpeaaGreatDoorList1
import Derived.Test.YtccmodefjgjpeaaGreatDoorList2
import Derived.Test.YtccmodefjgjpeaaGreatDoorListF
namespace Go.Proofs.YtccmodefjgjpeaaGreatDoor
theorem list_t (a p : Nat) (ha : a < 30) (hp : p < 30) : chkL a p (parseT (listT a p)) = true := by
  have : p = 0 ∨ p = 1 ∨ p = 2 ∨ p = 3 ∨ p = 4 ∨ p = 5 ∨ p = 6 ∨ p = 7 ∨ p = 8 ∨ p = 9 ∨ p = 10 ∨ p = 11 ∨ p = 12 ∨ p = 13 ∨ p = 14 ∨ p = 15 ∨ p = 16 ∨ p = 17 ∨ p = 18 ∨ p = 19 ∨ p = 20 ∨ p = 21 ∨ p = 22 ∨ p = 23 ∨ p = 24 ∨ p = 25 ∨ p = 26 ∨ p = 27 ∨ p = 28 ∨ p = 29 := by omega
  rcases this with rfl | rfl | rfl | rfl | rfl | rfl | rfl | rfl | rfl | rfl | rfl | rfl | rfl | rfl | rfl | rfl | rfl | rfl | rfl | rfl | rfl | rfl | rfl | rfl | rfl | rfl | rfl | rfl | rfl | rfl
  · exact list_p0 a ha
  · exact list_p1 a ha
  · exact list_p2 a ha
  · exact list_p3 a ha
  · exact list_p4 a ha
  · exact list_p5 a ha
  · exact list_p6 a ha
  · exact list_p7 a ha
  · exact list_p8 a ha
  · exact list_p9 a ha
  · exact list_p10 a ha
  · exact list_p11 a ha
  · exact list_p12 a ha
  · exact list_p13 a ha
  · exact list_p14 a ha
  · exact list_p15 a ha
  · exact list_p16 a ha
  · exact list_p17 a ha
  · exact list_p18 a ha
  · exact list_p19 a ha
  · exact list_p20 a ha
  · exact list_p21 a ha
  · exact list_p22 a ha
  · exact list_p23 a ha
  · exact list_p24 a ha
  · exact list_p25 a ha
  · exact list_p26 a ha
  · exact list_p27 a ha
  · exact list_p28 a ha
  · exact list_p29 a ha
theorem list_good (a p : Nat) (ha : a < 30) (hp : p < 30) : ∃ s, parseT (listT a p) = .good s ∧ s.fn.length = 1 ∧ s.st.length = 1 ∧ s.ex.length = a + 1 ∧ (∃ x, s.ex[a]? = some x ∧ x.kind = 6 ∧ x.list.length = a) ∧ ∃ f, s.fn[0]? = some f ∧ f.params.length = p := by
  have h := list_t a p ha hp
  cases hr : parseT (listT a p) with
  | bad q c => rw [hr] at h; simp [chkL] at h
  | good s =>
    rw [hr] at h
    simp only [chkL, Bool.and_eq_true, beq_iff_eq] at h
    obtain ⟨⟨⟨⟨h1, h2⟩, h3⟩, h4⟩, h5⟩ := h
    obtain ⟨x, hx, ho⟩ := Option.map_eq_some_iff.1 h4
    obtain ⟨f, hf, hq⟩ := Option.map_eq_some_iff.1 h5
    injection ho with o1 o2
    exact ⟨s, rfl, h1, h2, h3, ⟨x, hx, o1, o2⟩, f, hf, hq⟩
theorem list_badF (p : Nat) (hp : p < 30) : ∃ q, parseT (listF p) = .bad q 3 := by
  have h := list_f p hp
  cases hr : parseT (listF p) with
  | good s => rw [hr] at h; simp [codeL] at h
  | bad q c => rw [hr] at h; exact ⟨q, by rw [show c = 3 from h]⟩
theorem list_badG (p : Nat) (hp : p < 30) : ∃ q, parseT (listG p) = .bad q 3 := by
  have h := list_g p hp
  cases hr : parseT (listG p) with
  | good s => rw [hr] at h; simp [codeL] at h
  | bad q c => rw [hr] at h; exact ⟨q, by rw [show c = 3 from h]⟩
theorem parted_succ (sep x : List UInt8) (n : Nat) : parted sep x (n + 1) = (if n = 0 then [] else parted sep x n ++ sep) ++ x := rfl
theorem parted_len (sep x : List UInt8) (n : Nat) : (parted sep x n).length ≤ n * (sep.length + x.length) := by
  induction n with
  | zero => simp [parted]
  | succ n ih =>
    rw [parted_succ, List.length_append, Nat.add_mul]
    by_cases h : n = 0
    · rw [if_pos h]; simp; omega
    · rw [if_neg h, List.length_append]; omega
end Go.Proofs.YtccmodefjgjpeaaGreatDoor
