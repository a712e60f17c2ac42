/-
  The statement OrderGoods, walked.
-/
import Derived.Test.YtdknejmhlfpdfaaDoorOrLa
namespace Go.Proofs.YtdknejmhlfpdfaaDoor
open Go.RowKit

theorem str_neL {a b : List UInt8} (h : a ≠ b) : ((bs a).toList == (bs b).toList) = false := by
  rw [beq_eq_false_iff_ne, ByteArray.toList_eq, ByteArray.toList_eq, bs_toList, bs_toList]; exact h
theorem ord_nil : ordM [] = (zO, 16) := by unfold ordM; rw [if_neg (by decide)]; exact ordL_nil
/-- What Parse says of the line of an order that is none is not that order. -/
theorem ord_not {o : OrdM} (h : ¬ GoodO o) (p : OrdM) (c : Nat) (hp : ordM (txtO o) = (p, c)) :
    c ≠ 0 ∨ (c = 0 ∧ p.kind ≠ o.kind) ∨ (c = 0 ∧ p.kind = o.kind ∧ p.name ≠ o.name) ∨ (c = 0 ∧ p.kind = o.kind ∧ p.name = o.name ∧ p.num ≠ o.num) := by
  by_cases h0 : c = 0
  · subst h0
    have hg := ord_good hp
    by_cases h1 : p.kind = o.kind
    · by_cases h2 : p.name = o.name
      · by_cases h3 : p.num = o.num
        · exfalso
          apply h
          have : p = o := by cases p; cases o; simp_all
          rw [← this]; exact hg
        · exact .inr (.inr (.inr ⟨rfl, h1, h2, h3⟩))
      · exact .inr (.inr (.inl ⟨rfl, h1, h2⟩))
    · exact .inr (.inl ⟨rfl, h1⟩)
  · exact .inl h0
end Go.Proofs.YtdknejmhlfpdfaaDoor
