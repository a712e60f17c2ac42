/-
  The statements' own small fact: the document's example is parsed, and is good.
-/
import Derived.Test.YtbhlockoeiedcaaDoorCpJ
namespace Go.Proofs.YtbhlockoeiedcaaDoor
open Go.RowKit

/-- The document's example, and its code. -/
def exT : List UInt8 := [112, 114, 111, 99, 32, 109, 97, 105, 110, 32, 48, 32, 48, 32, 52, 10, 114, 101, 116, 117, 114, 110, 32, 48, 10]
def exC : CoM := ⟨[⟨[109, 97, 105, 110], 0, 1, 0, 0, 4⟩], [⟨27, 0, 0⟩]⟩
def chkC (r : Nat ⊕ CoM × Nat) : Bool := match r with
  | .inr (⟨[p], [x]⟩, k) => p.name == [109, 97, 105, 110] && decide (p.frm = 0) && decide (p.to = 1) && decide (p.par = 0) && decide (p.slo = 0) && decide (p.typ = 4) && decide (x.op = 27) && decide (x.arg = 0) && decide (x.mor = 0) && decide (k = 3)
  | _ => false
set_option maxRecDepth 100000 in
theorem exC_chk : chkC (parseM exT) = true := by decide +kernel
theorem chkC_eq {r : Nat ⊕ CoM × Nat} (h : chkC r = true) : r = .inr (exC, 3) := by
  rcases r with k | ⟨⟨ps, is⟩, k⟩
  · simp [chkC] at h
  · match ps, is with
    | [⟨a, b, c, d, e, f⟩], [⟨x, y, z⟩] =>
      simp [chkC] at h
      obtain ⟨⟨⟨⟨⟨⟨⟨⟨⟨rfl, rfl⟩, rfl⟩, rfl⟩, rfl⟩, rfl⟩, rfl⟩, rfl⟩, rfl⟩, rfl⟩ := h
      rfl
    | [], _ => simp [chkC] at h
    | _ :: _ :: _, _ => simp [chkC] at h
    | [_], [] => simp [chkC] at h
    | [_], _ :: _ :: _ => simp [chkC] at h
theorem exC_run : parseM exT = .inr (exC, 3) := chkC_eq exC_chk
theorem exC_good : GoodC exC := by
  refine ⟨⟨⟨by simp [exC], by simp [exC, ordB]⟩, ?_⟩, [0], rfl, ?_⟩
  · intro p hp
    simp [exC] at hp
    subst hp
    refine ⟨⟨by decide, by decide, by decide, .inr rfl, by decide +kernel⟩, ?_⟩
    intro x hx
    simp [exC, body] at hx
    subst hx
    exact ⟨⟨by decide, by decide⟩, by simp [argOk, ansM], by simp [morOk]⟩
  · intro p hp
    simp [exC] at hp
    subst hp
    refine ⟨rfl, ?_, ?_⟩
    · intro i h1 h2 _
      obtain rfl : i = 0 := by simp at h2; omega
      refine ⟨by simp [takesM, insAt, exC, hAt], ?_⟩
      intro q hq
      simp [nexts, insAt, exC] at hq
    · intro i h1 h2
      obtain rfl : i = 0 := by simp at h2; omega
      exact ⟨.inr (by simp [hAt]), fun _ => Met.start⟩
/-- What Parse answers of the example. -/
theorem ex_parsed {w w' : World} {e : Ending} (h : PsP exT w e w') : Below w.heap.size w w' ∧ ∃ A c1 A2 c2, e = .returned (.tuple #[coV A c1 A2 c2 exC, .int .i64 0, .int .i64 0]) ∧ CoAt w' w'.heap.size A c1 A2 c2 exC := by
  refine ⟨h.1, ?_⟩
  rcases h.2 with ⟨k, hr, _⟩ | ⟨c, k, hr, hn, _⟩ | ⟨c, k, A, c1, A2, c2, hr, hg, hf, he, hc, _⟩
  · rw [exC_run] at hr; cases hr
  · rw [exC_run] at hr; cases hr; exact absurd exC_good hn
  · rw [exC_run] at hr; cases hr; exact ⟨A, c1, A2, c2, he, hc⟩
end Go.Proofs.YtbhlockoeiedcaaDoor
