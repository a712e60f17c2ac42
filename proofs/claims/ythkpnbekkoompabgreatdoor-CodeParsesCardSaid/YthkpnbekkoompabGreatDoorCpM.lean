/-
  Code as a text (layer 10): what a line's parts put behind code.
-/
import Derived.Test.YthkpnbekkoompabGreatDoorCoA
import Derived.Lib.AtoiAll
import Derived.Lib.ItoaNum
namespace Go.Proofs.YthkpnbekkoompabGreatDoor

/-- The int that a text tells, just as ints are told. -/
def numM (t : List UInt8) : Option Int := match Lib.atoiAll t with | .ok v => if Lib.itoa v = t then some v else none | _ => none
def numsM : List (List UInt8) → Option (List Int)
  | [] => some []
  | t :: r => match numM t with | some n => (match numsM r with | some l => some (n :: l) | none => none) | none => none
def opF (t : List UInt8) : Nat → Nat → Nat
  | 0, _ => 0
  | f + 1, k => if opW.getD k [] = t then k else opF t f (k + 1)
/-- The Op that a word stands for; 0: none. -/
def opM (t : List UInt8) : Nat := opF t 29 1
def manyM (op : Nat) : Nat := if op = 7 then 2 else if akL.getD op 0 = 0 then 0 else 1
def procB : List UInt8 := [112, 114, 111, 99]
def takePM (c : CoM) (ps : List (List UInt8)) : Option CoM :=
  if ps.length = 5 ∧ isNm (ps.getD 1 []) = true then
    match numsM (ps.drop 2) with
    | some l => some ⟨c.ps ++ [⟨ps.getD 1 [], c.is.length, c.is.length, l.getD 0 0, l.getD 1 0, l.getD 2 0⟩], c.is⟩
    | none => none
  else none
/-- The last procedure ends elsewhere. -/
def endAt (n : Int) : List PrM → List PrM
  | [] => []
  | [p] => [{ p with to := n }]
  | p :: q :: r => p :: endAt n (q :: r)
def takeIM (c : CoM) (ps : List (List UInt8)) : Option CoM :=
  match numsM (ps.drop 1) with
  | some l => if opM (ps.getD 0 []) = 0 ∨ l.length ≠ manyM (opM (ps.getD 0 [])) then none else some ⟨endAt (c.is.length + 1) c.ps, c.is ++ [⟨opM (ps.getD 0 []), l.getD 0 0, l.getD 1 0⟩]⟩
  | none => none
def takeM (c : CoM) (ps : List (List UInt8)) : Option CoM :=
  if ps.getD 0 [] = procB then takePM c ps else if c.ps = [] then none else takeIM c ps
/-- A text's parts between blanks. -/
def splitL : List UInt8 → List (List UInt8)
  | [] => [[]]
  | c :: r => if c = 32 then [] :: splitL r else match splitL r with | [] => [[c]] | h :: t => (c :: h) :: t
/-- A text's first line; what stands behind it; is there a line end? -/
def cutL : List UInt8 → List UInt8 × List UInt8 × Bool
  | [] => ([], [], false)
  | c :: r => if c = 10 then ([], r, true) else (c :: (cutL r).1, (cutL r).2.1, (cutL r).2.2)
theorem cutL_lt (t : List UInt8) (h : (cutL t).2.2 = true) : (cutL t).2.1.length < t.length := by
  induction t with
  | nil => simp [cutL] at h
  | cons c r ih =>
    unfold cutL at h ⊢
    split
    · simp
    · rename_i hc
      rw [if_neg hc] at h
      have := ih h
      simp only [List.length_cons]; omega
/-- Lines, one by one: code, or the number of the first line that is none. -/
def linesM : Nat → List UInt8 → Nat → CoM → Nat ⊕ CoM × Nat
  | 0, _, k, _ => .inl k
  | f + 1, t, k, c => if t = [] then .inr (c, k) else if (cutL t).2.2 = true then (match takeM c (splitL (cutL t).1) with | some c' => linesM f (cutL t).2.1 (k + 1) c' | none => .inl k) else .inl k
def parseM (t : List UInt8) : Nat ⊕ CoM × Nat := linesM (t.length + 1) t 1 ⟨[], []⟩
theorem linesM_step (t : List UInt8) (f k : Nat) (c : CoM) (hf : t.length < f) : ∀ g, t.length < g → linesM f t k c = linesM g t k c := by
  induction f generalizing t k c with
  | zero => omega
  | succ f ih =>
    intro g hg
    cases g with
    | zero => omega
    | succ g =>
      unfold linesM
      by_cases h0 : t = []
      · rw [if_pos h0, if_pos h0]
      · rw [if_neg h0, if_neg h0]
        by_cases hc : (cutL t).2.2 = true
        · rw [if_pos hc, if_pos hc]
          have := cutL_lt t hc
          cases takeM c (splitL (cutL t).1) with
          | none => rfl
          | some c' => exact ih _ _ _ (by omega) g (by omega)
        · rw [if_neg hc, if_neg hc]

end Go.Proofs.YthkpnbekkoompabGreatDoor
