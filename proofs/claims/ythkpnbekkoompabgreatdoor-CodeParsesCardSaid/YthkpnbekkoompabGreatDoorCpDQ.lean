/-
  code.takeInstruction: an instruction's line.
-/
import Derived.Test.YthkpnbekkoompabGreatDoorCpCQ
import Derived.StillTailTactics
namespace Go.Proofs.YthkpnbekkoompabGreatDoor
open Go.RowKit

theorem takeIM_bad {c : CoM} {ps : List (List UInt8)} (h : numsM (ps.drop 1) = none) : takeIM c ps = none := by unfold takeIM; rw [h]
theorem takeIM_no {c : CoM} {ps : List (List UInt8)} {l : List Int} (h : numsM (ps.drop 1) = some l) (hb : opM (ps.getD 0 []) = 0 ∨ l.length ≠ manyM (opM (ps.getD 0 []))) : takeIM c ps = none := by
  unfold takeIM; rw [h]; dsimp only; rw [if_pos hb]
theorem takeIM_yes {c : CoM} {ps : List (List UInt8)} {l : List Int} {o : Nat} (h : numsM (ps.drop 1) = some l) (ho : opM (ps.getD 0 []) = o) (h0 : o ≠ 0) (hl : l.length = manyM o) : takeIM c ps = some ⟨endAt (c.is.length + 1) c.ps, c.is ++ [⟨o, l.getD 0 0, l.getD 1 0⟩]⟩ := by
  unfold takeIM; rw [h]; dsimp only; rw [ho, if_neg (by omega)]
theorem endAt_len (n : Int) : ∀ ps : List PrM, (endAt n ps).length = ps.length
  | [] => rfl
  | [_] => rfl
  | _ :: q :: r => by simp only [endAt, List.length_cons]; rw [endAt_len n (q :: r)]; rfl
theorem flatP_end (n : Int) : ∀ (ps : List PrM) (k : Nat), ps.length = k + 1 → flatP (endAt n ps) = (flatP ps).set (k * 6 + 2) (.int .i64 n)
  | [], k, h => by simp at h
  | [p], k, h => by
    obtain rfl : k = 0 := by simpa using h.symm
    rfl
  | p :: q :: r, k, h => by
    obtain ⟨j, rfl⟩ : ∃ j, k = j + 1 := ⟨r.length, by simpa using h.symm⟩
    have ih := flatP_end n (q :: r) j (by simpa using h)
    have e1 : flatP (endAt n (p :: q :: r)) = prC p ++ flatP (endAt n (q :: r)) := rfl
    have e2 : flatP (p :: q :: r) = prC p ++ flatP (q :: r) := rfl
    rw [e1, e2, ih]
    rw [List.set_append_right _ _ (by simp [prC]; omega)]
    congr 2
    simp [prC]; omega
theorem flatP_len (ps : List PrM) : (flatP ps).length = ps.length * 6 := by
  induction ps with
  | nil => rfl
  | cons p r ih => simp [flatP, prC] at ih ⊢; omega
theorem own_setC {w : World} {base n g cap j sz : Nat} {e : TypeId} {xs : List Value} {u : Value} (h : w.ownsRow base e sz (.slice (some ⟨g, 0, none⟩) n cap) n xs) (_hj : j < n * sz) : (w.setCell ⟨g, j, none⟩ u).ownsRow base e sz (.slice (some ⟨g, 0, none⟩) n cap) n (xs.set j u) := by
  refine ⟨by rw [List.length_set]; exact h.1, ?_⟩
  rcases h.2 with ⟨h0, _⟩ | ⟨g', cap', cur, hv, hb, hg, h1, h2, h3, h4⟩
  · cases h0
  · injection hv with e1 e2 e3
    injection e1 with e1
    injection e1 with e1
    subst e1 e3
    refine .inr ⟨g, cap, cur.setIfInBounds j u, rfl, hb, setAt w g j u cur e _ hg, h1, h2, by simpa using h3, ?_⟩
    rw [Array.toList_setIfInBounds, List.take_set, h4]

section
variable {bc : Nat} {vP vI : Value} {c : CoM} {w : World} {ps : List (List UInt8)}
/-- A row of instructions grows by one. -/
theorem Cc.growI {vI' : Value} {W w3 : World} {x : InM} (h : Cc bc vP vI c w) (hb : Below w.heap.size w W) (hown : w3.ownsRow (bc + 1) 42 3 vI' (c.is.length + 1) (flatI c.is ++ inC x)) (hg : W.grownBy w3 vI.ownBlock) :
    Cc bc vP vI' ⟨c.ps, c.is ++ [x]⟩ (w3.setCell ⟨bc, 1, none⟩ vI') ∧ Below bc w (w3.setCell ⟨bc, 1, none⟩ vI') := by
  have hl := blkLt h.box
  have hP : ∀ k, k < w.heap.size → vI.ownBlock ≠ some k → w3.heap[k]? = w.heap[k]? := fun k hk hne => (hg.block k (Nat.lt_of_lt_of_le hk hb.size) (fun e => hne e.symm)).trans (hb.block k hk)
  have hbox : w3.heap[bc]? = some (.cells #[vP, vI] 26 (0, 0)) := (hP bc hl (fun e => by have := (own_ltC h.rowI bc e).1; omega)).trans h.box
  refine ⟨⟨?_, ?_, ?_⟩, hg.os.trans hb.os, hg.tape.trans hb.tape, hg.output.trans hb.output, by simp; exact Nat.le_trans hb.size hg.size, fun k hk => ?_⟩
  · rw [setAt w3 bc 1 _ _ _ _ hbox]; rfl
  · exact own_keepC h.rowP fun g hg' => (setNe w3 bc 1 _ g (by have := (own_ltC h.rowP g hg').1; omega)).trans (hP g (own_ltC h.rowP g hg').2 (own_apart (by decide) h.rowP h.rowI g hg'))
  · rw [List.length_append, List.length_singleton, flatI_snoc]
    exact own_keepC hown fun g hg' => setNe w3 bc 1 _ g (by have := (own_ltC hown g hg').1; omega)
  · exact (setNe w3 bc 1 _ k (by omega)).trans (hP k (by omega) (fun e => by have := (own_ltC h.rowI k e).1; omega))
/-- The last procedure's end is written. -/
theorem Cc.ends {g cap k : Nat} {n : Int} (h : Cc bc (.slice (some ⟨g, 0, none⟩) c.ps.length cap) vI c w) (hk : c.ps.length = k + 1) :
    Cc bc (.slice (some ⟨g, 0, none⟩) c.ps.length cap) vI ⟨endAt n c.ps, c.is⟩ (w.setCell ⟨g, k * 6 + 2, none⟩ (.int .i64 n)) ∧ Below bc w (w.setCell ⟨g, k * 6 + 2, none⟩ (.int .i64 n)) := by
  have hgb := own_ltC h.rowP g rfl
  refine ⟨⟨(setNe w g _ _ bc (by omega)).trans h.box, ?_, own_keepC h.rowI fun g' hg' => setNe w g _ _ g' (fun e => by subst e; exact own_apart (by decide) h.rowI h.rowP g' hg' rfl)⟩, rfl, rfl, rfl, by simp, fun j hj => setNe w g _ _ j (by omega)⟩
  show World.ownsRow _ _ _ _ _ (endAt n c.ps).length (flatP (endAt n c.ps))
  rw [endAt_len, flatP_end n c.ps k hk]
  exact own_setC h.rowP (by omega)
end
end Go.Proofs.YthkpnbekkoompabGreatDoor
