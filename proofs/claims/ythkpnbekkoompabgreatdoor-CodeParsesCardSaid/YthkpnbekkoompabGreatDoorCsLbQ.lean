/-
  rewindref10.Line: what its walks need.
-/
import Derived.Test.YthkpnbekkoompabGreatDoorQ10
import Derived.Test.YthkpnbekkoompabGreatDoorQ11
import Derived.Test.YthkpnbekkoompabGreatDoorQ09
import Derived.Test.YthkpnbekkoompabGreatDoorCrBQ
import Derived.Test.YthkpnbekkoompabGreatDoorQ08
import Derived.Deep.CutRange
import Derived.Deep.RegionHeld3
namespace Go.Proofs.YthkpnbekkoompabGreatDoor
open Go.RowKit

/-- What Line answers. -/
def LnP (B : Nat) (vP vI : Value) (_r : CoM) (o : Option CoM) (w : World) (e : Ending) (w' : World) : Prop :=
  Below B w w' ∧ (∀ k, k < w.heap.size → vP.ownBlock ≠ some k → vI.ownBlock ≠ some k → w'.heap[k]? = w.heap[k]?) ∧ ((o = none ∧ e = .returned (.tuple #[.agg #[vP, vI], .bool false])) ∨
    ∃ r' vP' vI', o = some r' ∧ e = .returned (.tuple #[.agg #[vP', vI'], .bool true]) ∧ w'.ownsRow B 51 6 vP' r'.ps.length (flatP r'.ps) ∧ w'.ownsRow B 55 3 vI' r'.is.length (flatI r'.is))
theorem lineR_bad {c : CoM} {ps : List (List UInt8)} (hp : ps.getD 0 [] ≠ procB) (h : numsM (ps.drop 1) = none) : lineR c ps = none := by
  unfold lineR; rw [if_neg hp, h]
theorem lineR_no {c : CoM} {ps : List (List UInt8)} {l : List Int} (hp : ps.getD 0 [] ≠ procB) (h : numsM (ps.drop 1) = some l) (hb : c.ps = [] ∨ opM (ps.getD 0 []) = 0 ∨ l.length ≠ manyM (opM (ps.getD 0 []))) : lineR c ps = none := by
  unfold lineR; rw [if_neg hp, h]; dsimp only; rw [if_pos hb]
theorem lineR_yes {c : CoM} {ps : List (List UInt8)} {l : List Int} (hp : ps.getD 0 [] ≠ procB) (h : numsM (ps.drop 1) = some l) (hb : ¬ (c.ps = [] ∨ opM (ps.getD 0 []) = 0 ∨ l.length ≠ manyM (opM (ps.getD 0 [])))) : lineR c ps = some ⟨c.ps, c.is ++ [⟨opM (ps.getD 0 []), l.getD 0 0, l.getD 1 0⟩]⟩ := by
  unfold lineR; rw [if_neg hp, h]; dsimp only; rw [if_neg hb]
theorem nums_step {P : List (List UInt8)} {f j : Nat} {l : List Int} (hj : j < P.length) (hf : f ≤ j) (h : numsM ((P.drop f).take (j - f)) = some l) :
    (∀ m, numM P[j] = some m → numsM ((P.drop f).take (j + 1 - f)) = some (l ++ [m])) ∧ (numM P[j] = none → numsM (P.drop f) = none) := by
  have e : (P.drop f).take (j + 1 - f) = (P.drop f).take (j - f) ++ [P[j]] := by
    rw [show j + 1 - f = (j - f) + 1 by omega, List.take_succ_eq_append_getElem (by rw [List.length_drop]; omega), List.getElem_drop]
    congr 3
    omega
  refine ⟨fun m hm => ?_, fun hm => ?_⟩
  · rw [e]
    exact numsM_some _ _ _ _ h hm
  · refine numsM_none _ (j - f) (by rw [List.length_drop]; omega) ?_
    rw [List.getElem_drop]
    have : f + (j - f) = j := by omega
    simp only [this]
    exact hm

theorem frzL {w : World} {k : Nat} {cs : Array Value} {t : TypeId} (h : w.heap[k]? = some (.cells cs t (0, 0))) (o : Nat) : w.frozen? ⟨k, o, none⟩ = false := by simp [World.frozen?, h]
theorem putL {w1 : World} {N : Nat} {u v a b : Value} {t : TypeId} (h : w1.heap[N]? = some (.cells #[a, b] t (0, 0))) :
    ((w1.setCell ⟨N, 0, none⟩ u).setCell ⟨N, 1, none⟩ v).cell? ⟨N, 0, none⟩ = some u ∧ ((w1.setCell ⟨N, 0, none⟩ u).setCell ⟨N, 1, none⟩ v).cell? ⟨N, 1, none⟩ = some v ∧ Below N w1 ((w1.setCell ⟨N, 0, none⟩ u).setCell ⟨N, 1, none⟩ v) := by
  have h2 : ((w1.setCell ⟨N, 0, none⟩ u).setCell ⟨N, 1, none⟩ v).heap[N]? = some (.cells #[u, v] t (0, 0)) := by
    rw [setAt _ N 1 v #[u, b] t (0, 0) (by rw [setAt _ N 0 u _ t _ h]; rfl)]
    rfl
  exact ⟨cellC h2 0, cellC h2 1, ((Below.refl N w1).setCell (p := ⟨N, 0, none⟩) (Nat.le_refl _) _).setCell (p := ⟨N, 1, none⟩) (Nat.le_refl _) _⟩
theorem opF_word' (t : List UInt8) : ∀ (f k : Nat), opF t f k ≠ 0 → opW.getD (opF t f k) [] = t
  | 0, k, h => absurd rfl h
  | f + 1, k, h => by
    unfold opF at h ⊢
    by_cases e : opW.getD k [] = t
    · rw [if_pos e]; exact e
    · rw [if_neg e] at h ⊢; exact opF_word' t f (k + 1) h
theorem opM_word' {t : List UInt8} (h : opM t ≠ 0) : opW.getD (opM t) [] = t := opF_word' t 29 1 h
theorem lineR_pn {c : CoM} {ps : List (List UInt8)} (hp : ps.getD 0 [] = procB) (h : ¬ (ps.length = 5 ∧ isNm (ps.getD 1 []) = true)) : lineR c ps = none := by unfold lineR; rw [if_pos hp, if_neg h]
theorem lineR_pb {c : CoM} {ps : List (List UInt8)} (hp : ps.getD 0 [] = procB) (h : numsM (ps.drop 2) = none) : lineR c ps = none := by
  unfold lineR
  rw [if_pos hp]
  split
  · rw [h]
  · rfl
theorem lineR_py {c : CoM} {ps : List (List UInt8)} {t : List UInt8} {a b d : Int} (hp : ps.getD 0 [] = procB) (h1 : ps.length = 5) (ht : ps.getD 1 [] = t) (h2 : isNm t = true) (h : numsM (ps.drop 2) = some [a, b, d]) : lineR c ps = some ⟨c.ps ++ [⟨t, c.is.length, 0, a, b, d⟩], c.is⟩ := by
  unfold lineR
  rw [if_pos hp, ht, if_pos ⟨h1, h2⟩, h]
  rfl
/-- The two boxes of a line's call. -/
structure Bx (vP vI : Value) (w W : World) : Prop where
  low : Below w.heap.size w W
  c : W.heap[w.heap.size]? = some (.cells #[vP, vI] 33 (0, 0))
  r : W.heap[w.heap.size + 1]? = some (.cells #[.slice none 0 0, .slice none 0 0] 33 (0, 0))
theorem Bx.step {vP vI : Value} {w W W' : World} (h : Bx vP vI w W) (hb : Below W.heap.size W W') : Bx vP vI w W' :=
  ⟨h.low.trans (hb.mono h.low.size), (hb.block _ (blkLt h.c)).trans h.c, (hb.block _ (blkLt h.r)).trans h.r⟩
theorem Bx.grown {vP vI v : Value} {w W W' : World} (h : Bx vP vI w W) (hv : ∀ g, v.ownBlock = some g → g < w.heap.size) (hg : W.grownBy W' v.ownBlock) :
    W'.heap[w.heap.size]? = some (.cells #[vP, vI] 33 (0, 0)) ∧ W'.heap[w.heap.size + 1]? = some (.cells #[.slice none 0 0, .slice none 0 0] 33 (0, 0)) :=
  ⟨(hg.block _ (blkLt h.c) (fun e => by have := hv _ e.symm; omega)).trans h.c, (hg.block _ (blkLt h.r) (fun e => by have := hv _ e.symm; omega)).trans h.r⟩
section
variable {B : Nat} {vP vI v' : Value} {r : CoM} {w W W4 : World}
/-- What is left when the code has grown by an instruction. -/
theorem Bx.doneI {x : InM} (h : Bx vP vI w W) (hB : B ≤ w.heap.size) (hP : w.ownsRow B 51 6 vP r.ps.length (flatP r.ps)) (hI : w.ownsRow B 55 3 vI r.is.length (flatI r.is))
    (hown : W4.ownsRow B 55 3 v' (r.is.length + 1) (flatI r.is ++ inC x)) (hg : W.grownBy W4 vI.ownBlock) (w' : World)
    (hw : w' = ((W4.setCell ⟨w.heap.size, 1, none⟩ v').setCell ⟨w.heap.size + 1, 0, none⟩ vP).setCell ⟨w.heap.size + 1, 1, none⟩ v') :
    w'.cell? ⟨w.heap.size + 1, 0, none⟩ = some vP ∧ w'.cell? ⟨w.heap.size + 1, 1, none⟩ = some v' ∧ LnP B vP vI r (some ⟨r.ps, r.is ++ [x]⟩) w (.returned (.tuple #[.agg #[vP, v'], .bool true])) w' := by
  obtain ⟨b1, b2⟩ := h.grown (fun g hg => (own_ltC hI g hg).2) hg
  subst hw
  have c1 : (W4.setCell ⟨w.heap.size, 1, none⟩ v').heap[w.heap.size + 1]? = some (.cells #[.slice none 0 0, .slice none 0 0] 33 (0, 0)) := (setNe W4 w.heap.size 1 v' (w.heap.size + 1) (by omega)).trans b2
  obtain ⟨p0, p1, pb⟩ := putL (u := vP) (v := v') c1
  have hkeep : ∀ k, k ≠ w.heap.size → k ≠ w.heap.size + 1 → (((W4.setCell ⟨w.heap.size, 1, none⟩ v').setCell ⟨w.heap.size + 1, 0, none⟩ vP).setCell ⟨w.heap.size + 1, 1, none⟩ v').heap[k]? = W4.heap[k]? := fun k h1 h2 => by
    rw [setNe _ _ _ _ _ h2, setNe _ _ _ _ _ h2, setNe _ _ _ _ _ h1]
  have hlow : ∀ k, k < w.heap.size → vI.ownBlock ≠ some k → W4.heap[k]? = w.heap[k]? := fun k hk hn => (hg.block k (Nat.lt_of_lt_of_le hk h.low.size) (fun e => hn e.symm)).trans (h.low.block k hk)
  have hz : w.heap.size ≤ W4.heap.size := Nat.le_trans h.low.size hg.size
  refine ⟨p0, p1, ⟨hg.os.trans h.low.os, hg.tape.trans h.low.tape, hg.output.trans h.low.output, by simpa using hz, fun k hk => ?_⟩, fun k hk _ hn => ?_, .inr ⟨_, vP, v', rfl, rfl, ?_, ?_⟩⟩
  · rw [hkeep k (by omega) (by omega)]
    exact hlow k (by omega) (fun e => by have := (own_ltC hI k e).1; omega)
  · rw [hkeep k (by omega) (by omega)]
    exact hlow k hk hn
  · refine own_keepC hP fun g hgv => ?_
    have hl := own_ltC hP g hgv
    rw [hkeep g (by omega) (by omega)]
    exact hlow g hl.2 (own_apart (by decide) hP hI g hgv)
  · rw [List.length_append, List.length_singleton, flatI_snoc]
    refine own_keepC hown fun g hgv => hkeep g (fun e => ?_) (fun e => ?_)
    · subst e
      obtain ⟨cur, hc⟩ := own_cells2 hown _ hgv
      rw [b1] at hc
      injection hc with hc
      injection hc with _ hc _
      exact absurd hc (by decide)
    · subst e
      obtain ⟨cur, hc⟩ := own_cells2 hown _ hgv
      rw [b2] at hc
      injection hc with hc
      injection hc with _ hc _
      exact absurd hc (by decide)
/-- What is left when the code has grown by a procedure. -/
theorem Bx.doneP {p : PrM} (h : Bx vP vI w W) (hB : B ≤ w.heap.size) (hP : w.ownsRow B 51 6 vP r.ps.length (flatP r.ps)) (hI : w.ownsRow B 55 3 vI r.is.length (flatI r.is))
    (hown : W4.ownsRow B 51 6 v' (r.ps.length + 1) (flatP r.ps ++ prC p)) (hg : W.grownBy W4 vP.ownBlock) (w' : World)
    (hw : w' = ((W4.setCell ⟨w.heap.size, 0, none⟩ v').setCell ⟨w.heap.size + 1, 0, none⟩ v').setCell ⟨w.heap.size + 1, 1, none⟩ vI) :
    w'.cell? ⟨w.heap.size + 1, 0, none⟩ = some v' ∧ w'.cell? ⟨w.heap.size + 1, 1, none⟩ = some vI ∧ LnP B vP vI r (some ⟨r.ps ++ [p], r.is⟩) w (.returned (.tuple #[.agg #[v', vI], .bool true])) w' := by
  obtain ⟨b1, b2⟩ := h.grown (fun g hg => (own_ltC hP g hg).2) hg
  subst hw
  have c1 : (W4.setCell ⟨w.heap.size, 0, none⟩ v').heap[w.heap.size + 1]? = some (.cells #[.slice none 0 0, .slice none 0 0] 33 (0, 0)) := (setNe W4 w.heap.size 0 v' (w.heap.size + 1) (by omega)).trans b2
  obtain ⟨p0, p1, pb⟩ := putL (u := v') (v := vI) c1
  have hkeep : ∀ k, k ≠ w.heap.size → k ≠ w.heap.size + 1 → (((W4.setCell ⟨w.heap.size, 0, none⟩ v').setCell ⟨w.heap.size + 1, 0, none⟩ v').setCell ⟨w.heap.size + 1, 1, none⟩ vI).heap[k]? = W4.heap[k]? := fun k h1 h2 => by
    rw [setNe _ _ _ _ _ h2, setNe _ _ _ _ _ h2, setNe _ _ _ _ _ h1]
  have hlow : ∀ k, k < w.heap.size → vP.ownBlock ≠ some k → W4.heap[k]? = w.heap[k]? := fun k hk hn => (hg.block k (Nat.lt_of_lt_of_le hk h.low.size) (fun e => hn e.symm)).trans (h.low.block k hk)
  have hz : w.heap.size ≤ W4.heap.size := Nat.le_trans h.low.size hg.size
  refine ⟨p0, p1, ⟨hg.os.trans h.low.os, hg.tape.trans h.low.tape, hg.output.trans h.low.output, by simpa using hz, fun k hk => ?_⟩, fun k hk hn _ => ?_, .inr ⟨_, v', vI, rfl, rfl, ?_, ?_⟩⟩
  · rw [hkeep k (by omega) (by omega)]
    exact hlow k (by omega) (fun e => by have := (own_ltC hP k e).1; omega)
  · rw [hkeep k (by omega) (by omega)]
    exact hlow k hk hn
  · rw [List.length_append, List.length_singleton, flatP_snoc]
    refine own_keepC hown fun g hgv => hkeep g (fun e => ?_) (fun e => ?_)
    · subst e
      obtain ⟨cur, hc⟩ := own_cells2 hown _ hgv
      rw [b1] at hc
      injection hc with hc
      injection hc with _ hc _
      exact absurd hc (by decide)
    · subst e
      obtain ⟨cur, hc⟩ := own_cells2 hown _ hgv
      rw [b2] at hc
      injection hc with hc
      injection hc with _ hc _
      exact absurd hc (by decide)
  · refine own_keepC hI fun g hgv => ?_
    have hl := own_ltC hI g hgv
    rw [hkeep g (by omega) (by omega)]
    exact hlow g hl.2 (own_apart (by decide) hI hP g hgv)
end
end Go.Proofs.YthkpnbekkoompabGreatDoor
