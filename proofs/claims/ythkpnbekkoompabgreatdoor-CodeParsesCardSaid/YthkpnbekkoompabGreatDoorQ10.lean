/-
  rewindref10.Line's model: a line put behind the reference's code (where no procedure's end is set yet).
  What is parsed has that text.
-/
import Derived.Test.YthkpnbekkoompabGreatDoorCpT
import Derived.Test.YthkpnbekkoompabGreatDoorCpEQ
namespace Go.Proofs.YthkpnbekkoompabGreatDoor
open Go.RowKit

/-- A line behind the reference's code. -/
def lineR (c : CoM) (ps : List (List UInt8)) : Option CoM :=
  if ps.getD 0 [] = procB then
    (if ps.length = 5 ∧ isNm (ps.getD 1 []) = true then
      (match numsM (ps.drop 2) with
        | some l => some ⟨c.ps ++ [⟨ps.getD 1 [], c.is.length, 0, l.getD 0 0, l.getD 1 0, l.getD 2 0⟩], c.is⟩
        | none => none)
     else none)
  else match numsM (ps.drop 1) with
    | none => none
    | some l => if c.ps = [] ∨ opM (ps.getD 0 []) = 0 ∨ l.length ≠ manyM (opM (ps.getD 0 [])) then none else some ⟨c.ps, c.is ++ [⟨opM (ps.getD 0 []), l.getD 0 0, l.getD 1 0⟩]⟩
/-- No end is set yet. -/
def noTo (p : PrM) : PrM := { p with to := 0 }
def noEnds (c : CoM) : CoM := ⟨c.ps.map noTo, c.is⟩
theorem endAt_noTo (n : Int) : ∀ ps : List PrM, (endAt n ps).map noTo = ps.map noTo
  | [] => rfl
  | [p] => rfl
  | p :: q :: r => by
    have ih := endAt_noTo n (q :: r)
    simp only [endAt, List.map_cons] at ih ⊢
    rw [ih]
theorem lineR_of (c : CoM) (ps : List (List UInt8)) : lineR (noEnds c) ps = (takeM c ps).map noEnds := by
  unfold lineR takeM
  by_cases hp : ps.getD 0 [] = procB
  · rw [if_pos hp, if_pos hp]
    unfold takePM
    by_cases h5 : ps.length = 5 ∧ isNm (ps.getD 1 []) = true
    · rw [if_pos h5, if_pos h5]
      cases numsM (ps.drop 2) with
      | none => rfl
      | some l => simp [noEnds, noTo]
    · rw [if_neg h5, if_neg h5]; rfl
  · rw [if_neg hp, if_neg hp]
    by_cases hc : c.ps = []
    · rw [if_pos hc]
      cases numsM (ps.drop 1) with
      | none => rfl
      | some l => simp [noEnds, hc]
    · rw [if_neg hc]
      unfold takeIM
      cases numsM (ps.drop 1) with
      | none => rfl
      | some l =>
        dsimp only
        by_cases ho : opM (ps.getD 0 []) = 0 ∨ l.length ≠ manyM (opM (ps.getD 0 []))
        · rw [if_pos ho, if_pos (.inr ho)]; rfl
        · rw [if_neg ho, if_neg (by
            rintro (h | h)
            · exact hc (by simpa [noEnds] using h)
            · exact ho h)]
          simp [noEnds, endAt_noTo]
/-- Each procedure ends where the next begins, the last with the code. -/
def EndsOk (n : Nat) : List PrM → Prop
  | [] => True
  | [p] => p.to = (n : Int)
  | p :: q :: r => p.to = q.frm ∧ EndsOk n (q :: r)
theorem EndsOk.snoc {n m : Nat} {q : PrM} (hq : q.frm = (n : Int)) (hm : q.to = (m : Int)) : ∀ (l : List PrM), EndsOk n l → EndsOk m (l ++ [q])
  | [], _ => hm
  | [p], h => ⟨by rw [hq]; exact h, hm⟩
  | p :: p2 :: r, h => ⟨h.1, EndsOk.snoc hq hm (p2 :: r) h.2⟩
theorem EndsOk.endAt {n m : Nat} : ∀ (l : List PrM), EndsOk n l → EndsOk m (endAt (m : Int) l)
  | [], _ => trivial
  | [_], _ => rfl
  | [_, _], h => ⟨h.1, rfl⟩
  | _ :: q :: q2 :: r, h => ⟨h.1, EndsOk.endAt (q :: q2 :: r) h.2⟩
theorem take_ends {c c' : CoM} {ps : List (List UInt8)} (h : takeM c ps = some c') (hc : EndsOk c.is.length c.ps) : EndsOk c'.is.length c'.ps := by
  unfold takeM at h
  split at h
  · unfold takePM at h
    split at h
    · split at h
      · obtain rfl := Option.some.inj h
        exact EndsOk.snoc rfl rfl _ hc
      · cases h
    · cases h
  · split at h
    · cases h
    · unfold takeIM at h
      split at h
      · split at h
        · cases h
        · obtain rfl := Option.some.inj h
          rw [List.length_append]
          exact EndsOk.endAt _ hc
      · cases h
/-- The ends, set one by one. -/
theorem EndsOk.get {n : Nat} : ∀ (l : List PrM), EndsOk n l → ∀ k (h : k < l.length), (∀ h2 : k + 1 < l.length, l[k].to = l[k + 1].frm) ∧ (k + 1 = l.length → l[k].to = (n : Int))
  | [], _, k, h => by simp at h
  | [p], hp, k, h => by
    obtain rfl : k = 0 := by simpa using h
    exact ⟨fun h2 => by simp at h2, fun _ => hp⟩
  | p :: q :: r, hp, 0, h => ⟨fun _ => hp.1, fun h2 => by simp at h2⟩
  | p :: q :: r, hp, k + 1, h => by
    obtain ⟨h1, h2⟩ := EndsOk.get (q :: r) hp.2 k (by simpa using h)
    exact ⟨fun h3 => h1 (by simpa using h3), fun h3 => h2 (by simpa using h3)⟩
end Go.Proofs.YthkpnbekkoompabGreatDoor

namespace Go.Proofs.YthkpnbekkoompabGreatDoor
open Go.RowKit

theorem opF_word (t : List UInt8) : ∀ (f k : Nat), opF t f k ≠ 0 → opW.getD (opF t f k) [] = t
  | 0, k, h => absurd rfl h
  | f + 1, k, h => by
    unfold opF at h ⊢
    by_cases e : opW.getD k [] = t
    · rw [if_pos e]; exact e
    · rw [if_neg e] at h ⊢; exact opF_word t f (k + 1) h
theorem opM_word {t : List UInt8} (h : opM t ≠ 0) : opW.getD (opM t) [] = t := opF_word t 29 1 h
theorem numsM_itoa : ∀ (ps : List (List UInt8)) (l : List Int), numsM ps = some l → l.map Lib.itoa = ps
  | [], l, h => by simp [numsM] at h; subst h; rfl
  | t :: r, l, h => by
    rw [numsM] at h
    cases ht : numM t with
    | none => rw [ht] at h; cases h
    | some n =>
      rw [ht] at h
      cases hr : numsM r with
      | none => rw [hr] at h; cases h
      | some k =>
        rw [hr] at h
        obtain rfl := Option.some.inj h
        rw [List.map_cons, (numM_some ht).1, numsM_itoa r k hr]
/-- Each procedure begins no later than it ends, and ends within the code. -/
def Lies (n : Nat) (ps : List PrM) : Prop := ∀ p ∈ ps, 0 ≤ p.frm ∧ p.frm ≤ p.to ∧ p.to ≤ (n : Int)
theorem body_more {is : List InM} {x : InM} {p : PrM} {cps cps2 : List PrM} (h : 0 ≤ p.frm ∧ p.frm ≤ p.to ∧ p.to ≤ (is.length : Int)) : body ⟨cps2, is ++ [x]⟩ p = body ⟨cps, is⟩ p := by
  unfold body
  dsimp only
  rw [List.drop_append_of_le_length (by omega), List.take_append_of_le_length (by rw [List.length_drop]; omega)]
theorem body_last {is : List InM} {x : InM} {p : PrM} {cps cps2 : List PrM} (h : 0 ≤ p.frm ∧ p.frm ≤ p.to) (ht : p.to = (is.length : Int)) : body ⟨cps2, is ++ [x]⟩ { p with to := (is.length : Int) + 1 } = body ⟨cps, is⟩ p ++ [x] := by
  unfold body
  dsimp only
  have e1 : ((is.length : Int) + 1 - p.frm).toNat = is.length - p.frm.toNat + 1 := by omega
  have e2 : (p.to - p.frm).toNat = is.length - p.frm.toNat := by omega
  rw [List.drop_append_of_le_length (by omega), e1, e2]
  have hl : (is.drop p.frm.toNat).length = is.length - p.frm.toNat := List.length_drop
  rw [List.take_of_length_le (by rw [List.length_append, hl, List.length_singleton]; omega), List.take_of_length_le (by rw [hl]; omega)]
theorem flat_more {is : List InM} {x : InM} {cps cps2 : List PrM} : ∀ (l : List PrM), Lies is.length l → l.flatMap (txtPr ⟨cps2, is ++ [x]⟩) = l.flatMap (txtPr ⟨cps, is⟩)
  | [], _ => rfl
  | p :: r, h => by
    rw [List.flatMap_cons, List.flatMap_cons, flat_more r (fun q hq => h q (List.mem_cons_of_mem _ hq))]
    unfold txtPr
    rw [body_more (cps := cps) (h p (List.mem_cons_self ..))]
theorem flat_end {is : List InM} {x : InM} {cps cps2 : List PrM} : ∀ (l : List PrM), l ≠ [] → Lies is.length l → EndsOk is.length l → (endAt ((is.length : Int) + 1) l).flatMap (txtPr ⟨cps2, is ++ [x]⟩) = l.flatMap (txtPr ⟨cps, is⟩) ++ lineM (partsI x)
  | [], h, _, _ => absurd rfl h
  | [p], _, h, he => by
    have hp := h p (List.mem_cons_self ..)
    simp only [endAt, List.flatMap_cons, List.flatMap_nil, List.append_nil]
    unfold txtPr
    rw [body_last (cps := cps) ⟨hp.1, hp.2.1⟩ he]
    simp [bodyT, partsP]
  | p :: q :: r, _, h, he => by
    have ih := flat_end (x := x) (cps := cps) (cps2 := cps2) (q :: r) (by simp) (fun y hy => h y (List.mem_cons_of_mem _ hy)) he.2
    have e : txtPr ⟨cps2, is ++ [x]⟩ p = txtPr ⟨cps, is⟩ p := by
      unfold txtPr
      rw [body_more (cps := cps) (h p (List.mem_cons_self ..))]
    show txtPr ⟨cps2, is ++ [x]⟩ p ++ (endAt ((is.length : Int) + 1) (q :: r)).flatMap (txtPr ⟨cps2, is ++ [x]⟩) = (txtPr ⟨cps, is⟩ p ++ (q :: r).flatMap (txtPr ⟨cps, is⟩)) ++ lineM (partsI x)
    rw [ih, e, List.append_assoc]
theorem lies_end {n : Nat} : ∀ (l : List PrM), Lies n l → EndsOk n l → Lies (n + 1) (endAt ((n : Int) + 1) l)
  | [], _, _ => fun p hp => by simp [endAt] at hp
  | [p], h, he => fun y hy => by
    have hp := h p (List.mem_cons_self ..)
    simp only [endAt, List.mem_singleton] at hy
    subst hy
    have he : p.to = (n : Int) := he
    dsimp only
    omega
  | p :: q :: r, h, he => fun y hy => by
    rw [endAt] at hy
    rcases List.mem_cons.1 hy with e | hy
    · have := h p (List.mem_cons_self ..)
      rw [e]
      omega
    · exact lies_end (q :: r) (fun z hz => h z (List.mem_cons_of_mem _ hz)) he.2 y hy
/-- What a line adds to the text. -/
theorem take_text {c c' : CoM} {ps : List (List UInt8)} (h : takeM c ps = some c') (he : EndsOk c.is.length c.ps) (hl : Lies c.is.length c.ps) : txtC c' = txtC c ++ lineM ps ∧ Lies c'.is.length c'.ps := by
  unfold takeM at h
  split at h
  · rename_i hp
    unfold takePM at h
    split at h
    · rename_i h5
      split at h
      · rename_i l hnm
        obtain rfl := Option.some.inj h
        match ps, h5.1 with
        | [w0, nm, a, b, d], _ =>
          have hw : w0 = procB := hp
          subst hw
          have hi := numsM_itoa _ _ hnm
          match l, numsM_len _ _ hnm with
          | [v0, v1, v2], _ =>
            simp only [List.map_cons, List.map_nil, List.drop_succ_cons, List.drop_zero, List.cons.injEq, and_true] at hi
            obtain ⟨rfl, rfl, rfl⟩ := hi
            refine ⟨?_, ?_⟩
            · unfold txtC
              dsimp only
              rw [List.flatMap_append]
              show c.ps.flatMap (txtPr c) ++ _ = _
              congr 1
              simp [txtPr, body, bodyT, partsP]
            · intro p hp
              dsimp only at hp ⊢
              rcases List.mem_append.1 hp with hp | hp
              · exact hl p hp
              · rw [List.mem_singleton.1 hp]; dsimp only; omega
      · cases h
    · cases h
  · rename_i hp
    split at h
    · cases h
    · rename_i hc
      unfold takeIM at h
      split at h
      · rename_i l hnm
        split at h
        · cases h
        · rename_i ho
          obtain rfl := Option.some.inj h
          have ho1 : opM (ps.getD 0 []) ≠ 0 := fun e => ho (.inl e)
          have ho2 : l.length = manyM (opM (ps.getD 0 [])) := Classical.byContradiction fun e => ho (.inr e)
          match ps with
          | [] => exact absurd (by decide) ho1
          | w0 :: rest =>
            have hw := opM_word ho1
            have hi := numsM_itoa _ _ hnm
            simp only [List.getD_cons_zero, List.drop_succ_cons, List.drop_zero] at hw hi ho1 ho2 ⊢
            refine ⟨?_, ?_⟩
            · have := flat_end (x := ⟨(opM w0 : Int), l.getD 0 0, l.getD 1 0⟩) (cps := c.ps) (cps2 := endAt ((c.is.length : Int) + 1) c.ps) c.ps hc hl he
              refine this.trans ?_
              show txtC c ++ _ = _
              congr 2
              unfold partsI
              simp only [Int.toNat_natCast]
              rw [hw, ← ho2, ← hi]
              have hm := many_le (opM w0)
              match l, ho2 with
              | [], _ => rfl
              | [a], _ => rfl
              | [a, b], _ => rfl
              | _ :: _ :: _ :: _, h3 => simp at h3; omega
            · have := lies_end c.ps hl he
              rw [List.length_append]
              exact this
      · cases h
theorem lines_text : ∀ (f : Nat) (t : List UInt8) (k : Nat) (c c' : CoM) (k' : Nat), linesM f t k c = .inr (c', k') → EndsOk c.is.length c.ps → Lies c.is.length c.ps → txtC c' = txtC c ++ t ∧ EndsOk c'.is.length c'.ps
  | 0, t, k, c, c', k', h, _, _ => by cases h
  | f + 1, t, k, c, c', k', h, he, hl => by
    unfold linesM at h
    split at h
    · rename_i ht
      have h := Sum.inr.inj h
      injection h with h1 _
      subst h1 ht
      exact ⟨by simp, he⟩
    · split at h
      · rename_i hc
        obtain ⟨e1, _⟩ := cutT_eq t hc
        cases hx : takeM c (splitL (cutL t).1) with
        | none => rw [hx] at h; cases h
        | some c2 =>
          rw [hx] at h
          obtain ⟨q1, q2⟩ := take_text hx he hl
          obtain ⟨r1, r2⟩ := lines_text f _ _ c2 c' k' h (take_ends hx he) q2
          refine ⟨?_, r2⟩
          rw [r1, q1]
          unfold lineM
          rw [join_split, List.append_assoc]
          congr 1
          conv => rhs; rw [e1]
          simp
      · cases h
theorem parse_text {t : List UInt8} {c : CoM} {k : Nat} (h : parseM t = .inr (c, k)) : txtC c = t ∧ EndsOk c.is.length c.ps := by
  obtain ⟨a, b⟩ := lines_text _ _ _ _ _ _ h trivial (fun p hp => by simp at hp)
  exact ⟨by simpa [txtC] using a, b⟩
end Go.Proofs.YthkpnbekkoompabGreatDoor
