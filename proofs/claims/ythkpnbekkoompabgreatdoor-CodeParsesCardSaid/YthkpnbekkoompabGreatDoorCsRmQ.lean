/-
  rewindref10.Parse's model: how its loop over a text's bytes goes on, and how the procedures' ends are set.
-/
import Derived.Test.YthkpnbekkoompabGreatDoorQ10
import Derived.Test.YthkpnbekkoompabGreatDoorQ11
import Derived.Test.YthkpnbekkoompabGreatDoorQ06
import Derived.Deep.CutRange
namespace Go.Proofs.YthkpnbekkoompabGreatDoor
open Go.RowKit

theorem cut_seg {T : List UInt8} {f j : Nat} (hj : j < T.length) (hf : f ≤ j) (hno : (10 : UInt8) ∉ (T.drop f).take (j - f)) (h : T[j] = 10) :
    cutL (T.drop f) = ((T.drop f).take (j - f), T.drop (j + 1), true) := by
  have e : T.drop f = (T.drop f).take (j - f) ++ 10 :: T.drop (j + 1) := by
    have h5 := (List.take_append_drop (j - f) (T.drop f)).symm
    have h6 : (T.drop f).drop (j - f) = 10 :: T.drop (j + 1) := by
      rw [List.drop_drop, show f + (j - f) = j by omega, ← h]
      exact List.drop_eq_getElem_cons hj
    rw [h6] at h5
    exact h5
  have := cutL_at hno (T.drop (j + 1))
  rw [← e] at this
  exact this
theorem cut_none {t : List UInt8} (h : (10 : UInt8) ∉ t) : (cutL t).2.2 = false := by
  cases hc : (cutL t).2.2 with
  | false => rfl
  | true =>
    obtain ⟨e, _⟩ := cutT_eq t hc
    exact absurd (by rw [e]; simp) h
theorem no_more {T : List UInt8} {f j : Nat} (hj : j < T.length) (hf : f ≤ j) (hno : (10 : UInt8) ∉ (T.drop f).take (j - f)) (h : T[j] ≠ 10) : (10 : UInt8) ∉ (T.drop f).take (j + 1 - f) := by
  rw [show j + 1 - f = (j - f) + 1 by omega, List.take_succ_eq_append_getElem (by rw [List.length_drop]; omega), List.getElem_drop, List.mem_append]
  rintro (h1 | h1)
  · exact hno h1
  · have h2 := List.mem_singleton.1 h1
    have h3 : f + (j - f) = j := by omega
    simp only [h3] at h2
    exact h h2.symm
/-- Where the loop over a text's bytes stands. -/
structure RI (T : List UInt8) (j f k : Nat) (c : CoM) : Prop where
  run : parseM T = linesM ((T.drop f).length + 1) (T.drop f) k c
  fit : CFit c
  cnt : c.ps.length + c.is.length + 1 = k
  len : k ≤ f + 1
  no : (10 : UInt8) ∉ (T.drop f).take (j - f)
  lie : f ≤ j ∧ j ≤ T.length
theorem ri_zero (T : List UInt8) : RI T 0 0 1 ⟨[], []⟩ := ⟨rfl, ⟨fun p hp => (by cases hp), fun x hx => (by cases hx)⟩, rfl, by omega, by simp, by omega⟩
theorem RI.skip {T : List UInt8} {j f k : Nat} {c : CoM} (h : RI T j f k c) (hj : j < T.length) (hn : T[j] ≠ 10) : RI T (j + 1) f k c :=
  ⟨h.run, h.fit, h.cnt, h.len, no_more hj h.lie.1 h.no hn, by have := h.lie; omega⟩
/-- A line's end: bad, or taken. -/
theorem RI.line {T : List UInt8} {j f k : Nat} {c : CoM} (h : RI T j f k c) (hT : T.length ≤ 20000) (hj : j < T.length) (hn : T[j] = 10) :
    (lineR (noEnds c) (splitL ((T.drop f).take (j - f))) = none → parseM T = .inl k) ∧
    (∀ r', lineR (noEnds c) (splitL ((T.drop f).take (j - f))) = some r' → ∃ c', r' = noEnds c' ∧ RI T (j + 1) (j + 1) (k + 1) c') := by
  have hc := cut_seg hj h.lie.1 h.no hn
  have hne : T.drop f ≠ [] := fun e => by
    have := congrArg List.length e
    have hl := h.lie.1
    rw [List.length_drop, List.length_nil] at this
    omega
  rw [lineR_of]
  refine ⟨fun hb => ?_, fun r' hs => ?_⟩
  · rw [Option.map_eq_none_iff] at hb
    rw [h.run]
    exact linesM_bad hne (.inr (by rw [hc]; exact hb))
  · obtain ⟨c', hs2, rfl⟩ := Option.map_eq_some_iff.1 hs
    have hlen : ∀ t ∈ splitL ((T.drop f).take (j - f)), t.length ≤ 100000 := fun t ht => by
      have := (splitL_sz ((T.drop f).take (j - f))).2 t ht
      rw [List.length_take, List.length_drop] at this
      omega
    have hl := h.lie
    have hcn := h.cnt
    have hle := h.len
    obtain ⟨q1, q2⟩ := takeM_fit hs2 h.fit hlen (by omega)
    refine ⟨c', rfl, ?_, q1, by omega, by omega, by simp, by omega⟩
    rw [h.run, linesM_next (c' := c') hne (by rw [hc]) (by rw [hc]; exact hs2), hc]
theorem RI.fin {T : List UInt8} {f k : Nat} {c : CoM} (h : RI T T.length f k c) : (f < T.length → parseM T = .inl k) ∧ (¬ f < T.length → parseM T = .inr (c, k)) := by
  have hl := h.lie
  refine ⟨fun hf => ?_, fun hf => ?_⟩
  · have hne : T.drop f ≠ [] := fun e => by
      have := congrArg List.length e
      rw [List.length_drop, List.length_nil] at this
      omega
    have hno := h.no
    rw [List.take_of_length_le (by rw [List.length_drop]; omega)] at hno
    rw [h.run]
    exact linesM_bad hne (.inl (cut_none hno))
  · have e : T.drop f = [] := List.drop_eq_nil_of_le (by omega)
    rw [h.run, e]
    rfl
/-! The ends. -/
theorem endAt_snoc (n : Int) (p : PrM) : ∀ l : List PrM, endAt n (l ++ [p]) = l ++ [{ p with «to» := n }]
  | [] => rfl
  | [q] => rfl
  | q :: q2 :: r => by
    have := endAt_snoc n p (q2 :: r)
    simp only [List.cons_append] at this ⊢
    rw [endAt, this]
theorem flatP_app (a b : List PrM) : flatP (a ++ b) = flatP a ++ flatP b := List.flatMap_append
theorem flatP_put (a b : List PrM) (p : PrM) (n : Int) : (flatP (a ++ p :: b)).set (a.length * 6 + 2) (.int .i64 n) = flatP (a ++ { p with «to» := n } :: b) := by
  rw [flatP_app, flatP_app, List.set_append_right _ _ (by rw [flatP_len]; omega), flatP_len]
  congr 1
  rw [show a.length * 6 + 2 - a.length * 6 = 2 by omega]
  rfl
/-- The procedures when the ends of the first k are set. -/
def midE (n : Int) (k : Nat) (ps : List PrM) : List PrM := endAt n (ps.take k) ++ (ps.drop k).map noTo
theorem midE_zero (n : Int) (ps : List PrM) : midE n 0 ps = ps.map noTo := rfl
theorem endAt_self {n : Nat} : ∀ l : List PrM, EndsOk n l → endAt (n : Int) l = l
  | [], _ => rfl
  | [p], h => by
    have h : p.to = (n : Int) := h
    rw [endAt, ← h]
  | p :: q :: r, h => by
    rw [endAt, endAt_self (q :: r) h.2]
theorem midE_all {n : Nat} {ps : List PrM} (h : EndsOk n ps) : midE n ps.length ps = ps := by
  unfold midE
  rw [List.take_length, List.drop_length, List.map_nil, List.append_nil]
  exact endAt_self ps h
theorem midE_len (n : Int) (k : Nat) (ps : List PrM) : (midE n k ps).length = ps.length := by
  unfold midE
  rw [List.length_append, endAt_len, List.length_map, List.length_take, List.length_drop]
  omega
/-- An end is set; then the end of the one ahead. -/
theorem midE_first (n : Int) (p : PrM) (b : List PrM) : (flatP (midE n 0 (p :: b))).set (0 * 6 + 2) (.int .i64 n) = flatP (midE n 1 (p :: b)) := by
  exact flatP_put [] (b.map noTo) (noTo p) n
theorem midE_step {n : Nat} {k : Nat} {ps : List PrM} (hE : EndsOk n ps) (hk : k + 1 < ps.length) :
    ((flatP (midE n (k + 1) ps)).set ((k + 1) * 6 + 2) (.int .i64 n)).set (k * 6 + 2) (.int .i64 (ps[k + 1]).frm) = flatP (midE n (k + 2) ps) := by
  have ek := (EndsOk.get ps hE k (by omega)).1 hk
  have h1 : ps.take (k + 1) = ps.take k ++ [ps[k]] := List.take_succ_eq_append_getElem (by omega)
  have h2 : ps.take (k + 2) = ps.take k ++ [ps[k]] ++ [ps[k + 1]] := by rw [← h1]; exact List.take_succ_eq_append_getElem hk
  have h3 : ps.drop (k + 1) = ps[k + 1] :: ps.drop (k + 2) := List.drop_eq_getElem_cons hk
  have hl : (ps.take k).length = k := by rw [List.length_take]; omega
  unfold midE
  rw [h1, h2, h3, endAt_snoc, endAt_snoc, List.map_cons, List.append_assoc, List.singleton_append]
  have e1 : (ps.take k ++ { ps[k] with «to» := (n : Int) } :: noTo ps[k + 1] :: (ps.drop (k + 2)).map noTo) = (ps.take k ++ [{ ps[k] with «to» := (n : Int) }]) ++ noTo ps[k + 1] :: (ps.drop (k + 2)).map noTo := by simp
  have p1 := flatP_put (ps.take k ++ [{ ps[k] with «to» := (n : Int) }]) ((ps.drop (k + 2)).map noTo) (noTo ps[k + 1]) n
  rw [List.length_append, List.length_singleton, hl] at p1
  rw [e1, p1]
  have p2 := flatP_put (ps.take k) ({ noTo ps[k + 1] with «to» := (n : Int) } :: (ps.drop (k + 2)).map noTo) { ps[k] with «to» := (n : Int) } (ps[k + 1]).frm
  rw [hl] at p2
  simp only [List.append_assoc, List.singleton_append] at p2 ⊢
  rw [p2]
  have e5 : ({ ps[k] with «to» := (ps[k + 1]).frm } : PrM) = ps[k] := by rw [← ek]
  show flatP (ps.take k ++ { ps[k] with «to» := (ps[k + 1]).frm } :: { ps[k + 1] with «to» := (n : Int) } :: (ps.drop (k + 2)).map noTo) = _
  rw [e5]
  rfl
theorem midE_get (n : Int) (k i : Nat) (ps : List PrM) (hi : i < ps.length) : ((midE n k ps)[i]'(by rw [midE_len]; exact hi)).frm = (ps[i]).frm := by
  have key : (midE n k ps).map (·.frm) = ps.map (·.frm) := by
    unfold midE
    have e1 : ∀ l : List PrM, (endAt n l).map (·.frm) = l.map (·.frm) := fun l => by
      rcases List.eq_nil_or_concat l with rfl | ⟨l, p, rfl⟩
      · rfl
      · rw [List.concat_eq_append, endAt_snoc]; simp
    rw [List.map_append, e1, List.map_map, show (ps.drop k).map ((·.frm) ∘ noTo) = (ps.drop k).map (·.frm) from rfl, ← List.map_append, List.take_append_drop]
  have h1 : (midE n k ps)[i]?.map (·.frm) = ps[i]?.map (·.frm) := by rw [← List.getElem?_map, ← List.getElem?_map, key]
  rw [List.getElem?_eq_getElem (by rw [midE_len]; exact hi), List.getElem?_eq_getElem hi] at h1
  exact Option.some.inj h1
/-- A name is no longer than the text. -/
theorem name_le {c : CoM} {p : PrM} (h : p ∈ c.ps) : p.name.length ≤ (txtC c).length := by
  have h1 : p.name.length ≤ (txtPr c p).length := by
    unfold txtPr
    simp [lineM, partsP, Lib.join_cons, Lib.joinTail]
    omega
  have h2 : ∀ (l : List PrM), p ∈ l → (txtPr c p).length ≤ (l.flatMap (txtPr c)).length := by
    intro l
    induction l with
    | nil => intro h; cases h
    | cons q l ih =>
      intro h
      rw [List.flatMap_cons, List.length_append]
      rcases List.mem_cons.1 h with e | h
      · subst e; omega
      · have := ih h; omega
  exact Nat.le_trans h1 (h2 c.ps h)
end Go.Proofs.YthkpnbekkoompabGreatDoor
