/-
  rewindref18.Parse: what a line says.
-/
import Derived.Test.YtdknejmhlfpdfaaDoorOrP
import Derived.Deep.RegionWith
import Derived.BigQuiet
namespace Go.Proofs.YtdknejmhlfpdfaaDoor
open Go.RowKit

def ansO (p : OrdM × Nat) : Ending := .returned (.tuple #[.int .i64 p.1.kind, .string (bs p.1.name), .int .i64 p.1.num, .int .i64 (p.2 : Int)])
/-- What a line of these words says, its first word's kind being K. -/
def ordK (K : Nat) (l : List (List UInt8)) : OrdM × Nat :=
  if K = 0 then (zO, 16)
  else if K < 9 ∨ 15 < K then (if l.length = 1 then (⟨K, [], 0⟩, 0) else (zO, 3))
  else if l.length ≠ 2 then (zO, 3)
  else if K < 12 then (match numO (l.getD 1 []) with | some n => (⟨K, [], n⟩, 0) | none => (zO, 3))
  else (match plM (l.getD 1 []) with | some p => (⟨K, p.1, p.2⟩, 0) | none => (zO, 3))
theorem ordL_eq (l : List (List UInt8)) : ordL l = ordK (kindM (l.headD [])) l := rfl
theorem takeTo_eq {b : List UInt8} {i : Nat} (hi : i ≤ b.length) (h : ∀ j (h : j < b.length), j < i → b[j] ≠ 91) (he : ∀ h : i < b.length, b[i] = 91) : i = (b.takeWhile (· != 91)).length := by
  induction b generalizing i with
  | nil => simp at hi; subst hi; rfl
  | cons c r ih =>
    rw [List.takeWhile_cons]
    cases i with
    | zero =>
      have := he (by simp)
      simp only [List.getElem_cons_zero] at this
      subst this
      rfl
    | succ k =>
      have hc := h 0 (by simp) (by omega)
      simp only [List.getElem_cons_zero] at hc
      rw [if_pos (by simpa using hc)]
      have := ih (i := k) (by simpa using hi) (fun j hj hjk => h (j + 1) (by simp; omega) (by omega)) (fun hk => he (by simp; omega))
      rw [List.length_cons, ← this]
theorem plM_cases (b : List UInt8) : (isNm (b.takeWhile (· != 91)) = false → plM b = none) ∧
    (isNm (b.takeWhile (· != 91)) = true → (b.takeWhile (· != 91)).length = b.length → plM b = some (b, -1) ∧ b.takeWhile (· != 91) = b) ∧
    (isNm (b.takeWhile (· != 91)) = true → (b.takeWhile (· != 91)).length < b.length → (∀ e (h : e < b.length), e + 1 = b.length → (b.takeWhile (· != 91)).length < e → b[e] = 93 →
      plM b = (numO ((b.drop ((b.takeWhile (· != 91)).length + 1)).take (e - ((b.takeWhile (· != 91)).length + 1)))).map fun n => (b.takeWhile (· != 91), n)) ∧
      (∀ e (h : e < b.length), e + 1 = b.length → (e ≤ (b.takeWhile (· != 91)).length ∨ b[e] ≠ 93) → plM b = none)) := by
  generalize hm : b.takeWhile (· != 91) = m
  have hu : plM b = if isNm m = true then (if m.length = b.length then some (b, -1) else if (b.drop (m.length + 1)).getLast? = some 93 then (numO (b.drop (m.length + 1)).dropLast).map fun n => (m, n) else none) else none := by
    unfold plM; rw [hm]
  refine ⟨fun h => by rw [hu, if_neg (by rw [h]; simp)], fun h hl => ⟨by rw [hu, if_pos h, if_pos hl], ?_⟩, fun h hl => ⟨fun e he h1 h2 h3 => ?_, fun e he h1 h2 => ?_⟩⟩
  · subst hm; exact (List.takeWhile_prefix _).eq_of_length hl
  · have hlast : (b.drop (m.length + 1)).getLast? = some 93 := by
      rw [List.getLast?_eq_getElem?, List.getElem?_drop, List.length_drop, show m.length + 1 + (b.length - (m.length + 1) - 1) = e by omega, List.getElem?_eq_getElem he, h3]
    rw [hu, if_pos h, if_neg (by omega), if_pos hlast, List.dropLast_eq_take, List.length_drop, show b.length - (m.length + 1) - 1 = e - (m.length + 1) by omega]
  · have hlast : (b.drop (m.length + 1)).getLast? ≠ some 93 := by
      rw [List.getLast?_eq_getElem?, List.getElem?_drop, List.length_drop]
      by_cases hle : e ≤ m.length
      · rw [List.getElem?_eq_none (by omega)]; simp
      · rw [show m.length + 1 + (b.length - (m.length + 1) - 1) = e by omega, List.getElem?_eq_getElem he]
        intro hc
        exact (h2.resolve_left hle) (Option.some.inj hc)
    rw [hu, if_pos h, if_neg (by omega), if_neg hlast]
theorem kindUp_nil : ∀ k : Fin 21, kindUp [] k.1 = 0 := by decide
theorem ordL_nil : ordL [] = (zO, 16) := by unfold ordL; rw [if_pos (by decide)]
theorem kindUp_succ (w : List UInt8) (k : Nat) : kindUp w (k + 1) = if w = kwB (k + 1) then k + 1 else kindUp w k := rfl
/-- Where a row of texts lies, behind calls that make memory alone. -/
def RowS (W : World) (g : Nat) (L : List (List UInt8)) : Prop := g < W.heap.size ∧ ∀ i (h : i < L.length), W.cell? ⟨g, i, none⟩ = some (.string (bs L[i]))
theorem RowS.below {W W' : World} {B g : Nat} {L : List (List UInt8)} (h : RowS W g L) (hb : Below B W W') (hg : g < B) : RowS W' g L :=
  ⟨Nat.lt_of_lt_of_le h.1 hb.size, fun i hi => (hb.cell (p := ⟨g, i, none⟩) hg).trans (h.2 i hi)⟩
theorem row_of {w : World} {base n : Nat} {v : Value} {L : List (List UInt8)} (h : w.ownsRow base 9 1 v n (strsP L)) (hn : L.length = n) (h0 : 0 < n) : ∃ g c, v = .slice (some ⟨g, 0, none⟩) n c ∧ RowS w g L := by
  obtain ⟨g, cap, hv, hg1, hg2, hc1, hc2, hcl⟩ := own_cellC h h0
  subst hv
  refine ⟨g, cap, rfl, (own_ltC h g rfl).2, fun i hi => ?_⟩
  rw [hcl i (by omega)]
  simp [strsP, hi]
end Go.Proofs.YtdknejmhlfpdfaaDoor
