/-
  The reference's list of words, and whether a text is in a list.
-/
import Derived.Test.YtdknejmhlfpdfaaDoorAll
namespace Go.Proofs.YtdknejmhlfpdfaaDoor
open Go.RowKit

/-- A slice value reads as the texts xs, in a block below B. -/
def StrAt (w : World) (B : Nat) (A : Option Addr) (n : Nat) (xs : List (List UInt8)) : Prop :=
  xs.length = n ∧ (0 < n → ∃ b off, A = some ⟨b, off, none⟩ ∧ b < B ∧ ∀ i (h : i < xs.length), w.cell? ⟨b, off + i, none⟩ = some (.string (bs xs[i])))
theorem StrAt.below {w w' : World} {B B' : Nat} {A : Option Addr} {n : Nat} {xs : List (List UInt8)} (h : StrAt w B A n xs) (hb : Below B' w w') (hB : B ≤ B') : StrAt w' B A n xs :=
  ⟨h.1, fun hn => by
    obtain ⟨b, off, rfl, hlt, hc⟩ := h.2 hn
    exact ⟨b, off, rfl, hlt, fun i hi => (hb.cell (p := ⟨b, off + i, none⟩) (by simp; omega)).trans (hc i hi)⟩⟩
theorem StrAt.mono {w : World} {B B' : Nat} {A : Option Addr} {n : Nat} {xs : List (List UInt8)} (h : StrAt w B A n xs) (hB : B ≤ B') : StrAt w B' A n xs :=
  ⟨h.1, fun hn => by
    obtain ⟨b, off, rfl, hlt, hc⟩ := h.2 hn
    exact ⟨b, off, rfl, by omega, hc⟩⟩
theorem StrAt.get {w : World} {B : Nat} {A : Option Addr} {n : Nat} {xs : List (List UInt8)} (h : StrAt w B A n xs) (i : Nat) (hi : i < n) : ∃ b off, A = some ⟨b, off, none⟩ ∧ b < B ∧ ∃ h : i < xs.length, w.cell? ⟨b, off + i, none⟩ = some (.string (bs xs[i])) := by
  obtain ⟨b, off, e, hlt, hc⟩ := h.2 (by omega)
  have hx : i < xs.length := by rw [h.1]; exact hi
  exact ⟨b, off, e, hlt, hx, hc i hx⟩
/-- A new row of texts. -/
theorem strAt_new (w : World) (V : Array Value) (t : TypeId) (xs : List (List UInt8)) (n : Nat) (hn : xs.length = n) (hv : ∀ i (h : i < xs.length), V[i]? = some (.string (bs xs[i]))) :
    StrAt (w.alloc (.cells V t)) (w.heap.size + 1) (some ⟨w.heap.size, 0, none⟩) n xs := by
  refine ⟨hn, fun _ => ⟨w.heap.size, 0, rfl, by omega, fun i hi => ?_⟩⟩
  rw [Nat.zero_add, ← hv i hi]
  have : (w.alloc (.cells V t)).heap[w.heap.size]? = some (.cells V t (0, 0)) := by
    show (w.heap.push _)[w.heap.size]? = _
    simp
  generalize w.alloc (.cells V t) = W at this
  simp [World.cell?, this]

def hasB (xs : List (List UInt8)) (b : List UInt8) : Bool := xs.contains b
theorem hasB_yes {xs : List (List UInt8)} {b : List UInt8} (i : Nat) (h : i < xs.length) (e : b = xs[i]) : hasB xs b = true := by
  subst e; simp [hasB]
theorem hasB_no {xs : List (List UInt8)} {b : List UInt8} (h : ∀ i (h : i < xs.length), b ≠ xs[i]) : hasB xs b = false := by
  unfold hasB
  rw [Bool.eq_false_iff]
  intro hc
  obtain ⟨i, hi, e⟩ := List.mem_iff_getElem.1 (show b ∈ xs by simpa using hc)
  exact h i hi e.symm

theorem wordsV_words (i : Nat) (h : i < wordsL.length) : wordsV[i]? = some (.string (bs wordsL[i])) := by
  rw [wordsV_get i (by simpa [wordsL] using h)]
  unfold wordB
  rw [List.getD_eq_getElem?_getD, List.getElem?_eq_getElem h]
  rfl
end Go.Proofs.YtdknejmhlfpdfaaDoor
