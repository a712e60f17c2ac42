/-
  Slices of texts in memory: rows of the call's own; token.Words.
-/
import Derived.Test.YtccmodefjgjpeaaGreatDoorRefHas
namespace Go.Proofs.YtccmodefjgjpeaaGreatDoor
open Go.RowKit

theorem Tryz.infoStr : (Tryz.prog.info? 9).map (fun i => (i.zero, i.size, i.bytes)) = some (some (.string ⟨#[]⟩), 1, 16) := by kernel_rfl
def flatW (ws : List (List UInt8)) : List Value := ws.map fun b => .string (bs b)
theorem flatW_append (xs ys : List (List UInt8)) : flatW (xs ++ ys) = flatW xs ++ flatW ys := by simp [flatW]
theorem flatW_length (xs : List (List UInt8)) : (flatW xs).length = xs.length := by simp [flatW]
theorem strAt_of_own {w : World} {base n c : Nat} {A : Option Addr} {xs : List (List UInt8)} (h : w.ownsRow base 9 1 (.slice A n c) n (flatW xs)) : StrAt w w.heap.size A n xs := by
  have hl := h.1
  rw [flatW_length] at hl
  refine ⟨by omega, fun hn => ?_⟩
  rcases h.2 with ⟨_, h0⟩ | ⟨g, cap, cur, hv, hb, hg, hnc, hcm, hcs, ht⟩
  · omega
  · have hA : A = some ⟨g, 0, none⟩ := by injection hv
    subst hA
    have hlt : g < w.heap.size := (Array.getElem?_eq_some_iff.1 hg).1
    refine ⟨g, 0, rfl, hlt, fun i hi => ?_⟩
    have h1 : (flatW xs)[i]? = some (.string (bs xs[i])) := by simp [flatW, hi]
    rw [← h1, ← ht, List.getElem?_take, if_pos (by omega)]
    simp [World.cell?, hg]
theorem news1 (W : World) (a : Value) (t : TypeId) : ∀ j u, [a][j]? = some u → (W.alloc (.cells #[a] t)).cell? ((⟨W.heap.size, 0, none⟩ : Addr).add j) = some u := by
  intro j u hu
  have hj : j = 0 := by
    have := (List.getElem?_eq_some_iff.1 hu).1
    simp at this; omega
  subst hj
  simp at hu
  subst hu
  simp [Addr.add]

/-- What Words answers. -/
def WordsPost (w : World) (e : Ending) (w' : World) : Prop :=
  ∃ g cap, e = .returned (.slice (some ⟨g, 0, none⟩) 13 cap) ∧ StrAt w' w'.heap.size (some ⟨g, 0, none⟩) 13 wordsL ∧ Below w.heap.size w w'

theorem Tabs.range_words {w : World} (h : Tabs w) : w.rangeAt 2 0 wordsV.toList := fun j v hv => by
  have hj : j < 13 := (List.getElem?_eq_some_iff.1 hv).1
  have h1 := wordsV_get j hj
  rw [Array.getElem?_toList, h1] at hv
  rw [Nat.zero_add, h.1 j hj, hv]
theorem Tryz.info_words : (Tryz.prog.info? 178).map (·.size) = some wordsV.toList.length := by kernel_rfl
theorem words_take (i : Nat) (hi : i < 13) : wordsL.take (i + 1) = wordsL.take i ++ [wordsL.getD i []] := by
  have h : i < wordsL.length := by simpa [wordsL] using hi
  rw [List.take_succ_eq_append_getElem h, List.getD_eq_getElem?_getD, List.getElem?_eq_getElem h]
  rfl

end Go.Proofs.YtccmodefjgjpeaaGreatDoor
