/-
  What the listed variables hold: the two tables lie as the program's text lays them.
-/
import Derived.Test.YtccmodefjgjpeaaGreatDoorRows
import Derived.Test.YtccmodefjgjpeaaGreatDoorTabs
import Derived.ProofKit
import Derived.LaidMore
import Derived.Stop.Joined
import Derived.Lib.LaidTab
namespace Go.Proofs.YtccmodefjgjpeaaGreatDoor
open Go.ChangeShapes Go.WideShapes Go.ChangeAt Go.RowKit

theorem strs_of_tab {H : Type} {enc : TypeId × Value → H} {P : Program} {w : World} {base : Nat} {sp : Nat → Bool} {held : Bool} {fuel : Nat} {t e : TypeId} {n : Nat} {cs : List Value} {ls : List (List UInt8)} {p : List MemPlace}
    (ht : P.underlying t = some (.array n e)) (he : P.underlying e = some .string) (hce : P.cellsOf e = 1) (hct : P.cellsOf t = n)
    (h : DataW.trod enc P w base sp held fuel t cs = some (.agg (ls.map fun l => .lit (.string l)), p)) : cs = ls.map fun l => Value.string (bs l) := by
  cases fuel with
  | zero => simp [DataW.trod] at h
  | succ fuel =>
    simp only [DataW.trod, ht, hce, hct, Nat.mul_one] at h
    split at h
    · rename_i hl
      obtain ⟨xs, hm, hx⟩ := Option.map_eq_some_iff.1 h
      have hxs : xs.map (·.1) = ls.map fun l => (DataW.lit (.string l) : DataW H) := by
        have := congrArg Prod.fst hx
        simpa using this
      have hxl : xs.length = n := by simpa using Lib.mapM_length hm
      have hzl : ls.length = n := by
        have := congrArg List.length hxs
        simp at this
        omega
      apply List.ext_getElem?
      intro i
      by_cases hi : i < n
      · obtain ⟨b, hb, hf⟩ := Lib.mapM_at hm i i (by simp [hi])
        obtain ⟨z, hc, rfl, _⟩ := DataW.trod_string he hf
        have h1 : cs[i]? = some (.string z) := by
          have := congrArg (·[0]?) hc
          simpa [List.getElem?_take, List.getElem?_drop] using this
        have h2 : (xs.map (·.1))[i]? = some (DataW.lit (.string z.data.toList) : DataW H) := by simp [hb]
        rw [hxs] at h2
        simp only [List.getElem?_map, Option.map_eq_some_iff, DataW.lit.injEq, Lit.string.injEq] at h2
        obtain ⟨z', hz', e⟩ := h2
        rw [h1, List.getElem?_map, hz', Option.map_some, e]
        rfl
      · rw [List.getElem?_eq_none (by omega), List.getElem?_eq_none (by simp; omega)]
    · cases h

/-- The listed variables, as the rows list them. -/
abbrev laid2 : List (String × DataW Unit) := Rows.syntaxSpansRow.laid
def nameW : String := (laid2.map (·.1)).getD 5 default
def nameS : String := (laid2.map (·.1)).getD 6 default
theorem Tryz.gWords : Tryz.prog.globalNamed nameW = some 2 := by kernel_rfl
theorem Tryz.gSigns : Tryz.prog.globalNamed nameS = some 0 := by kernel_rfl
theorem Tryz.tWords : (Tryz.prog.globals[2]?).map (·.type) = some 178 := by kernel_rfl
theorem Tryz.tSigns : (Tryz.prog.globals[0]?).map (·.type) = some 167 := by kernel_rfl
theorem Tryz.cellsWords : Tryz.prog.cellsOf 178 = 13 := by kernel_rfl
theorem Tryz.cellsSigns : Tryz.prog.cellsOf 167 = 23 := by kernel_rfl
theorem Tryz.cellsStr : Tryz.prog.cellsOf 9 = 1 := by kernel_rfl
theorem Tryz.own : ownKnob Tryz.prog.godebug = none := by kernel_rfl

/-- The door's own heap meets the condition. -/
theorem door_met (os : Os) (args : Array Value) : laidMetH Tryz.prog laid2 ((World.doorLaid Tryz.prog 233 os).forCall (fun _ _ => 0) ⟨#[], args, []⟩).memory :=
  laidMetH_of_parts3 (fuel := 8) (laidMet_of_run' 8 (by kernel_rfl) (by kernel_rfl)) (by kernel_rfl) (by kernel_rfl)

theorem cell_lt {w : World} {b o : Nat} {v : Value} (h : w.cell? ⟨b, o, none⟩ = some v) : b < w.heap.size := by
  rcases Nat.lt_or_ge b w.heap.size with hl | hl
  · exact hl
  · simp [World.cell?, Array.getElem?_eq_none hl] at h

/-- What the condition gives the walks. -/
theorem tabs_of_laid {W : World} (h : laidMetH Tryz.prog laid2 W) : Tabs W := by
  rw [MakeChecks.laidMetH_plain _ _ _ (by kernel_rfl)] at h
  obtain ⟨ps, ⟨_, _, _, _, _, _, _, _, _, _, ⟨_, _, _, _, _, _, _, _, _, _, ⟨_, _, _, _, _, _, _, _, _, _, ⟨_, _, _, _, _, _, _, _, _, _, ⟨_, _, _, _, _, _, _, _, _, _, ⟨g0, t0, cs0, f0, p0, q0, hg0, ht0, hv0, hd0, ⟨g1, t1, cs1, f1, p1, q1, hg1, ht1, hv1, hd1, _, _⟩, _⟩, _⟩, _⟩, _⟩, _⟩, _⟩, _, _⟩ := h
  obtain rfl := Option.some.inj (Tryz.gWords.symm.trans hg0)
  obtain rfl := Option.some.inj (Tryz.gSigns.symm.trans hg1)
  obtain rfl := Option.some.inj (Tryz.tWords.symm.trans ht0)
  obtain rfl := Option.some.inj (Tryz.tSigns.symm.trans ht1)
  have e0 := strs_of_tab (ls := wordsL) Tryz.underlying178 Tryz.underlying9 Tryz.cellsStr Tryz.cellsWords hd0
  have e1 := strs_of_tab (ls := signsL) Tryz.underlying167 Tryz.underlying9 Tryz.cellsStr Tryz.cellsSigns hd1
  have c0 : ∀ i, i < 13 → W.cell? ⟨2, i, none⟩ = some (.string (wordB i)) := fun i hi => by
    have hl : i < wordsL.length := by simpa [wordsL] using hi
    rw [World.var?_cell hg0 hv0 i, ← Array.getElem?_toList, e0, List.getElem?_map, List.getElem?_eq_getElem hl, Option.map_some]
    unfold wordB
    rw [List.getD_eq_getElem?_getD, List.getElem?_eq_getElem hl]
    rfl
  have c1 : ∀ i, i < 23 → W.cell? ⟨0, i, none⟩ = some (.string (signB i)) := fun i hi => by
    have hl : i < signsL.length := by simpa [signsL, twoL, oneL] using hi
    rw [World.var?_cell hg1 hv1 i, ← Array.getElem?_toList, e1, List.getElem?_map, List.getElem?_eq_getElem hl, Option.map_some]
    unfold signB
    rw [List.getD_eq_getElem?_getD, List.getElem?_eq_getElem hl]
    rfl
  refine ⟨c0, c1, ?_⟩
  have h0 := cell_lt (c0 0 (by omega))
  have h1 := cell_lt (c1 0 (by omega))
  omega

end Go.Proofs.YtccmodefjgjpeaaGreatDoor
