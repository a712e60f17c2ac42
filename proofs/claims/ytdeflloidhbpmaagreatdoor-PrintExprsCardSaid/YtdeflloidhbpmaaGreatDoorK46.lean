/-
  What the listed variables hold: the tables of words, signs and levels, and that of the powers of ten, lie as the program's text lays them.
-/
import Derived.Test.YtdeflloidhbpmaaGreatDoorRows
import Derived.Test.YtdeflloidhbpmaaGreatDoorK03
import Derived.Test.YtdeflloidhbpmaaGreatDoorK27
import Derived.Lib.LaidPrint
import Derived.Lib.ItoaNum
import Derived.ProofKit
import Derived.LaidMore
import Derived.Stop.Joined
import Derived.Lib.LaidTab
namespace Go.Proofs.YtdeflloidhbpmaaGreatDoor
open Go.ChangeShapes Go.WideShapes Go.ChangeAt Go.RowKit

theorem strs_of_tab {H : Type} {enc : TypeId × Value → H} {P : Program} {w : World} {base : Nat} {sp : Nat → Bool} {held : Bool} {fuel : Nat} {t e : TypeId} {n : Nat} {cs : List Value} {ls : List (List UInt8)} {p : List MemPlace}
    (ht : P.underlying t = some (.array n e)) (he : P.underlying e = some .string) (hce : P.cellsOf e = 1) (hct : P.cellsOf t = n)
    (h : DataW.trod enc P w base sp held fuel t cs = some (.agg (ls.map fun l => .lit (.string l)), p)) : cs = ls.map fun l => Value.string (bs l) := by
  cases fuel with
  | zero => simp [DataW.trod] at h
  | succ fuel =>
    simp only [DataW.trod, ht, hce, hct, Nat.mul_one] at h
    split at h
    · rename_i hl
      obtain ⟨xs, hm, hx⟩ := Option.map_eq_some_iff.1 h
      have hxs : xs.map (·.1) = ls.map fun l => (DataW.lit (.string l) : DataW H) := by
        have := congrArg Prod.fst hx
        simpa using this
      have hxl : xs.length = n := by simpa using Lib.mapM_length hm
      have hzl : ls.length = n := by
        have := congrArg List.length hxs
        simp at this
        omega
      apply List.ext_getElem?
      intro i
      by_cases hi : i < n
      · obtain ⟨b, hb, hf⟩ := Lib.mapM_at hm i i (by simp [hi])
        obtain ⟨z, hc, rfl, _⟩ := DataW.trod_string he hf
        have h1 : cs[i]? = some (.string z) := by
          have := congrArg (·[0]?) hc
          simpa [List.getElem?_take, List.getElem?_drop] using this
        have h2 : (xs.map (·.1))[i]? = some (DataW.lit (.string z.data.toList) : DataW H) := by simp [hb]
        rw [hxs] at h2
        simp only [List.getElem?_map, Option.map_eq_some_iff, DataW.lit.injEq, Lit.string.injEq] at h2
        obtain ⟨z', hz', e⟩ := h2
        rw [h1, List.getElem?_map, hz', Option.map_some, e]
        rfl
      · rw [List.getElem?_eq_none (by omega), List.getElem?_eq_none (by simp; omega)]
    · cases h

/-- An array's parts, as they read. -/
theorem arr_at {H : Type} {enc : TypeId × Value → H} {P : Program} {w : World} {base : Nat} {sp : Nat → Bool} {held : Bool} {fuel : Nat} {t e : TypeId} {n : Nat} {cs : List Value} {ds : List (DataW H)} {p : List MemPlace}
    (ht : P.underlying t = some (.array n e)) (hce : P.cellsOf e = 1) (hct : P.cellsOf t = n)
    (h : DataW.trod enc P w base sp held fuel t cs = some (.agg ds, p)) (i : Nat) (hi : i < n) : ∃ f v d p', cs[i]? = some v ∧ ds[i]? = some d ∧ DataW.trod enc P w base sp held f e [v] = some (d, p') := by
  cases fuel with
  | zero => simp [DataW.trod] at h
  | succ fuel =>
    simp only [DataW.trod, ht, hce, hct, Nat.mul_one] at h
    split at h
    · rename_i hl
      obtain ⟨xs, hm, hx⟩ := Option.map_eq_some_iff.1 h
      have hxs : xs.map (·.1) = ds := by
        have := congrArg Prod.fst hx
        simpa using this
      obtain ⟨b, hb, hf⟩ := Lib.mapM_at hm i i (by simp [hi])
      have hcl : i < cs.length := by omega
      have h1 : (cs.drop i).take 1 = [cs[i]] := by
        apply List.ext_getElem?
        intro j
        rcases j with _ | j
        · simp [hcl]
        · rw [List.getElem?_eq_none (by simp; omega), List.getElem?_eq_none (by simp)]
      rw [h1] at hf
      exact ⟨fuel, cs[i], b.1, b.2, List.getElem?_eq_getElem hcl, by rw [← hxs, List.getElem?_map, hb]; rfl, hf⟩
    · cases h
/-- A slice of texts, as it reads. -/
theorem sl_of_trod {H : Type} {enc : TypeId × Value → H} {P : Program} {w : World} {base : Nat} {sp : Nat → Bool} {held : Bool} {fuel : Nat} {t e : TypeId} {v : Value} {ls : List (List UInt8)} {q : List (DataW H)} {p : List MemPlace}
    (ht : P.underlying t = some (.slice e)) (he : P.underlying e = some .string) (hce : P.cellsOf e = 1) (hl : 0 < ls.length)
    (h : DataW.trod enc P w base sp held fuel t [v] = some (.slice (ls.map fun l => .lit (.string l)) q, p)) :
    ∃ R o c, v = .slice (some ⟨R, o, none⟩) ls.length c ∧ ∀ i (hi : i < ls.length), w.cell? ⟨R, o + i, none⟩ = some (.string (bs ls[i])) := by
  rcases DataW.trod_slice ht h with ⟨_, hx⟩ | ⟨a, len, cap, el, rs, m, rfl, hcs, hx, _, hlc, _, hel, helem, hsp, _⟩
  · cases hx
  have e0 := congrArg Prod.fst hx
  simp only [DataW.slice.injEq] at e0
  obtain ⟨eE, eR⟩ := e0
  have hlen : len = ls.length := by
    have := congrArg List.length eE
    simp at this
    omega
  have hcell : ∀ i (hi : i < ls.length), w.cell? (a.add i) = some (.string (bs ls[i])) := by
    intro i hi
    have h1 := helem i (by omega)
    rw [hce] at h1
    obtain ⟨b, hb⟩ : ∃ b, el[i]? = some b := ⟨el[i]'(by omega), List.getElem?_eq_getElem (by omega)⟩
    rw [hb] at h1
    obtain ⟨ce, hce', hte⟩ := Option.bind_eq_some_iff.1 h1
    obtain ⟨z, hz, hbz, _⟩ := DataW.trod_string he hte
    have hb1 : b.1 = .lit (.string ls[i]) := by
      have := congrArg (·[i]?) eE
      simp [hb, hi] at this
      exact this.symm
    rw [hbz] at hb1
    simp only [DataW.lit.injEq, Lit.string.injEq] at hb1
    obtain ⟨_, _, hcc⟩ := World.cells?_some hce'
    have := hcc 0 (by omega)
    rw [hz] at this
    simp only [Nat.mul_one] at this
    have e1 : (a.add i).add 0 = a.add i := by simp [Addr.add]
    rw [e1] at this
    rw [this, ← hb1]
    rfl
  obtain ⟨R, o, sR⟩ := a
  obtain rfl : sR = none := by
    have h00 := hcell 0 hl
    have : (Addr.add ⟨R, o, sR⟩ 0) = ⟨R, o, sR⟩ := by simp [Addr.add]
    rw [this] at h00
    exact Go.Proofs.cell_spot h00
  refine ⟨R, o, cap, ?_, fun j hj => ?_⟩
  · have := List.cons.inj hcs
    rw [this.1, hlen]
  · have := hcell j hj
    rwa [Addr.add_lit] at this

/-- The listed variables, as the rows list them. -/
abbrev laidP : List (String × DataW Unit) := Rows.printBackRow.laid
def nameP : String := (laidP.map (·.1)).getD 2 default
def nameL : String := (laidP.map (·.1)).getD 5 default
def nameW : String := (laidP.map (·.1)).getD 6 default
def nameS : String := (laidP.map (·.1)).getD 7 default
theorem Tryz.gPows : Tryz.prog.globalNamed nameP = some 4 := by kernel_rfl
theorem Tryz.gLevs : Tryz.prog.globalNamed nameL = some 0 := by kernel_rfl
theorem Tryz.gWords : Tryz.prog.globalNamed nameW = some 3 := by kernel_rfl
theorem Tryz.gSigns : Tryz.prog.globalNamed nameS = some 1 := by kernel_rfl
theorem Tryz.tPows : (Tryz.prog.globals[4]?).map (·.type) = some 190 := by kernel_rfl
theorem Tryz.tLevs : (Tryz.prog.globals[0]?).map (·.type) = some 160 := by kernel_rfl
theorem Tryz.tWords : (Tryz.prog.globals[3]?).map (·.type) = some 180 := by kernel_rfl
theorem Tryz.tSigns : (Tryz.prog.globals[1]?).map (·.type) = some 169 := by kernel_rfl
theorem Tryz.cellsPows : Tryz.prog.cellsOf 190 = 20 := by kernel_rfl
theorem Tryz.cellsLevs : Tryz.prog.cellsOf 160 = 5 := by kernel_rfl
theorem Tryz.cellsWords : Tryz.prog.cellsOf 180 = 13 := by kernel_rfl
theorem Tryz.cellsSigns : Tryz.prog.cellsOf 169 = 23 := by kernel_rfl
theorem Tryz.cellsStr : Tryz.prog.cellsOf 9 = 1 := by kernel_rfl
theorem Tryz.cellsU64 : Tryz.prog.cellsOf 177 = 1 := by kernel_rfl
theorem Tryz.cellsStrs : Tryz.prog.cellsOf 67 = 1 := by kernel_rfl
theorem Tryz.own : ownKnob Tryz.prog.godebug = none := by kernel_rfl

/-- The door's own heap meets the condition. -/
theorem door_met (os : Os) (args : Array Value) : laidMetH Tryz.prog laidP ((World.doorLaid Tryz.prog 223 os).forCall (fun _ _ => 0) ⟨#[], args, []⟩).memory :=
  laidMetH_of_parts3 (fuel := 8) (laidMet_of_run' 8 (by kernel_rfl) (by kernel_rfl)) (by kernel_rfl) (by kernel_rfl)

theorem cell_lt {w : World} {b o : Nat} {v : Value} (h : w.cell? ⟨b, o, none⟩ = some v) : b < w.heap.size := by
  rcases Nat.lt_or_ge b w.heap.size with hl | hl
  · exact hl
  · simp [World.cell?, Array.getElem?_eq_none hl] at h

/-- The levels, as the rows list them. -/
def levD : List (DataW Unit) := (List.range 5).map fun i => .slice ((levL i).map fun l => .lit (.string l)) []
theorem levL_pos (i : Nat) (hi : i < 5) : 0 < (levL i).length := by
  have key : ∀ i : Fin 5, 0 < (levL i.1).length := by decide
  exact key ⟨i, hi⟩
theorem levs_of_laid {W : World} {cs : Array Value} {f : Nat} {p : List MemPlace} (hv : W.var? Tryz.prog nameL = some cs)
    (hd : DataW.trod (fun _ => ()) Tryz.prog W 0 (fun _ => true) false f 160 cs.toList = some (.agg levD, p)) : ∃ g c, Levs g c W := by
  have key : ∀ i, i < 5 → ∃ x : Nat × Nat × Nat, W.cell? ⟨0, i, none⟩ = some (.slice (some ⟨x.1, x.2.2, none⟩) (levL i).length x.2.1) ∧ SgO W x.1 x.2.2 (levL i).length (levL i) := by
    intro i hi
    obtain ⟨f', v, d, p', h1, h2, h3⟩ := arr_at Tryz.underlying160 Tryz.cellsStrs Tryz.cellsLevs hd i hi
    obtain rfl : d = .slice ((levL i).map fun l => .lit (.string l)) [] := by
      have : levD[i]? = some (.slice ((levL i).map fun l => .lit (.string l)) []) := by simp [levD, hi]
      exact Option.some.inj (h2.symm.trans this)
    obtain ⟨R, o, c, rfl, hc⟩ := sl_of_trod Tryz.underlying67 Tryz.underlying9 Tryz.cellsStr (levL_pos i hi) h3
    refine ⟨(R, c, o), ?_, rfl, cell_lt (hc 0 (levL_pos i hi)), hc⟩
    rw [World.var?_cell Tryz.gLevs hv i, ← Array.getElem?_toList, h1]
  let sel : Nat → Nat × Nat × Nat := fun i => if h : i < 5 then (key i h).choose else (0, 0, 0)
  have hsel : ∀ i, i < 5 → W.cell? ⟨0, i, none⟩ = some (.slice (some ⟨(sel i).1, (sel i).2.2, none⟩) (levL i).length (sel i).2.1) ∧ SgO W (sel i).1 (sel i).2.2 (levL i).length (levL i) := by
    intro i hi
    have : sel i = (key i hi).choose := by simp [sel, hi]
    rw [this]
    exact (key i hi).choose_spec
  refine ⟨fun i => (sel i).1, fun i => if i < 5 then (sel i).2.1 else (sel (i - 5)).2.2, ?_, ?_⟩
  · intro i hi
    have := (hsel i hi).1
    have e1 : ¬ i + 5 < 5 := by omega
    have e2 : i + 5 - 5 = i := by omega
    simp only [hi, if_true, e1, if_false, e2]
    exact this
  · intro i hi
    have := (hsel i hi).2
    have e1 : ¬ i + 5 < 5 := by omega
    have e2 : i + 5 - 5 = i := by omega
    simp only [e1, if_false, e2]
    exact this

/-- What the condition gives the walks. -/
theorem tabs_of_laid {W : World} (h : laidMetH Tryz.prog laidP W) : Tabs W ∧ Lib.TabIs Tryz.prog W nameP .u64 Lib.pow10Tab ∧ ∃ g c, Levs g c W := by
  rw [MakeChecks.laidMetH_plain _ _ _ (by kernel_rfl)] at h
  obtain ⟨ps, ⟨_, _, _, _, _, _, _, _, _, _, ⟨_, _, _, _, _, _, _, _, _, _, ⟨gP, tP, csP, fP, pP, qP, hgP, htP, hvP, hdP, ⟨_, _, _, _, _, _, _, _, _, _, ⟨_, _, _, _, _, _, _, _, _, _, ⟨gL, tL, csL, fL, pL, qL, hgL, htL, hvL, hdL, ⟨g0, t0, cs0, f0, p0, q0, hg0, ht0, hv0, hd0, ⟨g1, t1, cs1, f1, p1, q1, hg1, ht1, hv1, hd1, _, _⟩, _⟩, _⟩, _⟩, _⟩, _⟩, _⟩, _⟩, _, _⟩ := h
  obtain rfl := Option.some.inj (Tryz.gPows.symm.trans hgP)
  obtain rfl := Option.some.inj (Tryz.gLevs.symm.trans hgL)
  obtain rfl := Option.some.inj (Tryz.gWords.symm.trans hg0)
  obtain rfl := Option.some.inj (Tryz.gSigns.symm.trans hg1)
  obtain rfl := Option.some.inj (Tryz.tPows.symm.trans htP)
  obtain rfl := Option.some.inj (Tryz.tLevs.symm.trans htL)
  obtain rfl := Option.some.inj (Tryz.tWords.symm.trans ht0)
  obtain rfl := Option.some.inj (Tryz.tSigns.symm.trans ht1)
  have eP := Lib.cells_of_tab (zs := Lib.pow10Tab) Tryz.underlying190 Tryz.underlying177 Tryz.cellsU64 Tryz.cellsPows hdP
  have e0 := strs_of_tab (ls := wordsL) Tryz.underlying180 Tryz.underlying9 Tryz.cellsStr Tryz.cellsWords hd0
  have e1 := strs_of_tab (ls := signsL) Tryz.underlying169 Tryz.underlying9 Tryz.cellsStr Tryz.cellsSigns hd1
  have c0 : ∀ i, i < 13 → W.cell? ⟨3, i, none⟩ = some (.string (wordB i)) := fun i hi => by
    have hl : i < wordsL.length := by simpa [wordsL] using hi
    rw [World.var?_cell hg0 hv0 i, ← Array.getElem?_toList, e0, List.getElem?_map, List.getElem?_eq_getElem hl, Option.map_some]
    unfold wordB
    rw [List.getD_eq_getElem?_getD, List.getElem?_eq_getElem hl]
    rfl
  have c1 : ∀ i, i < 23 → W.cell? ⟨1, i, none⟩ = some (.string (signB i)) := fun i hi => by
    have hl : i < signsL.length := by simpa [signsL, twoL, oneL] using hi
    rw [World.var?_cell hg1 hv1 i, ← Array.getElem?_toList, e1, List.getElem?_map, List.getElem?_eq_getElem hl, Option.map_some]
    unfold signB
    rw [List.getD_eq_getElem?_getD, List.getElem?_eq_getElem hl]
    rfl
  refine ⟨⟨c0, c1, ?_⟩, ?_, levs_of_laid (cs := csL) (f := fL) (p := pL) hvL hdL⟩
  · have h0 := cell_lt (c0 0 (by omega))
    have h1 := cell_lt (c1 0 (by omega))
    have h2 : 4 < W.heap.size := cell_lt (o := 0) (v := .int .u64 1) (by
      rw [World.var?_cell hgP hvP 0, ← Array.getElem?_toList, eP]
      rfl)
    omega
  · show W.var? Tryz.prog nameP = some _
    have : csP = (Lib.pow10Tab.map fun z => Value.int .u64 z).toArray := by rw [← eP]
    rw [← this]
    exact hvP

end Go.Proofs.YtdeflloidhbpmaaGreatDoor
