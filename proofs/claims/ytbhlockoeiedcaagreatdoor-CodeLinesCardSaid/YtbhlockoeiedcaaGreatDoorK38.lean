/-
  What the listed variables hold: the tables of words and signs, that of the powers of ten and that of the shapes, and the two errors, lie as the program's text lays them.
-/
import Derived.Test.YtbhlockoeiedcaaGreatDoorRows
import Derived.Test.YtbhlockoeiedcaaGreatDoorK37
import Derived.ProofKit
import Derived.LaidMore
import Derived.Stop.Joined
import Derived.Lib.LaidTab
import Derived.OpenShut
namespace Go.Proofs.YtbhlockoeiedcaaGreatDoor
open Go.ChangeShapes Go.WideShapes Go.ChangeAt Go.RowKit

theorem strs_of_tab {H : Type} {enc : TypeId × Value → H} {P : Program} {w : World} {base : Nat} {sp : Nat → Bool} {held : Bool} {fuel : Nat} {t e : TypeId} {n : Nat} {cs : List Value} {ls : List (List UInt8)} {p : List MemPlace}
    (ht : P.underlying t = some (.array n e)) (he : P.underlying e = some .string) (hce : P.cellsOf e = 1) (hct : P.cellsOf t = n)
    (h : DataW.trod enc P w base sp held fuel t cs = some (.agg (ls.map fun l => .lit (.string l)), p)) : cs = ls.map fun l => Value.string (bs l) := by
  cases fuel with
  | zero => simp [DataW.trod] at h
  | succ fuel =>
    simp only [DataW.trod, ht, hce, hct, Nat.mul_one] at h
    split at h
    · rename_i hl
      obtain ⟨xs, hm, hx⟩ := Option.map_eq_some_iff.1 h
      have hxs : xs.map (·.1) = ls.map fun l => (DataW.lit (.string l) : DataW H) := by
        have := congrArg Prod.fst hx
        simpa using this
      have hxl : xs.length = n := by simpa using Lib.mapM_length hm
      have hzl : ls.length = n := by
        have := congrArg List.length hxs
        simp at this
        omega
      apply List.ext_getElem?
      intro i
      by_cases hi : i < n
      · obtain ⟨b, hb, hf⟩ := Lib.mapM_at hm i i (by simp [hi])
        obtain ⟨z, hc, rfl, _⟩ := DataW.trod_string he hf
        have h1 : cs[i]? = some (.string z) := by
          have := congrArg (·[0]?) hc
          simpa [List.getElem?_take, List.getElem?_drop] using this
        have h2 : (xs.map (·.1))[i]? = some (DataW.lit (.string z.data.toList) : DataW H) := by simp [hb]
        rw [hxs] at h2
        simp only [List.getElem?_map, Option.map_eq_some_iff, DataW.lit.injEq, Lit.string.injEq] at h2
        obtain ⟨z', hz', e⟩ := h2
        rw [h1, List.getElem?_map, hz', Option.map_some, e]
        rfl
      · rw [List.getElem?_eq_none (by omega), List.getElem?_eq_none (by simp; omega)]
    · cases h

/-- The listed variables, as the rows list them. -/
abbrev laidC : List (String × DataW Unit) := [("math/bits.deBruijn32tab", Rows.laid_math_bits_deBruijn32tab), ("math/bits.deBruijn64tab", Rows.laid_math_bits_deBruijn64tab), ("internal/strconv.uint64pow10", Rows.laid_internal_strconv_uint64pow10), ("unicode/utf8.acceptRanges", Rows.laid_unicode_utf8_acceptRanges), ("strconv.ErrRange", Rows.laid_strconv_ErrRange), ("strconv.ErrSyntax", Rows.laid_strconv_ErrSyntax), ("rewind/token.words", Rows.laid_rewind_token_words), ("rewind/token.signs", Rows.laid_rewind_token_signs), ("rewind/code.shapes", Rows.laid_rewind_code_shapes), ("unicode/utf8.first", Rows.laid_unicode_utf8_first)]
theorem Tryz.gPows : Tryz.prog.globalNamed "internal/strconv.uint64pow10" = some 5 := by kernel_rfl
theorem Tryz.gRng : Tryz.prog.globalNamed "strconv.ErrRange" = some 7 := by kernel_rfl
theorem Tryz.gSyn : Tryz.prog.globalNamed "strconv.ErrSyntax" = some 6 := by kernel_rfl
theorem Tryz.gWords : Tryz.prog.globalNamed "rewind/token.words" = some 8 := by kernel_rfl
theorem Tryz.gSigns : Tryz.prog.globalNamed "rewind/token.signs" = some 4 := by kernel_rfl
theorem Tryz.gShps : Tryz.prog.globalNamed "rewind/code.shapes" = some 0 := by kernel_rfl
theorem Tryz.tPows : (Tryz.prog.globals[5]?).map (·.type) = some 259 := by kernel_rfl
theorem Tryz.tRng : (Tryz.prog.globals[7]?).map (·.type) = some 81 := by kernel_rfl
theorem Tryz.tSyn : (Tryz.prog.globals[6]?).map (·.type) = some 81 := by kernel_rfl
theorem Tryz.tWords : (Tryz.prog.globals[8]?).map (·.type) = some 270 := by kernel_rfl
theorem Tryz.tSigns : (Tryz.prog.globals[4]?).map (·.type) = some 256 := by kernel_rfl
theorem Tryz.tShps : (Tryz.prog.globals[0]?).map (·.type) = some 124 := by kernel_rfl
theorem Tryz.cellsPows : Tryz.prog.cellsOf 259 = 20 := by kernel_rfl
theorem Tryz.cellsWords : Tryz.prog.cellsOf 270 = 13 := by kernel_rfl
theorem Tryz.cellsSigns : Tryz.prog.cellsOf 256 = 23 := by kernel_rfl
theorem Tryz.cellsShps : Tryz.prog.cellsOf 124 = 120 := by kernel_rfl
theorem Tryz.cellsShp : Tryz.prog.cellsOf 123 = 4 := by kernel_rfl
theorem Tryz.cellsStr : Tryz.prog.cellsOf 9 = 1 := by kernel_rfl
theorem Tryz.cellsInt : Tryz.prog.cellsOf 3 = 1 := by kernel_rfl
theorem Tryz.cellsU64 : Tryz.prog.cellsOf 161 = 1 := by kernel_rfl

theorem cell_ltC {w : World} {b o : Nat} {v : Value} (h : w.cell? ⟨b, o, none⟩ = some v) : b < w.heap.size := by
  rcases Nat.lt_or_ge b w.heap.size with hl | hl
  · exact hl
  · simp [World.cell?, Array.getElem?_eq_none hl] at h

/-- An interface value that is one of a type, as it reads. -/
theorem iface_of_trod {H : Type} {enc : TypeId × Value → H} {P : Program} {w : World} {base : Nat} {sp : Nat → Bool} {held : Bool} {fuel : Nat} {t : TypeId} {ms : Array (String × TypeId)} {cs : List Value} {nm : String} {d : DataW H} {p : List MemPlace}
    (ht : P.underlying t = some (.interface ms)) (h : DataW.trod enc P w base sp held fuel t cs = some (.iface nm d, p)) : ∃ u v, cs = [.iface u v] := by
  cases fuel with
  | zero => simp [DataW.trod] at h
  | succ n =>
    unfold DataW.trod at h
    rw [ht] at h
    split at h
    all_goals first
      | exact ⟨_, _, rfl⟩
      | (simp_all; done)
      | cases h
/-- A shape, as it reads. -/
def shpD (i : Nat) : DataW Unit := .agg [.lit (.string (opW.getD i [])), .lit (.int .i64 (akL.getD i 0)), .lit (.int .i64 (tkL.getD i 0)), .lit (.int .i64 (lvL.getD i 0))]
theorem shps_eq : (Rows.laid_rewind_code_shapes : DataW Unit) = .agg ((List.range 30).map shpD) := rfl
theorem shp_row {W : World} {base m : Nat} {sp : Nat → Bool} {held : Bool} {cs : List Value} {i : Nat} {p : List MemPlace}
    (h : DataW.trod (fun _ => ()) Tryz.prog W base sp held m 123 cs = some (shpD i, p)) :
    cs[0]? = some (.string (bs (opW.getD i []))) ∧ cs[1]? = some (.int .i64 (akL.getD i 0)) ∧ cs[2]? = some (.int .i64 (tkL.getD i 0)) ∧ cs[3]? = some (.int .i64 (lvL.getD i 0)) := by
  obtain ⟨xs, n, _, he, hl, hlen, hf⟩ := DataW.trod_struct Tryz.underlying123 h
  have e := congrArg Prod.fst he
  simp only [shpD, DataW.agg.injEq] at e
  match xs, hlen, e with
  | [a0, a1, a2, a3], _, e =>
    simp only [List.map_cons, List.map_nil, List.cons.injEq, and_true] at e
    obtain ⟨e0, e1, e2, e3⟩ := e
    have f0 := hf 0 _ rfl
    have f1 := hf 1 _ rfl
    have f2 := hf 2 _ rfl
    have f3 := hf 3 _ rfl
    obtain ⟨s, c0, x0, _⟩ := DataW.trod_string Tryz.underlying9 f0
    obtain ⟨n1, c1, x1, _⟩ := DataW.trod_int Tryz.underlying3 f1
    obtain ⟨n2, c2, x2, _⟩ := DataW.trod_int Tryz.underlying3 f2
    obtain ⟨n3, c3, x3, _⟩ := DataW.trod_int Tryz.underlying3 f3
    rw [x0] at e0; rw [x1] at e1; rw [x2] at e2; rw [x3] at e3
    simp only [DataW.lit.injEq, Lit.string.injEq, Lit.int.injEq, true_and] at e0 e1 e2 e3
    have g0 : cs[0]? = some (.string s) := by
      have := congrArg (·[0]?) c0
      simpa [List.getElem?_take, List.getElem?_drop, Tryz.cellsStr] using this
    have g1 : cs[1]? = some (.int .i64 n1) := by
      have := congrArg (·[0]?) c1
      simpa [List.getElem?_take, List.getElem?_drop, Tryz.cellsInt] using this
    have g2 : cs[2]? = some (.int .i64 n2) := by
      have := congrArg (·[0]?) c2
      simpa [List.getElem?_take, List.getElem?_drop, Tryz.cellsInt] using this
    have g3 : cs[3]? = some (.int .i64 n3) := by
      have := congrArg (·[0]?) c3
      simpa [List.getElem?_take, List.getElem?_drop, Tryz.cellsInt] using this
    rw [e0, e1, e2, e3]
    exact ⟨g0, g1, g2, g3⟩
/-- What the condition gives the walks. -/
theorem tx_of_laid {W : World} (h : laidMetH Tryz.prog laidC W) (hm : ∃ m, W.cell? ⟨1, 0, none⟩ = some (.int .i64 m)) : TX W := by
  rw [MakeChecks.laidMetH_plain _ _ _ (by kernel_rfl)] at h
  obtain ⟨ps, ⟨_, _, _, _, _, _, _, _, _, _, ⟨_, _, _, _, _, _, _, _, _, _, ⟨gP, tP, csP, fP, pP, qP, hgP, htP, hvP, hdP, ⟨_, _, _, _, _, _, _, _, _, _, ⟨gR, tR, csR, fR, pR, qR, hgR, htR, hvR, hdR, ⟨gY, tY, csY, fY, pY, qY, hgY, htY, hvY, hdY, ⟨g0, t0, cs0, f0, p0, q0, hg0, ht0, hv0, hd0, ⟨g1, t1, cs1, f1, p1, q1, hg1, ht1, hv1, hd1, ⟨gS, tS, csS, fS, pS, qS, hgS, htS, hvS, hdS, _, _⟩, _⟩, _⟩, _⟩, _⟩, _⟩, _⟩, _⟩, _⟩, _, _⟩ := h
  obtain rfl := Option.some.inj (Tryz.gPows.symm.trans hgP)
  obtain rfl := Option.some.inj (Tryz.gRng.symm.trans hgR)
  obtain rfl := Option.some.inj (Tryz.gSyn.symm.trans hgY)
  obtain rfl := Option.some.inj (Tryz.gWords.symm.trans hg0)
  obtain rfl := Option.some.inj (Tryz.gSigns.symm.trans hg1)
  obtain rfl := Option.some.inj (Tryz.gShps.symm.trans hgS)
  obtain rfl := Option.some.inj (Tryz.tPows.symm.trans htP)
  obtain rfl := Option.some.inj (Tryz.tRng.symm.trans htR)
  obtain rfl := Option.some.inj (Tryz.tSyn.symm.trans htY)
  obtain rfl := Option.some.inj (Tryz.tWords.symm.trans ht0)
  obtain rfl := Option.some.inj (Tryz.tSigns.symm.trans ht1)
  obtain rfl := Option.some.inj (Tryz.tShps.symm.trans htS)
  have eP := Lib.cells_of_tab (zs := Lib.pow10Tab) Tryz.underlying259 Tryz.underlying161 Tryz.cellsU64 Tryz.cellsPows hdP
  have e0 := strs_of_tab (ls := wordsL) Tryz.underlying270 Tryz.underlying9 Tryz.cellsStr Tryz.cellsWords hd0
  have e1 := strs_of_tab (ls := signsL) Tryz.underlying256 Tryz.underlying9 Tryz.cellsStr Tryz.cellsSigns hd1
  have c0 : ∀ i, i < 13 → W.cell? ⟨8, i, none⟩ = some (.string (wordB i)) := fun i hi => by
    have hl : i < wordsL.length := by simpa [wordsL] using hi
    rw [World.var?_cell hg0 hv0 i, ← Array.getElem?_toList, e0, List.getElem?_map, List.getElem?_eq_getElem hl, Option.map_some]
    unfold wordB
    rw [List.getD_eq_getElem?_getD, List.getElem?_eq_getElem hl]
    rfl
  have c1 : ∀ i, i < 23 → W.cell? ⟨4, i, none⟩ = some (.string (signB i)) := fun i hi => by
    have hl : i < signsL.length := by simpa [signsL, twoL, oneL] using hi
    rw [World.var?_cell hg1 hv1 i, ← Array.getElem?_toList, e1, List.getElem?_map, List.getElem?_eq_getElem hl, Option.map_some]
    unfold signB
    rw [List.getD_eq_getElem?_getD, List.getElem?_eq_getElem hl]
    rfl
  have hS : ∀ i, i < 30 → W.cell? ⟨0, i * 4, none⟩ = some (.string (bs (opW.getD i []))) ∧ W.cell? ⟨0, i * 4 + 1, none⟩ = some (.int .i64 (akL.getD i 0)) ∧ W.cell? ⟨0, i * 4 + 2, none⟩ = some (.int .i64 (tkL.getD i 0)) ∧ W.cell? ⟨0, i * 4 + 3, none⟩ = some (.int .i64 (lvL.getD i 0)) := by
    intro i hi
    obtain ⟨xs, m, _, he, hl, hlen, hf⟩ := DataW.trod_array Tryz.underlying124 hdS
    have hx := hf i hi
    have e := congrArg Prod.fst he
    have e' : xs.map (·.1) = (List.range 30).map shpD := by
      have : (DataW.agg ((List.range 30).map shpD) : DataW Unit) = .agg (xs.map (·.1)) := shps_eq.symm.trans e
      exact (DataW.agg.inj this).symm
    obtain ⟨x, hxi⟩ : ∃ x, xs[i]? = some x := ⟨xs[i]'(by omega), List.getElem?_eq_getElem (by omega)⟩
    have hxd : x.1 = shpD i := by
      have := congrArg (·[i]?) e'
      simpa [hxi, hi] using this
    rw [hxi, Tryz.cellsShp] at hx
    obtain ⟨y0, y1, y2, y3⟩ := shp_row (p := x.2) (by rw [← hxd]; exact hx)
    simp only [List.getElem?_take, List.getElem?_drop] at y0 y1 y2 y3
    refine ⟨?_, ?_, ?_, ?_⟩
    · rw [World.var?_cell hgS hvS, ← Array.getElem?_toList]; simpa using y0
    · rw [World.var?_cell hgS hvS, ← Array.getElem?_toList]; simpa using y1
    · rw [World.var?_cell hgS hvS, ← Array.getElem?_toList]; simpa using y2
    · rw [World.var?_cell hgS hvS, ← Array.getElem?_toList]; simpa using y3
  obtain ⟨uR, vR, eR⟩ := iface_of_trod Tryz.underlying81 hdR
  obtain ⟨uY, vY, eY⟩ := iface_of_trod Tryz.underlying81 hdY
  have kR : W.cell? ⟨7, 0, none⟩ = some (.iface uR vR) := by rw [World.var?_cell hgR hvR 0, ← Array.getElem?_toList, eR]; rfl
  have kY : W.cell? ⟨6, 0, none⟩ = some (.iface uY vY) := by rw [World.var?_cell hgY hvY 0, ← Array.getElem?_toList, eY]; rfl
  have h0 := cell_ltC (c0 0 (by omega))
  have h1 := cell_ltC (c1 0 (by omega))
  have h2 := cell_ltC (hS 0 (by omega)).1
  have h3 := cell_ltC kR
  have h4 := cell_ltC kY
  have h5 : 5 < W.heap.size := cell_ltC (o := 0) (v := .int .u64 1) (by
    rw [World.var?_cell hgP hvP 0, ← Array.getElem?_toList, eP]
    rfl)
  refine ⟨⟨⟨c0, c1, by omega⟩, ⟨hS, h2⟩⟩, ?_, ⟨uY, vY, kY⟩, ⟨uR, vR, kR⟩, hm⟩
  show W.var? Tryz.prog "internal/strconv.uint64pow10" = some _
  have : csP = (Lib.pow10Tab.map fun z => Value.int .u64 z).toArray := by rw [← eP]
  rw [← this]
  exact hvP
end Go.Proofs.YtbhlockoeiedcaaGreatDoor
