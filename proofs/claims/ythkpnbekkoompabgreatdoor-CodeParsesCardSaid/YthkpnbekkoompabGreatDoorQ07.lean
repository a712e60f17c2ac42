/-
  The statements' own word for code that isn't long.
  What the listed variables hold: the tables of words and signs, that of the powers of ten and that of the shapes, and the two errors, lie as the program's text lays them.
  Code that comes in as a parameter: where its procedures and its instructions lie; and the lift to the row, which hands on the world's shape.
-/
import Derived.Test.YthkpnbekkoompabGreatDoorQ06
import Derived.LoopTactic
import Derived.Test.YthkpnbekkoompabGreatDoorRows
import Derived.ProofKit
import Derived.LaidMore
import Derived.Stop.Joined
import Derived.Lib.LaidTab
import Derived.OpenShut
import Derived.Lib.SmallJoins
import Derived.Lib.LaidU8
import Derived.Deep.Slices
import Derived.Clock
namespace Go.Proofs.YthkpnbekkoompabGreatDoor
open Go.RowKit

/-- Code that isn't long. -/
def fewM (c : CoM) : Prop := (∀ p ∈ c.ps, p.name.length ≤ 60) ∧ c.ps.length ≤ 20 ∧ c.is.length ≤ 120

end Go.Proofs.YthkpnbekkoompabGreatDoor

namespace Go.Proofs.YthkpnbekkoompabGreatDoor
open Go.ChangeShapes Go.WideShapes Go.ChangeAt Go.RowKit

theorem strs_of_tab {H : Type} {enc : TypeId × Value → H} {P : Program} {w : World} {base : Nat} {sp : Nat → Bool} {held : Bool} {fuel : Nat} {t e : TypeId} {n : Nat} {cs : List Value} {ls : List (List UInt8)} {p : List MemPlace}
    (ht : P.underlying t = some (.array n e)) (he : P.underlying e = some .string) (hce : P.cellsOf e = 1) (hct : P.cellsOf t = n)
    (h : DataW.trod enc P w base sp held fuel t cs = some (.agg (ls.map fun l => .lit (.string l)), p)) : cs = ls.map fun l => Value.string (bs l) := by
  cases fuel with
  | zero => simp [DataW.trod] at h
  | succ fuel =>
    simp only [DataW.trod, ht, hce, hct, Nat.mul_one] at h
    split at h
    · rename_i hl
      obtain ⟨xs, hm, hx⟩ := Option.map_eq_some_iff.1 h
      have hxs : xs.map (·.1) = ls.map fun l => (DataW.lit (.string l) : DataW H) := by
        have := congrArg Prod.fst hx
        simpa using this
      have hxl : xs.length = n := by simpa using Lib.mapM_length hm
      have hzl : ls.length = n := by
        have := congrArg List.length hxs
        simp at this
        omega
      apply List.ext_getElem?
      intro i
      by_cases hi : i < n
      · obtain ⟨b, hb, hf⟩ := Lib.mapM_at hm i i (by simp [hi])
        obtain ⟨z, hc, rfl, _⟩ := DataW.trod_string he hf
        have h1 : cs[i]? = some (.string z) := by
          have := congrArg (·[0]?) hc
          simpa [List.getElem?_take, List.getElem?_drop] using this
        have h2 : (xs.map (·.1))[i]? = some (DataW.lit (.string z.data.toList) : DataW H) := by simp [hb]
        rw [hxs] at h2
        simp only [List.getElem?_map, Option.map_eq_some_iff, DataW.lit.injEq, Lit.string.injEq] at h2
        obtain ⟨z', hz', e⟩ := h2
        rw [h1, List.getElem?_map, hz', Option.map_some, e]
        rfl
      · rw [List.getElem?_eq_none (by omega), List.getElem?_eq_none (by simp; omega)]
    · cases h

/-- The listed variables, as the rows list them. -/
abbrev laidC : List (String × DataW Unit) := [("math/bits.deBruijn32tab", Rows.laid_math_bits_deBruijn32tab), ("math/bits.deBruijn64tab", Rows.laid_math_bits_deBruijn64tab), ("internal/strconv.uint64pow10", Rows.laid_internal_strconv_uint64pow10), ("unicode/utf8.acceptRanges", Rows.laid_unicode_utf8_acceptRanges), ("strconv.ErrRange", Rows.laid_strconv_ErrRange), ("strconv.ErrSyntax", Rows.laid_strconv_ErrSyntax), ("rewind/token.words", Rows.laid_rewind_token_words), ("rewind/token.signs", Rows.laid_rewind_token_signs), ("rewind/code.shapes", Rows.laid_rewind_code_shapes), ("unicode/utf8.first", Rows.laid_unicode_utf8_first)]
theorem Tryz.gPows : Tryz.prog.globalNamed "internal/strconv.uint64pow10" = some 7 := by kernel_rfl
theorem Tryz.gRng : Tryz.prog.globalNamed "strconv.ErrRange" = some 6 := by kernel_rfl
theorem Tryz.gSyn : Tryz.prog.globalNamed "strconv.ErrSyntax" = some 5 := by kernel_rfl
theorem Tryz.gWords : Tryz.prog.globalNamed "rewind/token.words" = some 8 := by kernel_rfl
theorem Tryz.gSigns : Tryz.prog.globalNamed "rewind/token.signs" = some 4 := by kernel_rfl
theorem Tryz.gShps : Tryz.prog.globalNamed "rewind/code.shapes" = some 0 := by kernel_rfl
theorem Tryz.tPows : (Tryz.prog.globals[7]?).map (·.type) = some 163 := by kernel_rfl
theorem Tryz.tRng : (Tryz.prog.globals[6]?).map (·.type) = some 62 := by kernel_rfl
theorem Tryz.tSyn : (Tryz.prog.globals[5]?).map (·.type) = some 62 := by kernel_rfl
theorem Tryz.tWords : (Tryz.prog.globals[8]?).map (·.type) = some 166 := by kernel_rfl
theorem Tryz.tSigns : (Tryz.prog.globals[4]?).map (·.type) = some 155 := by kernel_rfl
theorem Tryz.tShps : (Tryz.prog.globals[0]?).map (·.type) = some 84 := by kernel_rfl
theorem Tryz.cellsPows : Tryz.prog.cellsOf 163 = 20 := by kernel_rfl
theorem Tryz.cellsWords : Tryz.prog.cellsOf 166 = 13 := by kernel_rfl
theorem Tryz.cellsSigns : Tryz.prog.cellsOf 155 = 23 := by kernel_rfl
theorem Tryz.cellsShps : Tryz.prog.cellsOf 84 = 120 := by kernel_rfl
theorem Tryz.cellsShp : Tryz.prog.cellsOf 83 = 4 := by kernel_rfl
theorem Tryz.cellsStr : Tryz.prog.cellsOf 9 = 1 := by kernel_rfl
theorem Tryz.cellsInt : Tryz.prog.cellsOf 3 = 1 := by kernel_rfl
theorem Tryz.cellsU64 : Tryz.prog.cellsOf 125 = 1 := by kernel_rfl

theorem cell_ltC {w : World} {b o : Nat} {v : Value} (h : w.cell? ⟨b, o, none⟩ = some v) : b < w.heap.size := by
  rcases Nat.lt_or_ge b w.heap.size with hl | hl
  · exact hl
  · simp [World.cell?, Array.getElem?_eq_none hl] at h

/-- An interface value that is one of a type, as it reads. -/
theorem iface_of_trod {H : Type} {enc : TypeId × Value → H} {P : Program} {w : World} {base : Nat} {sp : Nat → Bool} {held : Bool} {fuel : Nat} {t : TypeId} {ms : Array (String × TypeId)} {cs : List Value} {nm : String} {d : DataW H} {p : List MemPlace}
    (ht : P.underlying t = some (.interface ms)) (h : DataW.trod enc P w base sp held fuel t cs = some (.iface nm d, p)) : ∃ u v, cs = [.iface u v] := by
  cases fuel with
  | zero => simp [DataW.trod] at h
  | succ n =>
    unfold DataW.trod at h
    rw [ht] at h
    split at h
    all_goals first
      | exact ⟨_, _, rfl⟩
      | (simp_all; done)
      | cases h
/-- A shape, as it reads. -/
def shpD (i : Nat) : DataW Unit := .agg [.lit (.string (opW.getD i [])), .lit (.int .i64 (akL.getD i 0)), .lit (.int .i64 (tkL.getD i 0)), .lit (.int .i64 (lvL.getD i 0))]
theorem shps_eq : (Rows.laid_rewind_code_shapes : DataW Unit) = .agg ((List.range 30).map shpD) := rfl
theorem shp_row {W : World} {base m : Nat} {sp : Nat → Bool} {held : Bool} {cs : List Value} {i : Nat} {p : List MemPlace}
    (h : DataW.trod (fun _ => ()) Tryz.prog W base sp held m 83 cs = some (shpD i, p)) :
    cs[0]? = some (.string (bs (opW.getD i []))) ∧ cs[1]? = some (.int .i64 (akL.getD i 0)) ∧ cs[2]? = some (.int .i64 (tkL.getD i 0)) ∧ cs[3]? = some (.int .i64 (lvL.getD i 0)) := by
  obtain ⟨xs, n, _, he, hl, hlen, hf⟩ := DataW.trod_struct Tryz.underlying83 h
  have e := congrArg Prod.fst he
  simp only [shpD, DataW.agg.injEq] at e
  match xs, hlen, e with
  | [a0, a1, a2, a3], _, e =>
    simp only [List.map_cons, List.map_nil, List.cons.injEq, and_true] at e
    obtain ⟨e0, e1, e2, e3⟩ := e
    have f0 := hf 0 _ rfl
    have f1 := hf 1 _ rfl
    have f2 := hf 2 _ rfl
    have f3 := hf 3 _ rfl
    obtain ⟨s, c0, x0, _⟩ := DataW.trod_string Tryz.underlying9 f0
    obtain ⟨n1, c1, x1, _⟩ := DataW.trod_int Tryz.underlying3 f1
    obtain ⟨n2, c2, x2, _⟩ := DataW.trod_int Tryz.underlying3 f2
    obtain ⟨n3, c3, x3, _⟩ := DataW.trod_int Tryz.underlying3 f3
    rw [x0] at e0; rw [x1] at e1; rw [x2] at e2; rw [x3] at e3
    simp only [DataW.lit.injEq, Lit.string.injEq, Lit.int.injEq, true_and] at e0 e1 e2 e3
    have g0 : cs[0]? = some (.string s) := by
      have := congrArg (·[0]?) c0
      simpa [List.getElem?_take, List.getElem?_drop, Tryz.cellsStr] using this
    have g1 : cs[1]? = some (.int .i64 n1) := by
      have := congrArg (·[0]?) c1
      simpa [List.getElem?_take, List.getElem?_drop, Tryz.cellsInt] using this
    have g2 : cs[2]? = some (.int .i64 n2) := by
      have := congrArg (·[0]?) c2
      simpa [List.getElem?_take, List.getElem?_drop, Tryz.cellsInt] using this
    have g3 : cs[3]? = some (.int .i64 n3) := by
      have := congrArg (·[0]?) c3
      simpa [List.getElem?_take, List.getElem?_drop, Tryz.cellsInt] using this
    rw [e0, e1, e2, e3]
    exact ⟨g0, g1, g2, g3⟩
/-- What the condition gives the walks. -/
theorem tx_of_laid {W : World} (h : laidMetH Tryz.prog laidC W) (hm : ∃ m, W.cell? ⟨1, 0, none⟩ = some (.int .i64 m)) : TX W := by
  rw [MakeChecks.laidMetH_plain _ _ _ (by kernel_rfl)] at h
  obtain ⟨ps, ⟨_, _, _, _, _, _, _, _, _, _, ⟨_, _, _, _, _, _, _, _, _, _, ⟨gP, tP, csP, fP, pP, qP, hgP, htP, hvP, hdP, ⟨_, _, _, _, _, _, _, _, _, _, ⟨gR, tR, csR, fR, pR, qR, hgR, htR, hvR, hdR, ⟨gY, tY, csY, fY, pY, qY, hgY, htY, hvY, hdY, ⟨g0, t0, cs0, f0, p0, q0, hg0, ht0, hv0, hd0, ⟨g1, t1, cs1, f1, p1, q1, hg1, ht1, hv1, hd1, ⟨gS, tS, csS, fS, pS, qS, hgS, htS, hvS, hdS, _, _⟩, _⟩, _⟩, _⟩, _⟩, _⟩, _⟩, _⟩, _⟩, _, _⟩ := h
  obtain rfl := Option.some.inj (Tryz.gPows.symm.trans hgP)
  obtain rfl := Option.some.inj (Tryz.gRng.symm.trans hgR)
  obtain rfl := Option.some.inj (Tryz.gSyn.symm.trans hgY)
  obtain rfl := Option.some.inj (Tryz.gWords.symm.trans hg0)
  obtain rfl := Option.some.inj (Tryz.gSigns.symm.trans hg1)
  obtain rfl := Option.some.inj (Tryz.gShps.symm.trans hgS)
  obtain rfl := Option.some.inj (Tryz.tPows.symm.trans htP)
  obtain rfl := Option.some.inj (Tryz.tRng.symm.trans htR)
  obtain rfl := Option.some.inj (Tryz.tSyn.symm.trans htY)
  obtain rfl := Option.some.inj (Tryz.tWords.symm.trans ht0)
  obtain rfl := Option.some.inj (Tryz.tSigns.symm.trans ht1)
  obtain rfl := Option.some.inj (Tryz.tShps.symm.trans htS)
  have eP := Lib.cells_of_tab (zs := Lib.pow10Tab) Tryz.underlying163 Tryz.underlying125 Tryz.cellsU64 Tryz.cellsPows hdP
  have e0 := strs_of_tab (ls := wordsL) Tryz.underlying166 Tryz.underlying9 Tryz.cellsStr Tryz.cellsWords hd0
  have e1 := strs_of_tab (ls := signsL) Tryz.underlying155 Tryz.underlying9 Tryz.cellsStr Tryz.cellsSigns hd1
  have c0 : ∀ i, i < 13 → W.cell? ⟨8, i, none⟩ = some (.string (wordB i)) := fun i hi => by
    have hl : i < wordsL.length := by simpa [wordsL] using hi
    rw [World.var?_cell hg0 hv0 i, ← Array.getElem?_toList, e0, List.getElem?_map, List.getElem?_eq_getElem hl, Option.map_some]
    unfold wordB
    rw [List.getD_eq_getElem?_getD, List.getElem?_eq_getElem hl]
    rfl
  have c1 : ∀ i, i < 23 → W.cell? ⟨4, i, none⟩ = some (.string (signB i)) := fun i hi => by
    have hl : i < signsL.length := by simpa [signsL, twoL, oneL] using hi
    rw [World.var?_cell hg1 hv1 i, ← Array.getElem?_toList, e1, List.getElem?_map, List.getElem?_eq_getElem hl, Option.map_some]
    unfold signB
    rw [List.getD_eq_getElem?_getD, List.getElem?_eq_getElem hl]
    rfl
  have hS : ∀ i, i < 30 → W.cell? ⟨0, i * 4, none⟩ = some (.string (bs (opW.getD i []))) ∧ W.cell? ⟨0, i * 4 + 1, none⟩ = some (.int .i64 (akL.getD i 0)) ∧ W.cell? ⟨0, i * 4 + 2, none⟩ = some (.int .i64 (tkL.getD i 0)) ∧ W.cell? ⟨0, i * 4 + 3, none⟩ = some (.int .i64 (lvL.getD i 0)) := by
    intro i hi
    obtain ⟨xs, m, _, he, hl, hlen, hf⟩ := DataW.trod_array Tryz.underlying84 hdS
    have hx := hf i hi
    have e := congrArg Prod.fst he
    have e' : xs.map (·.1) = (List.range 30).map shpD := by
      have : (DataW.agg ((List.range 30).map shpD) : DataW Unit) = .agg (xs.map (·.1)) := shps_eq.symm.trans e
      exact (DataW.agg.inj this).symm
    obtain ⟨x, hxi⟩ : ∃ x, xs[i]? = some x := ⟨xs[i]'(by omega), List.getElem?_eq_getElem (by omega)⟩
    have hxd : x.1 = shpD i := by
      have := congrArg (·[i]?) e'
      simpa [hxi, hi] using this
    rw [hxi, Tryz.cellsShp] at hx
    obtain ⟨y0, y1, y2, y3⟩ := shp_row (p := x.2) (by rw [← hxd]; exact hx)
    simp only [List.getElem?_take, List.getElem?_drop] at y0 y1 y2 y3
    refine ⟨?_, ?_, ?_, ?_⟩
    · rw [World.var?_cell hgS hvS, ← Array.getElem?_toList]; simpa using y0
    · rw [World.var?_cell hgS hvS, ← Array.getElem?_toList]; simpa using y1
    · rw [World.var?_cell hgS hvS, ← Array.getElem?_toList]; simpa using y2
    · rw [World.var?_cell hgS hvS, ← Array.getElem?_toList]; simpa using y3
  obtain ⟨uR, vR, eR⟩ := iface_of_trod Tryz.underlying62 hdR
  obtain ⟨uY, vY, eY⟩ := iface_of_trod Tryz.underlying62 hdY
  have kR : W.cell? ⟨6, 0, none⟩ = some (.iface uR vR) := by rw [World.var?_cell hgR hvR 0, ← Array.getElem?_toList, eR]; rfl
  have kY : W.cell? ⟨5, 0, none⟩ = some (.iface uY vY) := by rw [World.var?_cell hgY hvY 0, ← Array.getElem?_toList, eY]; rfl
  have h0 := cell_ltC (c0 0 (by omega))
  have h1 := cell_ltC (c1 0 (by omega))
  have h2 := cell_ltC (hS 0 (by omega)).1
  have h3 := cell_ltC kR
  have h4 := cell_ltC kY
  have h5 : 7 < W.heap.size := cell_ltC (o := 0) (v := .int .u64 1) (by
    rw [World.var?_cell hgP hvP 0, ← Array.getElem?_toList, eP]
    rfl)
  refine ⟨⟨⟨c0, c1, by omega⟩, ⟨hS, h2⟩⟩, ?_, ⟨uY, vY, kY⟩, ⟨uR, vR, kR⟩, hm⟩
  show W.var? Tryz.prog "internal/strconv.uint64pow10" = some _
  have : csP = (Lib.pow10Tab.map fun z => Value.int .u64 z).toArray := by rw [← eP]
  rw [← this]
  exact hvP
end Go.Proofs.YthkpnbekkoompabGreatDoor

namespace Go.Proofs.YthkpnbekkoompabGreatDoor
open Go.ChangeShapes Go.WideShapes Go.ChangeAt Go.RowKit Go.Joins

theorem Tryz.cellsPr : Tryz.prog.cellsOf 56 = 6 := by kernel_rfl
theorem Tryz.cellsIn : Tryz.prog.cellsOf 42 = 3 := by kernel_rfl
theorem Tryz.cellsCo : Tryz.prog.cellsOf 26 = 2 := by kernel_rfl
theorem Tryz.own : ownKnob Tryz.prog.godebug = none := by kernel_rfl
theorem Tryz.laidOut : laidOutB Tryz.prog = true := by kernel_rfl

theorem wf_i64 {n : Int} (h : (Lit.int .i64 n).wf = true) : i64 n := by
  have e1 : IntKind.i64.min = -9223372036854775808 := rfl
  have e2 : IntKind.i64.max = 9223372036854775807 := rfl
  simp [Lit.wf, e1, e2] at h
  exact h
theorem head_of {cs : List Value} {o : Nat} {v : Value} (h : (cs.drop o).take 1 = [v]) : cs[o]? = some v := by
  have := congrArg (·[0]?) h
  simpa [List.getElem?_take, List.getElem?_drop] using this
theorem pr_row {H : Type} {enc : TypeId × Value → H} {W : World} {base m : Nat} {sp : Nat → Bool} {held : Bool} {cs : List Value} {x : DataW H × List MemPlace}
    (h : DataW.trod enc Tryz.prog W base sp held m 56 cs = some x) :
    ∃ q : PrM, (q.fit ∧ q.name.length ≤ maxLen) ∧ cs[0]? = some (.string (bs q.name)) ∧ cs[1]? = some (.int .i64 q.frm) ∧ cs[2]? = some (.int .i64 q.to) ∧ cs[3]? = some (.int .i64 q.par) ∧ cs[4]? = some (.int .i64 q.slo) ∧ cs[5]? = some (.int .i64 q.typ) := by
  obtain ⟨xs, n, _, he, hl, hlen, hf⟩ := DataW.trod_struct Tryz.underlying56 h
  match xs, hlen with
  | [a0, a1, a2, a3, a4, a5], _ =>
    have f0 := hf 0 _ rfl
    have f1 := hf 1 _ rfl
    have f2 := hf 2 _ rfl
    have f3 := hf 3 _ rfl
    have f4 := hf 4 _ rfl
    have f5 := hf 5 _ rfl
    obtain ⟨s, c0, _, l0⟩ := DataW.trod_string Tryz.underlying9 f0
    obtain ⟨n1, c1, _, l1⟩ := DataW.trod_int Tryz.underlying3 f1
    obtain ⟨n2, c2, _, l2⟩ := DataW.trod_int Tryz.underlying3 f2
    obtain ⟨n3, c3, _, l3⟩ := DataW.trod_int Tryz.underlying3 f3
    obtain ⟨n4, c4, _, l4⟩ := DataW.trod_int Tryz.underlying3 f4
    obtain ⟨n5, c5, _, l5⟩ := DataW.trod_int Tryz.underlying3 f5
    replace c0 : (cs.drop 0).take (Tryz.prog.cellsOf 9) = _ := c0
    replace c1 : (cs.drop 1).take (Tryz.prog.cellsOf 3) = _ := c1
    replace c2 : (cs.drop 2).take (Tryz.prog.cellsOf 3) = _ := c2
    replace c3 : (cs.drop 3).take (Tryz.prog.cellsOf 3) = _ := c3
    replace c4 : (cs.drop 4).take (Tryz.prog.cellsOf 3) = _ := c4
    replace c5 : (cs.drop 5).take (Tryz.prog.cellsOf 3) = _ := c5
    rw [Tryz.cellsStr] at c0
    rw [Tryz.cellsInt] at c1 c2 c3 c4 c5
    refine ⟨⟨s.data.toList, n1, n2, n3, n4, n5⟩, ⟨⟨wf_i64 l1, wf_i64 l2, wf_i64 l3, wf_i64 l4, wf_i64 l5⟩, ?_⟩, head_of c0, head_of c1, head_of c2, head_of c3, head_of c4, head_of c5⟩
    show s.data.toList.length ≤ maxLen
    have : s.data.toList.length = s.size := Array.length_toList
    omega
theorem in_row {H : Type} {enc : TypeId × Value → H} {W : World} {base m : Nat} {sp : Nat → Bool} {held : Bool} {cs : List Value} {x : DataW H × List MemPlace}
    (h : DataW.trod enc Tryz.prog W base sp held m 42 cs = some x) :
    ∃ q : InM, q.fit ∧ cs[0]? = some (.int .i64 q.op) ∧ cs[1]? = some (.int .i64 q.arg) ∧ cs[2]? = some (.int .i64 q.mor) := by
  obtain ⟨xs, n, _, he, hl, hlen, hf⟩ := DataW.trod_struct Tryz.underlying42 h
  match xs, hlen with
  | [a0, a1, a2], _ =>
    have f0 := hf 0 _ rfl
    have f1 := hf 1 _ rfl
    have f2 := hf 2 _ rfl
    obtain ⟨n0, c0, _, l0⟩ := DataW.trod_int Tryz.underlying3 f0
    obtain ⟨n1, c1, _, l1⟩ := DataW.trod_int Tryz.underlying3 f1
    obtain ⟨n2, c2, _, l2⟩ := DataW.trod_int Tryz.underlying3 f2
    replace c0 : (cs.drop 0).take (Tryz.prog.cellsOf 3) = _ := c0
    replace c1 : (cs.drop 1).take (Tryz.prog.cellsOf 3) = _ := c1
    replace c2 : (cs.drop 2).take (Tryz.prog.cellsOf 3) = _ := c2
    rw [Tryz.cellsInt] at c0 c1 c2
    exact ⟨⟨n0, n1, n2⟩, ⟨wf_i64 l0, wf_i64 l1, wf_i64 l2⟩, head_of c0, head_of c1, head_of c2⟩
theorem list_of {α : Type} (P : Nat → α → Prop) : ∀ n, (∀ i, i < n → ∃ x, P i x) → ∃ l : List α, l.length = n ∧ ∀ i (h : i < l.length), P i l[i]
  | 0, _ => ⟨[], rfl, fun i h => by simp at h⟩
  | n + 1, h => by
    obtain ⟨l, hl, hp⟩ := list_of P n (fun i hi => h i (by omega))
    obtain ⟨x, hx⟩ := h n (by omega)
    refine ⟨l ++ [x], by simp [hl], fun i hi => ?_⟩
    rw [List.length_append, List.length_singleton] at hi
    by_cases hk : i < l.length
    · rw [List.getElem_append_left hk]; exact hp i hk
    · obtain rfl : i = n := by omega
      rw [List.getElem_append_right (by omega)]
      simpa [hl] using hx
theorem prs_open {H : Type} {enc : TypeId × Value → H} {W : World} {m : Nat} {held : Bool} {v : Value} {x : DataW H × List MemPlace}
    (h : DataW.trod enc Tryz.prog W 0 (fun _ => true) held m 23 [v] = some x) :
    ∃ A c, ∃ ps : List PrM, v = .slice A ps.length c ∧ PrAt W W.heap.size A ps ∧ ps.length ≤ c ∧ c ≤ maxLen ∧ ∀ p ∈ ps, p.fit ∧ p.name.length ≤ maxLen := by
  rcases Go.Deep.open_slice Tryz.underlying23 h with ⟨hcs, _⟩ | ⟨a, len, cap, k, n, D, Pl, hcs, _, hl, hm, hk, _, hel⟩
  · obtain rfl : v = .slice none 0 0 := (List.cons.inj hcs).1
    exact ⟨none, 0, [], rfl, fun h => absurd h (by simp), by simp, by simp, by simp⟩
  · obtain rfl := (List.cons.inj hcs).1
    have hk' : k = cap := by rw [hk]; simp
    obtain ⟨ps, hps, hp⟩ := list_of (fun i (q : PrM) => (q.fit ∧ q.name.length ≤ maxLen) ∧ W.cell? ((a.add (i * 6)).add 0) = some (.string (bs q.name)) ∧ W.cell? ((a.add (i * 6)).add 1) = some (.int .i64 q.frm) ∧ W.cell? ((a.add (i * 6)).add 2) = some (.int .i64 q.to) ∧ W.cell? ((a.add (i * 6)).add 3) = some (.int .i64 q.par) ∧ W.cell? ((a.add (i * 6)).add 4) = some (.int .i64 q.slo) ∧ W.cell? ((a.add (i * 6)).add 5) = some (.int .i64 q.typ)) len (fun i hi => by
      obtain ⟨cs', h1, h2⟩ := hel i (by omega)
      rw [Tryz.cellsPr] at h1
      obtain ⟨_, _, hcc⟩ := World.cells?_some h1
      obtain ⟨q, hq, g0, g1, g2, g3, g4, g5⟩ := pr_row h2
      exact ⟨q, hq, (hcc 0 (by omega)).trans g0, (hcc 1 (by omega)).trans g1, (hcc 2 (by omega)).trans g2, (hcc 3 (by omega)).trans g3, (hcc 4 (by omega)).trans g4, (hcc 5 (by omega)).trans g5⟩)
    subst hps
    refine ⟨some a, cap, ps, rfl, fun hn => ?_, hl, hm, fun p hpm => ?_⟩
    · have h00 := (hp 0 hn).2.1
      obtain ⟨b, off, sp⟩ := a
      have : (Addr.add (Addr.add ⟨b, off, sp⟩ (0 * 6)) 0) = ⟨b, off, sp⟩ := by simp [Addr.add]
      rw [this] at h00
      obtain rfl := Go.Proofs.cell_spot h00
      refine ⟨b, off, rfl, ltC h00, fun i hi => ?_⟩
      have := (hp i hi).2
      simp only [Addr.add_lit] at this
      exact this
    · obtain ⟨i, hi, rfl⟩ := List.mem_iff_getElem.1 hpm
      exact (hp i hi).1
theorem ins_open {H : Type} {enc : TypeId × Value → H} {W : World} {m : Nat} {held : Bool} {v : Value} {x : DataW H × List MemPlace}
    (h : DataW.trod enc Tryz.prog W 0 (fun _ => true) held m 24 [v] = some x) :
    ∃ A c, ∃ is : List InM, v = .slice A is.length c ∧ InAt W W.heap.size A is ∧ is.length ≤ c ∧ c ≤ maxLen ∧ ∀ p ∈ is, p.fit := by
  rcases Go.Deep.open_slice Tryz.underlying24 h with ⟨hcs, _⟩ | ⟨a, len, cap, k, n, D, Pl, hcs, _, hl, hm, hk, _, hel⟩
  · obtain rfl : v = .slice none 0 0 := (List.cons.inj hcs).1
    exact ⟨none, 0, [], rfl, fun h => absurd h (by simp), by simp, by simp, by simp⟩
  · obtain rfl := (List.cons.inj hcs).1
    have hk' : k = cap := by rw [hk]; simp
    obtain ⟨ps, hps, hp⟩ := list_of (fun i (q : InM) => q.fit ∧ W.cell? ((a.add (i * 3)).add 0) = some (.int .i64 q.op) ∧ W.cell? ((a.add (i * 3)).add 1) = some (.int .i64 q.arg) ∧ W.cell? ((a.add (i * 3)).add 2) = some (.int .i64 q.mor)) len (fun i hi => by
      obtain ⟨cs', h1, h2⟩ := hel i (by omega)
      rw [Tryz.cellsIn] at h1
      obtain ⟨_, _, hcc⟩ := World.cells?_some h1
      obtain ⟨q, hq, g0, g1, g2⟩ := in_row h2
      exact ⟨q, hq, (hcc 0 (by omega)).trans g0, (hcc 1 (by omega)).trans g1, (hcc 2 (by omega)).trans g2⟩)
    subst hps
    refine ⟨some a, cap, ps, rfl, fun hn => ?_, hl, hm, fun p hpm => ?_⟩
    · have h00 := (hp 0 hn).2.1
      obtain ⟨b, off, sp⟩ := a
      have : (Addr.add (Addr.add ⟨b, off, sp⟩ (0 * 3)) 0) = ⟨b, off, sp⟩ := by simp [Addr.add]
      rw [this] at h00
      obtain rfl := Go.Proofs.cell_spot h00
      refine ⟨b, off, rfl, ltC h00, fun i hi => ?_⟩
      have := (hp i hi).2
      simp only [Addr.add_lit] at this
      exact this
    · obtain ⟨i, hi, rfl⟩ := List.mem_iff_getElem.1 hpm
      exact (hp i hi).1
set_option maxRecDepth 100000 in
/-- A parameter that is code, opened. -/
theorem code_open {H : Type} {enc : TypeId × Value → H} {W : World} {r : Reach} {b0 : Nat} {held : Bool} {v : Value} {d : DataW H} {p : List MemPlace}
    (hv : Value.okWide Tryz.prog W r b0 26 v) (h : DataW.Trod enc Tryz.prog W 0 (fun _ => true) held 26 v d p) :
    ∃ A c1 A2 c2, ∃ c : CoM, v = coV A c1 A2 c2 c ∧ CoAt W W.heap.size A c1 A2 c2 c ∧ ∀ p ∈ c.ps, p.name.length ≤ maxLen := by
  obtain ⟨va, vb, ya, yb, n, rfl, _, _, ha, hb⟩ := open_agg2 Tryz.underlying26 (by kernel_rfl) Tryz.cellsCo hv h
  obtain ⟨A, c1, ps, rfl, hps, hl1, hm1, hf1⟩ := prs_open ha
  obtain ⟨A2, c2, is, rfl, his, hl2, hm2, hf2⟩ := ins_open hb
  exact ⟨A, c1, A2, c2, ⟨ps, is⟩, rfl, ⟨hps, his, hl1, hl2, ⟨hm1, hm2⟩, fun p hp => (hf1 p hp).1, hf2⟩, fun p hp => (hf1 p hp).2⟩

set_option maxRecDepth 100000 in
/-- The variable that is named but not listed holds some int. -/
theorem maxlen_cell {w : World} (h : w.ShapedOpen Tryz.prog) : ∃ m, w.cell? ⟨1, 0, none⟩ = some (.int .i64 m) := by
  obtain ⟨cs, hh, hs, hr⟩ := h.1 1 #[.int .i64 0] 3 (of_decide_eq_true (by kernel_rfl)) (by kernel_rfl)
  obtain ⟨ts, hts, _, hall⟩ := hr (by kernel_rfl)
  obtain rfl : [3] = ts := Option.some.inj ((show Tryz.prog.cellTypes Tryz.prog.depth 3 = some [3] by kernel_rfl).symm.trans hts)
  have h1 : 0 < cs.size := by rw [hs]; decide
  obtain ⟨u, hu', hok⟩ := hall 0 cs[0] (by simp [h1])
  obtain rfl : 3 = u := by simpa using hu'
  have hcell : w.cell? ⟨1, 0, none⟩ = some cs[0] := by simp [World.cell?, hh, h1]
  rw [hcell]
  unfold Cell.ok at hok
  rw [Tryz.underlying3] at hok
  cases hv : cs[0] <;> rw [hv] at hok <;> first | (obtain ⟨rfl, _⟩ := hok; exact ⟨_, rfl⟩) | simp at hok

set_option maxRecDepth 100000 in
/-- From a walk to the row, where the walk wants the world's shape besides. -/
theorem lift_shaped {H : Type} {enc : TypeId × Value → H} {os : Os} {f : FuncId} {fn : Func} {s : ChangeSpec} {laid : List (String × DataW Unit)} {held handsOn again : Bool} {conds : List PathCond}
    (started : os.Started) (noInit : Tryz.checked.prog.inits.idxOf? f = none) (hfn : Tryz.checked.prog.funcs[f]? = some fn)
    (wit : ∃ (w : World) (tape : Tape) (i : Input), w.os = os ∧ (w.forCall tape i).Shaped Tryz.checked.prog ∧ i.vars = [] ∧ Input.okWide Tryz.checked.prog (w.forCall tape i) .any w.heap.size f i ∧
      ((s.pre enc Tryz.checked.prog fn conds false (w.forCall tape i).memory i.args ∧ laidMetH Tryz.prog laid (w.forCall tape i).memory) ∧ sizedMet enc Tryz.checked.prog fn (OpenSpec.ofChange s) false (w.forCall tape i).memory i.args) ∧ ({} : Assume).holds Tryz.checked.prog (lone (Frame.enter Tryz.checked.prog f i.args .normal) [] (w.forCall tape i)))
    (walk : ∀ (W : World) (args : Array Value) (ds gs : List (DataW H)) (before : List MemPlace),
      W.ShapedOpen Tryz.prog → (∀ (j : Nat) t v, fn.params[j]? = some t → args[j]? = some v → Value.okWide Tryz.prog W .any W.heap.size t v) →
      DataW.Whole enc Tryz.prog fn.params.toList s.vars false W args.toList ds gs before → laidMetH Tryz.prog laid W →
      Calls Tryz.prog f args W fun e W' => ∃ v, e = .returned v ∧ s.post enc Tryz.prog fn false held handsOn again W args v W') :
    ReturnsInHanded {} Tryz.checked os f .any (fun w args => (s.pre enc Tryz.prog fn conds false w args ∧ laidMetH Tryz.prog laid w) ∧ sizedMet enc Tryz.prog fn (OpenSpec.ofChange s) false w args) (s.post enc Tryz.prog fn false held handsOn again) := by
  refine returnsInHanded_of_calls Tryz.own started noInit wit fun w tape i _ hsh _ hok hpre _ => ?_
  obtain ⟨_, _, _, fn', hfn', _, _, _, _, hval⟩ := hok
  obtain rfl : fn' = fn := Option.some.inj (hfn'.symm.trans hfn)
  obtain ⟨⟨⟨ds, gs, before, hw, _⟩, hx⟩, _⟩ := hpre
  refine (walk (w.forCall tape i) i.args ds gs before hsh hval (DataW.Whole.of_heap (w' := w.forCall tape i) (by rfl) hw) (hx.of_heap (by rfl))).mono fun e W' ⟨v, he, hp⟩ => ?_
  subst he
  exact ChangeSpec.post_blind hp
end Go.Proofs.YthkpnbekkoompabGreatDoor
