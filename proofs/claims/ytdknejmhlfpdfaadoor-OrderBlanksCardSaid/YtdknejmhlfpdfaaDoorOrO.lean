/-
  What the listed variables hold in layer 18's seat; an order that comes in as a parameter; the lift to the row.
-/
import Derived.Test.YtdknejmhlfpdfaaDoorRows
import Derived.Test.YtdknejmhlfpdfaaDoorOrL
import Derived.Test.YtdknejmhlfpdfaaDoorOrW
import Derived.ProofKit
import Derived.LaidMore
import Derived.Stop.Joined
import Derived.Lib.LaidTab
import Derived.Lib.LaidU8
import Derived.OpenShut
import Derived.Lib.SmallJoins
import Derived.Clock
namespace Go.Proofs.YtdknejmhlfpdfaaDoor
open Go.ChangeShapes Go.WideShapes Go.ChangeAt Go.RowKit Go.Joins

/-- The listed variables, as the rows list them. -/
abbrev laidO : List (String × DataW Unit) := [("math/bits.deBruijn32tab", Rows.laid_math_bits_deBruijn32tab), ("math/bits.deBruijn64tab", Rows.laid_math_bits_deBruijn64tab), ("internal/strconv.uint64pow10", Rows.laid_internal_strconv_uint64pow10), ("unicode/utf8.acceptRanges", Rows.laid_unicode_utf8_acceptRanges), ("strconv.ErrRange", Rows.laid_strconv_ErrRange), ("strconv.ErrSyntax", Rows.laid_strconv_ErrSyntax), ("rewind/token.words", Rows.laid_rewind_token_words), ("rewind/token.signs", Rows.laid_rewind_token_signs), ("rewind/order.shapes", Rows.laid_rewind_order_shapes), ("unicode/utf8.first", Rows.laid_unicode_utf8_first)]
theorem Tryd.gWords : Tryd.prog.globalNamed "rewind/token.words" = some 8 := by kernel_rfl
theorem Tryd.gSigns : Tryd.prog.globalNamed "rewind/token.signs" = some 7 := by kernel_rfl
theorem strs_of_tab {H : Type} {enc : TypeId × Value → H} {P : Program} {w : World} {base : Nat} {sp : Nat → Bool} {held : Bool} {fuel : Nat} {t e : TypeId} {n : Nat} {cs : List Value} {ls : List (List UInt8)} {p : List MemPlace}
    (ht : P.underlying t = some (.array n e)) (he : P.underlying e = some .string) (hce : P.cellsOf e = 1) (hct : P.cellsOf t = n)
    (h : DataW.trod enc P w base sp held fuel t cs = some (.agg (ls.map fun l => .lit (.string l)), p)) : cs = ls.map fun l => Value.string (bs l) := by
  cases fuel with
  | zero => simp [DataW.trod] at h
  | succ fuel =>
    simp only [DataW.trod, ht, hce, hct, Nat.mul_one] at h
    split at h
    · rename_i hl
      obtain ⟨xs, hm, hx⟩ := Option.map_eq_some_iff.1 h
      have hxs : xs.map (·.1) = ls.map fun l => (DataW.lit (.string l) : DataW H) := by
        have := congrArg Prod.fst hx
        simpa using this
      have hxl : xs.length = n := by simpa using Lib.mapM_length hm
      have hzl : ls.length = n := by
        have := congrArg List.length hxs
        simp at this
        omega
      apply List.ext_getElem?
      intro i
      by_cases hi : i < n
      · obtain ⟨b, hb, hf⟩ := Lib.mapM_at hm i i (by simp [hi])
        obtain ⟨z, hc, rfl, _⟩ := DataW.trod_string he hf
        have h1 : cs[i]? = some (.string z) := by
          have := congrArg (·[0]?) hc
          simpa [List.getElem?_take, List.getElem?_drop] using this
        have h2 : (xs.map (·.1))[i]? = some (DataW.lit (.string z.data.toList) : DataW H) := by simp [hb]
        rw [hxs] at h2
        simp only [List.getElem?_map, Option.map_eq_some_iff, DataW.lit.injEq, Lit.string.injEq] at h2
        obtain ⟨z', hz', e⟩ := h2
        rw [h1, List.getElem?_map, hz', Option.map_some, e]
        rfl
      · rw [List.getElem?_eq_none (by omega), List.getElem?_eq_none (by simp; omega)]
    · cases h
theorem Tryd.tWords : (Tryd.prog.globals[8]?).map (·.type) = some 125 := by kernel_rfl
theorem Tryd.tSigns : (Tryd.prog.globals[7]?).map (·.type) = some 123 := by kernel_rfl
theorem Tryd.cellsWords : Tryd.prog.cellsOf 125 = 13 := by kernel_rfl
theorem Tryd.cellsSigns : Tryd.prog.cellsOf 123 = 23 := by kernel_rfl
theorem Tryd.cellsStr : Tryd.prog.cellsOf 9 = 1 := by kernel_rfl
theorem cell_lt {w : World} {b o : Nat} {v : Value} (h : w.cell? ⟨b, o, none⟩ = some v) : b < w.heap.size := by
  rcases Nat.lt_or_ge b w.heap.size with hl | hl
  · exact hl
  · simp [World.cell?, Array.getElem?_eq_none hl] at h
theorem Tryd.gPows : Tryd.prog.globalNamed "internal/strconv.uint64pow10" = some 6 := by kernel_rfl
theorem Tryd.gRng : Tryd.prog.globalNamed "strconv.ErrRange" = some 5 := by kernel_rfl
theorem Tryd.gSyn : Tryd.prog.globalNamed "strconv.ErrSyntax" = some 4 := by kernel_rfl
theorem Tryd.gShapes : Tryd.prog.globalNamed "rewind/order.shapes" = some 0 := by kernel_rfl
theorem Tryd.tPows : (Tryd.prog.globals[6]?).map (·.type) = some 113 := by kernel_rfl
theorem Tryd.tRng : (Tryd.prog.globals[5]?).map (·.type) = some 59 := by kernel_rfl
theorem Tryd.tSyn : (Tryd.prog.globals[4]?).map (·.type) = some 59 := by kernel_rfl
theorem Tryd.tShapes : (Tryd.prog.globals[0]?).map (·.type) = some 36 := by kernel_rfl
theorem Tryd.cellsPows : Tryd.prog.cellsOf 113 = 20 := by kernel_rfl
theorem Tryd.cellsU64 : Tryd.prog.cellsOf 96 = 1 := by kernel_rfl
theorem Tryd.cellsSh : Tryd.prog.cellsOf 35 = 2 := by kernel_rfl
/-- An interface value that is one of a type, as it reads. -/
theorem iface_of_trod {H : Type} {enc : TypeId × Value → H} {P : Program} {w : World} {base : Nat} {sp : Nat → Bool} {held : Bool} {fuel : Nat} {t : TypeId} {ms : Array (String × TypeId)} {cs : List Value} {nm : String} {d : DataW H} {p : List MemPlace}
    (ht : P.underlying t = some (.interface ms)) (h : DataW.trod enc P w base sp held fuel t cs = some (.iface nm d, p)) : ∃ u v, cs = [.iface u v] := by
  cases fuel with
  | zero => simp [DataW.trod] at h
  | succ n =>
    unfold DataW.trod at h
    rw [ht] at h
    split at h
    all_goals first
      | exact ⟨_, _, rfl⟩
      | (simp_all; done)
      | cases h

theorem Tryd.cellsIntO : Tryd.prog.cellsOf 3 = 1 := by kernel_rfl
def shD {H : Type} : List (DataW H) := (List.range 20).map fun i => .agg [.lit (.string (kwB (i + 1))), .lit (.int .i64 (bhK (i + 1) : Nat))]
/-- The table of the kinds, as it reads. -/
theorem shapes_of_trod {H : Type} {enc : TypeId × Value → H} {w : World} {base : Nat} {sp : Nat → Bool} {held : Bool} {fuel : Nat} {cs : List Value} {p : List MemPlace}
    (h : DataW.trod enc Tryd.prog w base sp held fuel 36 cs = some (.agg shD, p)) (i : Nat) (hi : i < 20) : cs[i * 2]? = some (.string (bs (kwB (i + 1)))) ∧ cs[i * 2 + 1]? = some (.int .i64 (bhK (i + 1) : Nat)) := by
  obtain ⟨fuel', d, q, hd, ht⟩ := Lib.array_elem Tryd.underlying36 h i hi
  unfold shD at hd
  rw [List.getElem?_map, List.getElem?_range hi, Option.map_some, Option.some.injEq] at hd
  subst hd
  rw [Tryd.cellsSh] at ht
  obtain ⟨y0, y1, n, hx, hk, h0, h1⟩ := trod_struct2 Tryd.underlying35 ht
  injection hx with hx _
  injection hx with hx
  injection hx with e0 hx
  injection hx with e1 _
  change DataW.trod enc Tryd.prog w base sp held n 9 ((((cs.drop (i * 2)).take 2).drop 0).take (Tryd.prog.cellsOf 9)) = some y0 at h0
  change DataW.trod enc Tryd.prog w base sp held n 3 ((((cs.drop (i * 2)).take 2).drop 1).take (Tryd.prog.cellsOf 3)) = some y1 at h1
  rw [Tryd.cellsStr] at h0
  rw [Tryd.cellsIntO] at h1
  obtain ⟨z, c0, hz0, _⟩ := DataW.trod_string Tryd.underlying9 h0
  obtain ⟨v, c1, hz1, _⟩ := DataW.trod_int Tryd.underlying3 h1
  rw [hz0] at e0
  rw [hz1] at e1
  injection e0 with e0
  injection e0 with e0
  injection e1 with e1
  injection e1 with _ e1
  have ez : z = bs (kwB (i + 1)) := bs_eq.2 e0.symm
  have k0 := congrArg (·[0]?) c0
  have k1 := congrArg (·[0]?) c1
  simp [List.getElem?_drop] at k0 k1
  exact ⟨by rw [k0, ez], by rw [k1, ← e1]⟩
/-- What the condition gives the walks. -/
theorem xo_of_laid {W : World} (h : laidMetH Tryd.prog laidO W) : XO W := by
  rw [MakeChecks.laidMetH_plain _ _ _ (by kernel_rfl)] at h
  obtain ⟨ps, ⟨_, _, _, _, _, _, _, _, _, _, ⟨_, _, _, _, _, _, _, _, _, _, ⟨gP, tP, csP, fP, pP, qP, hgP, htP, hvP, hdP, ⟨_, _, _, _, _, _, _, _, _, _, ⟨gR, tR, csR, fR, pR, qR, hgR, htR, hvR, hdR, ⟨gY, tY, csY, fY, pY, qY, hgY, htY, hvY, hdY, ⟨g0, t0, cs0, f0, p0, q0, hg0, ht0, hv0, hd0, ⟨g1, t1, cs1, f1, p1, q1, hg1, ht1, hv1, hd1, ⟨g2, t2, cs2, f2, p2, q2, hg2, ht2, hv2, hd2, _, _⟩, _⟩, _⟩, _⟩, _⟩, _⟩, _⟩, _⟩, _⟩, _⟩ := h
  obtain rfl := Option.some.inj (Tryd.gPows.symm.trans hgP)
  obtain rfl := Option.some.inj (Tryd.gRng.symm.trans hgR)
  obtain rfl := Option.some.inj (Tryd.gSyn.symm.trans hgY)
  obtain rfl := Option.some.inj (Tryd.tPows.symm.trans htP)
  obtain rfl := Option.some.inj (Tryd.tRng.symm.trans htR)
  obtain rfl := Option.some.inj (Tryd.tSyn.symm.trans htY)
  obtain rfl := Option.some.inj (Tryd.gWords.symm.trans hg0)
  obtain rfl := Option.some.inj (Tryd.gSigns.symm.trans hg1)
  obtain rfl := Option.some.inj (Tryd.gShapes.symm.trans hg2)
  obtain rfl := Option.some.inj (Tryd.tWords.symm.trans ht0)
  obtain rfl := Option.some.inj (Tryd.tSigns.symm.trans ht1)
  obtain rfl := Option.some.inj (Tryd.tShapes.symm.trans ht2)
  have eP := Lib.cells_of_tab (zs := Lib.pow10Tab) Tryd.underlying113 Tryd.underlying96 Tryd.cellsU64 Tryd.cellsPows hdP
  obtain ⟨uR, vR, eR⟩ := iface_of_trod Tryd.underlying59 hdR
  obtain ⟨uY, vY, eY⟩ := iface_of_trod Tryd.underlying59 hdY
  have kR : W.cell? ⟨5, 0, none⟩ = some (.iface uR vR) := by rw [World.var?_cell hgR hvR 0, ← Array.getElem?_toList, eR]; rfl
  have kY : W.cell? ⟨4, 0, none⟩ = some (.iface uY vY) := by rw [World.var?_cell hgY hvY 0, ← Array.getElem?_toList, eY]; rfl
  have e0 := strs_of_tab (ls := wordsL) Tryd.underlying125 Tryd.underlying9 Tryd.cellsStr Tryd.cellsWords hd0
  have e1 := strs_of_tab (ls := signsL) Tryd.underlying123 Tryd.underlying9 Tryd.cellsStr Tryd.cellsSigns hd1
  have c0 : ∀ i, i < 13 → W.cell? ⟨8, i, none⟩ = some (.string (wordB i)) := fun i hi => by
    have hl : i < wordsL.length := by simpa [wordsL] using hi
    rw [World.var?_cell hg0 hv0 i, ← Array.getElem?_toList, e0, List.getElem?_map, List.getElem?_eq_getElem hl, Option.map_some]
    unfold wordB
    rw [List.getD_eq_getElem?_getD, List.getElem?_eq_getElem hl]
    rfl
  have c1 : ∀ i, i < 23 → W.cell? ⟨7, i, none⟩ = some (.string (signB i)) := fun i hi => by
    have hl : i < signsL.length := by simpa [signsL, twoL, oneL] using hi
    rw [World.var?_cell hg1 hv1 i, ← Array.getElem?_toList, e1, List.getElem?_map, List.getElem?_eq_getElem hl, Option.map_some]
    unfold signB
    rw [List.getD_eq_getElem?_getD, List.getElem?_eq_getElem hl]
    rfl
  refine ⟨⟨c0, c1, ?_⟩, ⟨?_, ⟨uY, vY, kY⟩, ⟨uR, vR, kR⟩⟩, fun i hi => ?_⟩
  · have h0 := cell_lt (c0 0 (by omega))
    have h1 := cell_lt (c1 0 (by omega))
    omega
  · show W.var? Tryd.prog "internal/strconv.uint64pow10" = some _
    have : csP = (Lib.pow10Tab.map fun z => Value.int .u64 z).toArray := by rw [← eP]
    rw [← this]
    exact hvP
  · obtain ⟨k1, k2⟩ := shapes_of_trod hd2 i hi
    rw [World.var?_cell hg2 hv2 (i * 2), World.var?_cell hg2 hv2 (i * 2 + 1), ← Array.getElem?_toList, ← Array.getElem?_toList]
    exact ⟨k1, k2⟩
theorem Tryd.own : ownKnob Tryd.prog.godebug = none := by kernel_rfl
theorem Tryd.laidOut : laidOutB Tryd.prog = true := by kernel_rfl
theorem wf_i64 {n : Int} (h : (Lit.int .i64 n).wf = true) : i64 n := by
  have e1 : IntKind.i64.min = -9223372036854775808 := rfl
  have e2 : IntKind.i64.max = 9223372036854775807 := rfl
  simp [Lit.wf, e1, e2] at h
  exact h
set_option maxRecDepth 100000 in
/-- From a walk to the row, where the walk wants the world's shape besides. -/
theorem lift_shaped {H : Type} {enc : TypeId × Value → H} {os : Os} {f : FuncId} {fn : Func} {s : ChangeSpec} {laid : List (String × DataW Unit)} {held handsOn again : Bool} {conds : List PathCond}
    (started : os.Started) (noInit : Tryd.checked.prog.inits.idxOf? f = none) (hfn : Tryd.checked.prog.funcs[f]? = some fn)
    (wit : ∃ (w : World) (tape : Tape) (i : Input), w.os = os ∧ (w.forCall tape i).Shaped Tryd.checked.prog ∧ i.vars = [] ∧ Input.okWide Tryd.checked.prog (w.forCall tape i) .any w.heap.size f i ∧
      ((s.pre enc Tryd.checked.prog fn conds false (w.forCall tape i).memory i.args ∧ laidMetH Tryd.prog laid (w.forCall tape i).memory) ∧ sizedMet enc Tryd.checked.prog fn (OpenSpec.ofChange s) false (w.forCall tape i).memory i.args) ∧ ({} : Assume).holds Tryd.checked.prog (lone (Frame.enter Tryd.checked.prog f i.args .normal) [] (w.forCall tape i)))
    (walk : ∀ (W : World) (args : Array Value) (ds gs : List (DataW H)) (before : List MemPlace),
      W.ShapedOpen Tryd.prog → (∀ (j : Nat) t v, fn.params[j]? = some t → args[j]? = some v → Value.okWide Tryd.prog W .any W.heap.size t v) →
      DataW.Whole enc Tryd.prog fn.params.toList s.vars false W args.toList ds gs before → laidMetH Tryd.prog laid W →
      Calls Tryd.prog f args W fun e W' => ∃ v, e = .returned v ∧ s.post enc Tryd.prog fn false held handsOn again W args v W') :
    ReturnsInHanded {} Tryd.checked os f .any (fun w args => (s.pre enc Tryd.prog fn conds false w args ∧ laidMetH Tryd.prog laid w) ∧ sizedMet enc Tryd.prog fn (OpenSpec.ofChange s) false w args) (s.post enc Tryd.prog fn false held handsOn again) := by
  refine returnsInHanded_of_calls Tryd.own started noInit wit fun w tape i _ hsh _ hok hpre _ => ?_
  obtain ⟨_, _, _, fn', hfn', _, _, _, _, hval⟩ := hok
  obtain rfl : fn' = fn := Option.some.inj (hfn'.symm.trans hfn)
  obtain ⟨⟨⟨ds, gs, before, hw, _⟩, hx⟩, _⟩ := hpre
  refine (walk (w.forCall tape i) i.args ds gs before hsh hval (DataW.Whole.of_heap (w' := w.forCall tape i) (by rfl) hw) (hx.of_heap (by rfl))).mono fun e W' ⟨v, he, hp⟩ => ?_
  subst he
  exact ChangeSpec.post_blind hp
theorem Tryd.cellsOr : Tryd.prog.cellsOf 26 = 3 := by kernel_rfl
set_option maxRecDepth 100000 in
/-- A parameter that is an order, opened. -/
theorem order_open {H : Type} {enc : TypeId × Value → H} {W : World} {r : Reach} {b0 : Nat} {held : Bool} {v : Value} {d : DataW H} {p : List MemPlace}
    (hv : Value.okWide Tryd.prog W r b0 26 v) (h : DataW.Trod enc Tryd.prog W 0 (fun _ => true) held 26 v d p) :
    ∃ (k : Int) (a : ByteArray) (n : Int), v = .agg #[.int .i64 k, .string a, .int .i64 n] ∧ i64 k ∧ i64 n := by
  obtain ⟨va, vb, vc, ya, yb, yc, m, rfl, _, _, ha, hb, hc⟩ := open_agg3 Tryd.underlying26 (by kernel_rfl) Tryd.cellsOr hv h
  obtain ⟨k, c0, _, l0⟩ := DataW.trod_int Tryd.underlying3 ha
  obtain ⟨a, c1, _, _⟩ := DataW.trod_string Tryd.underlying9 hb
  obtain ⟨n, c2, _, l2⟩ := DataW.trod_int Tryd.underlying3 hc
  obtain rfl : va = .int .i64 k := (List.cons.inj c0).1
  obtain rfl : vb = .string a := (List.cons.inj c1).1
  obtain rfl : vc = .int .i64 n := (List.cons.inj c2).1
  exact ⟨k, a, n, rfl, wf_i64 l0, wf_i64 l2⟩
theorem wf_u8 {n : Int} (h : (Lit.int .u8 n).wf = true) : ∃ m : Nat, n = (m : Int) ∧ m ≤ 255 := by
  have e1 : IntKind.u8.min = 0 := rfl
  have e2 : IntKind.u8.max = 255 := rfl
  simp [Lit.wf, e1, e2] at h
  exact ⟨n.toNat, by omega, by omega⟩

end Go.Proofs.YtdknejmhlfpdfaaDoor
