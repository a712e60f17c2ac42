/-
  Worlds and ints that come in as parameters: where they lie; what the listed variables hold; the lift to the row.
-/
import Derived.Test.YtoailhkaenofpaaDoorRows
import Derived.Test.YtoailhkaenofpaaDoorWdE
import Derived.ProofKit
import Derived.LaidMore
import Derived.Stop.Joined
import Derived.Lib.LaidTab
import Derived.OpenShut
import Derived.Lib.SmallJoins
import Derived.Lib.LaidU8
import Derived.Deep.Slices
import Derived.Clock
namespace Go.Proofs.YtoailhkaenofpaaDoor
open Go.ChangeShapes Go.WideShapes Go.ChangeAt Go.RowKit Go.Joins
/-- The listed variables, as the rows list them. -/
abbrev laidW : List (String × DataW Unit) := [("math/bits.deBruijn32tab", Rows.laid_math_bits_deBruijn32tab), ("math/bits.deBruijn64tab", Rows.laid_math_bits_deBruijn64tab), ("internal/strconv.uint64pow10", Rows.laid_internal_strconv_uint64pow10), ("unicode/utf8.acceptRanges", Rows.laid_unicode_utf8_acceptRanges), ("strconv.ErrRange", Rows.laid_strconv_ErrRange), ("strconv.ErrSyntax", Rows.laid_strconv_ErrSyntax), ("unicode/utf8.first", Rows.laid_unicode_utf8_first)]
theorem Tryd.gPows : Tryd.prog.globalNamed "internal/strconv.uint64pow10" = some 0 := by kernel_rfl
theorem Tryd.gRng : Tryd.prog.globalNamed "strconv.ErrRange" = some 5 := by kernel_rfl
theorem Tryd.gSyn : Tryd.prog.globalNamed "strconv.ErrSyntax" = some 4 := by kernel_rfl
theorem Tryd.tPows : (Tryd.prog.globals[0]?).map (·.type) = some 94 := by kernel_rfl
theorem Tryd.tRng : (Tryd.prog.globals[5]?).map (·.type) = some 67 := by kernel_rfl
theorem Tryd.tSyn : (Tryd.prog.globals[4]?).map (·.type) = some 67 := by kernel_rfl
theorem Tryd.cellsPows : Tryd.prog.cellsOf 94 = 20 := by kernel_rfl
theorem Tryd.cellsInt : Tryd.prog.cellsOf 3 = 1 := by kernel_rfl
theorem Tryd.cellsU64 : Tryd.prog.cellsOf 79 = 1 := by kernel_rfl
theorem cell_ltC {w : World} {b o : Nat} {v : Value} (h : w.cell? ⟨b, o, none⟩ = some v) : b < w.heap.size := by
  rcases Nat.lt_or_ge b w.heap.size with hl | hl
  · exact hl
  · simp [World.cell?, Array.getElem?_eq_none hl] at h
/-- An interface value that is one of a type, as it reads. -/
theorem iface_of_trod {H : Type} {enc : TypeId × Value → H} {P : Program} {w : World} {base : Nat} {sp : Nat → Bool} {held : Bool} {fuel : Nat} {t : TypeId} {ms : Array (String × TypeId)} {cs : List Value} {nm : String} {d : DataW H} {p : List MemPlace}
    (ht : P.underlying t = some (.interface ms)) (h : DataW.trod enc P w base sp held fuel t cs = some (.iface nm d, p)) : ∃ u v, cs = [.iface u v] := by
  cases fuel with
  | zero => simp [DataW.trod] at h
  | succ n =>
    unfold DataW.trod at h
    rw [ht] at h
    split at h
    all_goals first
      | exact ⟨_, _, rfl⟩
      | (simp_all; done)
      | cases h
/-- What the condition gives the walks. -/
theorem tx_of_laid {W : World} (h : laidMetH Tryd.prog laidW W) : TX W := by
  rw [MakeChecks.laidMetH_plain _ _ _ (by kernel_rfl)] at h
  obtain ⟨ps, ⟨_, _, _, _, _, _, _, _, _, _, ⟨_, _, _, _, _, _, _, _, _, _, ⟨gP, tP, csP, fP, pP, qP, hgP, htP, hvP, hdP, ⟨_, _, _, _, _, _, _, _, _, _, ⟨gR, tR, csR, fR, pR, qR, hgR, htR, hvR, hdR, ⟨gY, tY, csY, fY, pY, qY, hgY, htY, hvY, hdY, _, _⟩, _⟩, _⟩, _⟩, _⟩, _⟩, _⟩ := h
  obtain rfl := Option.some.inj (Tryd.gPows.symm.trans hgP)
  obtain rfl := Option.some.inj (Tryd.gRng.symm.trans hgR)
  obtain rfl := Option.some.inj (Tryd.gSyn.symm.trans hgY)
  obtain rfl := Option.some.inj (Tryd.tPows.symm.trans htP)
  obtain rfl := Option.some.inj (Tryd.tRng.symm.trans htR)
  obtain rfl := Option.some.inj (Tryd.tSyn.symm.trans htY)
  have eP := Lib.cells_of_tab (zs := Lib.pow10Tab) Tryd.underlying94 Tryd.underlying79 Tryd.cellsU64 Tryd.cellsPows hdP
  obtain ⟨uR, vR, eR⟩ := iface_of_trod Tryd.underlying67 hdR
  obtain ⟨uY, vY, eY⟩ := iface_of_trod Tryd.underlying67 hdY
  have kR : W.cell? ⟨5, 0, none⟩ = some (.iface uR vR) := by rw [World.var?_cell hgR hvR 0, ← Array.getElem?_toList, eR]; rfl
  have kY : W.cell? ⟨4, 0, none⟩ = some (.iface uY vY) := by rw [World.var?_cell hgY hvY 0, ← Array.getElem?_toList, eY]; rfl
  refine ⟨?_, ⟨uY, vY, kY⟩, ⟨uR, vR, kR⟩⟩
  show W.var? Tryd.prog "internal/strconv.uint64pow10" = some _
  have : csP = (Lib.pow10Tab.map fun z => Value.int .u64 z).toArray := by rw [← eP]
  rw [← this]
  exact hvP
theorem Tryd.cellsWo : Tryd.prog.cellsOf 24 = 2 := by kernel_rfl
theorem Tryd.own : ownKnob Tryd.prog.godebug = none := by kernel_rfl
theorem Tryd.laidOut : laidOutB Tryd.prog = true := by kernel_rfl
theorem wf_i64 {n : Int} (h : (Lit.int .i64 n).wf = true) : i64 n := by
  have e1 : IntKind.i64.min = -9223372036854775808 := rfl
  have e2 : IntKind.i64.max = 9223372036854775807 := rfl
  simp [Lit.wf, e1, e2] at h
  exact h
theorem head_of {cs : List Value} {o : Nat} {v : Value} (h : (cs.drop o).take 1 = [v]) : cs[o]? = some v := by
  have := congrArg (·[0]?) h
  simpa [List.getElem?_take, List.getElem?_drop] using this
theorem list_of {α : Type} (P : Nat → α → Prop) : ∀ n, (∀ i, i < n → ∃ x, P i x) → ∃ l : List α, l.length = n ∧ ∀ i (h : i < l.length), P i l[i]
  | 0, _ => ⟨[], rfl, fun i h => by simp at h⟩
  | n + 1, h => by
    obtain ⟨l, hl, hp⟩ := list_of P n (fun i hi => h i (by omega))
    obtain ⟨x, hx⟩ := h n (by omega)
    refine ⟨l ++ [x], by simp [hl], fun i hi => ?_⟩
    rw [List.length_append, List.length_singleton] at hi
    by_cases hk : i < l.length
    · rw [List.getElem_append_left hk]; exact hp i hk
    · obtain rfl : i = n := by omega
      rw [List.getElem_append_right (by omega)]
      simpa [hl] using hx
set_option maxRecDepth 100000 in
/-- From a walk to the row, where the walk wants the world's shape besides. -/
theorem lift_shaped {H : Type} {enc : TypeId × Value → H} {os : Os} {f : FuncId} {fn : Func} {s : ChangeSpec} {laid : List (String × DataW Unit)} {held handsOn again : Bool} {conds : List PathCond}
    (started : os.Started) (noInit : Tryd.checked.prog.inits.idxOf? f = none) (hfn : Tryd.checked.prog.funcs[f]? = some fn)
    (wit : ∃ (w : World) (tape : Tape) (i : Input), w.os = os ∧ (w.forCall tape i).Shaped Tryd.checked.prog ∧ i.vars = [] ∧ Input.okWide Tryd.checked.prog (w.forCall tape i) .any w.heap.size f i ∧
      ((s.pre enc Tryd.checked.prog fn conds false (w.forCall tape i).memory i.args ∧ laidMetH Tryd.prog laid (w.forCall tape i).memory) ∧ sizedMet enc Tryd.checked.prog fn (OpenSpec.ofChange s) false (w.forCall tape i).memory i.args) ∧ ({} : Assume).holds Tryd.checked.prog (lone (Frame.enter Tryd.checked.prog f i.args .normal) [] (w.forCall tape i)))
    (walk : ∀ (W : World) (args : Array Value) (ds gs : List (DataW H)) (before : List MemPlace),
      W.ShapedOpen Tryd.prog → (∀ (j : Nat) t v, fn.params[j]? = some t → args[j]? = some v → Value.okWide Tryd.prog W .any W.heap.size t v) →
      DataW.Whole enc Tryd.prog fn.params.toList s.vars false W args.toList ds gs before → laidMetH Tryd.prog laid W →
      Calls Tryd.prog f args W fun e W' => ∃ v, e = .returned v ∧ s.post enc Tryd.prog fn false held handsOn again W args v W') :
    ReturnsInHanded {} Tryd.checked os f .any (fun w args => (s.pre enc Tryd.prog fn conds false w args ∧ laidMetH Tryd.prog laid w) ∧ sizedMet enc Tryd.prog fn (OpenSpec.ofChange s) false w args) (s.post enc Tryd.prog fn false held handsOn again) := by
  refine returnsInHanded_of_calls Tryd.own started noInit wit fun w tape i _ hsh _ hok hpre _ => ?_
  obtain ⟨_, _, _, fn', hfn', _, _, _, _, hval⟩ := hok
  obtain rfl : fn' = fn := Option.some.inj (hfn'.symm.trans hfn)
  obtain ⟨⟨⟨ds, gs, before, hw, _⟩, hx⟩, _⟩ := hpre
  refine (walk (w.forCall tape i) i.args ds gs before hsh hval (DataW.Whole.of_heap (w' := w.forCall tape i) (by rfl) hw) (hx.of_heap (by rfl))).mono fun e W' ⟨v, he, hp⟩ => ?_
  subst he
  exact ChangeSpec.post_blind hp
set_option maxRecDepth 100000 in
/-- Ints that come in. -/
theorem ints_open {H : Type} {enc : TypeId × Value → H} {W : World} {m : Nat} {held : Bool} {v : Value} {x : DataW H × List MemPlace}
    (h : DataW.trod enc Tryd.prog W 0 (fun _ => true) held m 22 [v] = some x) :
    ∃ A c, ∃ l : List Int, v = .slice A l.length c ∧ IsAt W W.heap.size A l ∧ l.length ≤ c ∧ c ≤ maxLen ∧ (∀ n ∈ l, i64 n) ∧ (A = none → c = 0) := by
  rcases Go.Deep.open_slice Tryd.underlying22 h with ⟨hcs, _⟩ | ⟨a, len, cap, k, n, D, Pl, hcs, _, hl, hm, hk, _, hel⟩
  · obtain rfl : v = .slice none 0 0 := (List.cons.inj hcs).1
    exact ⟨none, 0, [], rfl, fun h => absurd h (by simp), by simp, by simp, by simp, fun _ => rfl⟩
  · obtain rfl := (List.cons.inj hcs).1
    have hk' : k = cap := by rw [hk]; simp
    obtain ⟨l, hll, hp⟩ := list_of (fun i (q : Int) => i64 q ∧ W.cell? ((a.add i).add 0) = some (.int .i64 q)) len (fun i hi => by
      obtain ⟨cs', h1, h2⟩ := hel i (by omega)
      rw [Tryd.cellsInt] at h1
      obtain ⟨_, _, hcc⟩ := World.cells?_some h1
      obtain ⟨q, c0, _, l0⟩ := DataW.trod_int Tryd.underlying3 h2
      refine ⟨q, wf_i64 l0, ?_⟩
      have := hcc 0 (by omega)
      rw [c0, Nat.mul_one] at this
      exact this)
    subst hll
    refine ⟨some a, cap, l, rfl, fun hn => ?_, hl, hm, fun p hpm => ?_, fun e => by cases e⟩
    · have h00 := (hp 0 hn).2
      obtain ⟨b, off, sp⟩ := a
      have : (Addr.add (Addr.add ⟨b, off, sp⟩ 0) 0) = ⟨b, off, sp⟩ := by simp [Addr.add]
      rw [this] at h00
      obtain rfl := Go.Proofs.cell_spot h00
      refine ⟨b, off, rfl, ltC h00, fun i hi => ?_⟩
      have := (hp i hi).2
      simp only [Addr.add_lit] at this
      exact this
    · obtain ⟨i, hi, rfl⟩ := List.mem_iff_getElem.1 hpm
      exact (hp i hi).1
set_option maxRecDepth 100000 in
/-- A parameter that is a world, opened. -/
theorem world_open {H : Type} {enc : TypeId × Value → H} {W : World} {r : Reach} {b0 : Nat} {held : Bool} {v : Value} {d : DataW H} {p : List MemPlace}
    (hv : Value.okWide Tryd.prog W r b0 24 v) (h : DataW.Trod enc Tryd.prog W 0 (fun _ => true) held 24 v d p) :
    ∃ A c, ∃ m : WoM, v = woV A c m ∧ WoAt W W.heap.size A c m := by
  obtain ⟨va, vb, ya, yb, n, rfl, _, _, ha, hb⟩ := open_agg2 Tryd.underlying24 (by kernel_rfl) Tryd.cellsWo hv h
  obtain ⟨s, c0, _, l0⟩ := DataW.trod_int Tryd.underlying3 ha
  obtain rfl : va = .int .i64 s := (List.cons.inj c0).1
  obtain ⟨A, c, l, rfl, h1, h2, h3, h4, h5⟩ := ints_open hb
  exact ⟨A, c, ⟨s, l⟩, rfl, ⟨h1, h2, h3, ⟨wf_i64 l0, h4⟩, h5⟩⟩
end Go.Proofs.YtoailhkaenofpaaDoor
