/-
  Code that comes in as a parameter: where its procedures and its instructions lie; and the lift to the row, which hands on the world's shape.
-/
import Derived.Test.YtbhlockoeiedcaaGreatDoorK38
import Derived.ProofKit
import Derived.OpenShut
import Derived.Lib.SmallJoins
import Derived.Lib.LaidU8
import Derived.Deep.Slices
import Derived.Clock
namespace Go.Proofs.YtbhlockoeiedcaaGreatDoor
open Go.ChangeShapes Go.WideShapes Go.ChangeAt Go.RowKit Go.Joins

theorem Tryz.cellsPr : Tryz.prog.cellsOf 64 = 6 := by kernel_rfl
theorem Tryz.cellsIn : Tryz.prog.cellsOf 62 = 3 := by kernel_rfl
theorem Tryz.cellsCo : Tryz.prog.cellsOf 25 = 2 := by kernel_rfl
theorem Tryz.own : ownKnob Tryz.prog.godebug = none := by kernel_rfl
theorem Tryz.laidOut : laidOutB Tryz.prog = true := by kernel_rfl

theorem wf_i64 {n : Int} (h : (Lit.int .i64 n).wf = true) : i64 n := by
  have e1 : IntKind.i64.min = -9223372036854775808 := rfl
  have e2 : IntKind.i64.max = 9223372036854775807 := rfl
  simp [Lit.wf, e1, e2] at h
  exact h
theorem head_of {cs : List Value} {o : Nat} {v : Value} (h : (cs.drop o).take 1 = [v]) : cs[o]? = some v := by
  have := congrArg (·[0]?) h
  simpa [List.getElem?_take, List.getElem?_drop] using this
theorem pr_row {H : Type} {enc : TypeId × Value → H} {W : World} {base m : Nat} {sp : Nat → Bool} {held : Bool} {cs : List Value} {x : DataW H × List MemPlace}
    (h : DataW.trod enc Tryz.prog W base sp held m 64 cs = some x) :
    ∃ q : PrM, (q.fit ∧ q.name.length ≤ maxLen) ∧ cs[0]? = some (.string (bs q.name)) ∧ cs[1]? = some (.int .i64 q.frm) ∧ cs[2]? = some (.int .i64 q.to) ∧ cs[3]? = some (.int .i64 q.par) ∧ cs[4]? = some (.int .i64 q.slo) ∧ cs[5]? = some (.int .i64 q.typ) := by
  obtain ⟨xs, n, _, he, hl, hlen, hf⟩ := DataW.trod_struct Tryz.underlying64 h
  match xs, hlen with
  | [a0, a1, a2, a3, a4, a5], _ =>
    have f0 := hf 0 _ rfl
    have f1 := hf 1 _ rfl
    have f2 := hf 2 _ rfl
    have f3 := hf 3 _ rfl
    have f4 := hf 4 _ rfl
    have f5 := hf 5 _ rfl
    obtain ⟨s, c0, _, l0⟩ := DataW.trod_string Tryz.underlying9 f0
    obtain ⟨n1, c1, _, l1⟩ := DataW.trod_int Tryz.underlying3 f1
    obtain ⟨n2, c2, _, l2⟩ := DataW.trod_int Tryz.underlying3 f2
    obtain ⟨n3, c3, _, l3⟩ := DataW.trod_int Tryz.underlying3 f3
    obtain ⟨n4, c4, _, l4⟩ := DataW.trod_int Tryz.underlying3 f4
    obtain ⟨n5, c5, _, l5⟩ := DataW.trod_int Tryz.underlying3 f5
    replace c0 : (cs.drop 0).take (Tryz.prog.cellsOf 9) = _ := c0
    replace c1 : (cs.drop 1).take (Tryz.prog.cellsOf 3) = _ := c1
    replace c2 : (cs.drop 2).take (Tryz.prog.cellsOf 3) = _ := c2
    replace c3 : (cs.drop 3).take (Tryz.prog.cellsOf 3) = _ := c3
    replace c4 : (cs.drop 4).take (Tryz.prog.cellsOf 3) = _ := c4
    replace c5 : (cs.drop 5).take (Tryz.prog.cellsOf 3) = _ := c5
    rw [Tryz.cellsStr] at c0
    rw [Tryz.cellsInt] at c1 c2 c3 c4 c5
    refine ⟨⟨s.data.toList, n1, n2, n3, n4, n5⟩, ⟨⟨wf_i64 l1, wf_i64 l2, wf_i64 l3, wf_i64 l4, wf_i64 l5⟩, ?_⟩, head_of c0, head_of c1, head_of c2, head_of c3, head_of c4, head_of c5⟩
    show s.data.toList.length ≤ maxLen
    have : s.data.toList.length = s.size := Array.length_toList
    omega
theorem in_row {H : Type} {enc : TypeId × Value → H} {W : World} {base m : Nat} {sp : Nat → Bool} {held : Bool} {cs : List Value} {x : DataW H × List MemPlace}
    (h : DataW.trod enc Tryz.prog W base sp held m 62 cs = some x) :
    ∃ q : InM, q.fit ∧ cs[0]? = some (.int .i64 q.op) ∧ cs[1]? = some (.int .i64 q.arg) ∧ cs[2]? = some (.int .i64 q.mor) := by
  obtain ⟨xs, n, _, he, hl, hlen, hf⟩ := DataW.trod_struct Tryz.underlying62 h
  match xs, hlen with
  | [a0, a1, a2], _ =>
    have f0 := hf 0 _ rfl
    have f1 := hf 1 _ rfl
    have f2 := hf 2 _ rfl
    obtain ⟨n0, c0, _, l0⟩ := DataW.trod_int Tryz.underlying3 f0
    obtain ⟨n1, c1, _, l1⟩ := DataW.trod_int Tryz.underlying3 f1
    obtain ⟨n2, c2, _, l2⟩ := DataW.trod_int Tryz.underlying3 f2
    replace c0 : (cs.drop 0).take (Tryz.prog.cellsOf 3) = _ := c0
    replace c1 : (cs.drop 1).take (Tryz.prog.cellsOf 3) = _ := c1
    replace c2 : (cs.drop 2).take (Tryz.prog.cellsOf 3) = _ := c2
    rw [Tryz.cellsInt] at c0 c1 c2
    exact ⟨⟨n0, n1, n2⟩, ⟨wf_i64 l0, wf_i64 l1, wf_i64 l2⟩, head_of c0, head_of c1, head_of c2⟩
theorem list_of {α : Type} (P : Nat → α → Prop) : ∀ n, (∀ i, i < n → ∃ x, P i x) → ∃ l : List α, l.length = n ∧ ∀ i (h : i < l.length), P i l[i]
  | 0, _ => ⟨[], rfl, fun i h => by simp at h⟩
  | n + 1, h => by
    obtain ⟨l, hl, hp⟩ := list_of P n (fun i hi => h i (by omega))
    obtain ⟨x, hx⟩ := h n (by omega)
    refine ⟨l ++ [x], by simp [hl], fun i hi => ?_⟩
    rw [List.length_append, List.length_singleton] at hi
    by_cases hk : i < l.length
    · rw [List.getElem_append_left hk]; exact hp i hk
    · obtain rfl : i = n := by omega
      rw [List.getElem_append_right (by omega)]
      simpa [hl] using hx
theorem prs_open {H : Type} {enc : TypeId × Value → H} {W : World} {m : Nat} {held : Bool} {v : Value} {x : DataW H × List MemPlace}
    (h : DataW.trod enc Tryz.prog W 0 (fun _ => true) held m 22 [v] = some x) :
    ∃ A c, ∃ ps : List PrM, v = .slice A ps.length c ∧ PrAt W W.heap.size A ps ∧ ps.length ≤ c ∧ c ≤ maxLen ∧ ∀ p ∈ ps, p.fit ∧ p.name.length ≤ maxLen := by
  rcases Go.Deep.open_slice Tryz.underlying22 h with ⟨hcs, _⟩ | ⟨a, len, cap, k, n, D, Pl, hcs, _, hl, hm, hk, _, hel⟩
  · obtain rfl : v = .slice none 0 0 := (List.cons.inj hcs).1
    exact ⟨none, 0, [], rfl, fun h => absurd h (by simp), by simp, by simp, by simp⟩
  · obtain rfl := (List.cons.inj hcs).1
    have hk' : k = cap := by rw [hk]; simp
    obtain ⟨ps, hps, hp⟩ := list_of (fun i (q : PrM) => (q.fit ∧ q.name.length ≤ maxLen) ∧ W.cell? ((a.add (i * 6)).add 0) = some (.string (bs q.name)) ∧ W.cell? ((a.add (i * 6)).add 1) = some (.int .i64 q.frm) ∧ W.cell? ((a.add (i * 6)).add 2) = some (.int .i64 q.to) ∧ W.cell? ((a.add (i * 6)).add 3) = some (.int .i64 q.par) ∧ W.cell? ((a.add (i * 6)).add 4) = some (.int .i64 q.slo) ∧ W.cell? ((a.add (i * 6)).add 5) = some (.int .i64 q.typ)) len (fun i hi => by
      obtain ⟨cs', h1, h2⟩ := hel i (by omega)
      rw [Tryz.cellsPr] at h1
      obtain ⟨_, _, hcc⟩ := World.cells?_some h1
      obtain ⟨q, hq, g0, g1, g2, g3, g4, g5⟩ := pr_row h2
      exact ⟨q, hq, (hcc 0 (by omega)).trans g0, (hcc 1 (by omega)).trans g1, (hcc 2 (by omega)).trans g2, (hcc 3 (by omega)).trans g3, (hcc 4 (by omega)).trans g4, (hcc 5 (by omega)).trans g5⟩)
    subst hps
    refine ⟨some a, cap, ps, rfl, fun hn => ?_, hl, hm, fun p hpm => ?_⟩
    · have h00 := (hp 0 hn).2.1
      obtain ⟨b, off, sp⟩ := a
      have : (Addr.add (Addr.add ⟨b, off, sp⟩ (0 * 6)) 0) = ⟨b, off, sp⟩ := by simp [Addr.add]
      rw [this] at h00
      obtain rfl := Go.Proofs.cell_spot h00
      refine ⟨b, off, rfl, ltC h00, fun i hi => ?_⟩
      have := (hp i hi).2
      simp only [Addr.add_lit] at this
      exact this
    · obtain ⟨i, hi, rfl⟩ := List.mem_iff_getElem.1 hpm
      exact (hp i hi).1
theorem ins_open {H : Type} {enc : TypeId × Value → H} {W : World} {m : Nat} {held : Bool} {v : Value} {x : DataW H × List MemPlace}
    (h : DataW.trod enc Tryz.prog W 0 (fun _ => true) held m 23 [v] = some x) :
    ∃ A c, ∃ is : List InM, v = .slice A is.length c ∧ InAt W W.heap.size A is ∧ is.length ≤ c ∧ c ≤ maxLen ∧ ∀ p ∈ is, p.fit := by
  rcases Go.Deep.open_slice Tryz.underlying23 h with ⟨hcs, _⟩ | ⟨a, len, cap, k, n, D, Pl, hcs, _, hl, hm, hk, _, hel⟩
  · obtain rfl : v = .slice none 0 0 := (List.cons.inj hcs).1
    exact ⟨none, 0, [], rfl, fun h => absurd h (by simp), by simp, by simp, by simp⟩
  · obtain rfl := (List.cons.inj hcs).1
    have hk' : k = cap := by rw [hk]; simp
    obtain ⟨ps, hps, hp⟩ := list_of (fun i (q : InM) => q.fit ∧ W.cell? ((a.add (i * 3)).add 0) = some (.int .i64 q.op) ∧ W.cell? ((a.add (i * 3)).add 1) = some (.int .i64 q.arg) ∧ W.cell? ((a.add (i * 3)).add 2) = some (.int .i64 q.mor)) len (fun i hi => by
      obtain ⟨cs', h1, h2⟩ := hel i (by omega)
      rw [Tryz.cellsIn] at h1
      obtain ⟨_, _, hcc⟩ := World.cells?_some h1
      obtain ⟨q, hq, g0, g1, g2⟩ := in_row h2
      exact ⟨q, hq, (hcc 0 (by omega)).trans g0, (hcc 1 (by omega)).trans g1, (hcc 2 (by omega)).trans g2⟩)
    subst hps
    refine ⟨some a, cap, ps, rfl, fun hn => ?_, hl, hm, fun p hpm => ?_⟩
    · have h00 := (hp 0 hn).2.1
      obtain ⟨b, off, sp⟩ := a
      have : (Addr.add (Addr.add ⟨b, off, sp⟩ (0 * 3)) 0) = ⟨b, off, sp⟩ := by simp [Addr.add]
      rw [this] at h00
      obtain rfl := Go.Proofs.cell_spot h00
      refine ⟨b, off, rfl, ltC h00, fun i hi => ?_⟩
      have := (hp i hi).2
      simp only [Addr.add_lit] at this
      exact this
    · obtain ⟨i, hi, rfl⟩ := List.mem_iff_getElem.1 hpm
      exact (hp i hi).1
set_option maxRecDepth 100000 in
/-- A parameter that is code, opened. -/
theorem code_open {H : Type} {enc : TypeId × Value → H} {W : World} {r : Reach} {b0 : Nat} {held : Bool} {v : Value} {d : DataW H} {p : List MemPlace}
    (hv : Value.okWide Tryz.prog W r b0 25 v) (h : DataW.Trod enc Tryz.prog W 0 (fun _ => true) held 25 v d p) :
    ∃ A c1 A2 c2, ∃ c : CoM, v = coV A c1 A2 c2 c ∧ CoAt W W.heap.size A c1 A2 c2 c ∧ ∀ p ∈ c.ps, p.name.length ≤ maxLen := by
  obtain ⟨va, vb, ya, yb, n, rfl, _, _, ha, hb⟩ := open_agg2 Tryz.underlying25 (by kernel_rfl) Tryz.cellsCo hv h
  obtain ⟨A, c1, ps, rfl, hps, hl1, hm1, hf1⟩ := prs_open ha
  obtain ⟨A2, c2, is, rfl, his, hl2, hm2, hf2⟩ := ins_open hb
  exact ⟨A, c1, A2, c2, ⟨ps, is⟩, rfl, ⟨hps, his, hl1, hl2, ⟨hm1, hm2⟩, fun p hp => (hf1 p hp).1, hf2⟩, fun p hp => (hf1 p hp).2⟩

set_option maxRecDepth 100000 in
/-- The variable that is named but not listed holds some int. -/
theorem maxlen_cell {w : World} (h : w.ShapedOpen Tryz.prog) : ∃ m, w.cell? ⟨1, 0, none⟩ = some (.int .i64 m) := by
  obtain ⟨cs, hh, hs, hr⟩ := h.1 1 #[.int .i64 0] 3 (of_decide_eq_true (by kernel_rfl)) (by kernel_rfl)
  obtain ⟨ts, hts, _, hall⟩ := hr (by kernel_rfl)
  obtain rfl : [3] = ts := Option.some.inj ((show Tryz.prog.cellTypes Tryz.prog.depth 3 = some [3] by kernel_rfl).symm.trans hts)
  have h1 : 0 < cs.size := by rw [hs]; decide
  obtain ⟨u, hu', hok⟩ := hall 0 cs[0] (by simp [h1])
  obtain rfl : 3 = u := by simpa using hu'
  have hcell : w.cell? ⟨1, 0, none⟩ = some cs[0] := by simp [World.cell?, hh, h1]
  rw [hcell]
  unfold Cell.ok at hok
  rw [Tryz.underlying3] at hok
  cases hv : cs[0] <;> rw [hv] at hok <;> first | (obtain ⟨rfl, _⟩ := hok; exact ⟨_, rfl⟩) | simp at hok

set_option maxRecDepth 100000 in
/-- From a walk to the row, where the walk wants the world's shape besides. -/
theorem lift_shaped {H : Type} {enc : TypeId × Value → H} {os : Os} {f : FuncId} {fn : Func} {s : ChangeSpec} {laid : List (String × DataW Unit)} {held handsOn again : Bool} {conds : List PathCond}
    (started : os.Started) (noInit : Tryz.checked.prog.inits.idxOf? f = none) (hfn : Tryz.checked.prog.funcs[f]? = some fn)
    (wit : ∃ (w : World) (tape : Tape) (i : Input), w.os = os ∧ (w.forCall tape i).Shaped Tryz.checked.prog ∧ i.vars = [] ∧ Input.okWide Tryz.checked.prog (w.forCall tape i) .any w.heap.size f i ∧
      ((s.pre enc Tryz.checked.prog fn conds false (w.forCall tape i).memory i.args ∧ laidMetH Tryz.prog laid (w.forCall tape i).memory) ∧ sizedMet enc Tryz.checked.prog fn (OpenSpec.ofChange s) false (w.forCall tape i).memory i.args) ∧ ({} : Assume).holds Tryz.checked.prog (lone (Frame.enter Tryz.checked.prog f i.args .normal) [] (w.forCall tape i)))
    (walk : ∀ (W : World) (args : Array Value) (ds gs : List (DataW H)) (before : List MemPlace),
      W.ShapedOpen Tryz.prog → (∀ (j : Nat) t v, fn.params[j]? = some t → args[j]? = some v → Value.okWide Tryz.prog W .any W.heap.size t v) →
      DataW.Whole enc Tryz.prog fn.params.toList s.vars false W args.toList ds gs before → laidMetH Tryz.prog laid W →
      Calls Tryz.prog f args W fun e W' => ∃ v, e = .returned v ∧ s.post enc Tryz.prog fn false held handsOn again W args v W') :
    ReturnsInHanded {} Tryz.checked os f .any (fun w args => (s.pre enc Tryz.prog fn conds false w args ∧ laidMetH Tryz.prog laid w) ∧ sizedMet enc Tryz.prog fn (OpenSpec.ofChange s) false w args) (s.post enc Tryz.prog fn false held handsOn again) := by
  refine returnsInHanded_of_calls Tryz.own started noInit wit fun w tape i _ hsh _ hok hpre _ => ?_
  obtain ⟨_, _, _, fn', hfn', _, _, _, _, hval⟩ := hok
  obtain rfl : fn' = fn := Option.some.inj (hfn'.symm.trans hfn)
  obtain ⟨⟨⟨ds, gs, before, hw, _⟩, hx⟩, _⟩ := hpre
  refine (walk (w.forCall tape i) i.args ds gs before hsh hval (DataW.Whole.of_heap (w' := w.forCall tape i) (by rfl) hw) (hx.of_heap (by rfl))).mono fun e W' ⟨v, he, hp⟩ => ?_
  subst he
  exact ChangeSpec.post_blind hp
end Go.Proofs.YtbhlockoeiedcaaGreatDoor
