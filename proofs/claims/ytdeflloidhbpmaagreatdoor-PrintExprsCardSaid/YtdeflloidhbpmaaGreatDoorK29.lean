/-
  atLeast: a part, with brackets around it if it is a pair of a looser level.
  An expression's text, as words; the grammar makes the expression of it again.
-/
import Derived.Test.YtdeflloidhbpmaaGreatDoorK28
import Derived.Test.YtdeflloidhbpmaaGreatDoorK27
namespace Go.Proofs.YtdeflloidhbpmaaGreatDoor
open Go.RowKit

theorem Levs.below {g c : Nat → Nat} {w w' : World} (h : Levs g c w) (hB : Below w.heap.size w w') : Levs g c w' :=
  ⟨fun i hi => (hB.cell (p := ⟨0, i, none⟩) (World.block_lt_of_cell? w _ (h.cell i hi))).trans (h.cell i hi), fun i hi => (h.rows i hi).keep hB.size (hB.block _ (h.rows i hi).2.1)⟩
/-- The expression of a place, in a writer's tree. -/
structure EIn (w : World) (wb ge n c i : Nat) (x : Ex) (l : Value) : Prop where
  wr : w.cell? ⟨wb, 0, none⟩ = some (.slice (some ⟨ge, 0, none⟩) n c)
  lt : i < n
  one : l.oneCell' = true
  cell : ∀ j u, j < 9 → (exV x l)[j]? = some u → w.cell? ⟨ge, i * 9 + j, none⟩ = some u
/-- A new row of pieces. -/
theorem own_pcs (w1 : World) (base : Nat) (l : List Pc) (n : Nat) (hn : l.length = n) (hb : base ≤ w1.heap.size) (h : n ≤ 100000) (cs : Array Value) (hc : cs = (pcsV l).toArray) :
    (w1.alloc (.cells cs 59)).ownsRow base 59 3 (.slice (some ⟨w1.heap.size, 0, none⟩) n n) l.length (pcsV l) := by
  subst hn hc
  refine ⟨pcs_len l, .inr ⟨w1.heap.size, l.length, (pcsV l).toArray, rfl, hb, heap_one w1 _ _, Nat.le_refl _, by unfold maxLen; omega, ?_, ?_⟩⟩
  · rw [List.size_toArray, pcs_len]
  · rw [← pcs_len, List.take_length]
theorem ptextV (b : List UInt8) (w : World) : Calls Tryz.prog 40 #[.string (bs b)] w fun e w' => e = .returned (.agg #[.bool false, .string (bs b), .int .i64 0]) ∧ Below w.heap.size w w' := ptext_calls b w
theorem ppartV (a : Int) (w : World) : Calls Tryz.prog 19 #[.int .i64 a] w fun e w' => e = .returned (.agg #[.bool true, .string ⟨#[]⟩, .int .i64 a]) ∧ Below w.heap.size w w' := ppart_calls a w
def atL (x : Ex) (m a : Int) : List Pc := if x.kind = 9 ∧ levI x.op < m then [.tx [40], .pt a, .tx [41]] else [.pt a]
set_option maxRecDepth 100000 in
set_option maxHeartbeats 1000000 in
theorem atleast_calls (g cl : Nat → Nat) (wb ge n c i : Nat) (m : Int) (x : Ex) (l : Value) (w : World) (hL : Levs g cl w) (h : EIn w wb ge n c i x l) :
    Calls Tryz.prog 62 #[.pointer (some ⟨wb, 0, none⟩), .int .i64 m, .int .i64 (i : Int)] w (PcsPost (atL x m i) w) := by
  have hO := Lib.hid (oneE_calls ge n c i x l h.one w h.lt h.cell)
  have hl := h.one
  have h0 := h.wr
  have HL := Lib.hid hL
  clear h hL
  unfold atL
  by_cases hk : x.kind = 9
  · have e9 : ((x.kind : Int) == 9) = true := keq hk
    by_cases hlv : levI x.op < m
    · have elv : decide (levI x.op < m) = true := decide_eq_true hlv
      rw [if_pos ⟨hk, hlv⟩]
      clear hk hlv
      go_enter Tryz.func62, Tryz.ntmps62
      go_wp2_with (go_at_call 60; refine hO.out.mono ?_)
      rintro e w2 ⟨rfl, hB⟩
      have HB := Lib.hid hB
      clear hB
      go_wp2_with (refine wpList_store_whole rfl 63 (.tmp 7) (.tmp 14) rfl w2.heap.size #[.int .i64 0, .int .i64 0, .int .i64 0, .int .i64 0, .string ⟨#[]⟩, .string ⟨#[]⟩, .int .i64 0, .int .i64 0, .slice none 0 0] (exV x l).toArray 63 (heap_one w2 _ _) rfl rfl rfl Tryz.sizeEx (all_oneCell_toArray (oneE x l hl)) ?_; intro w3 ho hb; have HO3 := Lib.hid ho; have d0 : w3.cell? ⟨w2.heap.size, 0, none⟩ = some (.int .i64 (x.kind : Int)) := cellK hb 0; have d5 : w3.cell? ⟨w2.heap.size, 5, none⟩ = some (.string (bs x.op)) := cellK hb 5; clear ho hb)
      have HB3 : Hid (Below w.heap.size w w3) := Lib.hid (HB.out.trans ((below_only HO3.out).mono HB.out.size))
      have hV := Lib.hid (level_calls g cl x.op w3 (HL.out.below HB3.out))
      go_wp2_with (go_at_call 84; refine hV.out.mono ?_; intro e w4 h4; obtain ⟨rfl, h4⟩ := h4; rw [h4]; clear h4 w4)
      have hT1 := Lib.hid (ptextV [40] w3)
      go_wp2_with (go_at_call 40; refine hT1.out.mono ?_)
      rintro e w5 ⟨rfl, hB⟩
      have HB5 := Lib.hid (HB3.out.trans (hB.mono HB3.out.size))
      have hT2 := Lib.hid (ppartV (i : Int) w5)
      clear hB
      go_wp2_with (go_at_call 19; refine hT2.out.mono ?_)
      rintro e w6 ⟨rfl, hB⟩
      have HB6 := Lib.hid (HB5.out.trans (hB.mono HB5.out.size))
      have hT3 := Lib.hid (ptextV [41] w6)
      clear hB
      go_wp2_with (go_at_call 40; refine hT3.out.mono ?_)
      rintro e w7 ⟨rfl, hB⟩
      have HB7 := Lib.hid (HB6.out.trans (hB.mono HB6.out.size))
      clear hB
      go_wp2
      go_ret
      exact ⟨_, rfl, own_pcs w7 _ _ 3 rfl HB7.out.size (by decide) _ rfl, HB7.out.alloc HB7.out.size _⟩
    · have elv : decide (levI x.op < m) = false := decide_eq_false hlv
      rw [if_neg (fun h => hlv h.2)]
      clear hk hlv
      go_enter Tryz.func62, Tryz.ntmps62
      go_wp2_with (go_at_call 60; refine hO.out.mono ?_)
      rintro e w2 ⟨rfl, hB⟩
      have HB := Lib.hid hB
      clear hB
      go_wp2_with (refine wpList_store_whole rfl 63 (.tmp 7) (.tmp 14) rfl w2.heap.size #[.int .i64 0, .int .i64 0, .int .i64 0, .int .i64 0, .string ⟨#[]⟩, .string ⟨#[]⟩, .int .i64 0, .int .i64 0, .slice none 0 0] (exV x l).toArray 63 (heap_one w2 _ _) rfl rfl rfl Tryz.sizeEx (all_oneCell_toArray (oneE x l hl)) ?_; intro w3 ho hb; have HO3 := Lib.hid ho; have d0 : w3.cell? ⟨w2.heap.size, 0, none⟩ = some (.int .i64 (x.kind : Int)) := cellK hb 0; have d5 : w3.cell? ⟨w2.heap.size, 5, none⟩ = some (.string (bs x.op)) := cellK hb 5; clear ho hb)
      have HB3 : Hid (Below w.heap.size w w3) := Lib.hid (HB.out.trans ((below_only HO3.out).mono HB.out.size))
      have hV := Lib.hid (level_calls g cl x.op w3 (HL.out.below HB3.out))
      go_wp2_with (go_at_call 84; refine hV.out.mono ?_; intro e w4 h4; obtain ⟨rfl, h4⟩ := h4; rw [h4]; clear h4 w4)
      have hT1 := Lib.hid (ppartV (i : Int) w3)
      go_wp2_with (go_at_call 19; refine hT1.out.mono ?_)
      rintro e w5 ⟨rfl, hB⟩
      have HB5 := Lib.hid (HB3.out.trans (hB.mono HB3.out.size))
      clear hB
      go_wp2
      go_ret
      exact ⟨_, rfl, own_pcs w5 _ _ 1 rfl HB5.out.size (by decide) _ rfl, HB5.out.alloc HB5.out.size _⟩
  · have e9 : ((x.kind : Int) == 9) = false := kne hk
    rw [if_neg (fun h => hk h.1)]
    clear hk
    go_enter Tryz.func62, Tryz.ntmps62
    go_wp2_with (go_at_call 60; refine hO.out.mono ?_)
    rintro e w2 ⟨rfl, hB⟩
    have HB := Lib.hid hB
    clear hB
    go_wp2_with (refine wpList_store_whole rfl 63 (.tmp 7) (.tmp 14) rfl w2.heap.size #[.int .i64 0, .int .i64 0, .int .i64 0, .int .i64 0, .string ⟨#[]⟩, .string ⟨#[]⟩, .int .i64 0, .int .i64 0, .slice none 0 0] (exV x l).toArray 63 (heap_one w2 _ _) rfl rfl rfl Tryz.sizeEx (all_oneCell_toArray (oneE x l hl)) ?_; intro w3 ho hb; have HO3 := Lib.hid ho; have d0 : w3.cell? ⟨w2.heap.size, 0, none⟩ = some (.int .i64 (x.kind : Int)) := cellK hb 0; have d5 : w3.cell? ⟨w2.heap.size, 5, none⟩ = some (.string (bs x.op)) := cellK hb 5; clear ho hb)
    have HB3 : Hid (Below w.heap.size w w3) := Lib.hid (HB.out.trans ((below_only HO3.out).mono HB.out.size))
    have hT1 := Lib.hid (ppartV (i : Int) w3)
    go_wp2_with (go_at_call 19; refine hT1.out.mono ?_)
    rintro e w5 ⟨rfl, hB⟩
    have HB5 := Lib.hid (HB3.out.trans (hB.mono HB3.out.size))
    clear hB
    go_wp2
    go_ret
    exact ⟨_, rfl, own_pcs w5 _ _ 1 rfl HB5.out.size (by decide) _ rfl, HB5.out.alloc HB5.out.size _⟩
end Go.Proofs.YtdeflloidhbpmaaGreatDoor

namespace Go.Proofs.YtdeflloidhbpmaaGreatDoor

/-- A word: a token's kind and bytes. -/
abbrev Wd := Nat × List UInt8
/-- What stands behind the first of some things that commas part. -/
def ctail (g : Nat → List Wd) : List Nat → List Wd
  | [] => []
  | a :: r => (4, [44]) :: (g a ++ ctail g r)
def commaL (g : Nat → List Wd) : List Nat → List Wd
  | [] => []
  | a :: r => g a ++ ctail g r
/-- The words of a part of a level: with brackets if it is looser. -/
def prP (E : List Ex) (g : Nat → List Wd) (n a : Nat) : List Wd := match E[a]? with
  | some x => if lvE x < n then (4, [40]) :: (g a ++ [(4, [41])]) else g a
  | none => g a
/-- The words of an expression; dec: a number's digits. -/
def prE (dec : Nat → List UInt8) (E : List Ex) : Nat → Nat → List Wd
  | 0, _ => []
  | n + 1, i => match E[i]? with
    | none => []
    | some x =>
      if x.kind = 9 then prP E (prE dec E n) (lvA x.op) x.a ++ (4, x.op) :: prP E (prE dec E n) (lvB x.op) x.b
      else if x.kind = 8 then (4, x.op) :: prP E (prE dec E n) 5 x.a
      else if x.kind = 5 then (1, x.name) :: (4, [91]) :: (prE dec E n x.a ++ [(4, [93])])
      else if x.kind = 6 then (1, x.name) :: (4, [40]) :: (commaL (prE dec E n) x.list ++ [(4, [41])])
      else if x.kind = 1 then [(2, dec x.num)]
      else if x.kind = 2 then [(3, kTrue)]
      else if x.kind = 3 then [(3, kFalse)]
      else if x.kind = 7 then [(3, kRead)]
      else [(1, x.name)]

/-- The tokens from a place on are these words. -/
def Mt (T : List Tk) (p : Nat) (K : List Wd) : Prop := ∀ j (h : j < K.length), ∃ t : Tk, T[p + j]? = some t ∧ t.kind = (K[j]).1 ∧ t.txt = (K[j]).2
section
variable {T : List Tk}
theorem Mt.left {p : Nat} {K L : List Wd} (h : Mt T p (K ++ L)) : Mt T p K := fun j hj => by
  have := h j (by rw [List.length_append]; omega)
  rwa [List.getElem_append_left hj] at this
theorem Mt.right {p : Nat} {K L : List Wd} (h : Mt T p (K ++ L)) : Mt T (p + K.length) L := fun j hj => by
  have := h (K.length + j) (by rw [List.length_append]; omega)
  rw [List.getElem_append_right (by omega), ← Nat.add_assoc] at this
  simpa using this
theorem Mt.head {p : Nat} {w : Wd} {L : List Wd} (h : Mt T p (w :: L)) {s : Sg} (hs : s.at_ = p) : (cur T s).kind = w.1 ∧ (cur T s).txt = w.2 := by
  obtain ⟨t, h1, h2, h3⟩ := h 0 (by simp)
  rw [Nat.add_zero, ← hs] at h1
  have : cur T s = t := by unfold cur; rw [List.getD_eq_getElem?_getD, h1]; rfl
  rw [this]
  exact ⟨h2, h3⟩
theorem Mt.tail {p : Nat} {w : Wd} {L : List Wd} (h : Mt T p (w :: L)) : Mt T (p + 1) L := Mt.right (K := [w]) h
/-- What stands at a place ends an expression of a level. -/
def Nx (T : List Tk) (q n : Nat) : Prop := let t := (T.getD q ⟨0, 0, 0, []⟩).txt; t ≠ [40] ∧ t ≠ [91] ∧ (isOp t = true → lvl t < n)
theorem Nx.mono {q n m : Nat} (h : Nx T q n) (hm : n ≤ m) : Nx T q m := ⟨h.1, h.2.1, fun ho => Nat.lt_of_lt_of_le (h.2.2 ho) hm⟩
theorem nx_of {q n : Nat} {w : Wd} {L : List Wd} (h : Mt T q (w :: L)) (hw : w.2 ≠ [40] ∧ w.2 ≠ [91] ∧ (isOp w.2 = true → lvl w.2 < n)) : Nx T q n := by
  have := (h.head (s := ⟨q, [], [], []⟩) rfl).2
  unfold cur at this
  unfold Nx
  dsimp only at this ⊢
  rw [this]
  exact hw
/-- All expressions up to the m-th are there, but for where they stand. -/
def BT (E : List Ex) (m : Nat) (s : Sg) : Prop := s.ex.length = m ∧ m ≤ E.length ∧ s.ex.map bare = (E.map bare).take m
theorem BT.put {E : List Ex} {m : Nat} {s : Sg} (h : BT E m s) {x y : Ex} (hx : E[m]? = some x) (hy : bare y = bare x) : BT E (m + 1) { s with ex := s.ex ++ [y] } := by
  obtain ⟨h1, h2, h3⟩ := h
  have hm : m < E.length := (List.getElem?_eq_some_iff.1 hx).1
  refine ⟨by simp [h1], hm, ?_⟩
  show (s.ex ++ [y]).map bare = _
  rw [List.map_append, h3, List.take_add_one, List.getElem?_map, hx]
  simp [hy]
/-- What comes of words of an expression. -/
def Gd (E : List Ex) (i d : Nat) (s : Sg) (r : Rs Nat) : Prop := ∃ s', r = .ok i s' ∧ s'.at_ = s.at_ + d ∧ BT E (i + 1) s' ∧ s'.st = s.st ∧ s'.fn = s.fn
theorem next_go {s : Sg} (hs : s.st.length ≤ 1000) : nextP T s = .ok (cur T s).txt { s with at_ := s.at_ + 1 } := by
  unfold nextP
  rw [if_neg (by omega)]
theorem takeP_go {s : Sg} (hs : s.st.length ≤ 1000) {l : List (List UInt8)} (h : (cur T s).txt ∈ l) : takeP T l s = .ok (cur T s).txt { s with at_ := s.at_ + 1 } := by
  unfold takeP
  rw [if_pos (show isP T l s = true from List.contains_iff_mem.2 h), next_go hs]
theorem takeK_go {s : Sg} (hs : s.st.length ≤ 1000) {k : Nat} (h : (cur T s).kind = k) : takeK T k s = .ok (cur T s).txt { s with at_ := s.at_ + 1 } := by
  unfold takeK
  rw [if_pos (show isK T k s = true by unfold isK; rw [h]; exact beq_self_eq_true _), next_go hs]
theorem isP_no {s : Sg} {l : List (List UInt8)} (h : (cur T s).txt ∉ l) : isP T l s = false := by
  unfold isP
  cases hh : l.contains (cur T s).txt with
  | false => rfl
  | true => exact absurd (List.contains_iff_mem.1 hh) h
theorem putE_go {E : List Ex} {m : Nat} {s : Sg} (h : BT E m s) {x y : Ex} (hx : E[m]? = some x) (hy : bare y = bare x) (lo : Nat) : ∃ s', putE T lo y s = .ok m s' ∧ s'.at_ = s.at_ ∧ BT E (m + 1) s' ∧ s'.st = s.st ∧ s'.fn = s.fn := by
  refine ⟨{ s with ex := s.ex ++ [{ y with lo := lo, hi := lastHi T s }] }, ?_, rfl, h.put hx ?_, rfl, rfl⟩
  · unfold putE; rw [h.1]
  · rw [← hy]; rfl

/-- The grammar's levels over operands. -/
def lev (T : List Tk) (op : Ps Nat) : Nat → Ps Nat
  | 0 => expressionM T op
  | 1 => conjunctionM T op
  | 2 => comparisonM T op
  | 3 => sumM T op
  | 4 => productM T op
  | _ => op
def sgn : Nat → List (List UInt8)
  | 0 => sgOr
  | 1 => sgAnd
  | 2 => sgCmp
  | 3 => sgAdd
  | _ => sgMul
theorem lev_row {op : Ps Nat} {n : Nat} (hn : n < 5) (h2 : n ≠ 2) : lev T op n = rowM T (lev T op (n + 1)) (sgn n) := by
  match n, hn, h2 with
  | 0, _, _ => rfl
  | 1, _, _ => rfl
  | 3, _, _ => rfl
  | 4, _, _ => rfl
theorem sgn_op : ∀ n, n < 5 → ∀ o ∈ sgn n, isOp o = true ∧ lvl o = n := by
  intro n hn
  match n, hn with
  | 0, _ => decide
  | 1, _ => decide
  | 2, _ => decide
  | 3, _ => decide
  | 4, _ => decide
theorem op_sgn {o : List UInt8} (h : isOp o = true) : o ∈ sgn (lvl o) ∧ lvl o < 5 := by
  unfold isOp at h
  simp only [Bool.or_eq_true] at h
  unfold lvl
  by_cases h0 : sgOr.contains o = true
  · rw [if_pos h0]; exact ⟨List.contains_iff_mem.1 h0, by omega⟩
  rw [if_neg h0]
  by_cases h1 : sgAnd.contains o = true
  · rw [if_pos h1]; exact ⟨List.contains_iff_mem.1 h1, by omega⟩
  rw [if_neg h1]
  by_cases h2 : sgCmp.contains o = true
  · rw [if_pos h2]; exact ⟨List.contains_iff_mem.1 h2, by omega⟩
  rw [if_neg h2]
  by_cases h3 : sgAdd.contains o = true
  · rw [if_pos h3]; exact ⟨List.contains_iff_mem.1 h3, by omega⟩
  rw [if_neg h3]
  refine ⟨List.contains_iff_mem.1 ?_, by omega⟩
  rcases h with (((h | h) | h) | h) | h
  · exact absurd h h0
  · exact absurd h h1
  · exact absurd h h2
  · exact absurd h h3
  · exact h
/-- Nothing of the level follows. -/
theorem nx_no {s : Sg} {n : Nat} (hn : n < 5) (h : Nx T s.at_ n) : isP T (sgn n) s = false := by
  refine isP_no fun hm => ?_
  obtain ⟨h1, h2⟩ := sgn_op n hn _ hm
  have := h.2.2 h1
  have h3 : lvl (T.getD s.at_ ⟨0, 0, 0, []⟩).txt = n := h2
  omega
/-- From a level to the next looser one. -/
theorem lev_down {E : List Ex} {op : Ps Nat} {n i d : Nat} {s : Sg} (hn : n < 5) (h : Gd E i d s (lev T op (n + 1) s)) (hx : Nx T (s.at_ + d) n) : Gd E i d s (lev T op n s) := by
  obtain ⟨s', h1, h2, h3⟩ := h
  rw [← h2] at hx
  have hno := nx_no hn hx
  refine ⟨s', ?_, h2, h3⟩
  by_cases h2 : n = 2
  · subst h2
    show comparisonM T op s = _
    unfold comparisonM
    rw [bd_ok (show sumM T op s = _ from h1)]
    show (if isP T (sgn 2) s' = true then _ else _) = _
    rw [hno]; rfl
  · rw [lev_row hn h2]
    unfold rowM
    rw [bd_ok h1]
    unfold rowL
    rw [hno]; rfl
theorem lev_downs {E : List Ex} {op : Ps Nat} {i d : Nat} {s : Sg} : ∀ m n, n ≤ m → m ≤ 5 → Gd E i d s (lev T op m s) → Nx T (s.at_ + d) n → Gd E i d s (lev T op n s)
  | 0, n, h, _, hg, _ => by obtain rfl : n = 0 := by omega
                            exact hg
  | m + 1, n, h, h5, hg, hx => by
    rcases Nat.lt_or_ge n (m + 1) with hlt | hge
    · exact lev_downs m n (by omega) (by omega) (lev_down (by omega) hg (hx.mono (by omega))) hx
    · obtain rfl : n = m + 1 := by omega
      exact hg
/-- A row has been gone through so far. -/
def Rw (E : List Ex) (T : List Tk) (op : Ps Nat) (n i d : Nat) (s : Sg) : Prop := ∃ lo fu s', lev T op n s = rowL T (lev T op (n + 1)) (sgn n) lo fu i s' ∧ T.length < fu + s.at_ + d ∧ s'.at_ = s.at_ + d ∧ BT E (i + 1) s' ∧ s'.st = s.st ∧ s'.fn = s.fn
theorem row_of {E : List Ex} {op : Ps Nat} {n i d : Nat} {s : Sg} (hn : n < 5) (h2 : n ≠ 2) (h : Gd E i d s (lev T op (n + 1) s)) : Rw E T op n i d s := by
  obtain ⟨s', h1, h3⟩ := h
  refine ⟨(cur T s).lo, T.length + 1, s', ?_, by omega, h3⟩
  rw [lev_row hn h2]
  unfold rowM
  rw [bd_ok h1]
theorem rw_gd {E : List Ex} {op : Ps Nat} {n i d : Nat} {s : Sg} (hn : n < 5) (h : Rw E T op n i d s) (hx : Nx T (s.at_ + d) n) (hlt : s.at_ + d < T.length) : Gd E i d s (lev T op n s) := by
  obtain ⟨lo, fu, s', h1, h2, h3, h4⟩ := h
  rw [← h3] at hx
  have hno := nx_no hn hx
  obtain ⟨fu, rfl⟩ : ∃ g, fu = g + 1 := ⟨fu - 1, by omega⟩
  refine ⟨s', ?_, h3, h4⟩
  rw [h1]
  unfold rowL
  rw [hno]; rfl
/-- What an expression's words come to: as one of any level that isn't tighter than it; and as a row's part. -/
def CxW (T : List Tk) (dec : Nat → List UInt8) (E : List Ex) (k f i : Nat) : Prop := ∀ N, i < N → ∀ s, BT E f s → s.st.length ≤ 1000 → Mt T s.at_ (prE dec E N i) → s.at_ + (prE dec E N i).length < T.length → ∀ x, E[i]? = some x →
  (cur T s).txt ∉ ([[41], [59]] : List (List UInt8)) ∧ (∀ n, n ≤ lvE x → Nx T (s.at_ + (prE dec E N i).length) n → Gd E i (prE dec E N i).length s (lev T (operandM T k) n s)) ∧
  (∀ n, n < 5 → n ≠ 2 → n ≤ lvE x → Nx T (s.at_ + (prE dec E N i).length) (n + 1) → Rw E T (operandM T k) n i (prE dec E N i).length s)
/-- From an operand. -/
theorem cx_five {E : List Ex} {k i d : Nat} {s : Sg} (h : Nx T (s.at_ + d) 5 → Gd E i d s (operandM T k s)) :
    (∀ n, n ≤ 5 → Nx T (s.at_ + d) n → Gd E i d s (lev T (operandM T k) n s)) ∧ (∀ n, n < 5 → n ≠ 2 → n ≤ 5 → Nx T (s.at_ + d) (n + 1) → Rw E T (operandM T k) n i d s) := by
  have h1 : ∀ n, n ≤ 5 → Nx T (s.at_ + d) n → Gd E i d s (lev T (operandM T k) n s) := fun n hn hx => lev_downs 5 n hn (Nat.le_refl _) (h (hx.mono hn)) hx
  exact ⟨h1, fun n hn h2 _ hx => row_of hn h2 (h1 (n + 1) (by omega) hx)⟩
theorem operandM_succ (k : Nat) : operandM T (k + 1) = operandS T (operandM T k) := rfl
/-- A part, with brackets or without. -/
theorem part_go {dec : Nat → List UInt8} {E : List Ex} {k k' f a n N : Nat} (hd : dpt E n a k k') (hn : n ≤ 5) (hc : CxW T dec E k' f a) (hN : a < N) {s : Sg} (hB : BT E f s) (hst : s.st.length ≤ 1000) (hM : Mt T s.at_ (prP E (prE dec E N) n a)) (hl : s.at_ + (prP E (prE dec E N) n a).length < T.length) :
    (cur T s).txt ∉ ([[41], [59]] : List (List UInt8)) ∧ (Nx T (s.at_ + (prP E (prE dec E N) n a).length) n → Gd E a (prP E (prE dec E N) n a).length s (lev T (operandM T k) n s)) ∧
    (n < 5 → n ≠ 2 → Nx T (s.at_ + (prP E (prE dec E N) n a).length) (n + 1) → Rw E T (operandM T k) n a (prP E (prE dec E N) n a).length s) := by
  obtain ⟨x, hx, hk⟩ := hd
  unfold prP at hM hl ⊢
  rw [hx] at hM hl ⊢
  dsimp only at hM hl ⊢
  by_cases hlv : lvE x < n
  · rw [if_pos hlv] at hk hM hl ⊢
    subst hk
    have h0 := hM.head (s := s) rfl
    have h1 := hM.tail
    have h2 := h1.left
    have h3 := h1.right
    have hlen : ((4, [40]) :: (prE dec E N a ++ [(4, [41])]) : List Wd).length = 1 + (prE dec E N a).length + 1 := by simp; omega
    rw [hlen] at hl ⊢
    have key : Nx T (s.at_ + (1 + (prE dec E N a).length + 1)) 5 → Gd E a (1 + (prE dec E N a).length + 1) s (operandM T (k' + 1) s) := by
      intro _
      obtain ⟨s', e1, e2, e3, e4, e5⟩ := (hc N hN { s with at_ := s.at_ + 1 } ⟨hB.1, hB.2.1, hB.2.2⟩ hst h2 (by show s.at_ + 1 + _ < _; omega) x hx).2.1 0 (Nat.zero_le _) (nx_of h3 (by decide))
      have e2' : s'.at_ = s.at_ + 1 + (prE dec E N a).length := e2
      have hcur := h3.head (s := s') e2'
      have hst' : s'.st.length ≤ 1000 := by rw [e4]; exact hst
      refine ⟨{ s' with at_ := s'.at_ + 1 }, ?_, by show s'.at_ + 1 = _; omega, ⟨e3.1, e3.2.1, e3.2.2⟩, e4, e5⟩
      rw [operandM_succ]
      unfold operandS
      rw [isP_no (by rw [h0.2]; decide), if_neg (by decide)]
      rw [show isP T [[40]] s = true by unfold isP; rw [h0.2]; decide, if_pos rfl]
      rw [bd_ok (takeP_go hst (by rw [h0.2]; decide)), bd_ok (show expressionM T (operandM T k') { s with at_ := s.at_ + 1 } = .ok a s' from e1), bd_ok (takeP_go hst' (by rw [hcur.2]; decide))]
      rfl
    obtain ⟨c1, c2⟩ := cx_five key
    exact ⟨by rw [h0.2]; decide, c1 n hn, fun h5 h6 => c2 n h5 h6 hn⟩
  · rw [if_neg hlv] at hk hM hl ⊢
    subst hk
    obtain ⟨c0, c1, c2⟩ := hc N hN s hB hst hM hl x hx
    exact ⟨c0, c1 n (by omega), fun h5 h6 => c2 n h5 h6 (by omega)⟩
/-- Things that commas part, behind the first one. -/
theorem ctail_go {dec : Nat → List UInt8} {E : List Ex} {k N : Nat} : ∀ (r : List Nat) (f fu : Nat) (out : List Nat) (s : Sg), out.length ≠ 0 → r.length < fu → (∀ a ∈ r, a < N) → (∀ j (h : j < r.length), CxW T dec E k (stt f r j) r[j]) → (∀ a ∈ r, ∃ x, E[a]? = some x) → BT E f s → s.st.length ≤ 1000 →
    Mt T s.at_ (ctail (prE dec E N) r ++ [(4, [41])]) →
    ∃ s', listL T (expressionM T (operandM T k)) fu out s = .ok (out ++ r) s' ∧ s'.at_ = s.at_ + (ctail (prE dec E N) r).length ∧ BT E (stt f r r.length) s' ∧ s'.st = s.st ∧ s'.fn = s.fn
  | [], f, fu + 1, out, s, _, _, _, _, _, hB, _, hM => by
    have h0 := hM.head (s := s) rfl
    refine ⟨s, ?_, rfl, hB, rfl, rfl⟩
    unfold listL
    rw [if_pos (show isP T [[41]] s = true by unfold isP; rw [h0.2]; decide), List.append_nil]
  | _, _, 0, _, _, _, h, _, _, _, _, _, _ => absurd h (Nat.not_lt_zero _)
  | a :: r, f, fu + 1, out, s, ho, hf, hN, hC, hE, hB, hst, hM => by
    have hM' : Mt T s.at_ ((4, [44]) :: (prE dec E N a ++ (ctail (prE dec E N) r ++ [(4, [41])]))) := by simpa [ctail] using hM
    have h0 := hM'.head (s := s) rfl
    have h1 := hM'.tail
    have h2 := h1.left
    have h3 := h1.right
    obtain ⟨x, hx⟩ := hE a (by simp)
    have hnx : Nx T (s.at_ + 1 + (prE dec E N a).length) 0 := by
      cases r with
      | nil => exact nx_of h3 (by decide)
      | cons b r => exact nx_of (L := prE dec E N b ++ (ctail (prE dec E N) r ++ [(4, [41])])) (by simpa [ctail] using h3) (by decide)
    have hlt : s.at_ + 1 + (prE dec E N a).length < T.length := by
      obtain ⟨t, ht, _⟩ := h3 0 (by simp)
      rw [Nat.add_zero] at ht
      exact (List.getElem?_eq_some_iff.1 ht).1
    obtain ⟨s1, e1, e2, e3, e4, e5⟩ := (hC 0 (by simp) N (hN a (by simp)) { s with at_ := s.at_ + 1 } ⟨hB.1, hB.2.1, hB.2.2⟩ hst h2 hlt x hx).2.1 0 (Nat.zero_le _) hnx
    have e2' : s1.at_ = s.at_ + 1 + (prE dec E N a).length := e2
    have e4' : s1.st = s.st := e4
    obtain ⟨s2, g1, g2, g3, g4, g5⟩ := ctail_go r (a + 1) fu (out ++ [a]) s1 (by simp) (by simpa using hf) (fun b hb => hN b (by simp [hb])) (fun j hj => by
      have := hC (j + 1) (by simpa using hj)
      have e : stt f (a :: r) (j + 1) = stt (a + 1) r j := by
        cases j with
        | zero => rfl
        | succ j => rfl
      rw [e] at this
      simpa using this) (fun b hb => hE b (by simp [hb])) e3 (by rw [e4']; exact hst) (by rw [e2']; exact h3)
    refine ⟨s2, ?_, by rw [g2, e2']; simp [ctail]; omega, ?_, g4.trans e4, g5.trans e5⟩
    · unfold listL
      rw [isP_no (by rw [h0.2]; decide), if_neg (by decide), if_neg ho]
      rw [bd_ok (takeP_go hst (by rw [h0.2]; decide)), bd_ok (show expressionM T (operandM T k) { s with at_ := s.at_ + 1 } = .ok a s1 from e1), g1, List.append_assoc]
      rfl
    · have e : stt f (a :: r) (a :: r).length = stt (a + 1) r r.length := by
        cases r with
        | nil => rfl
        | cons b r => rfl
      rw [e]; exact g3
/-- What names and numbers are good for. -/
structure NmOk (nm : List UInt8 → Prop) (nu : Nat → Prop) (dec : Nat → List UInt8) : Prop where
  name : ∀ b, nm b → b ∉ ([[45], [33]] : List (List UInt8)) ∧ b ∉ ([[40]] : List (List UInt8)) ∧ b ∉ ([[41], [59]] : List (List UInt8)) ∧ b ∉ [kIf, kWhile, kElse, [125]]
  num : ∀ n, nu n → dec n ∉ ([[45], [33]] : List (List UInt8)) ∧ dec n ∉ ([[40]] : List (List UInt8)) ∧ dec n ∉ ([[41], [59]] : List (List UInt8)) ∧ numOf (dec n) = n
theorem isK_no {s : Sg} {k j : Nat} (h : (cur T s).kind = j) (hj : j ≠ k) : isK T k s = false := by unfold isK; rw [h]; exact beq_eq_false_iff_ne.2 hj
theorem isK_yes {s : Sg} {k : Nat} (h : (cur T s).kind = k) : isK T k s = true := by unfold isK; rw [h]; exact beq_self_eq_true _
theorem isP_yes {s : Sg} {l : List (List UInt8)} (h : (cur T s).txt ∈ l) : isP T l s = true := List.contains_iff_mem.2 h
/-- A name, and what stands behind it. -/
theorem operand_name {op : Ps Nat} {s : Sg} (h1 : (cur T s).kind = 1) (h2 : (cur T s).txt ∉ ([[45], [33]] : List (List UInt8))) (h3 : (cur T s).txt ∉ ([[40]] : List (List UInt8))) (hst : s.st.length ≤ 1000) :
    operandS T op s = (if isP T [[40]] { s with at_ := s.at_ + 1 } then callM T op (cur T s).lo (cur T s).txt { s with at_ := s.at_ + 1 }
      else if isP T [[91]] { s with at_ := s.at_ + 1 } then bd (indexM T (expressionM T op)) (fun a => putE T (cur T s).lo { kind := 5, name := (cur T s).txt, a := a }) { s with at_ := s.at_ + 1 }
      else putE T (cur T s).lo { kind := 4, name := (cur T s).txt } { s with at_ := s.at_ + 1 }) := by
  unfold operandS
  rw [isP_no h2, if_neg (by decide), isP_no h3, if_neg (by decide), isK_yes h1, if_pos rfl]
  unfold referenceM
  rw [bd_ok (takeK_go hst h1)]
variable {nm : List UInt8 → Prop} {nu : Nat → Prop} {dec : Nat → List UInt8}
theorem again (hn : NmOk nm nu dec) {E : List Ex} {k f i : Nat} (h : Sh nm nu E k f i) : CxW T dec E k f i := by
  induction h with
  | @num k i x hx hu hb =>
    intro N hN s hB hst hM hl x' hx'
    rw [hx] at hx'
    obtain rfl := Option.some.inj hx'
    obtain ⟨N, rfl⟩ : ∃ M, N = M + 1 := ⟨N - 1, by omega⟩
    have hk : x.kind = 1 := congrArg Ex.kind hb
    have e : prE dec E (N + 1) i = [(2, dec x.num)] := by simp [prE, hx, hk]
    rw [e] at hM hl ⊢
    rw [lvE5 (by rw [hk]; decide)]
    obtain ⟨h1, h2⟩ := hM.head (s := s) rfl
    obtain ⟨n1, n2, n4, n3⟩ := hn.num _ hu
    refine ⟨by rw [h2]; exact n4, cx_five fun _ => ?_⟩
    obtain ⟨s', g1, g2, g3, g4, g5⟩ := putE_go (T := T) (s := { s with at_ := s.at_ + 1 }) ⟨hB.1, hB.2.1, hB.2.2⟩ hx (y := { kind := 1, num := numOf (cur T s).txt }) (by rw [h2, n3, hb]; rfl) (cur T s).lo
    refine ⟨s', ?_, by rw [g2]; rfl, g3, g4, g5⟩
    rw [operandM_succ]
    unfold operandS
    rw [isP_no (by rw [h2]; exact n1), if_neg (by decide), isP_no (by rw [h2]; exact n2), if_neg (by decide), isK_no h1 (by simp), if_neg (by decide), isK_yes h1, if_pos rfl]
    unfold numberM
    rw [bd_ok (show bd (takeK T 2) (fun x => okP (numOf x)) s = .ok (numOf (cur T s).txt) { s with at_ := s.at_ + 1 } by rw [bd_ok (takeK_go hst h1)]; rfl)]
    exact g1
  | @word k i x hx hw hb =>
    intro N hN s hB hst hM hl x' hx'
    rw [hx] at hx'
    obtain rfl := Option.some.inj hx'
    obtain ⟨N, rfl⟩ : ∃ M, N = M + 1 := ⟨N - 1, by omega⟩
    have hk9 : x.kind ≠ 9 := by omega
    rw [lvE5 hk9]
    have key : ∀ w : List UInt8, prE dec E (N + 1) i = [(3, w)] → w ∈ [kTrue, kFalse, kRead] → (if w = kTrue then 2 else if w = kFalse then 3 else 7) = x.kind → w ∉ ([[45], [33]] : List (List UInt8)) → w ∉ ([[40]] : List (List UInt8)) → (Nx T (s.at_ + (prE dec E (N + 1) i).length) 5 → Gd E i (prE dec E (N + 1) i).length s (operandM T (k + 1) s)) := by
      intro w e hw2 hk hw3 hw4 _
      rw [e] at hM ⊢
      obtain ⟨h1, h2⟩ := hM.head (s := s) rfl
      obtain ⟨s', g1, g2, g3, g4, g5⟩ := putE_go (T := T) (s := { s with at_ := s.at_ + 1 }) ⟨hB.1, hB.2.1, hB.2.2⟩ hx (y := { kind := if (cur T s).txt = kTrue then 2 else if (cur T s).txt = kFalse then 3 else 7 }) (by rw [h2, hb]; show bare { kind := if w = kTrue then 2 else if w = kFalse then 3 else 7 } = _; rw [hk]; rfl) (cur T s).lo
      refine ⟨s', ?_, by rw [g2]; rfl, g3, g4, g5⟩
      rw [operandM_succ]
      unfold operandS
      rw [isP_no (by rw [h2]; exact hw3), if_neg (by decide), isP_no (by rw [h2]; exact hw4), if_neg (by decide), isK_no h1 (by simp), if_neg (by decide), isK_no h1 (by simp), if_neg (by decide)]
      unfold wordM
      rw [bd_ok (takeP_go hst (by rw [h2]; exact hw2))]
      exact g1
    have key0 : ∀ w : List UInt8, prE dec E (N + 1) i = [(3, w)] → w ∉ ([[41], [59]] : List (List UInt8)) → (cur T s).txt ∉ ([[41], [59]] : List (List UInt8)) := by
      intro w e hw
      rw [e] at hM
      rw [(hM.head (s := s) rfl).2]; exact hw
    rcases hw with hk | hk | hk
    · exact ⟨key0 kTrue (by simp [prE, hx, hk]) (by decide), cx_five (key kTrue (by simp [prE, hx, hk]) (by decide) (by rw [hk]; rfl) (by decide) (by decide))⟩
    · exact ⟨key0 kFalse (by simp [prE, hx, hk]) (by decide), cx_five (key kFalse (by simp [prE, hx, hk]) (by decide) (by rw [hk]; rfl) (by decide) (by decide))⟩
    · exact ⟨key0 kRead (by simp [prE, hx, hk]) (by decide), cx_five (key kRead (by simp [prE, hx, hk]) (by decide) (by rw [hk]; rfl) (by decide) (by decide))⟩
  | @name k i x hx hm hb =>
    intro N hN s hB hst hM hl x' hx'
    rw [hx] at hx'
    obtain rfl := Option.some.inj hx'
    obtain ⟨N, rfl⟩ : ∃ M, N = M + 1 := ⟨N - 1, by omega⟩
    have hk : x.kind = 4 := congrArg Ex.kind hb
    have e : prE dec E (N + 1) i = [(1, x.name)] := by simp [prE, hx, hk]
    rw [e] at hM hl ⊢
    rw [lvE5 (by rw [hk]; decide)]
    obtain ⟨h1, h2⟩ := hM.head (s := s) rfl
    obtain ⟨n1, n2, n3, _⟩ := hn.name _ hm
    refine ⟨by rw [h2]; exact n3, cx_five fun hnx => ?_⟩
    obtain ⟨s', g1, g2, g3, g4, g5⟩ := putE_go (T := T) (s := { s with at_ := s.at_ + 1 }) ⟨hB.1, hB.2.1, hB.2.2⟩ hx (y := { kind := 4, name := (cur T s).txt }) (by rw [h2, hb]; rfl) (cur T s).lo
    refine ⟨s', ?_, by rw [g2]; rfl, g3, g4, g5⟩
    rw [operandM_succ, operand_name h1 (by rw [h2]; exact n1) (by rw [h2]; exact n2) hst]
    have x1 : (cur T { s with at_ := s.at_ + 1 }).txt ∉ ([[40]] : List (List UInt8)) := by
      rw [List.mem_singleton]; exact hnx.1
    have x2 : (cur T { s with at_ := s.at_ + 1 }).txt ∉ ([[91]] : List (List UInt8)) := by
      rw [List.mem_singleton]; exact hnx.2.1
    rw [isP_no x1, if_neg (by decide), isP_no x2, if_neg (by decide)]
    exact g1
  | @idx k f i x hx hm hb hi _ ih =>
    intro N hN s hB hst hM hl x' hx'
    rw [hx] at hx'
    obtain rfl := Option.some.inj hx'
    obtain ⟨N, rfl⟩ : ∃ M, N = M + 1 := ⟨N - 1, by omega⟩
    have hk : x.kind = 5 := congrArg Ex.kind hb
    have e : prE dec E (N + 1) i = (1, x.name) :: (4, [91]) :: (prE dec E N x.a ++ [(4, [93])]) := by simp [prE, hx, hk]
    rw [e] at hM hl ⊢
    rw [lvE5 (by rw [hk]; decide)]
    obtain ⟨h1, h2⟩ := hM.head (s := s) rfl
    have hM1 := hM.tail
    have hM2 := hM1.tail
    obtain ⟨n1, n2, n3, _⟩ := hn.name _ hm
    have hlen : ((1, x.name) :: (4, [91]) :: (prE dec E N x.a ++ [(4, [93])]) : List Wd).length = (prE dec E N x.a).length + 3 := by simp
    rw [hlen] at hl ⊢
    refine ⟨by rw [h2]; exact n3, cx_five fun _ => ?_⟩
    obtain ⟨y1, y2⟩ := hM1.head (s := { s with at_ := s.at_ + 1 }) rfl
    have hAx := (List.getElem?_eq_some_iff.1 hx).1
    obtain ⟨s1, e1, e2, e3, e4, e5⟩ := (ih N (by omega) { s with at_ := s.at_ + 1 + 1 } ⟨hB.1, hB.2.1, hB.2.2⟩ hst hM2.left (by show s.at_ + 1 + 1 + _ < _; omega) _ (List.getElem?_eq_getElem (by omega))).2.1 0 (Nat.zero_le _) (nx_of hM2.right (by decide))
    have e2' : s1.at_ = s.at_ + 1 + 1 + (prE dec E N x.a).length := e2
    obtain ⟨z1, z2⟩ := hM2.right.head (s := s1) e2'
    have e4' : s1.st = s.st := e4
    obtain ⟨s', g1, g2, g3, g4, g5⟩ := putE_go (T := T) (s := { s1 with at_ := s1.at_ + 1 }) ⟨e3.1, e3.2.1, e3.2.2⟩ (by rw [hi]; exact hx) (y := { kind := 5, name := (cur T s).txt, a := x.a }) (by rw [h2, hb]; rfl) (cur T s).lo
    rw [hi] at g1 g3
    refine ⟨s', ?_, by rw [g2]; show s1.at_ + 1 = _; omega, g3, g4.trans e4, g5.trans e5⟩
    rw [operandM_succ, operand_name h1 (by rw [h2]; exact n1) (by rw [h2]; exact n2) hst]
    rw [isP_no (by rw [y2]; decide), if_neg (by decide), isP_yes (by rw [y2]; decide), if_pos rfl]
    unfold indexM
    rw [bd_ok (show bd (takeP T [[91]]) (fun _ => bd (expressionM T (operandM T k)) fun a => bd (takeP T [[93]]) fun _ => okP a) { s with at_ := s.at_ + 1 } = .ok x.a { s1 with at_ := s1.at_ + 1 } by
      rw [bd_ok (takeP_go (s := { s with at_ := s.at_ + 1 }) hst (by rw [y2]; decide)), bd_ok (show expressionM T (operandM T k) { s with at_ := s.at_ + 1 + 1 } = .ok x.a s1 from e1), bd_ok (takeP_go (by rw [e4']; exact hst) (by rw [z2]; decide))]
      rfl)]
    exact g1
  | @call k f i x hx hm hb hi hs ih =>
    intro N hN s hB hst hM hl x' hx'
    rw [hx] at hx'
    obtain rfl := Option.some.inj hx'
    obtain ⟨N, rfl⟩ : ∃ M, N = M + 1 := ⟨N - 1, by omega⟩
    have hk : x.kind = 6 := congrArg Ex.kind hb
    have e : prE dec E (N + 1) i = (1, x.name) :: (4, [40]) :: (commaL (prE dec E N) x.list ++ [(4, [41])]) := by simp [prE, hx, hk]
    rw [e] at hM hl ⊢
    rw [lvE5 (by rw [hk]; decide)]
    obtain ⟨h1, h2⟩ := hM.head (s := s) rfl
    have hM1 := hM.tail
    have hM2 := hM1.tail
    obtain ⟨n1, n2, n3, _⟩ := hn.name _ hm
    have hlen : ((1, x.name) :: (4, [40]) :: (commaL (prE dec E N) x.list ++ [(4, [41])]) : List Wd).length = (commaL (prE dec E N) x.list).length + 3 := by simp
    rw [hlen] at hl ⊢
    refine ⟨by rw [h2]; exact n3, cx_five fun _ => ?_⟩
    obtain ⟨y1, y2⟩ := hM1.head (s := { s with at_ := s.at_ + 1 }) rfl
    have hAx := (List.getElem?_eq_some_iff.1 hx).1
    have hin : ∀ j (h : j < x.list.length), x.list[j] < i := by
      have hstt : ∀ j, j < x.list.length → stt f x.list (j + 1) = x.list.getD j 0 + 1 := fun _ _ => rfl
      have hmono : ∀ d j, j + d = x.list.length → stt f x.list j ≤ i := by
        intro d
        induction d with
        | zero => intro j hj; obtain rfl : j = x.list.length := by omega
                  omega
        | succ d ihd =>
          intro j hj
          have a1 := ihd (j + 1) (by omega)
          have a2 := (hs j (by omega)).lt.2
          have a3 : stt f x.list (j + 1) = x.list[j] + 1 := by rw [hstt j (by omega), List.getD_eq_getElem?_getD, List.getElem?_eq_getElem (by omega)]; rfl
          omega
      intro j hj
      have a1 := hmono (x.list.length - (j + 1)) (j + 1) (by omega)
      have a3 : stt f x.list (j + 1) = x.list[j] + 1 := by rw [hstt j hj, List.getD_eq_getElem?_getD, List.getElem?_eq_getElem hj]; rfl
      omega
    have hmem : ∀ a ∈ x.list, a < i := fun a ha => by
      obtain ⟨j, hj, rfl⟩ := List.mem_iff_getElem.1 ha
      exact hin j hj
    have hlist : ∃ s1, listM T (expressionM T (operandM T k)) { s with at_ := s.at_ + 1 } = .ok x.list s1 ∧ s1.at_ = s.at_ + 1 + 1 + (commaL (prE dec E N) x.list).length + 1 ∧ BT E i s1 ∧ s1.st = s.st ∧ s1.fn = s.fn := by
      unfold listM
      rw [bd_ok (takeP_go (s := { s with at_ := s.at_ + 1 }) hst (by rw [y2]; decide))]
      have hloop : ∃ s1, listL T (expressionM T (operandM T k)) (T.length + 1) [] { s with at_ := s.at_ + 1 + 1 } = .ok x.list s1 ∧ s1.at_ = s.at_ + 1 + 1 + (commaL (prE dec E N) x.list).length ∧ BT E i s1 ∧ s1.st = s.st ∧ s1.fn = s.fn := by
        cases hll : x.list with
        | nil =>
          rw [hll] at hM2 hi
          have h0 := hM2.head (s := { s with at_ := s.at_ + 1 + 1 }) rfl
          refine ⟨{ s with at_ := s.at_ + 1 + 1 }, ?_, rfl, ?_, rfl, rfl⟩
          · unfold listL
            rw [isP_yes (by rw [h0.2]; decide), if_pos rfl]
          · rw [← hi]; exact ⟨hB.1, hB.2.1, hB.2.2⟩
        | cons a r =>
          rw [hll] at hM2 hi hin hmem ih hl
          have hM2' : Mt T (s.at_ + 1 + 1) (prE dec E N a ++ (ctail (prE dec E N) r ++ [(4, [41])])) := by simpa [commaL] using hM2
          have hnx : Nx T (s.at_ + 1 + 1 + (prE dec E N a).length) 0 := by
            cases r with
            | nil => exact nx_of hM2'.right (by decide)
            | cons b r => exact nx_of (L := prE dec E N b ++ (ctail (prE dec E N) r ++ [(4, [41])])) (by simpa [ctail] using hM2'.right) (by decide)
          have hcl : (commaL (prE dec E N) (a :: r)).length = (prE dec E N a).length + (ctail (prE dec E N) r).length := by simp [commaL]
          rw [hcl] at hl
          have ha : a < i := hmem a (by simp)
          obtain ⟨e0, eA, _⟩ := ih 0 (by simp) N (by show a < N; omega) { s with at_ := s.at_ + 1 + 1 } ⟨hB.1, hB.2.1, hB.2.2⟩ hst hM2'.left (by show s.at_ + 1 + 1 + (prE dec E N a).length < _; omega) _ (List.getElem?_eq_getElem (by show a < _; omega))
          obtain ⟨s2, e1, e2, e3, e4, e5⟩ := eA 0 (Nat.zero_le _) hnx
          have e2' : s2.at_ = s.at_ + 1 + 1 + (prE dec E N a).length := e2
          have e4' : s2.st = s.st := e4
          have hr : ∀ (q : List Nat), q.length ≤ (ctail (prE dec E N) q).length := by
            intro q
            induction q with
            | nil => exact Nat.zero_le _
            | cons b q ihq => simp [ctail]; omega
          obtain ⟨s3, g1, g2, g3, g4, g5⟩ := ctail_go (T := T) (dec := dec) (E := E) (k := k) (N := N) r (a + 1) T.length [a] s2 (by simp) (by have := hr r; omega) (fun b hb => by have := hmem b (by simp [hb]); omega) (fun j hj => by
            have := ih (j + 1) (by simpa using hj)
            have e : stt f (a :: r) (j + 1) = stt (a + 1) r j := by
              cases j with
              | zero => rfl
              | succ j => rfl
            rw [e] at this
            simpa using this) (fun b hb => by have := hmem b (by simp [hb]); exact ⟨_, List.getElem?_eq_getElem (by omega)⟩) e3 (by rw [e4']; exact hst) (by rw [e2']; exact hM2'.right)
          refine ⟨s3, ?_, by rw [g2, e2', hcl]; omega, ?_, g4.trans e4, g5.trans e5⟩
          · have hfirst : (cur T { s with at_ := s.at_ + 1 + 1 }).txt ∉ ([[41]] : List (List UInt8)) := by
              intro hm
              rw [List.mem_singleton] at hm
              exact e0 (by rw [hm]; decide)
            unfold listL
            rw [isP_no hfirst, if_neg (by decide), if_pos (show ([] : List Nat).length = 0 from rfl)]
            rw [bd_ok (show okP [] { s with at_ := s.at_ + 1 + 1 } = .ok [] { s with at_ := s.at_ + 1 + 1 } from rfl), bd_ok (show expressionM T (operandM T k) { s with at_ := s.at_ + 1 + 1 } = .ok a s2 from e1)]
            exact g1
          · have e : stt f (a :: r) (a :: r).length = stt (a + 1) r r.length := by
              cases r with
              | nil => rfl
              | cons b r => rfl
            rw [← hi, e]; exact g3
      obtain ⟨s1, q1, q2, q3, q4, q5⟩ := hloop
      obtain ⟨z1, z2⟩ := hM2.right.head (s := s1) q2
      rw [bd_ok q1, bd_ok (takeP_go (by rw [q4]; exact hst) (by rw [z2]; decide))]
      exact ⟨{ s1 with at_ := s1.at_ + 1 }, rfl, by show s1.at_ + 1 = _; omega, ⟨q3.1, q3.2.1, q3.2.2⟩, q4, q5⟩
    obtain ⟨s1, q1, q2, q3, q4, q5⟩ := hlist
    obtain ⟨s', g1, g2, g3, g4, g5⟩ := putE_go (T := T) q3 hx (y := { kind := 6, name := (cur T s).txt, list := x.list }) (by rw [h2, hb]; rfl) (cur T s).lo
    refine ⟨s', ?_, by rw [g2, q2]; omega, g3, g4.trans q4, g5.trans q5⟩
    rw [operandM_succ, operand_name h1 (by rw [h2]; exact n1) (by rw [h2]; exact n2) hst]
    rw [isP_yes (by rw [y2]; decide), if_pos rfl]
    unfold callM
    rw [bd_ok q1]
    exact g1
  | @un k k' f i x hx ho hb hi hd _ ih =>
    intro N hN s hB hst hM hl x' hx'
    rw [hx] at hx'
    obtain rfl := Option.some.inj hx'
    obtain ⟨N, rfl⟩ : ∃ M, N = M + 1 := ⟨N - 1, by omega⟩
    have hk : x.kind = 8 := congrArg Ex.kind hb
    have e : prE dec E (N + 1) i = (4, x.op) :: prP E (prE dec E N) 5 x.a := by simp [prE, hx, hk]
    rw [e] at hM hl ⊢
    rw [lvE5 (by rw [hk]; decide)]
    obtain ⟨h1, h2⟩ := hM.head (s := s) rfl
    have hM1 := hM.tail
    have hlen : ((4, x.op) :: prP E (prE dec E N) 5 x.a : List Wd).length = (prP E (prE dec E N) 5 x.a).length + 1 := by simp
    rw [hlen] at hl ⊢
    have hop : (cur T s).txt ∈ ([[45], [33]] : List (List UInt8)) := by rw [h2]; rcases ho with h | h <;> rw [h] <;> decide
    refine ⟨by rw [h2]; rcases ho with h | h <;> rw [h] <;> decide, cx_five fun hnx => ?_⟩
    obtain ⟨_, c1, _⟩ := part_go hd (Nat.le_refl 5) ih (N := N) (by omega) (s := { s with at_ := s.at_ + 1 }) ⟨hB.1, hB.2.1, hB.2.2⟩ hst hM1 (by show s.at_ + 1 + _ < _; omega)
    obtain ⟨s1, e1, e2, e3, e4, e5⟩ := c1 (by rw [show ({ s with at_ := s.at_ + 1 } : Sg).at_ + (prP E (prE dec E N) 5 x.a).length = s.at_ + ((prP E (prE dec E N) 5 x.a).length + 1) by show s.at_ + 1 + _ = _; omega]; exact hnx)
    have e2' : s1.at_ = s.at_ + 1 + (prP E (prE dec E N) 5 x.a).length := e2
    obtain ⟨s', g1, g2, g3, g4, g5⟩ := putE_go (T := T) e3 (by rw [hi]; exact hx) (y := { kind := 8, op := (cur T s).txt, a := x.a }) (by rw [h2, hb]; rfl) (cur T s).lo
    rw [hi] at g1 g3
    refine ⟨s', ?_, by rw [g2, e2']; omega, g3, g4.trans e4, g5.trans e5⟩
    rw [operandM_succ]
    unfold operandS
    rw [isP_yes hop, if_pos rfl, bd_ok (next_go hst), bd_ok (show operandM T k { s with at_ := s.at_ + 1 } = .ok x.a s1 from e1)]
    exact g1
  | @pair k k1 k2 f i x hx ho hb hi hd1 _ hd2 hsb ih1 ih2 =>
    intro N hN s hB hst hM hl x' hx'
    rw [hx] at hx'
    obtain rfl := Option.some.inj hx'
    obtain ⟨N, rfl⟩ : ∃ M, N = M + 1 := ⟨N - 1, by omega⟩
    have hk : x.kind = 9 := congrArg Ex.kind hb
    have hab := hsb.lt.2
    have e : prE dec E (N + 1) i = prP E (prE dec E N) (lvA x.op) x.a ++ (4, x.op) :: prP E (prE dec E N) (lvB x.op) x.b := by simp [prE, hx, hk]
    rw [e] at hM hl ⊢
    obtain ⟨hos, hl5⟩ := op_sgn ho
    rw [show lvE x = lvl x.op by unfold lvE; rw [if_pos hk]]
    have hMa := hM.left
    have hMo := hM.right
    have hMb := hMo.tail
    rw [List.length_append] at hl ⊢
    simp only [List.length_cons] at hl ⊢
    have hnxo : ∀ n, lvl x.op < n → Nx T (s.at_ + (prP E (prE dec E N) (lvA x.op) x.a).length) n := fun n hn2 => by
      refine nx_of hMo ⟨?_, ?_, fun _ => hn2⟩
      · intro h40
        dsimp only at h40
        rw [h40] at ho
        exact absurd ho (by decide)
      · intro h91
        dsimp only at h91
        rw [h91] at ho
        exact absurd ho (by decide)
    have hlA : lvA x.op ≤ 5 := by unfold lvA; split <;> omega
    have hlB : lvB x.op ≤ 5 := by unfold lvB; omega
    obtain ⟨a0, a1, a2⟩ := part_go hd1 hlA ih1 (N := N) (by omega) hB hst hMa (by omega)
    -- behind the sign
    have behind : ∀ s1 : Sg, s1.at_ = s.at_ + (prP E (prE dec E N) (lvA x.op) x.a).length → BT E (x.a + 1) s1 → s1.st = s.st → s1.fn = s.fn → ∀ lo, Nx T (s.at_ + ((prP E (prE dec E N) (lvA x.op) x.a).length + ((prP E (prE dec E N) (lvB x.op) x.b).length + 1))) (lvB x.op) →
        isP T (sgn (lvl x.op)) s1 = true ∧ s1.at_ < T.length ∧ Gd E i ((prP E (prE dec E N) (lvB x.op) x.b).length + 1) s1 (pairM T (lev T (operandM T k) (lvB x.op)) lo x.a s1) := by
      intro s1 b1 b2 b3 b4 lo hnx
      obtain ⟨z1, z2⟩ := hMo.head (s := s1) b1
      refine ⟨isP_yes (by rw [z2]; exact hos), by omega, ?_⟩
      have hst1 : s1.st.length ≤ 1000 := by rw [b3]; exact hst
      obtain ⟨_, c1, _⟩ := part_go hd2 hlB ih2 (N := N) (by omega) (s := { s1 with at_ := s1.at_ + 1 }) ⟨b2.1, b2.2.1, b2.2.2⟩ hst1 (by show Mt T (s1.at_ + 1) _; rw [b1]; exact hMb) (by show s1.at_ + 1 + _ < _; omega)
      obtain ⟨s2, e1, e2, e3, e4, e5⟩ := c1 (by rw [show ({ s1 with at_ := s1.at_ + 1 } : Sg).at_ + (prP E (prE dec E N) (lvB x.op) x.b).length = s.at_ + ((prP E (prE dec E N) (lvA x.op) x.a).length + ((prP E (prE dec E N) (lvB x.op) x.b).length + 1)) by show s1.at_ + 1 + _ = _; omega]; exact hnx)
      have e2' : s2.at_ = s1.at_ + 1 + (prP E (prE dec E N) (lvB x.op) x.b).length := e2
      obtain ⟨s', g1, g2, g3, g4, g5⟩ := putE_go (T := T) e3 (by rw [hi]; exact hx) (y := { kind := 9, op := (cur T s1).txt, a := x.a, b := x.b }) (by rw [z2, hb]; rfl) lo
      rw [hi] at g1 g3
      refine ⟨s', ?_, by rw [g2, e2']; omega, g3, g4.trans e4, g5.trans e5⟩
      unfold pairM
      rw [bd_ok (next_go hst1), bd_ok e1]
      exact g1
    refine ⟨a0, ?_⟩
    by_cases h2 : lvl x.op = 2
    · have hA : lvA x.op = 3 := by unfold lvA; rw [if_pos h2]
      have hBl : lvB x.op = 3 := by unfold lvB; omega
      have key : Nx T (s.at_ + ((prP E (prE dec E N) (lvA x.op) x.a).length + ((prP E (prE dec E N) (lvB x.op) x.b).length + 1))) 2 → Gd E i ((prP E (prE dec E N) (lvA x.op) x.a).length + ((prP E (prE dec E N) (lvB x.op) x.b).length + 1)) s (lev T (operandM T k) 2 s) := by
        intro hnx
        obtain ⟨s1, e1, e2, e3, e4, e5⟩ := a1 (hnxo _ (by omega))
        rw [hA] at e1
        obtain ⟨p1, p2, s2, q1, q2, q3, q4, q5⟩ := behind s1 e2 e3 e4 e5 (cur T s).lo (hnx.mono (by omega))
        rw [hBl] at q1
        rw [h2] at p1
        refine ⟨s2, ?_, by rw [q2, e2]; omega, q3, q4.trans e4, q5.trans e5⟩
        show comparisonM T (operandM T k) s = _
        unfold comparisonM
        rw [bd_ok (show sumM T (operandM T k) s = .ok x.a s1 from e1), if_pos (show isP T sgCmp s1 = true from p1)]
        exact q1
      rw [h2]
      have hA2 : ∀ n, n ≤ 2 → Nx T (s.at_ + ((prP E (prE dec E N) (lvA x.op) x.a).length + ((prP E (prE dec E N) (lvB x.op) x.b).length + 1))) n → Gd E i ((prP E (prE dec E N) (lvA x.op) x.a).length + ((prP E (prE dec E N) (lvB x.op) x.b).length + 1)) s (lev T (operandM T k) n s) := fun n hn2 hx2 => lev_downs 2 n hn2 (by omega) (key (hx2.mono hn2)) hx2
      exact ⟨hA2, fun n hn5 hn2 hle hx2 => row_of hn5 hn2 (hA2 (n + 1) (by omega) hx2)⟩
    · have hA : lvA x.op = lvl x.op := by unfold lvA; rw [if_neg h2]
      have key : Nx T (s.at_ + ((prP E (prE dec E N) (lvA x.op) x.a).length + ((prP E (prE dec E N) (lvB x.op) x.b).length + 1))) (lvl x.op + 1) → Rw E T (operandM T k) (lvl x.op) i ((prP E (prE dec E N) (lvA x.op) x.a).length + ((prP E (prE dec E N) (lvB x.op) x.b).length + 1)) s := by
        intro hnx
        obtain ⟨lo, fu, s1, e1, ef, e2, e3, e4, e5⟩ := a2 (by omega) (by omega) (hnxo _ (by omega))
        rw [hA] at e1
        obtain ⟨p1, p2, s2, q1, q2, q3, q4, q5⟩ := behind s1 e2 e3 e4 e5 lo hnx
        obtain ⟨fu, rfl⟩ : ∃ g, fu = g + 1 := ⟨fu - 1, by omega⟩
        refine ⟨lo, fu, s2, ?_, by omega, by rw [q2, e2]; omega, q3, q4.trans e4, q5.trans e5⟩
        rw [e1]
        conv => lhs; unfold rowL
        rw [if_pos p1, bd_ok (show pairM T (lev T (operandM T k) (lvl x.op + 1)) lo x.a s1 = .ok i s2 from q1)]
      have hA1 : ∀ n, n ≤ lvl x.op → Nx T (s.at_ + ((prP E (prE dec E N) (lvA x.op) x.a).length + ((prP E (prE dec E N) (lvB x.op) x.b).length + 1))) n → Gd E i ((prP E (prE dec E N) (lvA x.op) x.a).length + ((prP E (prE dec E N) (lvB x.op) x.b).length + 1)) s (lev T (operandM T k) n s) := fun n hn2 hx2 =>
        lev_downs (lvl x.op) n hn2 (by omega) (rw_gd hl5 (key (hx2.mono (by omega))) (hx2.mono hn2) (by omega)) hx2
      refine ⟨hA1, fun n hn5 hn2 hle hx2 => ?_⟩
      rcases Nat.lt_or_ge n (lvl x.op) with hlt | hge
      · exact row_of hn5 hn2 (hA1 (n + 1) (by omega) hx2)
      · obtain rfl : n = lvl x.op := by omega
        exact key hx2
end
end Go.Proofs.YtdeflloidhbpmaaGreatDoor
