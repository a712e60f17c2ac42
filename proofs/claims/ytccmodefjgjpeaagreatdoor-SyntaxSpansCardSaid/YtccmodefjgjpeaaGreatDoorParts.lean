/-
  rewindlaw04.within, parts: a span within another one; an expression's parts.
-/
import Derived.Test.YtccmodefjgjpeaaGreatDoorCell
import Derived.Test.YtccmodefjgjpeaaGreatDoorSpanS
import Derived.Laws.OwnMore
namespace Go.Proofs.YtccmodefjgjpeaaGreatDoor
open Go.RowKit

set_option maxRecDepth 100000 in
set_option maxHeartbeats 1000000 in
theorem within_calls (a b c d : Nat) (h1 : c ≤ a) (h2 : b ≤ d) (w : World) :
    Calls Tryz.prog 17 #[.agg #[.int .i64 (a : Int), .int .i64 (b : Int)], .agg #[.int .i64 (c : Int), .int .i64 (d : Int)]] w fun e w' => e = .returned (.bool true) ∧ Below w.heap.size w w' := by
  have d1 : decide ((c : Int) ≤ (a : Int)) = true := decide_eq_true (by omega)
  have d2 : decide ((b : Int) ≤ (d : Int)) = true := decide_eq_true (by omega)
  have d3 : decide (c ≤ a) = true := decide_eq_true h1
  have d4 : decide (b ≤ d) = true := decide_eq_true h2
  go_enter Tryz.func17, Tryz.ntmps17
  go_wp2
  go_ret
  exact ⟨rfl, below_two w _ _⟩

/-- A slice that was just made. -/
theorem rw_new (w : World) (cs : List Value) (t : TypeId) (k : Nat) : RwAt (w.alloc (.cells cs.toArray t)) (fun _ => True) (.slice (some ⟨w.heap.size, 0, none⟩) cs.length k) cs := by
  refine ⟨_, _, rfl, fun g hg => ⟨True.intro, ?_⟩, fun _ => ⟨w.heap.size, rfl, fun i u hu => ?_⟩⟩
  · have : g = w.heap.size := by simp [Value.ownBlock] at hg; exact hg.symm
    subst this
    simp
  · rw [cellK (heap_one w cs.toArray t) i]
    simpa using hu
theorem RwAt.any {w : World} {L : Nat → Prop} {v : Value} {vs : List Value} (h : RwAt w L v vs) : RwAt w (fun _ => True) v vs := by
  obtain ⟨A, c, e, h1, h2⟩ := h
  exact ⟨A, c, e, fun g hg => ⟨True.intro, (h1 g hg).2⟩, h2⟩
/-- What parts answers. -/
def PartsPost (x : Ex) (w : World) (e : Ending) (w' : World) : Prop := ∃ v, e = .returned v ∧ RwAt w' (fun _ => True) v (intsV (partsL x)) ∧ Below w.heap.size w w'

set_option maxRecDepth 100000 in
set_option maxHeartbeats 1000000 in
theorem parts_calls (L : Nat → Prop) (x : Ex) (A : Option Addr) (n c : Nat) (w : World) (hl : RwAt w L (.slice A n c) (intsV x.list)) :
    Calls Tryz.prog 16 #[.agg #[.int .i64 (x.kind : Int), .int .i64 (x.lo : Int), .int .i64 (x.hi : Int), .int .i64 (x.num : Int), .string (bs x.name), .string (bs x.op), .int .i64 (x.a : Int), .int .i64 (x.b : Int), .slice A n c]] w (PartsPost x w) := by
  have kk : ∀ k : Nat, x.kind ≠ k → ((x.kind : Int) == (k : Int)) = false := fun k h => by rw [beq_eq_false_iff_ne]; omega
  by_cases h5 : x.kind = 5
  · have H : ∀ w1, Below w.heap.size w w1 → PartsPost x w (.returned (.slice (some ⟨w1.heap.size, 0, none⟩) 1 1)) (w1.alloc (.cells #[.int .i64 (x.a : Int)] 3)) := fun w1 hB =>
      ⟨_, rfl, by rw [show partsL x = [x.a] by simp [partsL, h5]]; exact rw_new w1 [.int .i64 (x.a : Int)] _ 1, hB.alloc hB.size _⟩
    have HH := Lib.hid H
    have e5 : ((x.kind : Int) == 5) = true := by rw [h5]; rfl
    clear hl kk H h5
    go_enter Tryz.func16, Tryz.ntmps16
    go_wp2
    go_ret
    have hq := HH.out _ ((Below.refl _ w).alloc (Nat.le_refl _) (.cells #[.int .i64 (x.kind : Int), .int .i64 (x.lo : Int), .int .i64 (x.hi : Int), .int .i64 (x.num : Int), .string (bs x.name), .string (bs x.op), .int .i64 (x.a : Int), .int .i64 (x.b : Int), .slice A n c] 35))
    rw [alloc_size] at hq
    exact hq
  by_cases h8 : x.kind = 8
  · have H : ∀ w1, Below w.heap.size w w1 → PartsPost x w (.returned (.slice (some ⟨w1.heap.size, 0, none⟩) 1 1)) (w1.alloc (.cells #[.int .i64 (x.a : Int)] 3)) := fun w1 hB =>
      ⟨_, rfl, by rw [show partsL x = [x.a] by simp [partsL, h8]]; exact rw_new w1 [.int .i64 (x.a : Int)] _ 1, hB.alloc hB.size _⟩
    have HH := Lib.hid H
    have e5 := kk 5 h5
    have e8 : ((x.kind : Int) == 8) = true := by rw [h8]; rfl
    clear hl kk H h5 h8
    go_enter Tryz.func16, Tryz.ntmps16
    go_wp2
    go_ret
    have hq := HH.out _ ((Below.refl _ w).alloc (Nat.le_refl _) (.cells #[.int .i64 (x.kind : Int), .int .i64 (x.lo : Int), .int .i64 (x.hi : Int), .int .i64 (x.num : Int), .string (bs x.name), .string (bs x.op), .int .i64 (x.a : Int), .int .i64 (x.b : Int), .slice A n c] 35))
    rw [alloc_size] at hq
    exact hq
  by_cases h9 : x.kind = 9
  · have H : ∀ w1, Below w.heap.size w w1 → PartsPost x w (.returned (.slice (some ⟨w1.heap.size, 0, none⟩) 2 2)) (w1.alloc (.cells #[.int .i64 (x.a : Int), .int .i64 (x.b : Int)] 3)) := fun w1 hB =>
      ⟨_, rfl, by rw [show partsL x = [x.a, x.b] by simp [partsL, h9]]; exact rw_new w1 [.int .i64 (x.a : Int), .int .i64 (x.b : Int)] _ 2, hB.alloc hB.size _⟩
    have HH := Lib.hid H
    have e5 := kk 5 h5
    have e8 := kk 8 h8
    have e9 : ((x.kind : Int) == 9) = true := by rw [h9]; rfl
    clear hl kk H h5 h8 h9
    go_enter Tryz.func16, Tryz.ntmps16
    go_wp2
    go_ret
    have hq := HH.out _ ((Below.refl _ w).alloc (Nat.le_refl _) (.cells #[.int .i64 (x.kind : Int), .int .i64 (x.lo : Int), .int .i64 (x.hi : Int), .int .i64 (x.num : Int), .string (bs x.name), .string (bs x.op), .int .i64 (x.a : Int), .int .i64 (x.b : Int), .slice A n c] 35))
    rw [alloc_size] at hq
    exact hq
  by_cases h6 : x.kind = 6
  · have H : ∀ w1, Below w.heap.size w w1 → PartsPost x w (.returned (.slice A n c)) w1 := fun w1 hB =>
      ⟨_, rfl, by rw [show partsL x = x.list by simp [partsL, h6]]; exact (hl.belowL hB).any, hB⟩
    have HH := Lib.hid H
    have e5 := kk 5 h5
    have e8 := kk 8 h8
    have e9 := kk 9 h9
    have e6 : ((x.kind : Int) == 6) = true := by rw [h6]; rfl
    clear hl kk H h5 h8 h9 h6
    go_enter Tryz.func16, Tryz.ntmps16
    go_wp2
    go_ret
    exact HH.out _ ((Below.refl _ w).alloc (Nat.le_refl _) _)
  · have H : ∀ w1, Below w.heap.size w w1 → PartsPost x w (.returned (.slice none 0 0)) w1 := fun w1 hB =>
      ⟨_, rfl, by rw [show partsL x = [] by simp [partsL, h5, h8, h9, h6]]; exact rwAt_nil _ _, hB⟩
    have HH := Lib.hid H
    have e5 := kk 5 h5
    have e8 := kk 8 h8
    have e9 := kk 9 h9
    have e6 := kk 6 h6
    clear hl kk H h5 h8 h9 h6
    go_enter Tryz.func16, Tryz.ntmps16
    go_wp2
    go_ret
    exact HH.out _ ((Below.refl _ w).alloc (Nat.le_refl _) _)

theorem partsL_len {x : Ex} {N : Nat} (h : x.list.length ≤ N) (h2 : 2 ≤ N) : (partsL x).length ≤ N := by
  unfold partsL
  by_cases h5 : x.kind = 5 ∨ x.kind = 8
  · rw [if_pos h5]; simp; omega
  · rw [if_neg h5]
    by_cases h9 : x.kind = 9
    · rw [if_pos h9]; simpa using h2
    · rw [if_neg h9]
      by_cases h6 : x.kind = 6
      · rw [if_pos h6]; exact h
      · rw [if_neg h6]; simp
/-! ### places in lists -/
theorem drop_get {α : Type} {l : List α} {k : Nat} (h : k < l.length) : l.drop k = l[k] :: l.drop (k + 1) := List.drop_eq_getElem_cons h
/-- A part that comes next. -/
theorem Chain.step {E : List Ex} {last hi k : Nat} {l : List Nat} (hk : k < l.length) (h : Chain E last (l.drop k) hi) : ∃ y, E[l[k]]? = some y ∧ last ≤ y.lo ∧ y.lo ≤ y.hi ∧ y.hi ≤ hi ∧ Chain E y.hi (l.drop (k + 1)) hi := by
  rw [drop_get hk] at h
  exact h
theorem take_get {α : Type} {l : List α} {i k : Nat} {y : α} (h : (l.take i)[k]? = some y) : k < i ∧ ∃ hk : k < l.length, l[k] = y := by
  rw [List.getElem?_take] at h
  by_cases hi : k < i
  · rw [if_pos hi] at h
    exact ⟨hi, (List.getElem?_eq_some_iff.1 h)⟩
  · rw [if_neg hi] at h; cases h
/-- Where an expression, a statement stands. -/
theorem TrIn.exP {L : Nat → Prop} {w : World} {A2 A3 : Option Addr} {g n1 n2 n3 c1 c2 c3 : Nat} {s : Sg} (h : TrIn L w (.agg #[.slice (some ⟨g, 0, none⟩) n1 c1, .slice A2 n2 c2, .slice A3 n3 c3]) s) (i : Nat) (hi : i < s.ex.length) :
    g < w.heap.size ∧ w.cell? ⟨g, i * 9 + 1, none⟩ = some (.int .i64 (s.ex[i].lo : Int)) ∧ w.cell? ⟨g, i * 9 + 2, none⟩ = some (.int .i64 (s.ex[i].hi : Int)) := by
  obtain ⟨g', l, e, hg, _, _, x1, x2, _⟩ := h.exC i hi
  injection e with e
  injection e with e
  subst e
  exact ⟨hg, x1, x2⟩
theorem TrIn.smP {L : Nat → Prop} {w : World} {A1 A3 : Option Addr} {g n1 n2 n3 c1 c2 c3 : Nat} {s : Sg} (h : TrIn L w (.agg #[.slice A1 n1 c1, .slice (some ⟨g, 0, none⟩) n2 c2, .slice A3 n3 c3]) s) (i : Nat) (hi : i < s.st.length) :
    g < w.heap.size ∧ w.cell? ⟨g, i * 9 + 1, none⟩ = some (.int .i64 (s.st[i].lo : Int)) ∧ w.cell? ⟨g, i * 9 + 2, none⟩ = some (.int .i64 (s.st[i].hi : Int)) := by
  obtain ⟨g', l, m, e, hg, _, _, _, x1, x2, _⟩ := h.smC i hi
  injection e with e
  injection e with e
  subst e
  exact ⟨hg, x1, x2⟩
/-- How often each number stands in a list, below n. -/
def cntV (n : Nat) (l : List Nat) : Array Value := ((List.range n).map fun k => Value.int .i64 ((l.count k : Nat) : Int)).toArray
theorem cntV_get (n : Nat) (l : List Nat) (k : Nat) (h : k < n) : (cntV n l)[k]? = some (.int .i64 ((l.count k : Nat) : Int)) := by
  simp [cntV, h]
theorem cntV_set (n : Nat) (l : List Nat) (p : Nat) (hp : p < n) : (cntV n l).setIfInBounds p (.int .i64 (((l.count p : Nat) : Int) + 1)) = cntV n (l ++ [p]) := by
  apply Array.ext_getElem?
  intro k
  rw [Array.getElem?_setIfInBounds]
  by_cases hk : k < n
  · rw [cntV_get n (l ++ [p]) k hk]
    by_cases hpk : p = k
    · subst hpk
      rw [if_pos rfl, if_pos (by simp [cntV]; omega)]
      simp
    · rw [if_neg hpk, cntV_get n l k hk]
      have : (l ++ [p]).count k = l.count k := by
        rw [List.count_append, List.count_singleton, if_neg (by rw [beq_iff_eq]; exact hpk), Nat.add_zero]
      rw [this]
  · rw [if_neg (by rintro rfl; exact hk hp)]
    simp [cntV, hk]
theorem cntV_nil (n : Nat) : madeCells #[.int .i64 0] n = cntV n [] := by
  apply Array.ext'
  rw [toList_madeCells_one]
  apply List.ext_getElem?
  intro j
  by_cases hj : j < n
  · simp [cntV, hj]
  · simp [cntV, hj]
theorem count_prefix (a b : List Nat) (p : Nat) : a.count p ≤ (a ++ b).count p := by rw [List.count_append]; omega
theorem refs_split {S : List Sm} {i : Nat} (h : i < S.length) : refs S = refs (S.take i) ++ ((S[i].thn ++ S[i].els) ++ refs (S.drop (i + 1))) := by
  conv => lhs; rw [← List.take_append_drop i S, drop_get h]
  rw [refs_app]
  congr 1
theorem refs_take {S : List Sm} {i : Nat} (h : i < S.length) : refs (S.take (i + 1)) = refs (S.take i) ++ (S[i].thn ++ S[i].els) := by
  rw [List.take_add_one, List.getElem?_eq_getElem h, refs_app]
  simp [refs]
theorem bodies_split {F : List Fu} {i : Nat} (h : i < F.length) : bodies F = bodies (F.take i) ++ (F[i].body ++ bodies (F.drop (i + 1))) := by
  conv => lhs; rw [← List.take_append_drop i F, drop_get h]
  unfold bodies
  rw [List.flatMap_append, List.flatMap_cons]
theorem bodies_take {F : List Fu} {i : Nat} (h : i < F.length) : bodies (F.take (i + 1)) = bodies (F.take i) ++ F[i].body := by
  unfold bodies
  rw [List.take_add_one, List.getElem?_eq_getElem h, List.flatMap_append]
  simp
theorem take_step {l : List Nat} {k : Nat} (h : k < l.length) : l.take (k + 1) = l.take k ++ [l[k]] := by
  rw [List.take_add_one, List.getElem?_eq_getElem h]
  rfl
theorem take_count (l : List Nat) (k p : Nat) : (l.take k).count p ≤ l.count p := by
  conv => rhs; rw [← List.take_append_drop k l]
  exact count_prefix _ _ _
/-- So often each number was seen; all else is as it was. -/
def SeenW (w0 w : World) (n : Nat) (l : List Nat) : Prop := Below w0.heap.size w0 w ∧ w.heap[w0.heap.size]? = some (.cells (cntV n l) 3)
theorem SeenW.below {w0 w w' : World} {n : Nat} {l : List Nat} (h : SeenW w0 w n l) (hB : Below w.heap.size w w') : SeenW w0 w' n l := by
  obtain ⟨h1, h2⟩ := h
  exact ⟨h1.trans (hB.mono h1.size), (hB.block _ (blk_lt h2)).trans h2⟩
theorem seen_start (w0 : World) (n : Nat) : SeenW w0 (w0.alloc (.cells (cntV n []) 3)) n [] := ⟨(Below.refl _ w0).alloc (Nat.le_refl _) _, heap_one w0 _ _⟩
theorem SeenW.lt {w0 w : World} {n : Nat} {l : List Nat} (h : SeenW w0 w n l) : w0.heap.size < w.heap.size := blk_lt h.2
theorem SeenW.cell {w0 w : World} {n : Nat} {l : List Nat} (h : SeenW w0 w n l) (p : Nat) (hp : p < n) : w.cell? ⟨w0.heap.size, p, none⟩ = some (.int .i64 ((l.count p : Nat) : Int)) ∧ w.frozen? ⟨w0.heap.size, p, none⟩ = false := by
  refine ⟨(cellK h.2 p).trans (cntV_get n l p hp), ?_⟩
  simp [World.frozen?, h.2]
theorem SeenW.step {w0 w : World} {n : Nat} {l : List Nat} (h : SeenW w0 w n l) (p : Nat) (hp : p < n) : SeenW w0 (w.setCell ⟨w0.heap.size, p, none⟩ (.int .i64 (((l.count p : Nat) : Int) + 1))) n (l ++ [p]) := by
  refine ⟨h.1.setCell (p := ⟨w0.heap.size, p, none⟩) (Nat.le_refl _) _, ?_⟩
  rw [setCell_at _ _ _ _ _ _ _ h.2, cntV_set n l p hp]
/-- A statement's lists up to the j-th. -/
def ljs (x : Sm) : Nat → List Nat
  | 0 => []
  | 1 => x.thn
  | _ => x.thn ++ x.els
end Go.Proofs.YtccmodefjgjpeaaGreatDoor
