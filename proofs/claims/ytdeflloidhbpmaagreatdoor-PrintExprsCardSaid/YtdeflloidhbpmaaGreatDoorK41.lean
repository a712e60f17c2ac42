/-
  answer; simple, of whatever kind.
  block: a block is written, statement by statement.
-/
import Derived.Test.YtdeflloidhbpmaaGreatDoorK40
namespace Go.Proofs.YtdeflloidhbpmaaGreatDoor
open Go.RowKit

def ansP (x : Sm) : List Pc := if x.a < 0 then [.tx [114, 101, 116, 117, 114, 110]] else [.tx [114, 101, 116, 117, 114, 110, 32], .pt x.a]
set_option maxRecDepth 100000 in
set_option maxHeartbeats 2000000 in
theorem wanswer_calls (x : Sm) (l m : Value) (w : World) :
    Calls Tryz.prog 125 #[.agg #[.int .i64 (x.kind : Int), .int .i64 (x.lo : Int), .int .i64 (x.hi : Int), .string (bs x.name), .int .i64 (x.num : Int), .int .i64 x.a, .int .i64 (x.b : Int), l, m]] w (PcsPost (ansP x) w) := by
  have hT := Lib.hid ptextB
  have hP := Lib.hid ppartV
  unfold ansP
  by_cases ha : x.a < 0
  · rw [if_pos ha]
    have HB0 : Hid (Below w.heap.size w (w.alloc (.cells #[.int .i64 (x.kind : Int), .int .i64 (x.lo : Int), .int .i64 (x.hi : Int), .string (bs x.name), .int .i64 (x.num : Int), .int .i64 x.a, .int .i64 (x.b : Int), l, m] 42))) := Lib.hid ((Below.refl _ w).alloc (Nat.le_refl _) _)
    have HBX : Hid ((w.alloc (.cells #[.int .i64 (x.kind : Int), .int .i64 (x.lo : Int), .int .i64 (x.hi : Int), .string (bs x.name), .int .i64 (x.num : Int), .int .i64 x.a, .int .i64 (x.b : Int), l, m] 42)).heap[w.heap.size]? = some (.cells #[.int .i64 (x.kind : Int), .int .i64 (x.lo : Int), .int .i64 (x.hi : Int), .string (bs x.name), .int .i64 (x.num : Int), .int .i64 x.a, .int .i64 (x.b : Int), l, m] 42)) := Lib.hid (heap_one w _ _)
    have e1 : decide (x.a < 0) = true := decide_eq_true ha
    clear ha
    go_enter Tryz.func125, Tryz.ntmps125
    go_wp2_with (go_at_call 40; refine (hT.out _ _).mono ?_)
    rintro e w5 ⟨rfl, hb5⟩
    have HBc := Lib.hid (HB0.out.trans (hb5.mono HB0.out.size))
    clear hb5
    go_wp2
    go_ret
    exact ⟨_, rfl, own_pcs _ _ [.tx [114, 101, 116, 117, 114, 110]] 1 rfl HBc.out.size (by decide) _ rfl, HBc.out.alloc HBc.out.size _⟩
  · rw [if_neg ha]
    have HB0 : Hid (Below w.heap.size w (w.alloc (.cells #[.int .i64 (x.kind : Int), .int .i64 (x.lo : Int), .int .i64 (x.hi : Int), .string (bs x.name), .int .i64 (x.num : Int), .int .i64 x.a, .int .i64 (x.b : Int), l, m] 42))) := Lib.hid ((Below.refl _ w).alloc (Nat.le_refl _) _)
    have HBX : Hid ((w.alloc (.cells #[.int .i64 (x.kind : Int), .int .i64 (x.lo : Int), .int .i64 (x.hi : Int), .string (bs x.name), .int .i64 (x.num : Int), .int .i64 x.a, .int .i64 (x.b : Int), l, m] 42)).heap[w.heap.size]? = some (.cells #[.int .i64 (x.kind : Int), .int .i64 (x.lo : Int), .int .i64 (x.hi : Int), .string (bs x.name), .int .i64 (x.num : Int), .int .i64 x.a, .int .i64 (x.b : Int), l, m] 42)) := Lib.hid (heap_one w _ _)
    have e1 : decide (x.a < 0) = false := decide_eq_false ha
    clear ha
    go_enter Tryz.func125, Tryz.ntmps125
    go_wp2_with fail
    generalize w.alloc (.cells #[.int .i64 (x.kind : Int), .int .i64 (x.lo : Int), .int .i64 (x.hi : Int), .string (bs x.name), .int .i64 (x.num : Int), .int .i64 x.a, .int .i64 (x.b : Int), l, m] 42) = W0 at *
    have d5 : W0.drew.cell? ⟨w.heap.size, 5, none⟩ = some (.int .i64 x.a) := cellK HBX.out 5
    have HBc := Lib.hid HB0.out.drew
    go_region_held3 (fun w' => w'.cell? ⟨w.heap.size, 5, none⟩ = some (.int .i64 x.a))
      (first | with_reducible exact d5 | with_reducible exact cell_new d5 _)
      (first
        | (go_at_call 40; refine (hT.out _ _).mono ?_; rintro e w5 ⟨rfl, hb5⟩; have HBc := Lib.hid (HBc.out.trans (hb5.mono HBc.out.size)); have d5 := (hb5.cell (p := ⟨w.heap.size, 5, none⟩) (World.block_lt_of_cell? _ _ d5)).trans d5; clear hb5)
        | (go_at_call 19; refine (hP.out _ _).mono ?_; rintro e w5 ⟨rfl, hb5⟩; have HBc := Lib.hid (HBc.out.trans (hb5.mono HBc.out.size)); have d5 := (hb5.cell (p := ⟨w.heap.size, 5, none⟩) (World.block_lt_of_cell? _ _ d5)).trans d5; clear hb5))
    all_goals
      go_wp2
      go_ret
      exact ⟨_, rfl, own_pcs _ _ [.tx [114, 101, 116, 117, 114, 110, 32], .pt x.a] 2 rfl HBc.out.size (by decide) _ (by rfl), HBc.out.alloc HBc.out.size _⟩
set_option maxRecDepth 100000 in
set_option maxHeartbeats 2000000 in
theorem wsim_ret (x : Sm) (l m : Value) (w : World) (hk : x.kind = 9)  :
    Calls Tryz.prog 91 #[.agg #[.int .i64 (x.kind : Int), .int .i64 (x.lo : Int), .int .i64 (x.hi : Int), .string (bs x.name), .int .i64 (x.num : Int), .int .i64 x.a, .int .i64 (x.b : Int), l, m]] w (PcsPost (ansP x) w) := by
  have hT := Lib.hid ptextB
  have hP := Lib.hid ppartV
  · have e1 : ((x.kind : Int) == 1) = false := kne (by rw [hk]; decide)
    have e2 : ((x.kind : Int) == 2) = false := kne (by rw [hk]; decide)
    have e3 : ((x.kind : Int) == 3) = false := kne (by rw [hk]; decide)
    have e4 : ((x.kind : Int) == 4) = false := kne (by rw [hk]; decide)
    have e7 : ((x.kind : Int) == 7) = false := kne (by rw [hk]; decide)
    have e8 : ((x.kind : Int) == 8) = false := kne (by rw [hk]; decide)
    have e9 : ((x.kind : Int) == 9) = true := keq hk
    have HA : Hid (∀ W, Calls Tryz.prog 125 #[.agg #[.int .i64 (x.kind : Int), .int .i64 (x.lo : Int), .int .i64 (x.hi : Int), .string (bs x.name), .int .i64 (x.num : Int), .int .i64 x.a, .int .i64 (x.b : Int), l, m]] W (PcsPost (ansP x) W)) := Lib.hid (wanswer_calls x l m)
    generalize ansP x = L at HA ⊢
    have HB0 : Hid (Below w.heap.size w (w.alloc (.cells #[.int .i64 (x.kind : Int), .int .i64 (x.lo : Int), .int .i64 (x.hi : Int), .string (bs x.name), .int .i64 (x.num : Int), .int .i64 x.a, .int .i64 (x.b : Int), l, m] 42))) := Lib.hid ((Below.refl _ w).alloc (Nat.le_refl _) _)
    have HBX : Hid ((w.alloc (.cells #[.int .i64 (x.kind : Int), .int .i64 (x.lo : Int), .int .i64 (x.hi : Int), .string (bs x.name), .int .i64 (x.num : Int), .int .i64 x.a, .int .i64 (x.b : Int), l, m] 42)).heap[w.heap.size]? = some (.cells #[.int .i64 (x.kind : Int), .int .i64 (x.lo : Int), .int .i64 (x.hi : Int), .string (bs x.name), .int .i64 (x.num : Int), .int .i64 x.a, .int .i64 (x.b : Int), l, m] 42)) := Lib.hid (heap_one w _ _)
    have d0 : (w.alloc (.cells #[.int .i64 (x.kind : Int), .int .i64 (x.lo : Int), .int .i64 (x.hi : Int), .string (bs x.name), .int .i64 (x.num : Int), .int .i64 x.a, .int .i64 (x.b : Int), l, m] 42)).cell? ⟨w.heap.size, 0, none⟩ = some (.int .i64 (x.kind : Int)) := cellK HBX.out 0
    have d1 : (w.alloc (.cells #[.int .i64 (x.kind : Int), .int .i64 (x.lo : Int), .int .i64 (x.hi : Int), .string (bs x.name), .int .i64 (x.num : Int), .int .i64 x.a, .int .i64 (x.b : Int), l, m] 42)).cell? ⟨w.heap.size, 1, none⟩ = some (.int .i64 (x.lo : Int)) := cellK HBX.out 1
    have d2 : (w.alloc (.cells #[.int .i64 (x.kind : Int), .int .i64 (x.lo : Int), .int .i64 (x.hi : Int), .string (bs x.name), .int .i64 (x.num : Int), .int .i64 x.a, .int .i64 (x.b : Int), l, m] 42)).cell? ⟨w.heap.size, 2, none⟩ = some (.int .i64 (x.hi : Int)) := cellK HBX.out 2
    have d3 : (w.alloc (.cells #[.int .i64 (x.kind : Int), .int .i64 (x.lo : Int), .int .i64 (x.hi : Int), .string (bs x.name), .int .i64 (x.num : Int), .int .i64 x.a, .int .i64 (x.b : Int), l, m] 42)).cell? ⟨w.heap.size, 3, none⟩ = some (.string (bs x.name)) := cellK HBX.out 3
    have d4 : (w.alloc (.cells #[.int .i64 (x.kind : Int), .int .i64 (x.lo : Int), .int .i64 (x.hi : Int), .string (bs x.name), .int .i64 (x.num : Int), .int .i64 x.a, .int .i64 (x.b : Int), l, m] 42)).cell? ⟨w.heap.size, 4, none⟩ = some (.int .i64 (x.num : Int)) := cellK HBX.out 4
    have d5 : (w.alloc (.cells #[.int .i64 (x.kind : Int), .int .i64 (x.lo : Int), .int .i64 (x.hi : Int), .string (bs x.name), .int .i64 (x.num : Int), .int .i64 x.a, .int .i64 (x.b : Int), l, m] 42)).cell? ⟨w.heap.size, 5, none⟩ = some (.int .i64 x.a) := cellK HBX.out 5
    have d6 : (w.alloc (.cells #[.int .i64 (x.kind : Int), .int .i64 (x.lo : Int), .int .i64 (x.hi : Int), .string (bs x.name), .int .i64 (x.num : Int), .int .i64 x.a, .int .i64 (x.b : Int), l, m] 42)).cell? ⟨w.heap.size, 6, none⟩ = some (.int .i64 (x.b : Int)) := cellK HBX.out 6
    have d7 : (w.alloc (.cells #[.int .i64 (x.kind : Int), .int .i64 (x.lo : Int), .int .i64 (x.hi : Int), .string (bs x.name), .int .i64 (x.num : Int), .int .i64 x.a, .int .i64 (x.b : Int), l, m] 42)).cell? ⟨w.heap.size, 7, none⟩ = some (l) := cellK HBX.out 7
    have d8 : (w.alloc (.cells #[.int .i64 (x.kind : Int), .int .i64 (x.lo : Int), .int .i64 (x.hi : Int), .string (bs x.name), .int .i64 (x.num : Int), .int .i64 x.a, .int .i64 (x.b : Int), l, m] 42)).cell? ⟨w.heap.size, 8, none⟩ = some (m) := cellK HBX.out 8
    clear hk
    go_enter Tryz.func91, Tryz.ntmps91
    go_wp2_with (go_at_call 125; refine (HA.out _).mono ?_)
    intro e w4 h4
    have HE := Lib.hid (h4.back HB0.out)
    obtain ⟨A4, n4, c4, rfl⟩ := h4.form
    clear h4
    go_wp2
    go_ret
    exact HE.out
/-- A statement's pieces. -/
def smP (dec : Nat → List UInt8) (x : Sm) : List Pc :=
  if x.kind = 1 then [.tx ([118, 97, 114, 32] ++ x.name ++ [32, 61, 32]), .pt x.a]
  else if x.kind = 2 then [.tx ([118, 97, 114, 32] ++ x.name ++ [91] ++ (dec x.num) ++ [93])]
  else if x.kind = 3 then [.tx (x.name ++ [32, 61, 32]), .pt x.a]
  else if x.kind = 4 then [.tx (x.name ++ [91]), .pt x.a, .tx [93, 32, 61, 32], .pt (x.b : Int)]
  else if x.kind = 7 then [.tx [98, 114, 101, 97, 107]]
  else if x.kind = 8 then [.tx [99, 111, 110, 116, 105, 110, 117, 101]]
  else if x.kind = 9 then ansP x
  else if x.kind = 10 then [.tx [112, 114, 105, 110, 116, 32], .pt x.a]
  else [.pt x.a]
theorem wsimple_calls (dec : Nat → List UInt8) (x : Sm) (l m : Value) (w : World) (hnm : x.name.length ≤ 1000000) (hk : x.kind = 1 ∨ x.kind = 2 ∨ x.kind = 3 ∨ x.kind = 4 ∨ x.kind = 7 ∨ x.kind = 8 ∨ x.kind = 9 ∨ x.kind = 10 ∨ x.kind = 11)
    (hd : x.kind = 2 → (dec x.num).length ≤ 1000) (hI : x.kind = 2 → ∀ W, Below w.heap.size w W → Calls Tryz.prog 86 #[.int .i64 (x.num : Int)] W fun e w' => e = .returned (.string (bs (dec x.num))) ∧ Below W.heap.size W w') :
    Calls Tryz.prog 91 #[.agg #[.int .i64 (x.kind : Int), .int .i64 (x.lo : Int), .int .i64 (x.hi : Int), .string (bs x.name), .int .i64 (x.num : Int), .int .i64 x.a, .int .i64 (x.b : Int), l, m]] w (PcsPost (smP dec x) w) := by
  unfold smP
  rcases hk with k | k | k | k | k | k | k | k | k
  · rw [if_pos k]; exact wsim_var x l m w k hnm
  · rw [if_neg (by rw [k]; decide), if_pos k]; exact wsim_arr x l m w k dec (hd k) (hI k) hnm
  · rw [if_neg (by rw [k]; decide), if_neg (by rw [k]; decide), if_pos k]; exact wsim_set x l m w k hnm
  · rw [if_neg (by rw [k]; decide), if_neg (by rw [k]; decide), if_neg (by rw [k]; decide), if_pos k]; exact wsim_put x l m w k hnm
  · rw [if_neg (by rw [k]; decide), if_neg (by rw [k]; decide), if_neg (by rw [k]; decide), if_neg (by rw [k]; decide), if_pos k]; exact wsim_break x l m w k
  · rw [if_neg (by rw [k]; decide), if_neg (by rw [k]; decide), if_neg (by rw [k]; decide), if_neg (by rw [k]; decide), if_neg (by rw [k]; decide), if_pos k]; exact wsim_continue x l m w k
  · rw [if_neg (by rw [k]; decide), if_neg (by rw [k]; decide), if_neg (by rw [k]; decide), if_neg (by rw [k]; decide), if_neg (by rw [k]; decide), if_neg (by rw [k]; decide), if_pos k]; exact wsim_ret x l m w k
  · rw [if_neg (by rw [k]; decide), if_neg (by rw [k]; decide), if_neg (by rw [k]; decide), if_neg (by rw [k]; decide), if_neg (by rw [k]; decide), if_neg (by rw [k]; decide), if_neg (by rw [k]; decide), if_pos k]; exact wsim_print x l m w k
  · rw [if_neg (by rw [k]; decide), if_neg (by rw [k]; decide), if_neg (by rw [k]; decide), if_neg (by rw [k]; decide), if_neg (by rw [k]; decide), if_neg (by rw [k]; decide), if_neg (by rw [k]; decide), if_neg (by rw [k]; decide)]; exact wsim_call x l m w k
end Go.Proofs.YtdeflloidhbpmaaGreatDoor

namespace Go.Proofs.YtdeflloidhbpmaaGreatDoor
open Go.RowKit

section
variable {nm : List UInt8 → Prop} {nu : Nat → Prop} {dec : Nat → List UInt8} {g cl : Nat → Nat} {wb : Nat} {e s f : Value} {sg : Sg}
theorem At.wbBelow {v0 : Value} {w0 w : World} {out : List UInt8} (h0 : Base nm nu dec g cl wb e s f sg v0 w0) (h : At wb e s f v0 w0 out w) : Below wb w0 w := by
  obtain ⟨v, p, _, _, h3⟩ := h
  exact h3.below h0.lo.2 (Nat.le_of_lt h0.lo.1)
theorem At.cellS {v0 : Value} {w0 w : World} {out : List UInt8} (h : At wb e s f v0 w0 out w) : w.cell? ⟨wb, 1, none⟩ = some s := by
  obtain ⟨v, p, h1, _, _⟩ := h
  exact cellK h1.blk 1
/-- The statement of a place. -/
structure SmIn (wb : Nat) (s : Value) (w0 : World) (i : Nat) (x : Sm) (l m : Value) : Prop where
  rl : RwAt w0 (fun k => k < wb) l (intsV x.thn)
  rm : RwAt w0 (fun k => k < wb) m (intsV x.els)
  one : ∀ W, Below wb w0 W → ∃ gs n c, s = .slice (some ⟨gs, 0, none⟩) n c ∧ Calls Tryz.prog 69 #[.slice (some ⟨gs, 0, none⟩) n c, .int .i64 (i : Int)] W (OneS x l m W)
theorem rwAt_oneC {w : World} {L : Nat → Prop} {l : Value} {vs : List Value} (h : RwAt w L l vs) : l.oneCell' = true := by
  obtain ⟨A, c, rfl, _⟩ := h
  rfl
theorem Base.smIn {v0 : Value} {w0 : World} (h0 : Base nm nu dec g cl wb e s f sg v0 w0) {i : Nat} {x : Sm} (hx : sg.st[i]? = some x) : ∃ l m, SmIn wb s w0 i x l m := by
  obtain ⟨A1, c1, A2, c2, A3, c3, he⟩ := h0.tree.tree.form
  obtain ⟨rfl, rfl, rfl⟩ : e = .slice A1 sg.ex.length c1 ∧ s = .slice A2 sg.st.length c2 ∧ f = .slice A3 sg.fn.length c3 := by
    injection he with he; simp at he; exact he
  obtain ⟨hi, rfl⟩ := List.getElem?_eq_some_iff.1 hx
  obtain ⟨ve, vs, vf, ce, cs, cf, e0, _, ⟨ha, hb⟩, _, _, hr, _⟩ := h0.tree.tree
  obtain ⟨rfl, rfl, rfl⟩ : ve = .slice A1 sg.ex.length c1 ∧ vs = .slice A2 sg.st.length c2 ∧ vf = .slice A3 sg.fn.length c3 := by
    injection e0 with e0; simp at e0; obtain ⟨a, b, c⟩ := e0; exact ⟨a.symm, b.symm, c.symm⟩
  obtain ⟨gs, rfl, hg, hc⟩ := arr_get ha (by omega)
  obtain ⟨hh, ⟨l, m, rfl, hl, hm⟩, hget⟩ := hr.get SmC.len i hi
  have hgw : gs < wb := hb (by omega) gs rfl
  have hk : ∀ {v : Value} {vs : List Value}, RwAt w0 (fun g => g < w0.heap.size ∧ (fun k => k < wb) g) v vs → RwAt w0 (fun k => k < wb) v vs := fun h => by
    obtain ⟨A, c, h1, h2, h3⟩ := h
    exact ⟨A, c, h1, fun g hg => ⟨(h2 g hg).1.2, (h2 g hg).2⟩, h3⟩
  refine ⟨l, m, hk hl, hk hm, fun W hB => ⟨gs, _, c2, rfl, oneS_calls gs _ c2 i _ l m (rwAt_oneC hl) (rwAt_oneC hm) W hi fun j u hj hu => (hB.cell (p := ⟨gs, i * 9 + j, none⟩) hgw).trans (hc _ _ ((hget j hj).trans hu))⟩⟩
/-- A list of places, read wherever the writer goes on. -/
theorem rw_cells {w0 : World} {l : Value} {ls : List Nat} (h : RwAt w0 (fun k => k < wb) l (intsV ls)) : ∃ A c, l = .slice A ls.length c ∧ ∀ i (hi : i < ls.length), ∃ g, A = some ⟨g, 0, none⟩ ∧ ∀ W, Below wb w0 W → W.cell? ⟨g, i, none⟩ = some (.int .i64 (ls[i] : Int)) := by
  obtain ⟨A, c, rfl, h2, h3⟩ := h
  refine ⟨A, (intsV ls).length + c, by rw [intsV_len], fun i hi => ?_⟩
  obtain ⟨g, rfl, h4⟩ := h3 (by rw [intsV_len]; omega)
  exact ⟨g, rfl, fun W hB => (hB.cell (p := ⟨g, i, none⟩) (h2 g rfl).1).trans (h4 i _ (by simp [intsV, hi]))⟩
/-- A statement of a place writes its text. -/
def StAt (wb : Nat) (e s f v0 : Value) (w0 : World) (b : Nat) (i : Nat) (txt : List UInt8) : Prop :=
  ∃ x l m, SmIn wb s w0 i x l m ∧ ∀ out w, At wb e s f v0 w0 out w → out.length + txt.length ≤ 1000000000 → Calls Tryz.prog 68 #[.pointer (some ⟨wb, 0, none⟩), .agg (smV x l m).toArray, .int .i64 (b : Int)] w (AtP wb e s f v0 w0 (out ++ txt))
/-- A new row of texts is put. -/
theorem At.text {v0 : Value} {w0 w : World} {out : List UInt8} (h0 : Base nm nu dec g cl wb e s f sg v0 w0) (h : At wb e s f v0 w0 out w) (b : List UInt8) (hlen : out.length + b.length ≤ 1000000000) (cs : Array Value) (hc : cs = #[.bool false, .string (bs b), .int .i64 0]) :
    Calls Tryz.prog 18 #[.pointer (some ⟨wb, 0, none⟩), .slice (some ⟨w.heap.size, 0, none⟩) 1 1] (w.alloc (.cells cs 59)) (AtP wb e s f v0 w0 (out ++ b)) := by
  have hB := (Below.refl w.heap.size w).alloc (Nat.le_refl _) (.cells cs 59)
  have hp := (h.below hB).put (nm := nm) (nu := nu) (dec := dec) (sg := sg) h0 (.slice (some ⟨w.heap.size, 0, none⟩) 1 1) [.tx b] (arr_of_own (by decide) (own_pcs w w.heap.size [.tx b] 1 rfl (Nat.le_refl _) (by decide) cs hc)) (fun q hq => by
    rw [List.mem_singleton] at hq
    exact .inl ⟨b, hq⟩) (by simp [pws, pwt]) (by simpa [pcsB, pcB] using hlen)
  simpa [pcsB, pcB] using hp
theorem At.text2 {v0 : Value} {w0 w : World} {out : List UInt8} (h0 : Base nm nu dec g cl wb e s f sg v0 w0) (h : At wb e s f v0 w0 out w) (a b : List UInt8) (hlen : out.length + (a.length + b.length) ≤ 1000000000) (cs : Array Value) (hc : cs = #[.bool false, .string (bs a), .int .i64 0, .bool false, .string (bs b), .int .i64 0]) :
    Calls Tryz.prog 18 #[.pointer (some ⟨wb, 0, none⟩), .slice (some ⟨w.heap.size, 0, none⟩) 2 2] (w.alloc (.cells cs 59)) (AtP wb e s f v0 w0 (out ++ (a ++ b))) := by
  have hB := (Below.refl w.heap.size w).alloc (Nat.le_refl _) (.cells cs 59)
  have hp := (h.below hB).put (nm := nm) (nu := nu) (dec := dec) (sg := sg) h0 (.slice (some ⟨w.heap.size, 0, none⟩) 2 2) [.tx a, .tx b] (arr_of_own (by decide) (own_pcs w w.heap.size [.tx a, .tx b] 2 rfl (Nat.le_refl _) (by decide) cs hc)) (fun q hq => by
    simp only [List.mem_cons, List.not_mem_nil, or_false] at hq
    rcases hq with rfl | rfl
    · exact .inl ⟨a, rfl⟩
    · exact .inl ⟨b, rfl⟩) (by simp [pws, pwt]) (by simpa [pcsB, pcB] using hlen)
  simpa [pcsB, pcB] using hp
end
end Go.Proofs.YtdeflloidhbpmaaGreatDoor
