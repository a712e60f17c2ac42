/-
  code: a place is given a height.
-/
import Derived.Test.YtbhlockoeiedcaaGreatDoorCoH
namespace Go.Proofs.YtbhlockoeiedcaaGreatDoor
open Go.RowKit

theorem setAt (w : World) (g o : Nat) (v : Value) (cur : Array Value) (t : TypeId) (fr : Nat × Nat) (hg : w.heap[g]? = some (.cells cur t fr)) : (w.setCell ⟨g, o, none⟩ v).heap[g]? = some (.cells (cur.setIfInBounds o v) t fr) := by
  simp [World.setCell, Array.getElem?_modify, hg]
theorem setNe (w : World) (g o : Nat) (v : Value) (k : Nat) (h : k ≠ g) : (w.setCell ⟨g, o, none⟩ v).heap[k]? = w.heap[k]? := by
  simp [World.setCell, Array.getElem?_modify, Ne.symm h]
/-- What a finder's calls leave as it was: all that was there ahead of it, but the heights. -/
structure FK (gH f : Nat) (w w' : World) : Prop where
  os : w'.os = w.os
  tape : w'.tape = w.tape
  output : w'.output = w.output
  size : w.heap.size ≤ w'.heap.size
  block : ∀ k, k < f → k ≠ gH → w'.heap[k]? = w.heap[k]?
theorem FK.refl (gH f : Nat) (w : World) : FK gH f w w := ⟨rfl, rfl, rfl, Nat.le_refl _, fun _ _ _ => rfl⟩
theorem FK.trans {gH f : Nat} {a b c : World} (h : FK gH f a b) (k : FK gH f b c) : FK gH f a c := ⟨k.os.trans h.os, k.tape.trans h.tape, k.output.trans h.output, Nat.le_trans h.size k.size, fun i h1 h2 => (k.block i h1 h2).trans (h.block i h1 h2)⟩
theorem FK.of {gH f : Nat} {w w' : World} (h : Below w.heap.size w w') (hf : f ≤ w.heap.size) : FK gH f w w' := ⟨h.os, h.tape, h.output, h.size, fun k hk _ => h.block k (by omega)⟩
theorem intsL_set (hs : List Int) (i : Nat) (x : Int) : ((intsL hs).toArray.setIfInBounds i (.int .i64 x)) = (intsL (hs.set i x)).toArray := by
  unfold intsL
  rw [List.map_set, List.setIfInBounds_toArray]
theorem own_sliceC {w : World} {base n : Nat} {e : TypeId} {size : Nat} {v : Value} {xs : List Value} (h : w.ownsRow base e size v n xs) : ∃ A c, v = .slice A n c := by
  rcases h.2 with ⟨rfl, rfl⟩ | ⟨g, cap, cur, rfl, _⟩
  · exact ⟨_, _, rfl⟩
  · exact ⟨_, _, rfl⟩
theorem wsL_snoc (ws : List Nat) (a : Nat) : wsL (ws ++ [a]) = wsL ws ++ [.int .i64 (a : Int)] := by simp [wsL]

section
variable {c : CoM} {A A2 : Option Addr} {c1 c2 : Nat} {p : PrM} {q gH f : Nat} {hs : List Int} {vW : Value} {ws : List Nat} {w : World}
def LeadP (c : CoM) (A : Option Addr) (c1 : Nat) (A2 : Option Addr) (c2 : Nat) (p : PrM) (q gH f : Nat) (R : Bool × List Int × List Nat) (w : World) (e : Ending) (w' : World) : Prop :=
  e = .returned (.bool R.1) ∧ ∃ vW', Fd c A c1 A2 c2 p q gH f R.2.1 vW' R.2.2 w' ∧ FK gH f w w'

/-- And all other blocks that were there. -/
def LeadQ (c : CoM) (A : Option Addr) (c1 : Nat) (A2 : Option Addr) (c2 : Nat) (p : PrM) (q gH f : Nat) (vW : Value) (R : Bool × List Int × List Nat) (w : World) (e : Ending) (w' : World) : Prop :=
  e = .returned (.bool R.1) ∧ ∃ vW', Fd c A c1 A2 c2 p q gH f R.2.1 vW' R.2.2 w' ∧ FK gH f w w' ∧ ∀ k, k < w.heap.size → k ≠ gH → k ≠ f → vW.ownBlock ≠ some k → w'.heap[k]? = w.heap[k]?
theorem LeadQ.less {R : Bool × List Int × List Nat} {e : Ending} {w' : World} (h : LeadQ c A c1 A2 c2 p q gH f vW R w e w') : LeadP c A c1 A2 c2 p q gH f R w e w' := ⟨h.1, h.2.imp fun _ hv => ⟨hv.1, hv.2.1⟩⟩

theorem newsI (W : World) (a : Value) (t : TypeId) (n : Nat) (hn : W.heap.size = n) : ∀ j u, [a][j]? = some u → (W.alloc (.cells #[a] t)).cell? ((⟨n, 0, none⟩ : Addr).add j) = some u := by
  subst hn
  intro j u hu
  match j with
  | 0 => simpa [Addr.add] using hu
  | j + 1 => simp at hu
theorem oneI (x : Int) : ∀ u ∈ [Value.int .i64 x], u.oneCell' = true := by
  intro u hu; simp at hu; subst hu; rfl

set_option maxRecDepth 100000 in
set_option maxHeartbeats 2000000 in
theorem lead_no (h : Fd c A c1 A2 c2 p q gH f hs vW ws w) (T to : Nat) (x : Int) (hT : p.to = (T : Int)) (hb : T ≤ to ∨ 200 < x) :
    Calls Tryz.prog 51 #[.pointer (some ⟨f, 0, none⟩), .int .i64 (to : Int), .int .i64 x] w (LeadQ c A c1 A2 c2 p q gH f vW (leadM T hs ws (to, x)) w) := by
  have HM : Hid (leadM T hs ws (to, x) = (false, hs, ws)) := Lib.hid (by unfold leadM; rw [if_pos hb])
  obtain ⟨_, _, _, d4, _⟩ := h.cells
  rw [hT] at d4
  have HF := Lib.hid h
  have hd : (decide ((T : Int) ≤ (to : Int)) = true ∧ decide (T ≤ to) = true) ∨ (decide ((T : Int) ≤ (to : Int)) = false ∧ decide (T ≤ to) = false ∧ decide (200 < x) = true) := by
    by_cases h1 : T ≤ to
    · exact .inl ⟨decide_eq_true (by omega), decide_eq_true h1⟩
    · exact .inr ⟨decide_eq_false (by omega), decide_eq_false h1, decide_eq_true (by omega)⟩
  clear h hT hb
  rcases hd with ⟨e1, e2⟩ | ⟨e1, e2, e3⟩
  all_goals
    go_enter Tryz.func51, Tryz.ntmps51
    go_wp2
    go_ret
    refine ⟨ret_bool (by rw [HM.out]), ?_⟩
    rw [HM.out]
    exact ⟨vW, HF.out, FK.refl _ _ _, fun _ _ _ _ _ => rfl⟩

set_option maxRecDepth 100000 in
set_option maxHeartbeats 2000000 in
theorem lead_old (h : Fd c A c1 A2 c2 p q gH f hs vW ws w) (T to : Nat) (x : Int) (hT : p.to = (T : Int)) (hl : T ≤ hs.length) (hb : ¬ (T ≤ to ∨ 200 < x)) (hn : hAt hs to ≠ -1) :
    Calls Tryz.prog 51 #[.pointer (some ⟨f, 0, none⟩), .int .i64 (to : Int), .int .i64 x] w (LeadQ c A c1 A2 c2 p q gH f vW (leadM T hs ws (to, x)) w) := by
  have HM : Hid (leadM T hs ws (to, x) = (decide (hAt hs to = x), hs, ws)) := Lib.hid (by unfold leadM; rw [if_neg hb, if_neg hn])
  obtain ⟨_, _, _, d4, d8, _⟩ := h.cells
  obtain ⟨q1, _⟩ := h.at to (by omega)
  rw [hT] at d4
  have HF := Lib.hid h
  have e1 : decide ((T : Int) ≤ (to : Int)) = false := decide_eq_false (by omega)
  have e2 : decide (T ≤ to) = false := decide_eq_false (by omega)
  have e3 : decide (200 < x) = false := decide_eq_false (by omega)
  have e4 : (hAt hs to == -1) = false := beq_eq_false_iff_ne.2 hn
  have g0 : (0 : Int) ≤ (to : Int) := by omega
  have g1 : (to : Int) < (hs.length : Int) := by omega
  generalize hAt hs to = y at *
  clear h hT hb hn hl
  go_enter Tryz.func51, Tryz.ntmps51
  go_wp2
  go_ret
  refine ⟨ret_bool (by rw [HM.out]; simp [Bool.beq_eq_decide_eq]), ?_⟩
  rw [HM.out]
  exact ⟨vW, HF.out, FK.refl _ _ _, fun _ _ _ _ _ => rfl⟩

set_option maxRecDepth 100000 in
set_option maxHeartbeats 2000000 in
theorem lead_new (h : Fd c A c1 A2 c2 p q gH f hs vW ws w) (T to : Nat) (x : Int) (hT : p.to = (T : Int)) (hl : T ≤ hs.length) (hb : ¬ (T ≤ to ∨ 200 < x)) (hn : hAt hs to = -1) (hw : ws.length ≤ 1000000) :
    Calls Tryz.prog 51 #[.pointer (some ⟨f, 0, none⟩), .int .i64 (to : Int), .int .i64 x] w (LeadQ c A c1 A2 c2 p q gH f vW (leadM T hs ws (to, x)) w) := by
  have HM : Hid (leadM T hs ws (to, x) = (true, hs.set to x, ws ++ [to])) := Lib.hid (by unfold leadM; rw [if_neg hb, if_pos hn])
  obtain ⟨i0, hi0, hz0, hz1, hz2⟩ := info_parts Tryz.infoInt
  obtain ⟨_, _, _, d4, d8, d9, dfz⟩ := h.cells
  have dfz := dfz 9
  obtain ⟨q1, qf⟩ := h.at to (by omega)
  rw [hT] at d4
  rw [hn] at q1
  have hql := h.lt
  have hfl := h.flt
  have hto : to < hs.length := by omega
  have hne : ¬ gH = f := by omega
  have hne' : ¬ f = gH := by omega
  have HF := Lib.hid h
  have e1 : decide ((T : Int) ≤ (to : Int)) = false := decide_eq_false (by omega)
  have e2 : decide (T ≤ to) = false := decide_eq_false (by omega)
  have e3 : decide (200 < x) = false := decide_eq_false (by omega)
  have g0 : (0 : Int) ≤ (to : Int) := by omega
  have g1 : (to : Int) < (hs.length : Int) := by omega
  -- the worlds
  have HW1 : Hid ((w.setCell ⟨gH, to, none⟩ (.int .i64 x)).heap[gH]? = some (.cells (intsL (hs.set to x)).toArray 3 (0, 0))) := Lib.hid (by
    rw [← intsL_set]; exact setAt w gH to _ _ _ _ h.hts)
  have HW2 : Hid (∀ k, k ≠ gH → (w.setCell ⟨gH, to, none⟩ (.int .i64 x)).heap[k]? = w.heap[k]?) := Lib.hid fun k hk => setNe w gH to _ k hk
  have HZ1 : (w.setCell ⟨gH, to, none⟩ (.int .i64 x)).heap.size = w.heap.size := by simp
  have hown : Hid (((w.setCell ⟨gH, to, none⟩ (.int .i64 x)).alloc (.cells #[.int .i64 (to : Int)] 3)).ownsRow (f + 1) 3 1 vW ws.length (wsL ws)) := Lib.hid (by
    refine own_keepC h.wait fun g hg => ?_
    have := own_ltC h.wait g hg
    rw [Below.heap_alloc _ _ g (by rw [HZ1]; exact this.2)]
    exact setNe w gH to _ g (by omega))
  have HOW : Hid (∀ g, vW.ownBlock = some g → f + 1 ≤ g) := Lib.hid fun g hg => (own_ltC h.wait g hg).1
  have HNW := Lib.hid (newsI (w.setCell ⟨gH, to, none⟩ (.int .i64 x)) (.int .i64 (to : Int)) 3 w.heap.size HZ1)
  clear h hT hb hn hl
  have HZ := Lib.hid HZ1
  clear HZ1
  go_enter Tryz.func51, Tryz.ntmps51
  go_wp2_with (at_builtin; refine wpList_append_own _ rfl _ _ 28 rfl (f + 1) 3 i0 (.int .i64 0) 1 8 Tryz.underlying28 hi0 hz0 hz1 hz2 rfl (by decide) vW ws.length (wsL ws) rfl hown.out ⟨w.heap.size, 0, none⟩ 1 1 [.int .i64 (to : Int)] (by rfl) rfl HNW.out (oneI _) (by unfold maxLen; omega) (by omega) (by simp; omega) ?_; intro v' w3 hown3 hgrow hnil; clear hnil; obtain ⟨A', c', rfl⟩ := own_sliceC hown3; have hb3 := Lib.hid ((hgrow.block f (by simp; omega) (fun e => by have := HOW.out f e.symm; omega)).trans ((Below.heap_alloc _ _ f (by rw [HZ.out]; exact hfl)).trans ((HW2.out f (by omega)).trans HF.out.box))); have hg3 := Lib.hid ((hgrow.block gH (by simp; omega) (fun e => by have := HOW.out gH e.symm; omega)).trans ((Below.heap_alloc _ _ gH (by rw [HZ.out]; omega)).trans HW1.out)); have HG := Lib.hid hgrow; have H3 := Lib.hid hown3; have hf3 : w3.frozen? ⟨f, 9, none⟩ = false := (by simp [World.frozen?, hb3.out]); have h9 : w3.cell? ⟨f, 9, none⟩ = some vW := cellC hb3.out 9; have h8 : w3.cell? ⟨f, 8, none⟩ = some (.slice (some ⟨gH, 0, none⟩) hs.length hs.length) := cellC hb3.out 8; have hq3 : w3.cell? ⟨gH, to, none⟩ = some (.int .i64 x) := (by rw [cellC hg3.out to]; simp [intsL, hto]); clear hgrow hown3)
  all_goals
    go_ret
    refine ⟨ret_bool (by rw [HM.out]), ?_⟩
    rw [HM.out]
    have hB3 : FK gH f w w3 := by
      refine ⟨HG.out.os, HG.out.tape, HG.out.output, Nat.le_trans (by simp) HG.out.size, fun k h1 h2 => ?_⟩
      rw [HG.out.block k (by simp; omega) (fun e => by have := HOW.out k e.symm; omega), Below.heap_alloc _ _ k (by rw [HZ.out]; omega), HW2.out k h2]
    have hs3 : w.heap.size ≤ w3.heap.size := hB3.size
    have key : ∀ k, k < f → k ≠ gH → (w3.setCell ⟨f, 9, none⟩ (.slice A' (ws.length + 1) c')).heap[k]? = w.heap[k]? := fun k h1 h2 => (setNe w3 f 9 _ k (by omega)).trans (hB3.block k h1 h2)
    refine ⟨.slice A' (ws.length + 1) c', ⟨?_, ?_, ?_, ?_, ?_, hql, ?_, HF.out.few⟩, ⟨hB3.os, hB3.tape, hB3.output, by simp; omega, fun k h1 h2 => (setNe w3 f 9 _ k (by omega)).trans (hB3.block k h1 h2)⟩, fun k h1 h2 h3 h4 => ?_⟩
    · rw [setAt w3 f 9 _ _ _ _ hb3.out, List.length_set]; rfl
    · exact (setNe w3 f 9 _ gH hne).trans hg3.out
    · rw [List.length_append, List.length_singleton, wsL_snoc]
      exact own_keepC H3.out fun g hg => setNe w3 f 9 _ g (by have := (own_ltC H3.out g hg).1; omega)
    · exact HF.out.co.keep fun b o hb => World.cell?_of_block (a := ⟨b, o, none⟩) (key b (by omega) (by omega))
    · exact HF.out.shp.at' (fun o => World.cell?_of_block (a := ⟨0, o, none⟩) (key 0 (by omega) (by omega))) (by simp; omega)
    · rw [List.length_set]; exact HF.out.len
    · rw [setNe w3 f 9 _ k h3, HG.out.block k (by simp; omega) (fun e => h4 e.symm), Below.heap_alloc _ _ k (by rw [HZ.out]; exact h1), HW2.out k h2]

theorem lead_callsQ (h : Fd c A c1 A2 c2 p q gH f hs vW ws w) (T to : Nat) (x : Int) (hT : p.to = (T : Int)) (hl : T ≤ c.is.length) (hw : ws.length ≤ 1000000) :
    Calls Tryz.prog 51 #[.pointer (some ⟨f, 0, none⟩), .int .i64 (to : Int), .int .i64 x] w (LeadQ c A c1 A2 c2 p q gH f vW (leadM T hs ws (to, x)) w) := by
  have hl' : T ≤ hs.length := by rw [h.len]; exact hl
  by_cases hb : T ≤ to ∨ 200 < x
  · exact lead_no h T to x hT hb
  · by_cases hn : hAt hs to = -1
    · exact lead_new h T to x hT hl' hb hn hw
    · exact lead_old h T to x hT hl' hb hn

theorem lead_calls (h : Fd c A c1 A2 c2 p q gH f hs vW ws w) (T to : Nat) (x : Int) (hT : p.to = (T : Int)) (hl : T ≤ c.is.length) (hw : ws.length ≤ 1000000) :
    Calls Tryz.prog 51 #[.pointer (some ⟨f, 0, none⟩), .int .i64 (to : Int), .int .i64 x] w (LeadP c A c1 A2 c2 p q gH f (leadM T hs ws (to, x)) w) :=
  (lead_callsQ h T to x hT hl hw).mono fun _ _ hv => LeadQ.less hv

end

end Go.Proofs.YtbhlockoeiedcaaGreatDoor
