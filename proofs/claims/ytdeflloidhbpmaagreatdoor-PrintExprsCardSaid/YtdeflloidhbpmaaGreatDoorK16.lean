/-
  All of an arena's things, in new memory.
-/
import Derived.Test.YtdeflloidhbpmaaGreatDoorK07
namespace Go.Proofs.YtdeflloidhbpmaaGreatDoor
open Go.RowKit

/-- A slice value whose things take these cells. -/
def ArrAt (w : World) (sz : Nat) (v : Value) (n : Nat) (cs : List Value) : Prop :=
  ∃ A c, v = .slice A n c ∧ cs.length = n * sz ∧ (0 < n → ∃ g, A = some ⟨g, 0, none⟩ ∧ g < w.heap.size ∧ ∀ j u, cs[j]? = some u → w.cell? ⟨g, j, none⟩ = some u)
theorem ArrAt.below {w w' : World} {sz : Nat} {v : Value} {n : Nat} {cs : List Value} (h : ArrAt w sz v n cs) (hB : Below w.heap.size w w') : ArrAt w' sz v n cs := by
  obtain ⟨A, c, e, h1, h2⟩ := h
  refine ⟨A, c, e, h1, fun h0 => ?_⟩
  obtain ⟨g, e1, h3, h4⟩ := h2 h0
  exact ⟨g, e1, Nat.lt_of_lt_of_le h3 hB.size, fun j u hu => (hB.cell (p := ⟨g, j, none⟩) h3).trans (h4 j u hu)⟩
theorem arr_of_own {w : World} {base : Nat} {e : TypeId} {sz : Nat} {v : Value} {n : Nat} {cs : List Value} (_hsz : 0 < sz) (h : w.ownsRow base e sz v n cs) : ArrAt w sz v n cs := by
  obtain ⟨hl, h2⟩ := h
  rcases h2 with ⟨rfl, rfl⟩ | ⟨g, cap, cur, rfl, hb, hg, hnc, hcm, hcs, ht⟩
  · exact ⟨none, 0, rfl, hl, fun h => absurd h (Nat.lt_irrefl 0)⟩
  · refine ⟨_, cap, rfl, hl, fun _ => ⟨g, rfl, (Array.getElem?_eq_some_iff.1 hg).1, fun j u hu => ?_⟩⟩
    have hj : j < n * sz := by have := (List.getElem?_eq_some_iff.1 hu).1; omega
    rw [← hu, ← ht, List.getElem?_take, if_pos hj]
    simp [World.cell?, hg]
/-- What All answers. -/
def AllPost' (sz n : Nat) (cs : List Value) (w : World) (e : Ending) (w' : World) : Prop := ∃ v, e = .returned v ∧ ArrAt w' sz v n cs ∧ Below w.heap.size w w' ∧ ∀ g, v.ownBlock = some g → w.heap.size ≤ g
theorem below_of_grown {w W w' : World} (hW : Below w.heap.size w W) (hg : W.grownBy w' (some w.heap.size)) (hs : w.heap.size ≤ W.heap.size) : Below w.heap.size w w' :=
  hW.grown hg hs fun k hk => by injection hk with hk; omega
theorem rowsOne {α : Type} {C : α → List Value → Prop} (hC : ∀ x h, C x h → ∀ u ∈ h, u.oneCell' = true) : ∀ {xs : List α} {cs : List Value}, RowsOf C xs cs → ∀ u ∈ cs, u.oneCell' = true
  | [], cs, e, u, hu => by
    obtain rfl : cs = [] := e
    cases hu
  | _ :: _, _, ⟨h1, t, e, hc, hr⟩, u, hu => by
    rw [e] at hu
    rcases List.mem_append.1 hu with h | h
    · exact hC _ _ hc u h
    · exact rowsOne hC hr u h
theorem rwOne {w : World} {L : Nat → Prop} {v : Value} {vs : List Value} (h : RwAt w L v vs) : v.oneCell' = true := by obtain ⟨A, c, rfl, _⟩ := h; rfl
theorem exOne {w : World} {L : Nat → Prop} (x : Ex) (h : List Value) (hc : ExC w L x h) : ∀ u ∈ h, u.oneCell' = true := by
  obtain ⟨l, rfl, hl⟩ := hc; exact oneE x l (rwOne hl)
theorem smOne {w : World} {L : Nat → Prop} (x : Sm) (h : List Value) (hc : SmC w L x h) : ∀ u ∈ h, u.oneCell' = true := by
  obtain ⟨l, m, rfl, hl, hm⟩ := hc; exact oneS x l m (rwOne hl) (rwOne hm)
theorem fuOne {w : World} {L : Nat → Prop} (x : Fu) (h : List Value) (hc : FuC w L x h) : ∀ u ∈ h, u.oneCell' = true := by
  obtain ⟨l, m, rfl, hl, hm⟩ := hc; exact oneF x l m (rwOne hl) (rwOne hm)

set_option maxRecDepth 100000 in
set_option maxHeartbeats 1000000 in
theorem cloneE_calls (base : Nat) (v : Value) (n : Nat) (cs : List Value) (w : World) (hn : n ≤ 100000) (h : w.ownsRow base 63 9 v n cs) (h1 : ∀ u ∈ cs, u.oneCell' = true) :
    Calls Tryz.prog 111 #[v] w (AllPost' 9 n cs w) := by
  obtain ⟨i0, hi0, hz0, hz1, hz2⟩ := info_parts Tryz.infoEx
  rcases h.2 with ⟨rfl, h0⟩ | ⟨g, cap, cur, rfl, hb, hg, hnc, hcm, hcs, ht⟩
  · have H : Hid (AllPost' 9 n cs w (.returned (.slice none 0 0)) w) := Lib.hid ⟨_, rfl, arr_of_own (by decide) (by subst h0; exact h), Below.refl _ _, fun g hg => by cases hg⟩
    clear h h0
    have hq : ∀ w : World, (binOp BinOp.eql 23 (.slice none 0 0) (.slice none 0 0)).run Tryz.prog w = .ok (.bool true) w := fun _ => rfl
    go_enter Tryz.func111, Tryz.ntmps111
    go_wp2
    go_ret
    exact H.out
  · have hgl := (Array.getElem?_eq_some_iff.1 hg).1
    have HC : Hid (∀ (j : Nat) (u : Value), cs[j]? = some u → (w.alloc (.cells #[] 63)).cell? ((⟨g, 0, none⟩ : Addr).add j) = some u) := Lib.hid fun j u hu => by
      have hj : j < n * 9 := by have := (List.getElem?_eq_some_iff.1 hu).1; have := h.1; omega
      have h2 : w.cell? ⟨g, j, none⟩ = some u := by
        rw [← hu, ← ht, List.getElem?_take, if_pos hj]; simp [World.cell?, hg]
      rw [Addr.add_lit, Nat.zero_add]
      simp only [World.cell?] at h2 ⊢
      rw [Below.heap_alloc w _ g hgl]
      exact h2
    have HO := Lib.hid h1
    have HL := Lib.hid h.1
    clear h hg ht hcs hb h1
    have hq : ∀ w : World, (binOp BinOp.eql 23 (.slice (some ⟨g, 0, none⟩) n cap) (.slice none 0 0)).run Tryz.prog w = .ok (.bool false) w := fun _ => rfl
    go_enter Tryz.func111, Tryz.ntmps111
    go_wp2_with (at_builtin; refine wpList_append_own _ rfl _ _ 23 rfl w.heap.size 63 i0 (.agg #[.int .i64 0, .int .i64 0, .int .i64 0, .int .i64 0, .string ⟨#[]⟩, .string ⟨#[]⟩, .int .i64 0, .int .i64 0, .slice none 0 0]) 9 104 Tryz.underlying23 hi0 hz0 hz1 hz2 rfl (by decide) (.slice (some ⟨w.heap.size, 0, none⟩) 0 0) 0 [] rfl (World.ownsRow_made w #[] 0 (Nat.le_refl _) (by decide) rfl) ⟨g, 0, none⟩ n cap cs rfl HL.out HC.out HO.out (by unfold maxLen; omega) (by omega) (by simp <;> omega) ?_; intro v' w3 hown hgrow hsn; have HG := Lib.hid hgrow; clear hgrow)
    go_ret
    refine ⟨v', rfl, arr_of_own (by decide) (by simpa using hown), below_of_grown ((Below.refl _ w).alloc (Nat.le_refl _) _) HG.out (by simp), fun g hg => (own_blk hown g hg).1⟩
set_option maxHeartbeats 1000000 in
theorem allE_calls (C : Cx) (S : Nat → Prop) (_d : Nat) (s : Sg) (ve vs vf : Value) (ce cs cf : List Value) (w : World) (h : PIn C S s w ve vs vf ce cs cf) (hn : s.ex.length ≤ 100000) :
    Calls Tryz.prog 76 #[.pointer (some ⟨C.q, 4, none⟩)] w (AllPost' 9 s.ex.length ce w) := by
  have hc := h.cells.2.2.2.1
  have hcl := Lib.hid (cloneE_calls (C.q + 1) ve s.ex.length ce w hn h.oe (rowsOne exOne h.re))
  obtain ⟨A, cap, e⟩ := own_form h.oe
  subst e
  clear h
  generalize C.q = q at *
  go_enter Tryz.func76, Tryz.ntmps76
  go_wp2_with fail
  refine hcl.out.mono ?_
  rintro e w1 ⟨v1, rfl, ho, hB, hfr⟩
  have H := Lib.hid (show AllPost' 9 s.ex.length ce w (.returned v1) w1 from ⟨_, rfl, ho, hB, hfr⟩)
  clear ho hB hfr
  go_wp2
  go_ret
  exact H.out

set_option maxRecDepth 100000 in
set_option maxHeartbeats 1000000 in
theorem cloneS_calls (base : Nat) (v : Value) (n : Nat) (cs : List Value) (w : World) (hn : n ≤ 100000) (h : w.ownsRow base 42 9 v n cs) (h1 : ∀ u ∈ cs, u.oneCell' = true) :
    Calls Tryz.prog 112 #[v] w (AllPost' 9 n cs w) := by
  obtain ⟨i0, hi0, hz0, hz1, hz2⟩ := info_parts Tryz.infoSm
  rcases h.2 with ⟨rfl, h0⟩ | ⟨g, cap, cur, rfl, hb, hg, hnc, hcm, hcs, ht⟩
  · have H : Hid (AllPost' 9 n cs w (.returned (.slice none 0 0)) w) := Lib.hid ⟨_, rfl, arr_of_own (by decide) (by subst h0; exact h), Below.refl _ _, fun g hg => by cases hg⟩
    clear h h0
    have hq : ∀ w : World, (binOp BinOp.eql 24 (.slice none 0 0) (.slice none 0 0)).run Tryz.prog w = .ok (.bool true) w := fun _ => rfl
    go_enter Tryz.func112, Tryz.ntmps112
    go_wp2
    go_ret
    exact H.out
  · have hgl := (Array.getElem?_eq_some_iff.1 hg).1
    have HC : Hid (∀ (j : Nat) (u : Value), cs[j]? = some u → (w.alloc (.cells #[] 42)).cell? ((⟨g, 0, none⟩ : Addr).add j) = some u) := Lib.hid fun j u hu => by
      have hj : j < n * 9 := by have := (List.getElem?_eq_some_iff.1 hu).1; have := h.1; omega
      have h2 : w.cell? ⟨g, j, none⟩ = some u := by
        rw [← hu, ← ht, List.getElem?_take, if_pos hj]; simp [World.cell?, hg]
      rw [Addr.add_lit, Nat.zero_add]
      simp only [World.cell?] at h2 ⊢
      rw [Below.heap_alloc w _ g hgl]
      exact h2
    have HO := Lib.hid h1
    have HL := Lib.hid h.1
    clear h hg ht hcs hb h1
    have hq : ∀ w : World, (binOp BinOp.eql 24 (.slice (some ⟨g, 0, none⟩) n cap) (.slice none 0 0)).run Tryz.prog w = .ok (.bool false) w := fun _ => rfl
    go_enter Tryz.func112, Tryz.ntmps112
    go_wp2_with (at_builtin; refine wpList_append_own _ rfl _ _ 24 rfl w.heap.size 42 i0 (.agg #[.int .i64 0, .int .i64 0, .int .i64 0, .string ⟨#[]⟩, .int .i64 0, .int .i64 0, .int .i64 0, .slice none 0 0, .slice none 0 0]) 9 112 Tryz.underlying24 hi0 hz0 hz1 hz2 rfl (by decide) (.slice (some ⟨w.heap.size, 0, none⟩) 0 0) 0 [] rfl (World.ownsRow_made w #[] 0 (Nat.le_refl _) (by decide) rfl) ⟨g, 0, none⟩ n cap cs rfl HL.out HC.out HO.out (by unfold maxLen; omega) (by omega) (by simp <;> omega) ?_; intro v' w3 hown hgrow hsn; have HG := Lib.hid hgrow; clear hgrow)
    go_ret
    refine ⟨v', rfl, arr_of_own (by decide) (by simpa using hown), below_of_grown ((Below.refl _ w).alloc (Nat.le_refl _) _) HG.out (by simp), fun g hg => (own_blk hown g hg).1⟩
set_option maxHeartbeats 1000000 in
theorem allS_calls (C : Cx) (S : Nat → Prop) (_d : Nat) (s : Sg) (ve vs vf : Value) (ce cs cf : List Value) (w : World) (h : PIn C S s w ve vs vf ce cs cf) (hn : s.st.length ≤ 100000) :
    Calls Tryz.prog 77 #[.pointer (some ⟨C.q, 5, none⟩)] w (AllPost' 9 s.st.length cs w) := by
  have hc := h.cells.2.2.2.2.1
  have hcl := Lib.hid (cloneS_calls (C.q + 1) vs s.st.length cs w hn h.os (rowsOne smOne h.rs))
  obtain ⟨A, cap, e⟩ := own_form h.os
  subst e
  clear h
  generalize C.q = q at *
  go_enter Tryz.func77, Tryz.ntmps77
  go_wp2_with fail
  refine hcl.out.mono ?_
  rintro e w1 ⟨v1, rfl, ho, hB, hfr⟩
  have H := Lib.hid (show AllPost' 9 s.st.length cs w (.returned v1) w1 from ⟨_, rfl, ho, hB, hfr⟩)
  clear ho hB hfr
  go_wp2
  go_ret
  exact H.out

set_option maxRecDepth 100000 in
set_option maxHeartbeats 1000000 in
theorem cloneF_calls (base : Nat) (v : Value) (n : Nat) (cs : List Value) (w : World) (hn : n ≤ 100000) (h : w.ownsRow base 69 6 v n cs) (h1 : ∀ u ∈ cs, u.oneCell' = true) :
    Calls Tryz.prog 113 #[v] w (AllPost' 6 n cs w) := by
  obtain ⟨i0, hi0, hz0, hz1, hz2⟩ := info_parts Tryz.infoFu
  rcases h.2 with ⟨rfl, h0⟩ | ⟨g, cap, cur, rfl, hb, hg, hnc, hcm, hcs, ht⟩
  · have H : Hid (AllPost' 6 n cs w (.returned (.slice none 0 0)) w) := Lib.hid ⟨_, rfl, arr_of_own (by decide) (by subst h0; exact h), Below.refl _ _, fun g hg => by cases hg⟩
    clear h h0
    have hq : ∀ w : World, (binOp BinOp.eql 25 (.slice none 0 0) (.slice none 0 0)).run Tryz.prog w = .ok (.bool true) w := fun _ => rfl
    go_enter Tryz.func113, Tryz.ntmps113
    go_wp2
    go_ret
    exact H.out
  · have hgl := (Array.getElem?_eq_some_iff.1 hg).1
    have HC : Hid (∀ (j : Nat) (u : Value), cs[j]? = some u → (w.alloc (.cells #[] 69)).cell? ((⟨g, 0, none⟩ : Addr).add j) = some u) := Lib.hid fun j u hu => by
      have hj : j < n * 6 := by have := (List.getElem?_eq_some_iff.1 hu).1; have := h.1; omega
      have h2 : w.cell? ⟨g, j, none⟩ = some u := by
        rw [← hu, ← ht, List.getElem?_take, if_pos hj]; simp [World.cell?, hg]
      rw [Addr.add_lit, Nat.zero_add]
      simp only [World.cell?] at h2 ⊢
      rw [Below.heap_alloc w _ g hgl]
      exact h2
    have HO := Lib.hid h1
    have HL := Lib.hid h.1
    clear h hg ht hcs hb h1
    have hq : ∀ w : World, (binOp BinOp.eql 25 (.slice (some ⟨g, 0, none⟩) n cap) (.slice none 0 0)).run Tryz.prog w = .ok (.bool false) w := fun _ => rfl
    go_enter Tryz.func113, Tryz.ntmps113
    go_wp2_with (at_builtin; refine wpList_append_own _ rfl _ _ 25 rfl w.heap.size 69 i0 (.agg #[.string ⟨#[]⟩, .int .i64 0, .int .i64 0, .slice none 0 0, .int .i64 0, .slice none 0 0]) 6 88 Tryz.underlying25 hi0 hz0 hz1 hz2 rfl (by decide) (.slice (some ⟨w.heap.size, 0, none⟩) 0 0) 0 [] rfl (World.ownsRow_made w #[] 0 (Nat.le_refl _) (by decide) rfl) ⟨g, 0, none⟩ n cap cs rfl HL.out HC.out HO.out (by unfold maxLen; omega) (by omega) (by simp <;> omega) ?_; intro v' w3 hown hgrow hsn; have HG := Lib.hid hgrow; clear hgrow)
    go_ret
    refine ⟨v', rfl, arr_of_own (by decide) (by simpa using hown), below_of_grown ((Below.refl _ w).alloc (Nat.le_refl _) _) HG.out (by simp), fun g hg => (own_blk hown g hg).1⟩
set_option maxHeartbeats 1000000 in
theorem allF_calls (C : Cx) (S : Nat → Prop) (_d : Nat) (s : Sg) (ve vs vf : Value) (ce cs cf : List Value) (w : World) (h : PIn C S s w ve vs vf ce cs cf) (hn : s.fn.length ≤ 100000) :
    Calls Tryz.prog 78 #[.pointer (some ⟨C.q, 6, none⟩)] w (AllPost' 6 s.fn.length cf w) := by
  have hc := h.cells.2.2.2.2.2
  have hcl := Lib.hid (cloneF_calls (C.q + 1) vf s.fn.length cf w hn h.of (rowsOne fuOne h.rf))
  obtain ⟨A, cap, e⟩ := own_form h.of
  subst e
  clear h
  generalize C.q = q at *
  go_enter Tryz.func78, Tryz.ntmps78
  go_wp2_with fail
  refine hcl.out.mono ?_
  rintro e w1 ⟨v1, rfl, ho, hB, hfr⟩
  have H := Lib.hid (show AllPost' 6 s.fn.length cf w (.returned v1) w1 from ⟨_, rfl, ho, hB, hfr⟩)
  clear ho hB hfr
  go_wp2
  go_ret
  exact H.out

end Go.Proofs.YtdeflloidhbpmaaGreatDoor
