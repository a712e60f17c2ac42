/-
  A parser ends at a token, or goes behind it.
-/
import Derived.Test.YtdeflloidhbpmaaGreatDoorK04
import Derived.WalkLawsBesides
namespace Go.Proofs.YtdeflloidhbpmaaGreatDoor
open Go.RowKit

set_option maxHeartbeats 1000000 in
theorem fail_calls (C : Cx) (S : Nat → Prop) (d : Nat) (s : Sg) (c : Nat) (w : World) (h : PAt C S d s w) {α : Type} (val : α → Value) :
    Calls Tryz.prog 103 #[.pointer (some ⟨C.q, 0, none⟩), .int .i64 (c : Int)] w (OutP C S d val (.no c s.at_ : Rs α) w) := by
  have H : Hid (OutP C S d val (.no c s.at_ : Rs α) w (PanicE c) (w.setCell ⟨C.q, 3, none⟩ (.int .i64 (c : Int)))) := Lib.hid (by
    have hS := h.sLt
    have hlt := h.lt
    obtain ⟨_, ve, vs, vf, ce, cs, cf, h⟩ := h
    refine ⟨rfl, ⟨hlt, h.toks.keep fun k hk => setCell_ne w C.q 3 _ k (by omega), ve, vs, vf, ?_⟩, (Keep.refl C S w).setCell _ (Nat.le_refl _) (fun e => by have := (hS _ e).1; omega)⟩
    rw [setCell_at w C.q 3 _ _ _ _ h.box]; simp)
  have hf : w.frozen? ⟨C.q, 3, none⟩ = false := by obtain ⟨_, ve, vs, vf, ce, cs, cf, h⟩ := h; exact h.frozen 3
  have hc : w.cell? ⟨C.q, 3, none⟩ = some (.int .i64 0) := by obtain ⟨_, ve, vs, vf, ce, cs, cf, h⟩ := h; simp [World.cell?, h.box]
  clear h
  go_enter Tryz.func103, Tryz.ntmps103
  go_wp2
  exact ⟨rfl, H.out⟩

set_option maxHeartbeats 1000000 in
theorem stLen_calls (C : Cx) (S : Nat → Prop) (d : Nat) (s : Sg) (w : World) (h : PAt C S d s w) :
    Calls Tryz.prog 139 #[.pointer (some ⟨C.q, 5, none⟩)] w fun e w' => e = .returned (.int .i64 (s.st.length : Int)) ∧ w = w' := by
  obtain ⟨_, ve, vs, vf, ce, cs, cf, h⟩ := h
  have hc := h.cells.2.2.2.2.1
  obtain ⟨A, c, rfl⟩ := own_form h.os
  clear h
  generalize C.q = q at *
  go_enter Tryz.func139, Tryz.ntmps139
  go_wp2
  go_ret
  exact ⟨rfl, rfl⟩
set_option maxHeartbeats 1000000 in
theorem fnLen_calls (C : Cx) (S : Nat → Prop) (d : Nat) (s : Sg) (w : World) (h : PAt C S d s w) :
    Calls Tryz.prog 102 #[.pointer (some ⟨C.q, 6, none⟩)] w fun e w' => e = .returned (.int .i64 (s.fn.length : Int)) ∧ w = w' := by
  obtain ⟨_, ve, vs, vf, ce, cs, cf, h⟩ := h
  have hc := h.cells.2.2.2.2.2
  obtain ⟨A, c, rfl⟩ := own_form h.of
  clear h
  generalize C.q = q at *
  go_enter Tryz.func102, Tryz.ntmps102
  go_wp2
  go_ret
  exact ⟨rfl, rfl⟩

/-- What can't be is told where it begins. -/
theorem PAt.box {C : Cx} {S : Nat → Prop} {d : Nat} {s : Sg} {w : World} (h : PAt C S d s w) : (∀ o, w.frozen? ⟨C.q, o, none⟩ = false) := by
  obtain ⟨_, ve, vs, vf, ce, cs, cf, h⟩ := h; exact h.frozen
theorem PAt.next {C : Cx} {S : Nat → Prop} {d : Nat} {s : Sg} {w : World} (h : PAt C S d s w) (hl : s.at_ + 1 < C.T.length) : PAt C S (d + 1) { s with at_ := s.at_ + 1 } (w.setCell ⟨C.q, 2, none⟩ (.int .i64 ((s.at_ + 1 : Nat) : Int))) := by
  obtain ⟨h0, ve, vs, vf, ce, cs, cf, h⟩ := h
  exact ⟨by show s.ex.length + s.st.length + s.fn.length + (d + 1) ≤ s.at_ + 1; omega, ve, vs, vf, ce, cs, cf, h.next hl⟩
theorem PAt.keepNext {C : Cx} {S : Nat → Prop} {d : Nat} {s : Sg} {w : World} (h : PAt C S d s w) (u : Value) : Keep C S w (w.setCell ⟨C.q, 2, none⟩ u) :=
  (Keep.refl C S w).setCell _ (Nat.le_refl _) (fun e => by have := (h.sLt _ e).1; omega)

set_option maxRecDepth 100000 in
set_option maxHeartbeats 1000000 in
theorem next_calls (C : Cx) (S : Nat → Prop) (d : Nat) (s : Sg) (w : World) (h : PAt C S d s w) (hl : s.at_ + 1 < C.T.length) :
    Calls Tryz.prog 129 #[.pointer (some ⟨C.q, 0, none⟩)] w (OutP C S (d + 1) strV (nextP C.T s) w) := by
  have hsl := Lib.hid (stLen_calls C S d s w h)
  unfold nextP
  by_cases hm : 1000 < s.st.length
  · rw [if_pos hm]
    have hd : decide ((1000 : Int) < (s.st.length : Int)) = true := decide_eq_true (by omega)
    have hf := Lib.hid (fail_calls C S (d := d) s 5 w h strV)
    clear h hm
    go_enter Tryz.func129, Tryz.ntmps129
    go_wp2_with fail
    refine hsl.out.mono ?_
    rintro e w1 ⟨rfl, rfl⟩
    go_wp2_with fail
    refine hf.out.mono ?_
    intro e w1 h1
    obtain rfl := h1.1
    go_wp2
    exact ⟨rfl, h1.no (Keep.refl _ _ _) fun _ h => h⟩
  · rw [if_neg hm]
    have hd : decide ((1000 : Int) < (s.st.length : Int)) = false := decide_eq_false (by omega)
    have hn := Lib.hid (h.next hl)
    have hk := Lib.hid (h.keepNext (.int .i64 ((s.at_ + 1 : Nat) : Int)))
    have hlt := h.lt
    have hlen := h.len
    obtain ⟨bt, ot, ct, bx, ox, cx, _, hsv, _, _, c4, _, d1, d2⟩ := h.read
    have hbx : bx ≠ C.q := by
      obtain ⟨_, _, _, _, _, _, _, h⟩ := h
      obtain ⟨bt', ot', ct', bx', ox', cx', _, h2, _, h4, _⟩ := h.toks
      rw [hsv] at h2
      injection h2 with h2
      injection h2 with h2
      injection h2 with h2
      omega
    have hbq := Lib.hid h.qlt
    have hf2 := h.box 2
    rw [hsv] at d1
    clear h hm
    have ha : ((s.at_ + 1 : Nat) : Int) = (s.at_ : Int) + 1 := by omega
    generalize (cur C.T s).txt = t at *
    have e0 : (0 : Int) ≤ (s.at_ : Int) := by omega
    have e1 : (s.at_ : Int) < (C.T.length : Int) := by omega
    have H : Hid (OutP C S (d + 1) strV (.ok t { s with at_ := s.at_ + 1 }) w (.returned (.string (bs t))) (w.setCell ⟨C.q, 2, none⟩ (.int .i64 ((s.at_ : Int) + 1)))) := Lib.hid ⟨rfl, ha ▸ hn.out, ha ▸ hk.out⟩
    have hx4 : (w.setCell ⟨C.q, 2, none⟩ (.int .i64 ((s.at_ : Int) + 1))).cell? ⟨bx, ox + s.at_, none⟩ = some (.string (bs t)) := (World.cell?_of_block (a := ⟨bx, ox + s.at_, none⟩) (setCell_ne w C.q 2 _ bx hbx)).trans c4
    have hx1 : (w.setCell ⟨C.q, 2, none⟩ (.int .i64 ((s.at_ : Int) + 1))).cell? ⟨C.q, 1, none⟩ = some (.slice (some ⟨bx, ox, none⟩) C.T.length cx) := by
      rw [World.cell?_setCell_other _ _ _ _ (by simp)]; exact d1
    have hx2 : (w.setCell ⟨C.q, 2, none⟩ (.int .i64 ((s.at_ : Int) + 1))).cell? ⟨C.q, 2, none⟩ = some (.int .i64 ((s.at_ : Int) + 1)) := by
      exact World.cell?_setCell_same _ _ _ d2
    clear hn hk ha hsv hlt hl
    generalize hqq : C.q = q at *
    generalize hj : s.at_ = j at *
    clear hqq hj
    go_enter Tryz.func129, Tryz.ntmps129
    go_wp2_with fail
    refine hsl.out.mono ?_
    rintro e w1 ⟨rfl, rfl⟩
    go_wp2
    go_quiet (fail)
    go_wp2
    go_ret
    exact ⟨rfl, H.out.2.1.drewN _, H.out.2.2.drewN _⟩

theorem PAt.belowK {C : Cx} {S : Nat → Prop} {d : Nat} {s : Sg} {w w' : World} (h : PAt C S d s w) (hB : Below w.heap.size w w') : Keep C S w w' := Keep.of h hB
theorem takeP_yes {T : List Tk} {l : List (List UInt8)} {s : Sg} (h : isP T l s = true) : takeP T l s = nextP T s := by simp [takeP, h]
theorem takeP_no {T : List Tk} {l : List (List UInt8)} {s : Sg} (h : isP T l s = false) : takeP T l s = .no 3 s.at_ := by simp [takeP, h]
theorem takeK_yes {T : List Tk} {k : Nat} {s : Sg} (h : isK T k s = true) : takeK T k s = nextP T s := by simp [takeK, h]
theorem takeK_no {T : List Tk} {k : Nat} {s : Sg} (h : isK T k s = false) : takeK T k s = .no 3 s.at_ := by simp [takeK, h]

set_option maxHeartbeats 1000000 in
theorem take_calls (C : Cx) (S : Nat → Prop) (d : Nat) (s : Sg) (g n c : Nat) (l : List (List UInt8)) (hl : [] ∉ l) (hn : n ≤ 100000) (w : World) (h : PAt C S d s w) (hx : SgAt w g n l) :
    Calls Tryz.prog 104 #[.pointer (some ⟨C.q, 0, none⟩), .slice (some ⟨g, 0, none⟩) n c] w (OutP C S (d + 1) strV (takeP C.T l s) w) := by
  have his := Lib.hid (is_calls C S d s g n c l hn w h hx)
  by_cases hi : isP C.T l s = true
  · rw [takeP_yes hi]
    rw [hi] at his
    have hnx := Lib.hid (fun W hW => next_calls C S d s W hW (h.tk.isP hl h.lt hi))
    have H := Lib.hid h
    clear h hx hi
    generalize nextP C.T s = r at *
    go_enter Tryz.func104, Tryz.ntmps104
    go_wp2_with fail
    refine his.out.mono ?_
    rintro e w1 ⟨rfl, hB⟩
    go_wp2_with fail
    refine (hnx.out _ (H.out.below hB)).mono ?_
    intro e w2 h2
    cases r with
    | no c i =>
      obtain rfl := h2.1
      go_wp2
      exact ⟨rfl, h2.no (H.out.belowK hB) fun _ h => h⟩
    | ok a s' =>
      obtain ⟨rfl, h3, h4⟩ := h2
      unfold strV
      go_wp2
      go_ret
      exact ⟨rfl, h3, (H.out.belowK hB).trans h4⟩
  · have hi' : isP C.T l s = false := by simpa using hi
    rw [takeP_no hi']
    rw [hi'] at his
    have hf := Lib.hid (fun W hW => fail_calls C S d s 3 W hW strV)
    have H := Lib.hid h
    clear h hx hi hi'
    go_enter Tryz.func104, Tryz.ntmps104
    go_wp2_with fail
    refine his.out.mono ?_
    rintro e w1 ⟨rfl, hB⟩
    go_wp2_with fail
    refine (hf.out _ (H.out.below hB)).mono ?_
    intro e w2 h2
    obtain rfl := h2.1
    go_wp2
    exact ⟨rfl, h2.no (H.out.belowK hB) fun _ h => h⟩

set_option maxHeartbeats 1000000 in
theorem takeA_calls (C : Cx) (S : Nat → Prop) (d : Nat) (s : Sg) (k : Nat) (hk : k ≠ 0) (w : World) (h : PAt C S d s w) :
    Calls Tryz.prog 105 #[.pointer (some ⟨C.q, 0, none⟩), .int .i64 (k : Int)] w (OutP C S (d + 1) strV (takeK C.T k s) w) := by
  have his := Lib.hid (isA_calls C S d s k w h)
  by_cases hi : isK C.T k s = true
  · rw [takeK_yes hi]
    rw [hi] at his
    have hnx := Lib.hid (fun W hW => next_calls C S d s W hW (h.tk.isK hk h.lt hi))
    have H := Lib.hid h
    clear h hi
    generalize nextP C.T s = r at *
    go_enter Tryz.func105, Tryz.ntmps105
    go_wp2_with fail
    refine his.out.mono ?_
    rintro e w1 ⟨rfl, hB⟩
    go_wp2_with fail
    refine (hnx.out _ (H.out.below hB)).mono ?_
    intro e w2 h2
    cases r with
    | no c i =>
      obtain rfl := h2.1
      go_wp2
      exact ⟨rfl, h2.no (H.out.belowK hB) fun _ h => h⟩
    | ok a s' =>
      obtain ⟨rfl, h3, h4⟩ := h2
      unfold strV
      go_wp2
      go_ret
      exact ⟨rfl, h3, (H.out.belowK hB).trans h4⟩
  · have hi' : isK C.T k s = false := by simpa using hi
    rw [takeK_no hi']
    rw [hi'] at his
    have hf := Lib.hid (fun W hW => fail_calls C S d s 3 W hW strV)
    have H := Lib.hid h
    clear h hi hi'
    go_enter Tryz.func105, Tryz.ntmps105
    go_wp2_with fail
    refine his.out.mono ?_
    rintro e w1 ⟨rfl, hB⟩
    go_wp2_with fail
    refine (hf.out _ (H.out.below hB)).mono ?_
    intro e w2 h2
    obtain rfl := h2.1
    go_wp2
    exact ⟨rfl, h2.no (H.out.belowK hB) fun _ h => h⟩

set_option maxHeartbeats 1000000 in
/-- within, of what isn't too deep. -/
theorem within_ok (C : Cx) (dep : Int) (hd : dep ≤ 64) (w : World) :
    Calls Tryz.prog 130 #[.pointer (some ⟨C.q, 0, none⟩), .int .i64 dep] w fun e w' => e = .returned (.tuple #[]) ∧ w = w' := by
  have h1 : decide ((64 : Int) < dep) = false := decide_eq_false (by omega)
  go_enter Tryz.func130, Tryz.ntmps130
  go_wp2
  go_end0
  exact ⟨rfl, rfl⟩
set_option maxHeartbeats 1000000 in
theorem within_no (C : Cx) (S : Nat → Prop) (d : Nat) (s : Sg) (dep : Int) (hd : 64 < dep) (w : World) (h : PAt C S d s w) {α : Type} (val : α → Value) :
    Calls Tryz.prog 130 #[.pointer (some ⟨C.q, 0, none⟩), .int .i64 dep] w (OutP C S d val (.no 4 s.at_ : Rs α) w) := by
  have h1 : decide ((64 : Int) < dep) = true := decide_eq_true (by omega)
  have hf := Lib.hid (fail_calls C S d s 4 w h val)
  clear h
  go_enter Tryz.func130, Tryz.ntmps130
  go_wp2_with fail
  refine hf.out.mono ?_
  intro e w2 h2
  obtain rfl := h2.1
  go_wp2
  exact ⟨rfl, h2⟩

theorem lastHi_at {T : List Tk} {s : Sg} (h : s.at_ - 1 < T.length) : lastHi T s = T[s.at_ - 1].hi := by simp [lastHi, h]
set_option maxRecDepth 100000 in
set_option maxHeartbeats 1000000 in
/-- since. -/
theorem since_calls (C : Cx) (S : Nat → Prop) (d : Nat) (s : Sg) (lo : Int) (w : World) (h : PAt C S (d + 1) s w) :
    Calls Tryz.prog 109 #[.pointer (some ⟨C.q, 0, none⟩), .int .i64 lo] w fun e w' => e = .returned (.agg #[.int .i64 lo, .int .i64 (lastHi C.T s : Int)]) ∧ Below w.heap.size w w' := by
  have hlt := h.lt
  have hlen := h.len
  have hpos : 1 ≤ s.at_ := by have := h.1; omega
  obtain ⟨bt, ot, ct, bx, ox, cx, htv, _, _, _, _, d0, _, d2⟩ := h.read
  rw [htv] at d0
  obtain ⟨_, _, _, _, _, _, _, h⟩ := h
  obtain ⟨bt', ot', ct', bx', ox', cx', h1, h2, h3, h4, hc⟩ := h.toks
  rw [htv] at h1
  injection h1 with h1 h5 h6
  injection h1 with h1
  injection h1 with h1 h7
  subst h1 h6 h7
  have c3 := (hc (s.at_ - 1) (by omega)).2.2.1
  rw [← lastHi_at (by omega)] at c3
  generalize lastHi C.T s = t at *
  have hbl := h.qlt
  have hbt : bt < w.heap.size := by omega
  clear h hc h2 h4 htv
  generalize hqq : C.q = q at *
  generalize hat : s.at_ = a0 at *
  obtain ⟨j, rfl⟩ : ∃ j, a0 = j + 1 := ⟨a0 - 1, by omega⟩
  have e0 : (0 : Int) ≤ (j : Int) := by omega
  have e1 : (j : Int) < (C.T.length : Int) := by omega
  have ea : ((j + 1 : Nat) : Int) = (j : Int) + 1 := by omega
  rw [ea] at d2
  simp only [Nat.add_sub_cancel] at c3
  have hal := (Below.refl w.heap.size w).alloc (Nat.le_refl _) (.cells #[.int .i64 0, .int .i64 0] 39)
  have d0' := (hal.cell (p := ⟨q, 0, none⟩) hbl).trans d0
  have d2' := (hal.cell (p := ⟨q, 2, none⟩) hbl).trans d2
  have c3' := (hal.cell (p := ⟨bt, _, none⟩) hbt).trans c3
  clear hqq hat hlt hpos h3 ea d0 d2 c3 hal
  go_enter Tryz.func109, Tryz.ntmps109
  go_wp2
  go_region
  all_goals go_wp2
  all_goals refine bodyPost_ret (v := .agg #[.int .i64 lo, .int .i64 (t : Int)]) (by simp [results, Tryz.results109, go_sem]) rfl ⟨rfl, ?_⟩
  all_goals exact ((Below.refl _ w).alloc (Nat.le_refl _) _).drew

end Go.Proofs.YtdeflloidhbpmaaGreatDoor
