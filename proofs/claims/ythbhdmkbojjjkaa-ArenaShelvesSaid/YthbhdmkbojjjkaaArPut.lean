/-
  put: a thing is put on a shelf; if there is no room, the first one goes.
-/
import Derived.Test.YthbhdmkbojjjkaaArTake
import Derived.Test.YthbhdmkbojjjkaaAppendW
import Derived.Deep.QuietTactic
import Derived.BigQuiet
namespace Go.Proofs.Ythbhdmkbojjjkaa
open Go.RowKit

/-- What a shelf keeps behind put. -/
def putS (room : Int) (xs : List It) (k x : Int) : List It := (if 0 < xs.length ∧ room ≤ (xs.length : Int) then xs.eraseIdx 0 else xs) ++ [(k, x)]
def PutPost (b : Nat) (room f : Int) (v : Value) (xs : List It) (k x : Int) (w : World) (e : Ending) (w' : World) : Prop :=
  e = .returned (.tuple #[]) ∧ ∃ v', ShAt b room f v' (putS room xs k x) w' ∧ Save (b :: v.ownBlock.toList) w w' ∧ SameOrNew v v' w

theorem save_grown {S : List Nat} {w w' : World} {v : Value} (h : w.grownBy w' v.ownBlock) (hS : ∀ g, v.ownBlock = some g → g ∈ S) : Save S w w' :=
  ⟨h.os, h.tape, h.output, h.size, fun k hk hn => h.block k hk (fun e => hn (hS k e.symm))⟩
theorem own_drewN {w : World} {base n : Nat} {e : TypeId} {size : Nat} {v : Value} {xs : List Value} (h : w.ownsRow base e size v n xs) (m : Nat) : (w.drewN m).ownsRow base e size v n xs := h
theorem news2 (W : World) (a c : Value) (t : TypeId) (n : Nat) (hn : W.heap.size = n) : ∀ j u, [a, c][j]? = some u → (W.alloc (.cells #[a, c] t)).cell? ((⟨n, 0, none⟩ : Addr).add j) = some u := by
  subst hn
  intro j u hu
  match j with
  | 0 => simpa [Addr.add] using hu
  | 1 => simpa [Addr.add] using hu
  | j + 2 => simp at hu
theorem own_len {w : World} {base n m : Nat} {e : TypeId} {size : Nat} {v : Value} {xs : List Value} (h : w.ownsRow base e size v n xs) (hn : n = m) : w.ownsRow base e size v m xs := hn ▸ h
theorem one2 (k x : Int) : ∀ u ∈ [Value.int .i64 k, Value.int .i64 x], u.oneCell' = true := by
  intro u hu; simp at hu; rcases hu with rfl | rfl <;> rfl

set_option maxRecDepth 100000 in
set_option maxHeartbeats 1000000 in
theorem put_keep (b : Nat) (room f : Int) (v : Value) (xs : List It) (k x : Int) (w : World) (hn : xs.length ≤ 10000) (h : ShAt b room f v xs w) (hg : ¬ (0 < xs.length ∧ room ≤ (xs.length : Int))) :
    Calls Try.prog 23 #[.pointer (some ⟨b, 0, none⟩), .int .i64 k, .int .i64 x] w (PutPost b room f v xs k x w) := by
  have hps : Hid (putS room xs k x = xs ++ [(k, x)]) := Lib.hid (by unfold putS; rw [if_neg hg])
  obtain ⟨i0, hi0, hz0, hz1, hz2⟩ := info_parts Try.infoNb
  obtain ⟨A, c, hv⟩ := own_slice h.2
  have hc2 := h.cell.2.2
  have hc0 := h.cell.1
  have hf2 := h.frozen 2
  have H := Lib.hid h
  have hbl := h.lt
  have hrow := Lib.hid h.row
  have hd : (decide ((0 : Int) < (xs.length : Int)) = true ∧ decide (0 < xs.length) = true ∧ decide (room ≤ (xs.length : Int)) = false) ∨ (decide ((0 : Int) < (xs.length : Int)) = false ∧ decide (0 < xs.length) = false) := by
    by_cases h0 : 0 < xs.length
    · have hr : ¬ room ≤ (xs.length : Int) := fun e => hg ⟨h0, e⟩
      exact .inl ⟨decide_eq_true (by omega), decide_eq_true h0, decide_eq_false hr⟩
    · exact .inr ⟨decide_eq_false (by omega), decide_eq_false h0⟩
  subst hv
  clear hg h
  rcases hd with ⟨hd1, hd1', hd2⟩ | ⟨hd1, hd1'⟩
  all_goals
    go_enter Try.func23, Try.ntmps23
    go_wp2
    go_quiet (fail)
    go_wp2_with (at_builtin; refine wpList_append_where _ rfl _ _ 43 rfl (b + 1) 51 i0 (.agg #[.int .i64 0, .int .i64 0]) 2 16 Try.underlying43 hi0 hz0 hz1 hz2 rfl (by decide) (.slice A xs.length c) _ _ rfl ((own_drewN H.out.2 nq).alloc _) ⟨w.heap.size, 0, none⟩ 1 1 [.int .i64 k, .int .i64 x] rfl rfl (news2 _ _ _ _ _ rfl) (one2 _ _) (by unfold maxLen; omega) (by omega) (by simp <;> omega) ?_; intro v' w3 hown hgrow hsn; obtain ⟨A', c', rfl⟩ := own_slice hown; have hb3 := Lib.hid ((hgrow.block b (by simp <;> omega) (fun e => by have := hrow.out b e.symm; omega)).trans ((heap_alloc_old (w.drewN nq) _ hbl).trans H.out.1)); have hf3 : w3.frozen? ⟨b, 2, none⟩ = false := (by simp [World.frozen?, hb3.out]); have hc3 : w3.cell? ⟨b, 2, none⟩ = some (.slice A xs.length c) := (by simp [World.cell?, hb3.out]); have HG := Lib.hid hgrow; clear hgrow)
    go_end0
    refine ⟨rfl, _, ShAt.put hb3.out ?_, ((((Save.refl _ w).drewN nq).alloc _).trans (save_grown HG.out ?_)).trans (save_setCell b 2 _ (by simp)), hsn.imp id fun ⟨g, h1, h2⟩ => ⟨g, h1, Nat.le_trans (by simp) h2⟩⟩
    · rw [hps.out, List.length_append, flatN_append]; exact hown
    · intro g hg; rw [hg]; simp

set_option maxRecDepth 100000 in
set_option maxHeartbeats 1000000 in
theorem put_drop (b : Nat) (room f : Int) (v : Value) (xs : List It) (k x : Int) (w : World) (hn : xs.length ≤ 10000) (h : ShAt b room f v xs w) (hg : 0 < xs.length ∧ room ≤ (xs.length : Int)) :
    Calls Try.prog 23 #[.pointer (some ⟨b, 0, none⟩), .int .i64 k, .int .i64 x] w (PutPost b room f v xs k x w) := by
  have hps : Hid (putS room xs k x = xs.eraseIdx 0 ++ [(k, x)]) := Lib.hid (by unfold putS; rw [if_pos hg])
  obtain ⟨i0, hi0, hz0, hz1, hz2⟩ := info_parts Try.infoNb
  obtain ⟨g, cap, rfl, hbg, hgl, hnc, hcm⟩ := own_pos h.2 hg.1
  have hc2 := h.cell.2.2
  have hc0 := h.cell.1
  have hf2 := h.frozen 2
  have H := Lib.hid h
  have hbl := h.lt
  obtain ⟨h0, hr⟩ := hg
  have hd1 : decide ((0 : Int) < (xs.length : Int)) = true := decide_eq_true (by omega)
  have hd1' : decide (0 < xs.length) = true := decide_eq_true h0
  have hd2 : decide (room ≤ (xs.length : Int)) = true := decide_eq_true hr
  have hrm : (xs.eraseIdx 0).length = xs.length - 1 := by rw [List.length_eraseIdx, if_pos h0]
  have HRM := Lib.hid hrm
  have hdel := Lib.hid (fun w1 (ho : w1.ownsRow (b + 1) 51 2 (.slice (some ⟨g, 0, none⟩) xs.length cap) xs.length (flatN xs)) => delete_calls (b + 1) g xs.length cap 0 xs w1 ho h0 (by omega))
  clear h hr hrm
  go_enter Try.func23, Try.ntmps23
  go_wp2
  go_quiet (fail)
  go_wp2_with fail
  refine (hdel.out _ (own_drewN H.out.2 nq)).mono ?_
  rintro e w2 ⟨rfl, ho2, hs2⟩
  have hb2 := Lib.hid ((hs2.block b hbl (by simp <;> omega)).trans H.out.1)
  have hf22 : w2.frozen? ⟨b, 2, none⟩ = false := by simp [World.frozen?, hb2.out]
  have hc22 : w2.cell? ⟨b, 2, none⟩ = some (.slice (some ⟨g, 0, none⟩) xs.length cap) := by simp [World.cell?, hb2.out]
  have H3 := Lib.hid (ShAt.put (v' := .slice (some ⟨g, 0, none⟩) (xs.length - 1) cap) (ys := xs.eraseIdx 0) hb2.out (by rw [HRM.out]; exact ho2))
  have hs3 := Lib.hid ((((Save.refl (b :: [g]) w).drewN nq).trans (hs2.mono (fun y hy => by simp at hy ⊢; exact .inr hy))).trans (save_setCell (S := b :: [g]) (w := w2) b 2 (.slice (some ⟨g, 0, none⟩) (xs.length - 1) cap) (by simp)))
  have hbl2 : w.heap.size ≤ w2.heap.size := hs2.size
  clear hs2
  go_wp2_with (at_builtin; refine wpList_append_where _ rfl _ _ 43 rfl (b + 1) 51 i0 (.agg #[.int .i64 0, .int .i64 0]) 2 16 Try.underlying43 hi0 hz0 hz1 hz2 rfl (by decide) (.slice (some ⟨g, 0, none⟩) (xs.length - 1) cap) _ _ rfl (own_len (H3.out.2.alloc _) HRM.out) ⟨w2.heap.size, 0, none⟩ 1 1 [.int .i64 k, .int .i64 x] rfl rfl (news2 _ _ _ _ _ (by simp)) (one2 _ _) (by unfold maxLen; omega) (by omega) (by simp <;> omega) ?_; intro v' w3 hown hgrow hsn; obtain ⟨A', c', rfl⟩ := own_slice hown; have hb3 := Lib.hid ((hgrow.block b (by simp <;> omega) (fun e => by simp [Value.ownBlock] at e; omega)).trans ((heap_alloc_old _ _ H3.out.lt).trans H3.out.1)); have hf3 : w3.frozen? ⟨b, 2, none⟩ = false := (by simp [World.frozen?, hb3.out]); have hc3 : w3.cell? ⟨b, 2, none⟩ = some (.slice (some ⟨g, 0, none⟩) (xs.length - 1) cap) := (by simp [World.cell?, hb3.out]); have HG := Lib.hid hgrow; clear hgrow)
  go_end0
  refine ⟨rfl, _, ShAt.put hb3.out ?_, ((hs3.out.alloc _).trans (save_grown HG.out ?_)).trans (save_setCell b 2 _ (by simp)), hsn.imp id fun ⟨g, h1, h2⟩ => ⟨g, h1, Nat.le_trans (by simp <;> omega) h2⟩⟩
  · rw [hps.out, List.length_append, flatN_append, HRM.out]; exact hown
  · intro y hy; simp [Value.ownBlock] at hy; subst hy; simp

theorem put_calls (b : Nat) (room f : Int) (v : Value) (xs : List It) (k x : Int) (w : World) (hn : xs.length ≤ 10000) (h : ShAt b room f v xs w) :
    Calls Try.prog 23 #[.pointer (some ⟨b, 0, none⟩), .int .i64 k, .int .i64 x] w (PutPost b room f v xs k x w) := by
  by_cases hg : 0 < xs.length ∧ room ≤ (xs.length : Int)
  · exact put_drop b room f v xs k x w hn h hg
  · exact put_keep b room f v xs k x w hn h hg

end Go.Proofs.Ythbhdmkbojjjkaa
