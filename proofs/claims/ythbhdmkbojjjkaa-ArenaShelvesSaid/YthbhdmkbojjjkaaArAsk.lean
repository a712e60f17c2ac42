/-
  Ask: the thing of a number, fetched if it isn't there; and the small calls of a shelf.
-/
import Derived.Test.YthbhdmkbojjjkaaArBring
import Derived.Test.YthbhdmkbojjjkaaArPut
namespace Go.Proofs.Ythbhdmkbojjjkaa
open Go.RowKit

/-- What Ask answers, if the thing is there. -/
def AskedThere (b : Nat) (room f : Int) (v : Value) (xs : List It) (k x : Int) (i : Nat) (w : World) (e : Ending) (w' : World) : Prop :=
  e = .returned (.int .i64 x) ∧ ∃ v', ShAt b room f v' (putS room (xs.eraseIdx i) k x) w' ∧ Save (b :: v.ownBlock.toList) w w' ∧ SameOrNew v v' w

set_option maxHeartbeats 1000000 in
theorem ask_there (b : Nat) (room f : Int) (v : Value) (xs : List It) (k : Int) (fv : Value) (i : Nat) (w : World) (hn : xs.length ≤ 10000) (h : ShAt b room f v xs w) (hi : i < xs.length) (hk : plc k xs = i) :
    Calls Try.prog 12 #[.pointer (some ⟨b, 0, none⟩), .int .i64 k, fv] w (AskedThere b room f v xs k (xs[i]).2 i w) := by
  have ht := Lib.hid (take_yes b room f v xs k i w (by omega) h hi hk)
  have HL : Hid ((xs.eraseIdx i).length ≤ 10000) := Lib.hid (by rw [List.length_eraseIdx]; split <;> omega)
  generalize (xs[i]).2 = x at ht
  clear h hk
  go_enter Try.func12, Try.ntmps12
  go_wp2_with fail
  refine ht.out.mono ?_
  rintro e w1 ⟨rfl, v1, h1, hs1, ho1⟩
  have H1 := Lib.hid h1
  have HS1 := Lib.hid hs1
  have HO1 := Lib.hid ho1
  clear h1 hs1 ho1
  go_wp2_with fail
  refine (put_calls b room f v1 (xs.eraseIdx i) k x w1 HL.out H1.out).mono ?_
  rintro e w2 ⟨rfl, v2, h2, hs2, ho2⟩
  have H2 := Lib.hid h2
  have HS2 := Lib.hid hs2
  have HO2 := Lib.hid ho2
  clear h2 hs2 ho2
  go_wp2
  go_ret
  refine ⟨rfl, v2, H2.out, HS1.out.trans (by rw [← HO1.out]; exact HS2.out), ?_⟩
  rcases HO2.out with h | ⟨g, h, hg⟩
  · exact .inl (h.trans HO1.out)
  · exact .inr ⟨g, h, Nat.le_trans HS1.out.size hg⟩

/-- What Ask answers, if the thing isn't there: R is what its fetch does. -/
def AskedFetched (b : Nat) (room f : Int) (v : Value) (xs : List It) (k x : Int) (R : World → World → Prop) (w : World) (e : Ending) (w' : World) : Prop :=
  e = .returned (.int .i64 x) ∧ ∃ v' w1 w2, ShAt b room (f + 1) v' (putS room xs k x) w' ∧ Below w.heap.size w w1 ∧ R w1 w2 ∧ Save (b :: v.ownBlock.toList) w2 w' ∧ SameOrNew v v' w

set_option maxHeartbeats 1000000 in
theorem ask_fetched (b : Nat) (room f : Int) (v : Value) (xs : List It) (k x : Int) (j : Nat) (caps : Array Value) (C : List Nat) (R : World → World → Prop) (w : World) (hn : xs.length ≤ 10000) (hf0 : 0 ≤ f) (hf1 : f ≤ 100000) (h : ShAt b room f v xs w) (hk : plc k xs = -1)
    (hj : ∀ args w, (callFunc j args).run Try.prog w = .ok (.enter j args) w)
    (hf : ∀ w1, Below w.heap.size w w1 → Calls Try.prog j (#[.int .i64 k] ++ caps) w1 fun e w2 => e = .returned (.int .i64 x) ∧ R w1 w2)
    (hR : ∀ w1 w2, R w1 w2 → Save C w1 w2) (hb : b ∉ C) (hv : ∀ g ∈ C, v.ownBlock ≠ some g) :
    Calls Try.prog 12 #[.pointer (some ⟨b, 0, none⟩), .int .i64 k, .func (.func j) #[] caps] w (AskedFetched b room f v xs k x R w) := by
  have ht := Lib.hid (fun (f' : Int) (w' : World) (h' : ShAt b room f' v xs w') => take_no b room f' v xs k w' (by omega) h' hk)
  have H := Lib.hid h
  have HJ := Lib.hid hj
  have HF := Lib.hid hf
  have HR := Lib.hid hR
  have HB := Lib.hid hb
  have HV := Lib.hid hv
  clear h hk hj hf hR hb hv
  go_enter Try.func12, Try.ntmps12
  go_wp2_with fail
  refine (ht.out f w H.out).mono ?_
  rintro e w1 ⟨rfl, hB1⟩
  have H1 := Lib.hid (H.out.below hB1)
  have HB1 := Lib.hid hB1
  have hsz1 := hB1.size
  clear hB1
  go_wp2_with fail
  refine (bring_calls j caps k x w1 (R w1) HJ.out (HF.out w1 HB1.out)).mono ?_
  rintro e w2 ⟨rfl, hr⟩
  have HRR := Lib.hid hr
  have hs2 := Lib.hid (HR.out _ _ hr)
  have H2 := Lib.hid (H1.out.save hs2.out HB.out HV.out)
  have hsz2 := hs2.out.size
  clear hr
  have hc1 := H2.out.cell.2.1
  have hf1' := H2.out.frozen 1
  go_wp2_with fail
  have H3 : Hid (ShAt b room (f + 1) v xs (w2.setCell ⟨b, 1, none⟩ (.int .i64 (f + 1)))) := Lib.hid (by
    refine ⟨by rw [heap_setCell_at w2 b 1 _ _ _ _ H2.out.1]; simp, ⟨H2.out.2.1, ?_⟩⟩
    rcases H2.out.2.2 with h0 | ⟨g, cap, cur, hv, hb, hg, hr⟩
    · exact .inl h0
    · exact .inr ⟨g, cap, cur, hv, hb, (heap_setCell_ne w2 b 1 _ g (by omega)).trans hg, hr⟩)
  have hs3 := Lib.hid (save_setCell (S := b :: v.ownBlock.toList) (w := w2) b 1 (.int .i64 (f + 1)) (by simp))
  refine (ht.out (f + 1) _ H3.out).mono ?_
  rintro e w4 ⟨rfl, hB4⟩
  have H4 := Lib.hid (H3.out.below hB4)
  have HB4 := Lib.hid (save_of_below (b :: v.ownBlock.toList) hB4 (Nat.le_refl _))
  clear hB4
  go_wp2_with fail
  refine (put_calls b room (f + 1) v xs k x w4 hn H4.out).mono ?_
  rintro e w5 ⟨rfl, v5, h5, hs5, ho5⟩
  have HH := Lib.hid h5
  have HS := Lib.hid hs5
  have HO := Lib.hid ho5
  clear h5 hs5 ho5
  go_wp2
  go_ret
  refine ⟨rfl, v5, w1, w2, HH.out, HB1.out, HRR.out, (hs3.out.trans HB4.out).trans HS.out, ?_⟩
  rcases HO.out with h | ⟨g, h, hg⟩
  · exact .inl h
  · exact .inr ⟨g, h, by have := (hs3.out.trans HB4.out).size; omega⟩

theorem has_calls (b : Nat) (room f : Int) (v : Value) (xs : List It) (k : Int) (w : World) (hn : xs.length ≤ 10000) (h : ShAt b room f v xs w) :
    Calls Try.prog 16 #[.pointer (some ⟨b, 0, none⟩), .int .i64 k] w fun e w' => e = .returned (.bool (decide (0 ≤ plc k xs))) ∧ Below w.heap.size w w' := by
  obtain ⟨A, c, rfl⟩ := own_slice h.2
  have hp := Lib.hid (place_calls b A xs.length c xs k w (by omega) h.lt h.cell.2.2 (nbAt_of_own h.2))
  clear h
  generalize plc k xs = p at hp
  go_enter Try.func16, Try.ntmps16
  go_wp2_with ((with_reducible refine hp.out.mono ?_); rintro e w' ⟨rfl, hB⟩)
  go_ret
  exact ⟨rfl, hB⟩
theorem slen_calls (b : Nat) (room f : Int) (v : Value) (xs : List It) (w : World) (h : ShAt b room f v xs w) :
    Calls Try.prog 14 #[.pointer (some ⟨b, 0, none⟩)] w fun e w' => e = .returned (.int .i64 (xs.length : Int)) ∧ w = w' := by
  obtain ⟨A, c, rfl⟩ := own_slice h.2
  have hc := h.cell.2.2
  clear h
  go_enter Try.func14, Try.ntmps14
  go_wp2
  go_ret
  exact ⟨rfl, rfl⟩
theorem fetched_calls (b : Nat) (room f : Int) (v : Value) (xs : List It) (w : World) (h : ShAt b room f v xs w) :
    Calls Try.prog 15 #[.pointer (some ⟨b, 0, none⟩)] w fun e w' => e = .returned (.int .i64 f) ∧ w = w' := by
  have hc := h.cell.2.1
  clear h
  go_enter Try.func15, Try.ntmps15
  go_wp2
  go_ret
  exact ⟨rfl, rfl⟩
/-- The room that a shelf has. -/
def roomS (n : Int) : Int := min (max n 1) 1000
set_option maxHeartbeats 1000000 in
theorem room_calls (n : Int) (w : World) :
    Calls Try.prog 11 #[.int .i64 n] w fun e w' => e = .returned (.pointer (some ⟨w.heap.size, 0, none⟩)) ∧ w' = w.alloc (.cells #[.int .i64 (roomS n), .int .i64 0, .slice none 0 0] 45) := by
  go_enter Try.func11, Try.ntmps11
  go_wp2
  all_goals
    go_ret
    refine ⟨rfl, ?_⟩
    first
      | rw [show roomS n = 1 by unfold roomS; omega]
      | rw [show roomS n = 1000 by unfold roomS; omega]
      | rw [show roomS n = n by unfold roomS; omega]
theorem drop_calls (b : Nat) (room f : Int) (v : Value) (xs : List It) (w : World) (h : ShAt b room f v xs w) :
    Calls Try.prog 17 #[.pointer (some ⟨b, 0, none⟩)] w fun e w' => e = .returned (.tuple #[]) ∧ ShAt b room 0 (.slice none 0 0) [] w' ∧ Save [b] w w' := by
  have hc0 := h.cell.1
  have hc1 := h.cell.2.1
  have hc2 := h.cell.2.2
  have hf0 := h.frozen 0
  have hf1 := h.frozen 1
  have hf2 := h.frozen 2
  have H := Lib.hid h
  clear h
  go_enter Try.func17, Try.ntmps17
  go_wp2
  go_end0
  have hbl := H.out.lt
  refine ⟨rfl, ⟨?_, ⟨by simp [flatN], .inl ⟨rfl, rfl⟩⟩⟩, ((save_setCell b 0 _ (by simp)).trans (save_setCell b 1 _ (by simp))).trans (save_setCell b 2 _ (by simp))⟩
  rw [heap_setCell_at _ b 2 _ _ _ _ (heap_setCell_at _ b 1 _ _ _ _ (heap_setCell_at w b 0 _ _ _ _ H.out.1))]
  simp

end Go.Proofs.Ythbhdmkbojjjkaa
