/-
  Ask with a fetch that only computes; the fixed example.
-/
import Derived.Test.YthbhdmkbojjjkaaArAsk
namespace Go.Proofs.Ythbhdmkbojjjkaa
open Go.RowKit

/-- What a shelf keeps behind Ask. -/
def askS (room : Int) (xs : List It) (k x : Int) : List It := putS room (if plc k xs = -1 then xs else xs.eraseIdx (plc k xs).toNat) k x
/-- How many were fetched behind Ask. -/
def askF (f : Int) (xs : List It) (k : Int) : Int := if plc k xs = -1 then f + 1 else f
/-- What Ask answers. -/
def Asked (b : Nat) (room f : Int) (v : Value) (xs : List It) (k x : Int) (w : World) (e : Ending) (w' : World) : Prop :=
  e = .returned (.int .i64 x) ∧ ∃ v', ShAt b room (askF f xs k) v' (askS room xs k x) w' ∧ Save (b :: v.ownBlock.toList) w w' ∧ SameOrNew v v' w

theorem plc_cases (k : Int) (xs : List It) : plc k xs = -1 ∨ ∃ i, ∃ hi : i < xs.length, plc k xs = (i : Int) ∧ (xs[i]).1 = k := by
  by_cases h : ∃ x ∈ xs, x.1 = k
  · obtain ⟨i, hi, h1, h2⟩ := plc_first k xs h
    exact .inr ⟨i, hi, plc_at k xs i hi h1 h2, h1⟩
  · exact .inl (plc_none k xs fun x hx e => h ⟨x, hx, e⟩)

theorem ask_pure (b : Nat) (room f : Int) (v : Value) (xs : List It) (k : Int) (F : Int → Int) (j : Nat) (w : World) (hn : xs.length ≤ 10000) (hf0 : 0 ≤ f) (hf1 : f ≤ 100000) (h : ShAt b room f v xs w)
    (hx : ∀ p ∈ xs, p.2 = F p.1)
    (hj : ∀ args w, (callFunc j args).run Try.prog w = .ok (.enter j args) w)
    (hf : ∀ w1, Calls Try.prog j #[.int .i64 k] w1 fun e w2 => e = .returned (.int .i64 (F k)) ∧ w1 = w2) :
    Calls Try.prog 12 #[.pointer (some ⟨b, 0, none⟩), .int .i64 k, .func (.func j) #[] #[]] w (Asked b room f v xs k (F k) w) := by
  rcases plc_cases k xs with hk | ⟨i, hi, hk, hki⟩
  · refine (ask_fetched b room f v xs k (F k) j #[] [] Eq w hn hf0 hf1 h hk hj (fun w1 _ => hf w1) (fun w1 w2 e => e ▸ Save.refl _ _) (by simp) (by simp)).mono ?_
    rintro e w' ⟨rfl, v', w1, w2, h1, hB, rfl, hs, ho⟩
    refine ⟨rfl, v', ?_, (save_of_below _ hB (Nat.le_refl _)).trans hs, ho⟩
    unfold askF askS
    rw [if_pos hk, if_pos hk]
    exact h1
  · have hx' : (xs[i]).2 = F k := by rw [hx _ (List.getElem_mem hi), hki]
    refine (ask_there b room f v xs k _ i w hn h hi hk).mono ?_
    rintro e w' ⟨rfl, v', h1, hs, ho⟩
    rw [hx'] at h1
    refine ⟨by rw [hx'], v', ?_, hs, ho⟩
    unfold askF askS
    rw [if_neg (by omega), if_neg (by omega), hk]
    exact h1

theorem same_calls (k : Int) (w : World) : Calls Try.prog 19 #[.int .i64 k] w fun e w' => e = .returned (.int .i64 k) ∧ w = w' := by
  go_enter Try.func19, Try.ntmps19
  go_wp2
  go_ret
  exact ⟨rfl, rfl⟩

/-- A shelf whose blocks lie at or above B. -/
theorem below_asked {B b : Nat} {v : Value} {w w1 w2 : World} (hB : Below B w w1) (hs : Save (b :: v.ownBlock.toList) w1 w2) (hb : B ≤ b) (hv : ∀ g, v.ownBlock = some g → b < g) (hw : B ≤ w1.heap.size) : Below B w w2 :=
  hB.trans (hs.below (fun x hx => by
    simp at hx
    rcases hx with rfl | hx
    · exact hb
    · have := hv x hx; omega) hw)

/-- Room's shelf. -/
theorem room_shelf (n : Int) (w : World) : Calls Try.prog 11 #[.int .i64 n] w fun e w' => e = .returned (.pointer (some ⟨w.heap.size, 0, none⟩)) ∧ ShAt w.heap.size (roomS n) 0 (.slice none 0 0) [] w' ∧ Below w.heap.size w w' ∧ w'.heap.size = w.heap.size + 1 := by
  refine (room_calls n w).mono ?_
  rintro e w' ⟨rfl, rfl⟩
  exact ⟨rfl, ⟨heap_alloc_new w _, ⟨by simp [flatN], .inl ⟨rfl, rfl⟩⟩⟩, (Below.refl _ _).alloc (Nat.le_refl _) _, by simp⟩

set_option maxRecDepth 100000 in
set_option maxHeartbeats 1000000 in
theorem awake_calls (w : World) : Calls Try.prog 6 #[] w fun e w' => e = .returned (.bool true) ∧ Below w.heap.size w w' := by
  have HA := Lib.hid (fun (f : Int) (v : Value) (xs : List It) (k : Int) (w1 : World) (hn : xs.length ≤ 10000) (hf0 : 0 ≤ f) (hf1 : f ≤ 100000) (h : ShAt w.heap.size 1 f v xs w1) (hx : ∀ p ∈ xs, p.2 = p.1) =>
    ask_pure w.heap.size 1 f v xs k (fun x => x) 19 w1 hn hf0 hf1 h hx enter_same (fun w2 => same_calls k w2))
  go_enter Try.func6, Try.ntmps6
  go_wp2_with fail
  refine (room_shelf 1 w).mono ?_
  rintro e w1 ⟨rfl, hs1, hB1, hz1⟩
  have H1 : Hid (ShAt w.heap.size 1 0 (.slice none 0 0) [] w1) := Lib.hid hs1
  have HB1 : Hid (Below w.heap.size w w1 ∧ w.heap.size ≤ w1.heap.size) := Lib.hid ⟨hB1, hB1.size⟩
  clear hs1 hB1 hz1
  go_wp2_with fail
  refine (HA.out 0 _ [] 5 w1 (by simp) (by omega) (by omega) H1.out (by simp)).mono ?_
  rintro e w2 ⟨rfl, v2, h2, hs2, ho2⟩
  have H2 : Hid (ShAt w.heap.size 1 1 v2 [(5, 5)] w2) := Lib.hid (by simpa [askF, askS, putS, plc] using h2)
  have HB2 : Hid (Below w.heap.size w w2 ∧ w.heap.size ≤ w2.heap.size) := Lib.hid ⟨below_asked HB1.out.1 hs2 (Nat.le_refl _) (fun g hg => (H1.out.row g hg).1) HB1.out.2, Nat.le_trans HB1.out.2 hs2.size⟩
  clear h2 hs2 ho2
  go_wp2_with fail
  refine (HA.out 1 _ [(5, 5)] 6 w2 (by simp) (by omega) (by omega) H2.out (by simp)).mono ?_
  rintro e w3 ⟨rfl, v3, h3, hs3, ho3⟩
  have H3 : Hid (ShAt w.heap.size 1 2 v3 [(6, 6)] w3) := Lib.hid (by simpa [askF, askS, putS, plc] using h3)
  have HB3 : Hid (Below w.heap.size w w3 ∧ w.heap.size ≤ w3.heap.size) := Lib.hid ⟨below_asked HB2.out.1 hs3 (Nat.le_refl _) (fun g hg => (H2.out.row g hg).1) HB2.out.2, Nat.le_trans HB2.out.2 hs3.size⟩
  clear h3 hs3 ho3
  go_wp2_with fail
  refine (HA.out 2 _ [(6, 6)] 5 w3 (by simp) (by omega) (by omega) H3.out (by simp)).mono ?_
  rintro e w4 ⟨rfl, v4, h4, hs4, ho4⟩
  have H4 : Hid (ShAt w.heap.size 1 3 v4 [(5, 5)] w4) := Lib.hid (by simpa [askF, askS, putS, plc] using h4)
  have HB4 : Hid (Below w.heap.size w w4 ∧ w.heap.size ≤ w4.heap.size) := Lib.hid ⟨below_asked HB3.out.1 hs4 (Nat.le_refl _) (fun g hg => (H3.out.row g hg).1) HB3.out.2, Nat.le_trans HB3.out.2 hs4.size⟩
  clear h4 hs4 ho4
  go_wp2_with fail
  refine (fetched_calls _ _ _ _ _ _ H4.out).mono ?_
  rintro e w5 ⟨rfl, rfl⟩
  go_wp2
  go_ret
  exact ⟨rfl, HB4.out.1⟩

end Go.Proofs.Ythbhdmkbojjjkaa
