/-
  PageLinesAt, walked.
-/
import Derived.Test.YtjimkfniahndhaaLines
import Derived.Test.YtjimkfniahndhaaAwake
import Derived.Test.YtjimkfniahndhaaBlanks
import Derived.Deep.QuietTactic
import Derived.BigQuiet
namespace Go.Proofs.Ytjimkfniahndhaa
open Go.RowKit Go.Shelf

/-- What the law's cells hold between two lines. -/
def LaJ (s : ByteArray) (w0 : World) (Bl Bo Bt : Nat) {α : Type} (_ : List α) (W : World) : Prop :=
  Boxed W Bl 9 (.string s) ∧ Boxed W Bo 4 (.bool true) ∧ Boxed W Bt 9 (.string s) ∧ Below w0.heap.size w0 W

theorem laJ_own {s : ByteArray} {w0 : World} {Bl Bo Bt : Nat} {α : Type} (B : Nat) (hB : w0.heap.size ≤ B) : OwnFrom B (LaJ s w0 Bl Bo Bt (α := α)) :=
  OwnFrom.and ((boxed_own _ _ _).from _) (OwnFrom.and ((boxed_own _ _ _).from _) (OwnFrom.and ((boxed_own _ _ _).from _) (ownFrom_below (Nat.le_refl _) hB)))

theorem boxed_below {W W' : World} {b B : Nat} {t : TypeId} {v : Value} (h : Boxed W b t v) (hB : Below B W W') (hb : b < B) : Boxed W' b t v := (hB.block b hb).trans h

set_option maxRecDepth 100000 in
set_option maxHeartbeats 1000000 in
theorem la_cb (s : ByteArray) (hs : s.size ≤ 1000) (x : Lm s.data.toList) (Bl Bo : Nat) (W : World) (bl : Boxed W Bl 9 (.string s)) (bo : Boxed W Bo 4 (.bool true)) :
    Calls Try.prog 21 #[.int .i64 (x.1.1 : Int), .string (s.extract x.1.2.1 x.1.2.2), .pointer (some ⟨Bl, 0, none⟩), .pointer (some ⟨Bo, 0, none⟩)] W fun e W' =>
      e = .returned (.bool true) ∧ ∃ W1, Below W.heap.size W W1 ∧ W' = W1.setCell ⟨Bo, 0, none⟩ (.bool true) := by
  have hxm := spans_mem _ _ x.2
  have e1 : s.data.toList.length = s.size := by simp
  have hx1 : x.1.2.1 ≤ x.1.2.2 := hxm.2.2.1
  have hx2 : x.1.2.2 ≤ s.size := by omega
  have hpl := spans_in _ _ x.2 x.1.2.1 (Nat.le_refl _) hx1
  rw [Nat.sub_self, Nat.zero_add] at hpl
  have hat := Lib.hid (fun W => (at_calls s hs (x.1.1 : Int) 1 W).mono (R' := fun e W' => e = .returned (.tuple #[.int .i64 (x.1.2.1 : Int), .int .i64 0]) ∧ Below W.heap.size W W') (fun e W' ⟨h, hB⟩ => ⟨at_yes (i := x.1.2.1) (Nat.le_trans hx1 hx2) (by rw [hpl]; exact h), hB⟩))
  clear hxm e1 hpl
  obtain ⟨⟨ln, fr, to⟩, hx⟩ := x
  dsimp only at hx1 hx2 hat ⊢
  have hez : (s.extract fr to).size = to - fr := by simp; omega
  have ct := bl.cell
  go_enter Try.func21, Try.ntmps21
  go_wp2_with fail
  refine (hat.out _).mono ?_
  rintro e W1 ⟨rfl, hB1⟩
  have ct1 := (boxed_below bl hB1 bl.lt).cell
  have co1 := (boxed_below bo hB1 bo.lt).cell
  have fo1 := (boxed_below bo hB1 bo.lt).frozen
  have hsum : (fr : Int) + ((to - fr : Nat) : Int) = to := by omega
  go_wp2
  go_ret
  exact ⟨rfl, W1, hB1, rfl⟩

theorem la_takes (s : ByteArray) (hs : s.size ≤ 1000) (w0 : World) (Bl Bo Bt B : Nat) (h0 : w0.heap.size ≤ Bl) (h1 : Bl < Bo) (h2 : Bo < Bt) (h3 : Bt < B) :
    Takes s B 21 #[.pointer (some ⟨Bl, 0, none⟩), .pointer (some ⟨Bo, 0, none⟩)] (LaJ s w0 Bl Bo Bt) (fun _ _ => False) := by
  intro pre x W hj _
  obtain ⟨bl, bo, bt, hB⟩ := hj
  refine (la_cb s hs x Bl Bo W bl bo).mono ?_
  rintro e W' ⟨rfl, W1, hB1, rfl⟩
  have bo1 := boxed_below bo hB1 bo.lt
  refine ⟨⟨by simpa using hB1.size, fun k hk hl => ?_⟩, true, rfl, fun _ => ⟨(boxed_below bl hB1 bl.lt).other (by omega) _, bo1.set _, (boxed_below bt hB1 bt.lt).other (by omega) _, ?_⟩, fun h => by cases h⟩
  · exact (Below.heap_setCell W1 ⟨Bo, 0, none⟩ _ k (by simp; omega)).trans (hB1.block k hl)
  · exact (hB.trans (hB1.mono hB.size)).setCell (p := ⟨Bo, 0, none⟩) (by simp; omega) _

theorem placeOf_lt (t : List UInt8) (i j : Nat) (h : i < j) (hj : j ≤ t.length) : (placeOf t i).1 < (placeOf t j).1 ∨ ((placeOf t i).1 = (placeOf t j).1 ∧ (placeOf t i).2 < (placeOf t j).2) := by
  induction j with
  | zero => omega
  | succ j ih =>
    have hs := placeOf_succ t j (by omega)
    by_cases e : i = j
    · subst e
      rw [hs]
      split
      · left; simp
      · right; simp
    · have := ih (by omega) (by omega)
      rw [hs]
      split
      · left; simp; omega
      · simp; omega

theorem place_nat (s : ByteArray) (hs : s.size ≤ 1000) (k : Nat) (hk : k ≤ s.size) (w : World) : Calls Try.prog 12 #[.string s, .int .i64 (k : Int)] w fun e W' => e = .returned (.tuple #[.int .i64 ((placeOf s.data.toList k).1 : Nat), .int .i64 ((placeOf s.data.toList k).2 : Nat), .int .i64 0]) ∧ Below w.heap.size w W' :=
  place_yes s hs (k : Int) (by omega) (by omega) w

set_option maxRecDepth 100000 in
set_option maxHeartbeats 1000000 in
theorem la_walk (s : ByteArray) (hs : s.size ≤ 300) (x0 x1 : Nat) (h0 : x0 ≤ 65535) (h1 : x1 ≤ 65535) (w : World) :
    Calls Try.prog 8 #[.string s, .int .u16 x0, .int .u16 x1] w fun e w' => e = .returned (.bool true) ∧ Below w.heap.size w w' := by
  have hsd : decide ((300 : Int) < (s.size : Int)) = false := by simp; omega
  obtain ⟨a, ha, has⟩ : ∃ a : Nat, (x0 : Int) % ((s.size : Int) + 1) = a ∧ a ≤ s.size := ⟨((x0 : Int) % ((s.size : Int) + 1)).toNat, by
    have := Int.emod_nonneg (x0 : Int) (show ((s.size : Int) + 1) ≠ 0 by omega); omega, by
    have := Int.emod_lt_of_pos (x0 : Int) (show 0 < ((s.size : Int) + 1) by omega)
    have := Int.emod_nonneg (x0 : Int) (show ((s.size : Int) + 1) ≠ 0 by omega); omega⟩
  obtain ⟨b, hb, hbs⟩ : ∃ a : Nat, (x1 : Int) % ((s.size : Int) + 1) = a ∧ a ≤ s.size := ⟨((x1 : Int) % ((s.size : Int) + 1)).toNat, by
    have := Int.emod_nonneg (x1 : Int) (show ((s.size : Int) + 1) ≠ 0 by omega); omega, by
    have := Int.emod_lt_of_pos (x1 : Int) (show 0 < ((s.size : Int) + 1) by omega)
    have := Int.emod_nonneg (x1 : Int) (show ((s.size : Int) + 1) ≠ 0 by omega); omega⟩
  have HA := Lib.hid ha
  have HB := Lib.hid hb
  clear ha hb
  go_enter Try.func8, Try.ntmps8
  go_wp2_with fail
  refine (awake_calls _).mono ?_
  rintro e w1 ⟨rfl, hB1⟩
  have bl1 : Boxed w1 w.heap.size 9 (.string s) := boxed_below (Boxed.new w 9 (.string s)) hB1 (by simp)
  have ct1 := bl1.cell
  have hl1 := bl1.lt
  have hBa : Below w.heap.size w w1 := ((Below.refl _ w).alloc (Nat.le_refl _) _).trans (hB1.mono (by simp))
  have bl2 := bl1.alloc (.cells #[.bool true] 4)
  have ct2 := bl2.cell
  have hln := Lib.hid (fun W => lines_calls s W)
  clear hB1
  go_wp2_with fail
  refine (hln.out _).mono ?_
  rintro e w2 ⟨rfl, rfl⟩
  have hL := Lib.hid (lines1_calls s (by omega) 21 #[.pointer (some ⟨w.heap.size, 0, none⟩), .pointer (some ⟨w1.heap.size, 0, none⟩)] ((w1.alloc (.cells #[.bool true] 4)).alloc (.cells #[.string s] 9)) (w1.heap.size + 1)
    (LaJ s w w.heap.size w1.heap.size (w1.heap.size + 1)) (fun _ _ => False) (enters_of Try.func21 (by kernel_rfl) rfl) (laJ_own _ (by simp; omega)) (fun _ _ _ _ h _ _ => h) (fun _ _ h => h.2.2.1.cell)
    (la_takes s (by omega) w w.heap.size w1.heap.size (w1.heap.size + 1) _ (Nat.le_refl _) hl1 (by omega) (by simp))
    ⟨bl2.alloc _, (Boxed.new _ _ _).alloc _, by have := Boxed.new (w1.alloc (.cells #[.bool true] 4)) 9 (.string s); rw [World.size_alloc] at this; exact this, (hBa.alloc hBa.size _).alloc (by have := hBa.size; simp; omega) _⟩)
  go_wp2_with fail
  refine hL.out.mono ?_
  rintro e w3 ⟨rfl, (⟨xs, _, bl3, bo3, bt3, hB3⟩ | ⟨_, _, h⟩)⟩
  case inr => exact h.elim
  have ct3 := bl3.cell
  have co3 := bo3.cell
  have hl3 := bl3.lt
  have hl4 := bo3.lt
  clear hL hln bl1 ct1 bl2 ct2 hBa bt3
  have hw1 : IntKind.i64.wrap ((s.size : Int) + 1) = s.size + 1 := IntWalk.i64_in _ (by omega)
  have hm0 : (x0 : Int).tmod ((s.size : Int) + 1) = a := by rw [Int.tmod_eq_emod_of_nonneg (by omega)]; exact HA.out
  have hm1 : (x1 : Int).tmod ((s.size : Int) + 1) = b := by rw [Int.tmod_eq_emod_of_nonneg (by omega)]; exact HB.out
  have hne : ¬ ((s.size : Int) + 1 = 0) := by omega
  have hx0 : (0 : Int) ≤ (x0 : Int) := by omega
  have hx1 : (0 : Int) ≤ (x1 : Int) := by omega
  go_wp2_with fail
  go_quiet (fail)
  clear hw1 hm0 hm1 hne hx0 hx1 HA HB
  have hpa := Lib.hid (fun W => place_nat s (by omega) a has W)
  have hpb := Lib.hid (fun W => place_nat s (by omega) b hbs W)
  have HLT := Lib.hid (placeOf_lt s.data.toList)
  have hlen : s.data.toList.length = s.size := by simp
  have HLen := Lib.hid hlen
  clear hlen
  obtain ⟨la, hla⟩ : ∃ q, (placeOf s.data.toList a).1 = q := ⟨_, rfl⟩
  obtain ⟨ca, hca⟩ : ∃ q, (placeOf s.data.toList a).2 = q := ⟨_, rfl⟩
  obtain ⟨lb, hlb⟩ : ∃ q, (placeOf s.data.toList b).1 = q := ⟨_, rfl⟩
  obtain ⟨cb, hcb⟩ : ∃ q, (placeOf s.data.toList b).2 = q := ⟨_, rfl⟩
  have h12 : a < b → la < lb ∨ (la = lb ∧ ca < cb) := fun h => by rw [← hla, ← hca, ← hlb, ← hcb]; exact HLT.out a b h (by rw [HLen.out]; exact hbs)
  have h21 : b < a → lb < la ∨ (lb = la ∧ cb < ca) := fun h => by rw [← hla, ← hca, ← hlb, ← hcb]; exact HLT.out b a h (by rw [HLen.out]; exact has)
  have h00 : a = b → la = lb ∧ ca = cb := fun h => by subst h; exact ⟨hla.symm.trans hlb, hca.symm.trans hcb⟩
  rw [hla, hca] at hpa
  rw [hlb, hcb] at hpb
  have H12 := Lib.hid h12
  have H21 := Lib.hid h21
  have H00 := Lib.hid h00
  clear h12 h21 h00 hla hca hlb hcb HLT HLen
  go_wp2_with fail
  refine (hpa.out _).mono ?_
  rintro e w4 ⟨rfl, hB4⟩
  have hs4 : w3.heap.size ≤ w4.heap.size := hB4.size
  have bl4 : Boxed w4 w.heap.size 9 (.string s) := (hB4.block w.heap.size hl3).trans bl3
  have bo4 : Boxed w4 w1.heap.size 4 (.bool true) := (hB4.block w1.heap.size hl4).trans bo3
  have hBf4 : Below w.heap.size w w4 := (show Below w.heap.size w (w3.drewN nq) from ⟨hB3.os, hB3.tape, hB3.output, hB3.size, hB3.block⟩).trans (hB4.mono hB3.size)
  have ct4 := bl4.cell
  clear hB4 ct3 co3 bl3 bo3 hB3
  go_wp2_with fail
  refine (hpb.out _).mono ?_
  rintro e w5 ⟨rfl, hB5⟩
  have bo5 : Boxed w5 w1.heap.size 4 (.bool true) := (hB5.block w1.heap.size bo4.lt).trans bo4
  have hBf : Below w.heap.size w w5 := hBf4.trans (hB5.mono hBf4.size)
  have co5 := bo5.cell
  clear hB5 ct4 bl4 bo4 hBf4 bo5 hpa hpb
  by_cases hab : a < b
  · rcases H12.out hab with h | ⟨h, h'⟩
    · have q0 : decide ((a : Int) < (b : Int)) = true := by simp; omega
      have q1 : decide ((la : Int) < (lb : Int)) = true := by simp; omega
      clear H12 H21 H00
      go_wp2
      go_ret
      exact ⟨rfl, hBf⟩
    · subst h
      have q0 : decide ((a : Int) < (b : Int)) = true := by simp; omega
      have q1 : decide ((ca : Int) < (cb : Int)) = true := by simp; omega
      clear H12 H21 H00
      go_wp2
      go_ret
      exact ⟨rfl, hBf⟩
  · have q0 : decide (a < b) = false := by simp; omega
    by_cases hba : b < a
    · rcases H21.out hba with h | ⟨h, h'⟩
      · have q1 : decide (la < lb) = false := by simp; omega
        have q2 : ((la : Int) == (lb : Int)) = false := by rw [beq_eq_false_iff_ne]; omega
        clear H12 H21 H00
        go_wp2
        go_ret
        exact ⟨rfl, hBf⟩
      · subst h
        have q2 : decide (ca < cb) = false := by simp; omega
        clear H12 H21 H00
        go_wp2
        go_ret
        exact ⟨rfl, hBf⟩
    · obtain ⟨h, h'⟩ := H00.out (by omega)
      subst h
      subst h'
      clear H12 H21 H00
      go_wp2
      go_ret
      exact ⟨rfl, hBf⟩

end Go.Proofs.Ytjimkfniahndhaa
