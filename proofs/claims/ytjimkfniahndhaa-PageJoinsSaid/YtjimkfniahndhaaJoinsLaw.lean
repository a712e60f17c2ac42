/-
  PageJoins, walked.
-/
import Derived.Test.YtjimkfniahndhaaLits
import Derived.Test.YtjimkfniahndhaaCut
import Derived.Deep.RegionHeld3
import Derived.WalkLawsBesides
namespace Go.Proofs.Ytjimkfniahndhaa
open Go.RowKit

theorem perm_pair {x y : Sp} {zs : List Sp} (h : zs.Perm [x, y]) : zs = [x, y] ∨ zs = [y, x] := by
  have hl := h.length_eq
  match zs, hl with
  | [p, q], _ =>
    have hp : p ∈ [x, y] := h.mem_iff.1 (by simp)
    simp at hp
    rcases hp with rfl | rfl
    · have := List.Perm.cons_inv h
      simp at this
      subst this
      exact .inl rfl
    · have h2 : [q].Perm [x] := by
        have := h.trans (List.Perm.swap p x [])
        exact List.Perm.cons_inv this
      simp at h2
      subst h2
      exact .inr rfl

/-- Two spans, one behind the other: their cover is the span of both. -/
theorem cov_two (a b c : Int) (h1 : a ≤ b) (h2 : b ≤ c) (zs : List Sp) (hp : zs.Perm ([(a, b), (b, c)].filter fullB)) (hs : zs.Pairwise (fun x y => x.1 ≤ y.1)) :
    covL zs = if a = c then [] else [(a, c)] := by
  by_cases e1 : a < b
  · have f1 : fullB (a, b) = true := by simp [fullB, e1]
    rw [if_neg (by omega)]
    by_cases e2 : b < c
    · have f2 : fullB (b, c) = true := by simp [fullB, e2]
      simp only [List.filter_cons, f1, f2, if_true, List.filter_nil] at hp
      rcases perm_pair hp with rfl | rfl
      · simp [covL, covStep]; omega
      · simp at hs; omega
    · have f2 : fullB (b, c) = false := by simp [fullB]; omega
      obtain rfl : b = c := by omega
      simp [f1, f2] at hp
      subst hp
      simp [covL, covStep]
  · have f1 : fullB (a, b) = false := by simp [fullB]; omega
    obtain rfl : a = b := by omega
    by_cases e2 : a < c
    · have f2 : fullB (a, c) = true := by simp [fullB, e2]
      rw [if_neg (by omega)]
      simp [f1, f2] at hp
      subst hp
      simp [covL, covStep]
    · have f2 : fullB (a, c) = false := by simp [fullB]; omega
      rw [if_pos (by omega)]
      simp [f1, f2] at hp
      subst hp
      simp [covL]

theorem cut_int (s : ByteArray) (hs : s.size ≤ 1000) (a b : Int) (h0 : 0 ≤ a) (hab : a ≤ b) (hb : b ≤ s.size) (w : World) :
    Calls Try.prog 20 #[.string s, .agg #[.int .i64 a, .int .i64 b]] w fun e w' => e = .returned (.string (s.extract a.toNat b.toNat)) ∧ Below w.heap.size w w' := by
  obtain ⟨a, rfl⟩ := Int.eq_ofNat_of_zero_le h0
  obtain ⟨b, rfl⟩ := Int.eq_ofNat_of_zero_le (show 0 ≤ b by omega)
  exact cut_calls s hs a b (by omega) (by omega) w

/-- The cells that the last statement reads. -/
def JS (b1 g off : Nat) (a b c : Int) (W : World) : Prop :=
  (W.cell? ⟨b1, 0, none⟩ = some (.int .i64 a) ∧ W.cell? ⟨b1, 1, none⟩ = some (.int .i64 b)) ∧ (W.cell? ⟨b1 + 1, 0, none⟩ = some (.int .i64 b) ∧ W.cell? ⟨b1 + 1, 1, none⟩ = some (.int .i64 c)) ∧ (W.cell? ⟨g, off, none⟩ = some (.int .i64 a) ∧ W.cell? ⟨g, off + 1, none⟩ = some (.int .i64 c))

theorem cell_lt {W : World} {a : Addr} {v : Value} (h : W.cell? a = some v) : a.block < W.heap.size := by
  rcases Nat.lt_or_ge a.block W.heap.size with h' | h'
  · exact h'
  · have e : W.heap[a.block]? = none := Array.getElem?_eq_none h'
    simp [World.cell?, e] at h

theorem JS.below {b1 g off : Nat} {a b c : Int} {W W' : World} (h : JS b1 g off a b c W) (hB : Below W.heap.size W W') : JS b1 g off a b c W' := by
  obtain ⟨⟨h1, h2⟩, ⟨h3, h4⟩, h5, h6⟩ := h
  exact ⟨⟨(hB.cell (cell_lt h1)).trans h1, (hB.cell (cell_lt h2)).trans h2⟩, ⟨(hB.cell (cell_lt h3)).trans h3, (hB.cell (cell_lt h4)).trans h4⟩, (hB.cell (cell_lt h5)).trans h5, (hB.cell (cell_lt h6)).trans h6⟩

theorem cut_js (s : ByteArray) (hs : s.size ≤ 1000) (b1 g off : Nat) (a b c : Int) (B : Nat) (w0 : World) (x y : Int) (h0 : 0 ≤ x) (hxy : x ≤ y) (hy : y ≤ s.size) (w : World) (hJ : JS b1 g off a b c w) (hB : Below B w0 w) (hB0 : B ≤ w0.heap.size) :
    Calls Try.prog 20 #[.string s, .agg #[.int .i64 x, .int .i64 y]] w fun e w' => e = .returned (.string (s.extract x.toNat y.toNat)) ∧ JS b1 g off a b c w' ∧ Below B w0 w' :=
  (cut_int s hs x y h0 hxy hy w).mono fun _ _ ⟨he, hb⟩ => ⟨he, hJ.below hb, hB.trans (hb.mono (Nat.le_trans hB0 hB.size))⟩

/-- What Cut answers, under one name. -/
def cutv (s : ByteArray) (x y : Int) : ByteArray := s.extract x.toNat y.toNat
theorem cutv_size (s : ByteArray) (x y : Int) : (cutv s x y).size ≤ s.size := by simp [cutv]; omega

theorem cut6 (s : ByteArray) (hs : s.size ≤ 1000) (b1 g off : Nat) (a b c : Int) (B : Nat) (w0 : World) (hB0 : B ≤ w0.heap.size) (x y : Int) (w : World) (h0 : 0 ≤ x) (hxy : x ≤ y) (hy : y ≤ s.size)
    (h1 : w.cell? ⟨b1, 0, none⟩ = some (.int .i64 a)) (h2 : w.cell? ⟨b1, 1, none⟩ = some (.int .i64 b)) (h3 : w.cell? ⟨b1 + 1, 0, none⟩ = some (.int .i64 b)) (h4 : w.cell? ⟨b1 + 1, 1, none⟩ = some (.int .i64 c)) (h5 : w.cell? ⟨g, off, none⟩ = some (.int .i64 a)) (h6 : w.cell? ⟨g, off + 1, none⟩ = some (.int .i64 c)) (hB : Below B w0 w) :
    Calls Try.prog 20 #[.string s, .agg #[.int .i64 x, .int .i64 y]] w fun e w' => e = .returned (.string (cutv s x y)) ∧ JS b1 g off a b c w' ∧ Below B w0 w' :=
  cut_js s hs b1 g off a b c B w0 x y h0 hxy hy w ⟨⟨h1, h2⟩, ⟨h3, h4⟩, h5, h6⟩ hB hB0

set_option maxRecDepth 100000 in
set_option maxHeartbeats 1000000 in
theorem joins_walk (s : ByteArray) (hs : s.size ≤ 300) (x0 x1 x2 : Nat) (h0 : x0 ≤ 65535) (h1 : x1 ≤ 65535) (h2 : x2 ≤ 65535) (w : World) :
    Calls Try.prog 10 #[.string s, .agg #[.int .u16 x0, .int .u16 x1, .int .u16 x2]] w fun e w' => e = .returned (.bool true) ∧ Below w.heap.size w w' := by
  have hsd : decide ((300 : Int) < (s.size : Int)) = false := by simp; omega
  obtain ⟨a, ha, has⟩ : ∃ a : Nat, (x0 : Int) % ((s.size : Int) + 1) = a ∧ a ≤ s.size := ⟨((x0 : Int) % ((s.size : Int) + 1)).toNat, by
    have := Int.emod_nonneg (x0 : Int) (show ((s.size : Int) + 1) ≠ 0 by omega); omega, by
    have := Int.emod_lt_of_pos (x0 : Int) (show 0 < ((s.size : Int) + 1) by omega)
    have := Int.emod_nonneg (x0 : Int) (show ((s.size : Int) + 1) ≠ 0 by omega); omega⟩
  obtain ⟨d1, hd1, hds1⟩ : ∃ d : Nat, (x1 : Int) % ((s.size : Int) - a + 1) = d ∧ a + d ≤ s.size := ⟨((x1 : Int) % ((s.size : Int) - a + 1)).toNat, by
    have := Int.emod_nonneg (x1 : Int) (show ((s.size : Int) - a + 1) ≠ 0 by omega); omega, by
    have := Int.emod_lt_of_pos (x1 : Int) (show 0 < ((s.size : Int) - a + 1) by omega)
    have := Int.emod_nonneg (x1 : Int) (show ((s.size : Int) - a + 1) ≠ 0 by omega); omega⟩
  obtain ⟨d2, hd2, hds2⟩ : ∃ d : Nat, (x2 : Int) % ((s.size : Int) - (a + d1) + 1) = d ∧ a + d1 + d ≤ s.size := ⟨((x2 : Int) % ((s.size : Int) - (a + d1) + 1)).toNat, by
    have := Int.emod_nonneg (x2 : Int) (show ((s.size : Int) - (a + d1) + 1) ≠ 0 by omega); omega, by
    have := Int.emod_lt_of_pos (x2 : Int) (show 0 < ((s.size : Int) - (a + d1) + 1) by omega)
    have := Int.emod_nonneg (x2 : Int) (show ((s.size : Int) - (a + d1) + 1) ≠ 0 by omega); omega⟩
  go_enter Try.func10, Try.ntmps10
  go_wp2_with fail
  refine (awake_calls _).mono ?_
  rintro e w1 ⟨rfl, hB1⟩
  have hs1 := hB1.size
  have hc0 : w1.cell? ⟨w.heap.size, 0, none⟩ = some (.int .u16 x0) := (hB1.cell (p := ⟨w.heap.size, 0, none⟩) (by simp)).trans (row_cell (by simp))
  have hc1 : w1.cell? ⟨w.heap.size, 1, none⟩ = some (.int .u16 x1) := (hB1.cell (p := ⟨w.heap.size, 1, none⟩) (by simp)).trans (row_cell (by simp))
  have hc2 : w1.cell? ⟨w.heap.size, 2, none⟩ = some (.int .u16 x2) := (hB1.cell (p := ⟨w.heap.size, 2, none⟩) (by simp)).trans (row_cell (by simp))
  simp at hs1
  have hBa : Below w.heap.size w w1 := ((Below.refl _ w).alloc (Nat.le_refl _) _).trans (hB1.mono (by simp))
  clear hB1
  have hsp : SpAt (((w1.alloc (.cells #[.int .i64 a, .int .i64 (a + d1)] 41)).alloc (.cells #[.int .i64 (a + d1), .int .i64 (a + d1 + d2)] 41)).alloc (.cells #[.int .i64 a, .int .i64 (a + d1), .int .i64 (a + d1), .int .i64 (a + d1 + d2)] 41)) (w1.heap.size + 1 + 1 + 1) (some ⟨w1.heap.size + 1 + 1, 0, none⟩) 2 [((a : Int), (a : Int) + d1), ((a : Int) + d1, (a : Int) + d1 + d2)] := by
    have := spAt_lit2 ((w1.alloc (.cells #[.int .i64 a, .int .i64 (a + d1)] 41)).alloc (.cells #[.int .i64 (a + d1), .int .i64 (a + d1 + d2)] 41)) a (a + d1) (a + d1) (a + d1 + d2)
    simpa only [World.size_alloc] using this
  have hcov := Lib.hid (cover_calls (some ⟨w1.heap.size + 1 + 1, 0, none⟩) 2 2 [((a : Int), (a : Int) + d1), ((a : Int) + d1, (a : Int) + d1 + d2)] (by omega) (((w1.alloc (.cells #[.int .i64 a, .int .i64 (a + d1)] 41)).alloc (.cells #[.int .i64 (a + d1), .int .i64 (a + d1 + d2)] 41)).alloc (.cells #[.int .i64 a, .int .i64 (a + d1), .int .i64 (a + d1), .int .i64 (a + d1 + d2)] 41)) (by simp only [World.size_alloc]; exact hsp))
  clear hsp
  go_wp2_with fail
  refine hcov.out.mono ?_
  rintro e w2 ⟨A3, c3, zs, rfl, hz, hperm, hsort, hB2, hfar⟩
  have hcv := cov_two a (a + d1) (a + d1 + d2) (by omega) (by omega) zs hperm hsort
  rw [hcv] at hz ⊢
  simp only [ha, hd1, hd2]
  clear ha hd1 hd2 hcov hperm hsort hcv hc0 hc1 hc2 hfar
  simp only [World.size_alloc] at hB2
  have hs2 := hB2.size
  simp only [World.size_alloc] at hs2
  by_cases hac : d1 + d2 = 0
  · have hac' : (a : Int) = a + d1 + d2 := by omega
    rw [if_pos hac'] at hz ⊢
    have hq : ((a : Int) == (a : Int) + d1 + d2) = true := by simp; omega
    have hBf := (((hBa.alloc (by omega) _).alloc (by simp; omega) _).alloc (by simp; omega) _).trans (hB2.mono (by omega))
    clear hac' hz
    go_wp2
    go_ret
    exact ⟨rfl, hBf⟩
  · rw [if_neg (by omega)] at hz ⊢
    have hq : ((a : Int) == (a : Int) + d1 + d2) = false := by rw [beq_eq_false_iff_ne]; omega
    obtain ⟨g, off, hA3, hgl, hcs⟩ := hz.2 (by simp)
    subst hA3
    obtain ⟨hl0, hl1⟩ := hcs 0 (by simp)
    clear hcs hz
    have hBf := (((hBa.alloc (by omega) (.cells #[.int .i64 a, .int .i64 (a + d1)] 41)).alloc (by simp; omega) (.cells #[.int .i64 (a + d1), .int .i64 (a + d1 + d2)] 41)).alloc (by simp; omega) (.cells #[.int .i64 a, .int .i64 (a + d1), .int .i64 (a + d1), .int .i64 (a + d1 + d2)] 41)).trans (hB2.mono (by omega))
    have hJ : JS w1.heap.size g off a (a + d1) (a + d1 + d2) w2 := by
      have k1 : ∀ p : Addr, p.block < w1.heap.size + 1 + 1 → w2.cell? p = ((w1.alloc (.cells #[.int .i64 a, .int .i64 (a + d1)] 41)).alloc (.cells #[.int .i64 (a + d1), .int .i64 (a + d1 + d2)] 41)).cell? p := fun p hp =>
        (hB2.cell (p := p) (by omega)).trans (World.cell?_alloc_lt _ _ p (by simp; omega))
      refine ⟨⟨?_, ?_⟩, ⟨?_, ?_⟩, by simpa using hl0, by simpa using hl1⟩
      · exact (k1 _ (by simp; omega)).trans ((World.cell?_alloc_lt _ _ _ (by simp)).trans (row_cell (by simp)))
      · exact (k1 _ (by simp; omega)).trans ((World.cell?_alloc_lt _ _ _ (by simp)).trans (row_cell (by simp)))
      · have := row_cell (w := w1.alloc (.cells #[.int .i64 a, .int .i64 (a + d1)] 41)) (R := #[.int .i64 (a + d1), .int .i64 (a + d1 + d2)]) (t := 41) (k := 0) (v := .int .i64 (a + d1)) (by simp)
        rw [World.size_alloc] at this
        exact (k1 _ (by simp)).trans this
      · have := row_cell (w := w1.alloc (.cells #[.int .i64 a, .int .i64 (a + d1)] 41)) (R := #[.int .i64 (a + d1), .int .i64 (a + d1 + d2)]) (t := 41) (k := 1) (v := .int .i64 (a + d1 + d2)) (by simp)
        rw [World.size_alloc] at this
        exact (k1 _ (by simp)).trans this
    have g1 : (0 : Int) ≤ (a : Int) := by omega
    have g2 : (a : Int) ≤ (a : Int) + d1 := by omega
    have g3 : (a : Int) + d1 ≤ (a : Int) + d1 + d2 := by omega
    have g4 : (a : Int) + d1 + d2 ≤ s.size := by omega
    clear hl0 hl1 hB2 hac has hds1 hds2
    generalize (a : Int) + d1 + d2 = zc at *
    generalize (a : Int) + d1 = zb at *
    generalize (a : Int) = za at *
    have hcat : s.extract za.toNat zb.toNat ++ s.extract zb.toNat zc.toNat = s.extract za.toNat zc.toNat := by
      obtain ⟨a, rfl⟩ := Int.eq_ofNat_of_zero_le g1
      obtain ⟨b, rfl⟩ := Int.eq_ofNat_of_zero_le (show 0 ≤ zb by omega)
      obtain ⟨c, rfl⟩ := Int.eq_ofNat_of_zero_le (show 0 ≤ zc by omega)
      have hab : a ≤ b := by omega
      have hbc : b ≤ c := by omega
      apply ByteArray.ext
      simp [Nat.min_eq_left hab, Nat.max_eq_right hbc]
    have hg5 : za ≤ zc := by omega
    obtain ⟨⟨j1, j2⟩, ⟨j3, j4⟩, j5, j6⟩ := hJ
    have hs1000 : s.size ≤ 1000 := by omega
    have hcv : cutv s za zb ++ cutv s zb zc = cutv s za zc := hcat
    have hv1 := cutv_size s za zb
    have hv2 := cutv_size s zb zc
    have hvs : (9223372036854775807 < (cutv s za zb).size + (cutv s zb zc).size) = False := eq_false (by omega)
    clear hcat hv1 hv2
    go_wp2_with fail
    go_region_held3 (fun w' => w'.cell? ⟨w1.heap.size, 0, none⟩ = some (.int .i64 za) ∧ w'.cell? ⟨w1.heap.size, 1, none⟩ = some (.int .i64 zb) ∧ w'.cell? ⟨w1.heap.size + 1, 0, none⟩ = some (.int .i64 zb) ∧ w'.cell? ⟨w1.heap.size + 1, 1, none⟩ = some (.int .i64 zc) ∧ w'.cell? ⟨g, off, none⟩ = some (.int .i64 za) ∧ w'.cell? ⟨g, off + 1, none⟩ = some (.int .i64 zc))
      (first | exact ⟨l1, l2, l3, l4, l5, l6⟩ | exact ⟨j1, j2, j3, j4, j5, j6⟩ | go_keep)
      (first | (go_at_call 20; refine (cut6 s hs1000 w1.heap.size g off za zb zc w.heap.size w (Nat.le_refl _) _ _ _ ?_ ?_ ?_ ?_ ?_ ?_ ?_ ?_ ?_ ?_).mono ?_; (omega); (omega); (omega); (first | exact l1 | exact j1); (first | exact l2 | exact j2); (first | exact l3 | exact j3); (first | exact l4 | exact j4); (first | exact l5 | exact j5); (first | exact l6 | exact j6); (first | exact hBn | exact hBf | exact hBf.drew); rintro e w3 ⟨rfl, ⟨⟨l1, l2⟩, ⟨l3, l4⟩, l5, l6⟩, hBn⟩))
    all_goals
      go_wp2
      go_ret
      exact ⟨rfl, hBn⟩

end Go.Proofs.Ytjimkfniahndhaa
