/-
  Slices of spans in memory: reading one, and page.Good.
-/
import Derived.WalkKit
import Derived.WalkSpells
import Derived.WalkSmall
import Derived.Lib.Hide
import Derived.Test.YtjimkfniahndhaaRows
namespace Go.Proofs.Ytjimkfniahndhaa
open Go.RowKit

abbrev Sp := Int × Int

/-- The cells of spans. -/
def flatS (xs : List Sp) : List Value := xs.flatMap fun x => [.int .i64 x.1, .int .i64 x.2]

theorem flatS_append (xs ys : List Sp) : flatS (xs ++ ys) = flatS xs ++ flatS ys := by simp [flatS]
theorem flatS_length (xs : List Sp) : (flatS xs).length = xs.length * 2 := by
  induction xs with
  | nil => rfl
  | cons x r ih => simp [flatS] at ih ⊢; omega
theorem flatS_get (xs : List Sp) (i : Nat) (h : i < xs.length) : (flatS xs)[i * 2]? = some (.int .i64 (xs[i]).1) ∧ (flatS xs)[i * 2 + 1]? = some (.int .i64 (xs[i]).2) := by
  induction xs generalizing i with
  | nil => simp at h
  | cons x r ih =>
    cases i with
    | zero => simp [flatS]
    | succ i =>
      have := ih i (by simpa using h)
      rw [show (i + 1) * 2 = i * 2 + 2 from by omega, show i * 2 + 2 + 1 = i * 2 + 1 + 2 from by omega]
      simpa [flatS] using this

/-- A slice value, its address A and its length n, reads as the spans xs, in a block below B. -/
def SpAt (w : World) (B : Nat) (A : Option Addr) (n : Nat) (xs : List Sp) : Prop :=
  xs.length = n ∧ (0 < n → ∃ b off, A = some ⟨b, off, none⟩ ∧ b < B ∧ ∀ i (h : i < xs.length), w.cell? ⟨b, off + i * 2, none⟩ = some (.int .i64 (xs[i]).1) ∧ w.cell? ⟨b, off + i * 2 + 1, none⟩ = some (.int .i64 (xs[i]).2))

theorem SpAt.below {w w' : World} {B B' : Nat} {A : Option Addr} {n : Nat} {xs : List Sp} (h : SpAt w B A n xs) (hb : Below B' w w') (hB : B ≤ B') : SpAt w' B A n xs :=
  ⟨h.1, fun hn => by
    obtain ⟨b, off, rfl, hlt, hc⟩ := h.2 hn
    exact ⟨b, off, rfl, hlt, fun i hi => ⟨(hb.cell (p := ⟨b, off + i * 2, none⟩) (by simp; omega)).trans (hc i hi).1, (hb.cell (p := ⟨b, off + i * 2 + 1, none⟩) (by simp; omega)).trans (hc i hi).2⟩⟩⟩
theorem SpAt.mono {w : World} {B B' : Nat} {A : Option Addr} {n : Nat} {xs : List Sp} (h : SpAt w B A n xs) (hB : B ≤ B') : SpAt w B' A n xs :=
  ⟨h.1, fun hn => by
    obtain ⟨b, off, rfl, hlt, hc⟩ := h.2 hn
    exact ⟨b, off, rfl, by omega, hc⟩⟩

/-- A row of the call's own reads as its spans. -/
theorem spAt_of_own {w : World} {base n c : Nat} {A : Option Addr} {xs : List Sp} (h : w.ownsRow base 41 2 (.slice A n c) n (flatS xs)) : SpAt w w.heap.size A n xs := by
  have hl := h.1
  rw [flatS_length] at hl
  refine ⟨by omega, fun hn => ?_⟩
  rcases h.2 with ⟨_, h0⟩ | ⟨g, cap, cur, hv, hb, hg, hnc, hcm, hcs, ht⟩
  · omega
  · have hA : A = some ⟨g, 0, none⟩ := by injection hv
    subst hA
    have hlt : g < w.heap.size := (Array.getElem?_eq_some_iff.1 hg).1
    refine ⟨g, 0, rfl, hlt, fun i hi => ?_⟩
    have key : ∀ j, j < n * 2 → w.cell? ⟨g, 0 + j, none⟩ = (flatS xs)[j]? := fun j hj => by
      rw [← ht, List.getElem?_take, if_pos hj]
      simp [World.cell?, hg]
    have h1 := flatS_get xs i hi
    exact ⟨(key (i * 2) (by omega)).trans h1.1, by rw [Nat.add_assoc]; exact (key (i * 2 + 1) (by omega)).trans h1.2⟩

def goodB (x : Sp) (n : Int) : Bool := decide (0 ≤ x.1 ∧ x.1 ≤ x.2 ∧ x.2 ≤ n)

set_option maxHeartbeats 400000 in
/-- page.Good. -/
theorem good_calls (x : Sp) (n : Int) (w : World) : Calls Try.prog 18 #[.agg #[.int .i64 x.1, .int .i64 x.2], .int .i64 n] w fun e w' => e = .returned (.bool (goodB x n)) ∧ w.alloc (.cells #[.int .i64 x.1, .int .i64 x.2] 41) = w' := by
  obtain ⟨a, b⟩ := x
  by_cases h1 : 0 ≤ a
  · by_cases h2 : a ≤ b
    · by_cases h3 : b ≤ n
      · have hg : goodB (a, b) n = true := by simp [goodB, h1, h2, h3]
        rw [hg]
        go_enter Try.func18, Try.ntmps18
        go_wp2
        go_ret
        exact ⟨rfl, rfl⟩
      · have hg : goodB (a, b) n = false := by simp [goodB, h3]
        have h3' : decide (b ≤ n) = false := by simp [h3]
        rw [hg]
        go_enter Try.func18, Try.ntmps18
        go_wp2
        go_ret
        exact ⟨rfl, rfl⟩
    · have hg : goodB (a, b) n = false := by simp [goodB, h2]
      have h2' : decide (a ≤ b) = false := by simp [h2]
      rw [hg]
      go_enter Try.func18, Try.ntmps18
      go_wp2
      go_ret
      exact ⟨rfl, rfl⟩
  · have hg : goodB (a, b) n = false := by simp [goodB, h1]
    have h1' : decide (0 ≤ a) = false := by simp [h1]
    rw [hg]
    go_enter Try.func18, Try.ntmps18
    go_wp2
    go_ret
    exact ⟨rfl, rfl⟩

end Go.Proofs.Ytjimkfniahndhaa
