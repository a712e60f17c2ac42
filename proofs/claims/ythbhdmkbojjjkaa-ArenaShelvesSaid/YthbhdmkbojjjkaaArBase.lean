/-
  Numbered things of a shelf: lists, and slices of them in memory; what calls leave as it was.
-/
import Derived.WalkKit
import Derived.WalkSpells
import Derived.WalkSmall
import Derived.Lib.Hide
import Derived.Laws.AppendOwn
import Derived.OwnWalk
import Derived.LoopTactic
import Derived.Below
import Derived.Test.YthbhdmkbojjjkaaRows
namespace Go.Proofs.Ythbhdmkbojjjkaa
open Go.RowKit

/-- A thing by its number. -/
abbrev It := Int × Int

/-- Where the thing of a number stands; -1, if it isn't there. -/
def plc (k : Int) : List It → Int
  | [] => -1
  | x :: r => if x.1 = k then 0 else if plc k r = -1 then -1 else plc k r + 1
theorem plc_ge (k : Int) (xs : List It) : -1 ≤ plc k xs ∧ plc k xs < xs.length := by
  induction xs with
  | nil => simp [plc]
  | cons x r ih => simp only [plc, List.length_cons]; split <;> (try split) <;> omega
theorem plc_none (k : Int) (xs : List It) (h : ∀ x ∈ xs, x.1 ≠ k) : plc k xs = -1 := by
  induction xs with
  | nil => rfl
  | cons x r ih => simp only [plc]; rw [if_neg (h x (by simp)), if_pos (ih fun y hy => h y (by simp [hy]))]
theorem plc_at (k : Int) (xs : List It) (i : Nat) (hi : i < xs.length) (h : (xs[i]).1 = k) (hb : ∀ j (hj : j < i), (xs[j]'(by omega)).1 ≠ k) : plc k xs = i := by
  induction xs generalizing i with
  | nil => simp at hi
  | cons x r ih =>
    simp only [plc]
    cases i with
    | zero => simp at h; rw [if_pos h]; rfl
    | succ i =>
      have h0 := hb 0 (by omega)
      simp at h0
      rw [if_neg h0]
      have h1 := ih i (by simpa using hi) (by simpa using h) (fun j hj => by have := hb (j + 1) (by omega); simpa using this)
      rw [h1, if_neg (by omega)]; omega
theorem plc_first (k : Int) (xs : List It) (h : ∃ x ∈ xs, x.1 = k) : ∃ i, ∃ hi : i < xs.length, (xs[i]).1 = k ∧ (∀ j (hj : j < i), (xs[j]'(by omega)).1 ≠ k) := by
  induction xs with
  | nil => simp at h
  | cons x r ih =>
    by_cases e : x.1 = k
    · exact ⟨0, by simp, by simpa using e, by omega⟩
    · obtain ⟨y, hy, hk⟩ := h
      have hy' : y ∈ r := by
        rcases List.mem_cons.1 hy with rfl | h
        · exact absurd hk e
        · exact h
      obtain ⟨i, hi, h1, h2⟩ := ih ⟨y, hy', hk⟩
      refine ⟨i + 1, by simpa using hi, by simpa using h1, fun j hj => ?_⟩
      cases j with
      | zero => simpa using e
      | succ j => have := h2 j (by omega); simpa using this

/-- The cells of numbered things. -/
def flatN (xs : List It) : List Value := xs.flatMap fun x => [.int .i64 x.1, .int .i64 x.2]
theorem flatN_append (xs ys : List It) : flatN (xs ++ ys) = flatN xs ++ flatN ys := by simp [flatN]
theorem flatN_length (xs : List It) : (flatN xs).length = xs.length * 2 := by
  induction xs with
  | nil => rfl
  | cons x r ih => simp [flatN] at ih ⊢; omega
theorem flatN_get (xs : List It) (i : Nat) (h : i < xs.length) : (flatN xs)[i * 2]? = some (.int .i64 (xs[i]).1) ∧ (flatN xs)[i * 2 + 1]? = some (.int .i64 (xs[i]).2) := by
  induction xs generalizing i with
  | nil => simp at h
  | cons x r ih =>
    cases i with
    | zero => simp [flatN]
    | succ i =>
      have := ih i (by simpa using h)
      rw [show (i + 1) * 2 = i * 2 + 2 from by omega, show i * 2 + 2 + 1 = i * 2 + 1 + 2 from by omega]
      simpa [flatN] using this
theorem flatN_take (xs : List It) (i : Nat) : flatN (xs.take i) = (flatN xs).take (i * 2) := by
  induction xs generalizing i with
  | nil => simp [flatN]
  | cons x r ih =>
    cases i with
    | zero => simp [flatN]
    | succ i =>
      have := ih i
      rw [show (i + 1) * 2 = i * 2 + 2 from by omega]
      simpa [flatN] using this
theorem flatN_drop (xs : List It) (i : Nat) : flatN (xs.drop i) = (flatN xs).drop (i * 2) := by
  induction xs generalizing i with
  | nil => simp [flatN]
  | cons x r ih =>
    cases i with
    | zero => simp [flatN]
    | succ i =>
      have := ih i
      rw [show (i + 1) * 2 = i * 2 + 2 from by omega]
      simpa [flatN] using this

/-- A slice value, its address A and its length n, reads as the things xs. -/
def NbAt (w : World) (A : Option Addr) (n : Nat) (xs : List It) : Prop :=
  xs.length = n ∧ (0 < n → ∃ g, A = some ⟨g, 0, none⟩ ∧ g < w.heap.size ∧ ∀ i (h : i < xs.length), w.cell? ⟨g, i * 2, none⟩ = some (.int .i64 (xs[i]).1) ∧ w.cell? ⟨g, i * 2 + 1, none⟩ = some (.int .i64 (xs[i]).2))
theorem NbAt.below {w w' : World} {B : Nat} {A : Option Addr} {n : Nat} {xs : List It} (h : NbAt w A n xs) (hb : Below B w w') (hB : w.heap.size ≤ B) : NbAt w' A n xs :=
  ⟨h.1, fun hn => by
    obtain ⟨g, rfl, hlt, hc⟩ := h.2 hn
    have hs := hb.size
    exact ⟨g, rfl, by omega, fun i hi => ⟨(hb.cell (p := ⟨g, i * 2, none⟩) (by simp; omega)).trans (hc i hi).1, (hb.cell (p := ⟨g, i * 2 + 1, none⟩) (by simp; omega)).trans (hc i hi).2⟩⟩⟩
theorem nbAt_of_own {w : World} {base n c : Nat} {A : Option Addr} {xs : List It} (h : w.ownsRow base 51 2 (.slice A n c) n (flatN xs)) : NbAt w A n xs := by
  have hl := h.1
  rw [flatN_length] at hl
  refine ⟨by omega, fun hn => ?_⟩
  rcases h.2 with ⟨_, h0⟩ | ⟨g, cap, cur, hv, hb, hg, hnc, hcm, hcs, ht⟩
  · omega
  · have hA : A = some ⟨g, 0, none⟩ := by injection hv
    subst hA
    have hlt : g < w.heap.size := (Array.getElem?_eq_some_iff.1 hg).1
    refine ⟨g, rfl, hlt, fun i hi => ?_⟩
    have key : ∀ j, j < n * 2 → w.cell? ⟨g, j, none⟩ = (flatN xs)[j]? := fun j hj => by
      rw [← ht, List.getElem?_take, if_pos hj]
      simp [World.cell?, hg]
    have h1 := flatN_get xs i hi
    exact ⟨(key (i * 2) (by omega)).trans h1.1, (key (i * 2 + 1) (by omega)).trans h1.2⟩

/-- What calls leave as it was: all blocks but the listed ones. -/
structure Save (S : List Nat) (w w' : World) : Prop where
  os : w'.os = w.os
  tape : w'.tape = w.tape
  output : w'.output = w.output
  size : w.heap.size ≤ w'.heap.size
  block : ∀ k, k < w.heap.size → k ∉ S → w'.heap[k]? = w.heap[k]?
theorem Save.refl (S : List Nat) (w : World) : Save S w w := ⟨rfl, rfl, rfl, Nat.le_refl _, fun _ _ _ => rfl⟩
theorem Save.trans {S : List Nat} {a b c : World} (h : Save S a b) (k : Save S b c) : Save S a c :=
  ⟨k.os.trans h.os, k.tape.trans h.tape, k.output.trans h.output, Nat.le_trans h.size k.size, fun i hi hn => (k.block i (Nat.lt_of_lt_of_le hi h.size) hn).trans (h.block i hi hn)⟩
/-- Behind a second call what it may change counts only where it was there at first. -/
theorem Save.trans' {S T : List Nat} {a b c : World} (h : Save S a b) (k : Save T b c) (hT : ∀ x ∈ T, x ∈ S ∨ a.heap.size ≤ x) : Save S a c :=
  ⟨k.os.trans h.os, k.tape.trans h.tape, k.output.trans h.output, Nat.le_trans h.size k.size, fun i hi hn => (k.block i (Nat.lt_of_lt_of_le hi h.size) (fun hm => by rcases hT i hm with h1 | h1; exact hn h1; omega)).trans (h.block i hi hn)⟩
theorem Save.mono {S T : List Nat} {a b : World} (h : Save S a b) (hs : ∀ x ∈ S, x ∈ T) : Save T a b :=
  ⟨h.os, h.tape, h.output, h.size, fun i hi hn => h.block i hi fun hm => hn (hs i hm)⟩
theorem Save.below {S : List Nat} {w w' : World} {B : Nat} (h : Save S w w') (hB : ∀ x ∈ S, B ≤ x) (hw : B ≤ w.heap.size) : Below B w w' :=
  ⟨h.os, h.tape, h.output, h.size, fun k hk => h.block k (by omega) fun hm => by have := hB k hm; omega⟩
theorem save_of_below {w w' : World} {B : Nat} (S : List Nat) (h : Below B w w') (hB : w.heap.size ≤ B) : Save S w w' :=
  ⟨h.os, h.tape, h.output, h.size, fun k hk _ => h.block k (by omega)⟩
theorem Save.alloc {S : List Nat} {a b : World} (h : Save S a b) (o : Obj) : Save S a (b.alloc o) :=
  h.trans (save_of_below S ((Below.refl b.heap.size b).alloc (Nat.le_refl _) o) (Nat.le_refl _))
theorem Save.drewN {S : List Nat} {a b : World} (h : Save S a b) (n : Nat) : Save S a (b.drewN n) := ⟨h.os, h.tape, h.output, h.size, h.block⟩
theorem Save.cell {S : List Nat} {a b : World} (h : Save S a b) {p : Addr} {v : Value} (hc : a.cell? p = some v) (hn : p.block ∉ S) : b.cell? p = some v :=
  (World.cell?_of_block (h.block p.block (World.block_lt_of_cell? a p hc) hn)).trans hc

end Go.Proofs.Ythbhdmkbojjjkaa
