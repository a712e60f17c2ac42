/-
  Slices of tokens in memory.
-/
import Derived.Test.YtdknejmhlfpdfaaDoorNext
import Derived.Laws.AppendOwn
import Derived.OwnWalk
namespace Go.Proofs.YtdknejmhlfpdfaaDoor
open Go.RowKit

theorem Tryd.infoTk : (Tryd.prog.info? 79).map (fun i => (i.zero, i.size, i.bytes)) = some (some (.agg #[.int .i64 0, .int .i64 0, .int .i64 0]), 3, 24) := by kernel_rfl

/-- The cells of tokens. -/
def flatT (xs : List Tok) : List Value := xs.flatMap fun x => [.int .i64 (x.kind : Int), .int .i64 (x.lo : Int), .int .i64 (x.hi : Int)]
theorem flatT_append (xs ys : List Tok) : flatT (xs ++ ys) = flatT xs ++ flatT ys := by simp [flatT]
theorem flatT_length (xs : List Tok) : (flatT xs).length = xs.length * 3 := by
  induction xs with
  | nil => rfl
  | cons x r ih => simp [flatT] at ih ⊢; omega
theorem flatT_get (xs : List Tok) (i : Nat) (h : i < xs.length) : (flatT xs)[i * 3]? = some (.int .i64 ((xs[i]).kind : Int)) ∧ (flatT xs)[i * 3 + 1]? = some (.int .i64 ((xs[i]).lo : Int)) ∧ (flatT xs)[i * 3 + 2]? = some (.int .i64 ((xs[i]).hi : Int)) := by
  induction xs generalizing i with
  | nil => simp at h
  | cons x r ih =>
    cases i with
    | zero => simp [flatT]
    | succ i =>
      have := ih i (by simpa using h)
      rw [show (i + 1) * 3 = i * 3 + 3 from by omega, show i * 3 + 3 + 1 = i * 3 + 1 + 3 from by omega, show i * 3 + 3 + 2 = i * 3 + 2 + 3 from by omega]
      simpa [flatT] using this

/-- A slice value, its address A and its length n, reads as the tokens xs, in a block below B. -/
def TkAt (w : World) (B : Nat) (A : Option Addr) (n : Nat) (xs : List Tok) : Prop :=
  xs.length = n ∧ (0 < n → ∃ b off, A = some ⟨b, off, none⟩ ∧ b < B ∧ ∀ i (h : i < xs.length), w.cell? ⟨b, off + i * 3, none⟩ = some (.int .i64 ((xs[i]).kind : Int)) ∧ w.cell? ⟨b, off + i * 3 + 1, none⟩ = some (.int .i64 ((xs[i]).lo : Int)) ∧ w.cell? ⟨b, off + i * 3 + 2, none⟩ = some (.int .i64 ((xs[i]).hi : Int)))
theorem TkAt.below {w w' : World} {B B' : Nat} {A : Option Addr} {n : Nat} {xs : List Tok} (h : TkAt w B A n xs) (hb : Below B' w w') (hB : B ≤ B') : TkAt w' B A n xs :=
  ⟨h.1, fun hn => by
    obtain ⟨b, off, rfl, hlt, hc⟩ := h.2 hn
    exact ⟨b, off, rfl, hlt, fun i hi => ⟨(hb.cell (p := ⟨b, off + i * 3, none⟩) (by simp; omega)).trans (hc i hi).1, (hb.cell (p := ⟨b, off + i * 3 + 1, none⟩) (by simp; omega)).trans (hc i hi).2.1, (hb.cell (p := ⟨b, off + i * 3 + 2, none⟩) (by simp; omega)).trans (hc i hi).2.2⟩⟩⟩
theorem TkAt.mono {w : World} {B B' : Nat} {A : Option Addr} {n : Nat} {xs : List Tok} (h : TkAt w B A n xs) (hB : B ≤ B') : TkAt w B' A n xs :=
  ⟨h.1, fun hn => by
    obtain ⟨b, off, rfl, hlt, hc⟩ := h.2 hn
    exact ⟨b, off, rfl, by omega, hc⟩⟩
theorem TkAt.get {w : World} {B : Nat} {A : Option Addr} {n : Nat} {xs : List Tok} (h : TkAt w B A n xs) (i : Nat) (hi : i < n) : ∃ b off, A = some ⟨b, off, none⟩ ∧ b < B ∧ ∃ h : i < xs.length, w.cell? ⟨b, off + i * 3, none⟩ = some (.int .i64 ((xs[i]).kind : Int)) ∧ w.cell? ⟨b, off + i * 3 + 1, none⟩ = some (.int .i64 ((xs[i]).lo : Int)) ∧ w.cell? ⟨b, off + i * 3 + 2, none⟩ = some (.int .i64 ((xs[i]).hi : Int)) := by
  obtain ⟨b, off, e, hlt, hc⟩ := h.2 (by omega)
  have hx : i < xs.length := by rw [h.1]; exact hi
  exact ⟨b, off, e, hlt, hx, hc i hx⟩
/-- A row of the call's own reads as its tokens. -/
theorem tkAt_of_own {w : World} {base n c : Nat} {A : Option Addr} {xs : List Tok} (h : w.ownsRow base 79 3 (.slice A n c) n (flatT xs)) : TkAt w w.heap.size A n xs := by
  have hl := h.1
  rw [flatT_length] at hl
  refine ⟨by omega, fun hn => ?_⟩
  rcases h.2 with ⟨_, h0⟩ | ⟨g, cap, cur, hv, hb, hg, hnc, hcm, hcs, ht⟩
  · omega
  · have hA : A = some ⟨g, 0, none⟩ := by injection hv
    subst hA
    have hlt : g < w.heap.size := (Array.getElem?_eq_some_iff.1 hg).1
    refine ⟨g, 0, rfl, hlt, fun i hi => ?_⟩
    have key : ∀ j, j < n * 3 → w.cell? ⟨g, 0 + j, none⟩ = (flatT xs)[j]? := fun j hj => by
      rw [← ht, List.getElem?_take, if_pos hj]
      simp [World.cell?, hg]
    have h1 := flatT_get xs i hi
    exact ⟨(key (i * 3) (by omega)).trans h1.1, by rw [Nat.add_assoc]; exact (key (i * 3 + 1) (by omega)).trans h1.2.1, by rw [Nat.add_assoc]; exact (key (i * 3 + 2) (by omega)).trans h1.2.2⟩

theorem below_append {B : Nat} {w W w1 : World} {v : Value} {e : TypeId} {sz n : Nat} {xs : List Value} (hB : Below B w W) (hs : B ≤ w.heap.size) (hown : W.ownsRow B e sz v n xs) (hg : W.grownBy w1 v.ownBlock) : Below B w w1 := by
  refine hB.grown hg (Nat.le_trans hs hB.size) fun j ej => ?_
  rcases hown.2 with ⟨rfl, _⟩ | ⟨g, cap, cur, rfl, hb, _, _⟩
  · simp [Value.ownBlock] at ej
  · obtain rfl : g = j := by simpa [Value.ownBlock] using ej
    exact hb
theorem news3 (W : World) (o : Obj) (a b c : Value) (t : TypeId) : ∀ j u, [a, b, c][j]? = some u → ((W.alloc o).alloc (.cells #[a, b, c] t)).cell? ((⟨W.heap.size + 1, 0, none⟩ : Addr).add j) = some u := by
  intro j u hu
  have hj : j = 0 ∨ j = 1 ∨ j = 2 := by
    have := (List.getElem?_eq_some_iff.1 hu).1
    simp at this; omega
  rcases hj with rfl | rfl | rfl <;> simp at hu <;> subst hu <;> simp [Addr.add]

theorem own_drewN {w : World} {base n : Nat} {e : TypeId} {size : Nat} {v : Value} {xs : List Value} (h : w.ownsRow base e size v n xs) (k : Nat) : (w.drewN k).ownsRow base e size v n xs := h
theorem below_drewN' {B : Nat} {a w : World} (h : Below B a w) (n : Nat) : Below B a (w.drewN n) := ⟨h.os, h.tape, h.output, h.size, h.block⟩
theorem Tabs.drewN {w : World} (h : Tabs w) (n : Nat) : Tabs (w.drewN n) := h

end Go.Proofs.YtdknejmhlfpdfaaDoor
