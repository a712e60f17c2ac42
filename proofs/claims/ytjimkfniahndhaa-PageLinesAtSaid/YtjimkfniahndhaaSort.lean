/-
  The comparison of two spans by where they begin, and slices.SortFunc by it: a sorted permutation, whatever the length.
-/
import Derived.Test.YtjimkfniahndhaaShelf
import Derived.WalkKit
import Derived.WalkSpells
import Derived.Test.YtjimkfniahndhaaRowsK
namespace Go.Proofs.Ytjimkfniahndhaa
open Go.Shelf Go.RowKit Go.Lib Go.Sort

def cmpI (a b : Int) : Int := if a < b then -1 else if b < a then 1 else 0

set_option maxHeartbeats 1000000 in
theorem compare_calls (a b : Int) (w : World) : Calls Try.prog 34 #[.int .i64 a, .int .i64 b] w fun e w' => e = .returned (.int .i64 (cmpI a b)) ∧ w = w' := by
  have e1 : (a != a) = false := by simp
  have e2 : (b != b) = false := by simp
  rcases Int.lt_trichotomy a b with h | h | h
  · have e3 : cmpI a b = -1 := by simp [cmpI, h]
    rw [e3]
    go_enter Try.func34, Try.ntmps34
    go_wp2
    go_ret
    exact ⟨rfl, rfl⟩
  · subst h
    have e3 : cmpI a a = 0 := by simp [cmpI]
    rw [e3]
    go_enter Try.func34, Try.ntmps34
    go_wp2
    go_ret
    exact ⟨rfl, rfl⟩
  · have e3 : cmpI a b = 1 := by simp [cmpI, h]; omega
    have h' : ¬ a < b := by omega
    rw [e3]
    go_enter Try.func34, Try.ntmps34
    go_wp2
    go_ret
    exact ⟨rfl, rfl⟩

set_option maxHeartbeats 1000000 in
theorem closure33 (x y : Int × Int) (W : World) : Calls Try.prog 33 #[.agg #[.int .i64 x.1, .int .i64 x.2], .agg #[.int .i64 y.1, .int .i64 y.2]] W fun e w' => e = .returned (.int .i64 (cmpI x.1 y.1)) ∧ ∃ q os', w' = grow (W.drewN q) os' := by
  have hcon := Lib.hid (fun W' => compare_calls x.1 y.1 W')
  generalize cmpI x.1 y.1 = r at hcon ⊢
  go_enter Try.func33, Try.ntmps33
  go_wp2_with (go_at_call 34; refine (hcon.out _).mono ?_; rintro e w' ⟨rfl, rfl⟩)
  go_ret
  exact ⟨rfl, 0, _, by rw [alloc_eq_grow, alloc_eq_grow, grow_grow]; rfl⟩

theorem cmpLays33 (blk off size : Nat) (w : World) : CmpLays Try.prog 33 #[] encSp 2 (fun x y => cmpI x.1 y.1) blk off size w :=
  fun _ _ _ _ x y => closure33 x y _

theorem ltSp (x y : Int × Int) : ltOf (fun x y : Int × Int => cmpI x.1 y.1) x y = decide (x.1 < y.1) := by
  unfold ltOf cmpI
  by_cases h1 : x.1 < y.1
  · simp [h1]
  · by_cases h2 : y.1 < x.1 <;> simp [h1, h2]

theorem swoSp : SWO (ltOf fun x y : Int × Int => cmpI x.1 y.1) where
  irrefl x := by rw [ltSp]; simp
  trans x y z h1 h2 := by rw [ltSp] at *; simp at *; omega
  ntrans x y z h1 h2 := by rw [ltSp] at *; simp at *; omega

theorem isAgg41 (w : World) : (isAgg 41).run Try.prog w = .ok true w := by kernel_rfl
theorem sizeOf41 (w : World) : (Go.sizeOf 41).run Try.prog w = .ok 2 w := by kernel_rfl

theorem sort_calls (blk off cap : Nat) (d : Array (Int × Int)) (w : World) (hH : HoldsK encSp 2 w blk off d) (hblk : blk < w.heap.size) (hsz : d.size < 4611686018427387904) :
    Calls Try.prog 32 #[.slice (some ⟨blk, off, none⟩) d.size cap, .func (.func 33) #[] #[]] w fun e w' => e = .returned (.tuple #[]) ∧ ∃ d' n os, PermIn 0 d.size d d' ∧ SortedIn (ltOf fun x y : Int × Int => cmpI x.1 y.1) 0 d.size d' ∧ w' = sortWorldK encSp 2 w blk off n d' os :=
  AnyQ.slices_SortFunc Try.sortSp 2 isAgg41 sizeOf41 encSp (fun _ => rfl) (fun x v hv => by simp [encSp] at hv; rcases hv with rfl | rfl <;> rfl) (fun x y => cmpI x.1 y.1) swoSp 33 #[] blk off cap d w (enters_of Try.func33 (by kernel_rfl) rfl) (cmpLays33 blk off d.size w) hH hblk hsz

theorem sort_none (p : Option Addr) (cap : Nat) (fv : Value) (w : World) : Calls Try.prog 32 #[.slice p 0 cap, fv] w fun e w' => e = .returned (.tuple #[]) ∧ w' = w :=
  AnyF.slices_SortFunc_none Try.sortSp p cap fv w

theorem clone_calls (s : ByteArray) (hs : s.size ≤ 1000) (w : World) : Calls Try.prog 31 #[.string s] w fun e w' => e = .returned (.string s) ∧ Below w.heap.size w w' :=
  Any.stringslite_Clone Try.cloneL s w (by omega)

/-- A sorted permutation of spans, as a list. -/
theorem sorted_list {d d' : Array (Int × Int)} (hp : PermIn 0 d.size d d') (hs : SortedIn (ltOf fun x y : Int × Int => cmpI x.1 y.1) 0 d.size d') : d'.size = d.size ∧ d'.toList.Perm d.toList ∧ d'.toList.Pairwise (fun a b => a.1 ≤ b.1) := by
  obtain ⟨h1, _, h3⟩ := hp
  refine ⟨h1, ?_, ?_⟩
  · rw [Array.extract_eq_self_of_le (by omega), Array.extract_eq_self_of_le (Nat.le_refl _)] at h3
    exact h3
  · rw [List.pairwise_iff_getElem]
    intro i j hi hj hij
    have h := hs i j (Nat.zero_le _) hij (by simpa [h1] using hj)
    rw [ltSp, getElem!_pos d' i (by simpa using hi), getElem!_pos d' j (by simpa using hj)] at h
    simpa using h

theorem below_sortWorldK {B : Nat} {w0 w : World} {g n : Nat} {d : Array (Int × Int)} {os : Array Obj} (h : RowKit.Below B w0 w) (hs : B ≤ w0.heap.size) (hg : B ≤ g) : RowKit.Below B w0 (sortWorldK encSp 2 w g 0 n d os) := by
  have hz := h.size
  refine ⟨h.os, h.tape, h.output, ?_, fun k hk => ?_⟩
  · simp [sortWorldK, grow, putRowK, putRow, mapBlock, Sort.ahead]; omega
  · rw [← h.block k hk]
    simp only [sortWorldK, grow, putRowK, putRow, mapBlock, Sort.ahead]
    rw [Array.getElem?_append_left (by simp; omega), Array.getElem?_modify, if_neg (by omega)]

end Go.Proofs.Ytjimkfniahndhaa
