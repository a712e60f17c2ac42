/-
  one: the expression of a place.
  single: the text of an expression without parts.
-/
import Derived.Test.YtdeflloidhbpmaaGreatDoorK27
namespace Go.Proofs.YtdeflloidhbpmaaGreatDoor
open Go.RowKit

theorem Tryz.sizeEx : (Tryz.prog.info? 63).map (·.size) = some 9 := by kernel_rfl
theorem cell_new {w : World} {g o : Nat} {u : Value} (h : w.cell? ⟨g, o, none⟩ = some u) (b : Obj) : (w.alloc b).cell? ⟨g, o, none⟩ = some u := by
  have hg : g < w.heap.size := World.block_lt_of_cell? w ⟨g, o, none⟩ h
  simp only [World.cell?] at h ⊢
  rw [Below.heap_alloc w _ g hg]
  exact h
theorem below_only {w w' : World} {o : Obj} (ho : Only w.heap.size (w.alloc o) w') : Below w.heap.size w w' :=
  ((Below.refl _ w).alloc (Nat.le_refl _) o).trans ⟨ho.os, ho.tape, ho.output, by rw [ho.size]; simp, fun k hk => ho.block k (by omega)⟩
set_option maxRecDepth 100000 in
set_option maxHeartbeats 1000000 in
theorem oneE_calls (g n c i : Nat) (x : Ex) (l : Value) (hl : l.oneCell' = true) (w : World) (hi : i < n) (hc : ∀ j u, j < 9 → (exV x l)[j]? = some u → w.cell? ⟨g, i * 9 + j, none⟩ = some u) :
    Calls Tryz.prog 60 #[.slice (some ⟨g, 0, none⟩) n c, .int .i64 (i : Int)] w fun e w' => e = .returned (.agg (exV x l).toArray) ∧ Below w.heap.size w w' := by
  have c0 : ∀ b, (w.alloc b).cell? ⟨g, i * 9, none⟩ = some (.int .i64 (x.kind : Int)) := fun b => cell_new (hc 0 _ (by decide) rfl) b
  have c1 := fun b => cell_new (hc 1 _ (by decide) rfl) b
  have c2 := fun b => cell_new (hc 2 _ (by decide) rfl) b
  have c3 := fun b => cell_new (hc 3 _ (by decide) rfl) b
  have c4 := fun b => cell_new (hc 4 _ (by decide) rfl) b
  have c5 := fun b => cell_new (hc 5 _ (by decide) rfl) b
  have c6 := fun b => cell_new (hc 6 _ (by decide) rfl) b
  have c7 := fun b => cell_new (hc 7 _ (by decide) rfl) b
  have c8 := fun b => cell_new (hc 8 _ (by decide) rfl) b
  have h0 : decide ((i : Int) < 0) = false := by simp
  have h1 : decide (n ≤ i) = false := by simp; omega
  have h2 : (i : Int) < (n : Int) := by omega
  have h3 : (0 : Int) ≤ (i : Int) := by omega
  clear hc
  go_enter Tryz.func60, Tryz.ntmps60
  go_wp2_with (refine wpList_store_whole rfl 63 (.tmp 4) (.tmp 18) rfl w.heap.size #[.int .i64 0, .int .i64 0, .int .i64 0, .int .i64 0, .string ⟨#[]⟩, .string ⟨#[]⟩, .int .i64 0, .int .i64 0, .slice none 0 0] (exV x l).toArray 63 (heap_one w _ _) rfl rfl rfl Tryz.sizeEx (all_oneCell_toArray (oneE x l hl)) ?_; intro w3 ho hb; have HO := Lib.hid ho; have HB := Lib.hid hb; clear ho hb)
  have d0 := cellK HB.out 0
  have d1 := cellK HB.out 1
  have d2 := cellK HB.out 2
  have d3 := cellK HB.out 3
  have d4 := cellK HB.out 4
  have d5 := cellK HB.out 5
  have d6 := cellK HB.out 6
  have d7 := cellK HB.out 7
  have d8 := cellK HB.out 8
  go_wp2
  refine bodyPost_ret (v := .agg (exV x l).toArray) (by simp [results, Tryz.results60, go_sem, exV, d0, d1, d2, d3, d4, d5, d6, d7, d8]) rfl ⟨rfl, below_only HO.out⟩
end Go.Proofs.YtdeflloidhbpmaaGreatDoor

namespace Go.Proofs.YtdeflloidhbpmaaGreatDoor
open Go.RowKit

/-- The text of an expression without parts. -/
def sgl (dec : Nat → List UInt8) (x : Ex) : List UInt8 := if x.kind = 1 then dec x.num else if x.kind = 2 then kTrue else if x.kind = 3 then kFalse else if x.kind = 7 then kRead else x.name
/-- strconv.Itoa of small numbers, in the worlds that follow one. -/
def ItoaAt (dec : Nat → List UInt8) (n : Nat) (w : World) : Prop := ∀ w1, Below w.heap.size w w1 → Calls Tryz.prog 86 #[.int .i64 (n : Int)] w1 fun e w' => e = .returned (.string (bs (dec n))) ∧ Below w1.heap.size w1 w'
theorem keq {n m : Nat} (h : n = m) : ((n : Int) == (m : Int)) = true := by rw [h]; exact beq_self_eq_true _
theorem kne {n m : Nat} (h : n ≠ m) : ((n : Int) == (m : Int)) = false := by rw [beq_eq_false_iff_ne]; omega
set_option maxRecDepth 100000 in
set_option maxHeartbeats 1000000 in
theorem single_calls (dec : Nat → List UInt8) (x : Ex) (l : Value) (w : World) (hI : x.kind = 1 → ItoaAt dec x.num w) :
    Calls Tryz.prog 64 #[.agg #[.int .i64 (x.kind : Int), .int .i64 (x.lo : Int), .int .i64 (x.hi : Int), .int .i64 (x.num : Int), .string (bs x.name), .string (bs x.op), .int .i64 (x.a : Int), .int .i64 (x.b : Int), l]] w
      fun e w' => e = .returned (.string (bs (sgl dec x))) ∧ Below w.heap.size w w' := by
  have hB1 : Below w.heap.size w (w.alloc (.cells #[.int .i64 (x.kind : Int), .int .i64 (x.lo : Int), .int .i64 (x.hi : Int), .int .i64 (x.num : Int), .string (bs x.name), .string (bs x.op), .int .i64 (x.a : Int), .int .i64 (x.b : Int), l] 63)) := (Below.refl _ w).alloc (Nat.le_refl _) _
  unfold sgl
  by_cases h1 : x.kind = 1
  · have e1 : ((x.kind : Int) == 1) = true := keq h1
    have hC := Lib.hid (hI h1 _ hB1)
    rw [if_pos h1]
    clear hI h1
    have HB1 := Lib.hid hB1
    clear hB1
    go_enter Tryz.func64, Tryz.ntmps64
    go_wp2_with (go_at_call 86; refine hC.out.mono ?_)
    rintro e w2 ⟨rfl, hB⟩
    have HB := Lib.hid hB
    clear hB
    go_wp2
    go_ret
    exact ⟨rfl, HB1.out.trans (HB.out.mono (by simp))⟩
  rw [if_neg h1]
  have e1 : ((x.kind : Int) == 1) = false := kne h1
  by_cases h2 : x.kind = 2
  · have e2 : ((x.kind : Int) == 2) = true := keq h2
    rw [if_pos h2]
    clear hI h1 h2
    go_enter Tryz.func64, Tryz.ntmps64
    go_wp2
    go_ret
    exact ⟨rfl, hB1⟩
  rw [if_neg h2]
  have e2 : ((x.kind : Int) == 2) = false := kne h2
  by_cases h3 : x.kind = 3
  · have e3 : ((x.kind : Int) == 3) = true := keq h3
    rw [if_pos h3]
    clear hI h1 h2 h3
    go_enter Tryz.func64, Tryz.ntmps64
    go_wp2
    go_ret
    exact ⟨rfl, hB1⟩
  rw [if_neg h3]
  have e3 : ((x.kind : Int) == 3) = false := kne h3
  by_cases h7 : x.kind = 7
  · have e7 : ((x.kind : Int) == 7) = true := keq h7
    rw [if_pos h7]
    clear hI h1 h2 h3 h7
    go_enter Tryz.func64, Tryz.ntmps64
    go_wp2
    go_ret
    exact ⟨rfl, hB1⟩
  rw [if_neg h7]
  have e7 : ((x.kind : Int) == 7) = false := kne h7
  clear hI h1 h2 h3 h7
  go_enter Tryz.func64, Tryz.ntmps64
  go_wp2
  go_ret
  exact ⟨rfl, hB1⟩
end Go.Proofs.YtdeflloidhbpmaaGreatDoor
