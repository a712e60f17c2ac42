/-
  simple: the pieces of a statement without blocks.
-/
import Derived.Test.YtdeflloidhbpmaaGreatDoorK39
import Derived.Deep.RegionHeld3
namespace Go.Proofs.YtdeflloidhbpmaaGreatDoor
open Go.RowKit

set_option maxRecDepth 100000 in
set_option maxHeartbeats 2000000 in
theorem wsim_var (x : Sm) (l m : Value) (w : World) (hk : x.kind = 1) (hnm : x.name.length ≤ 1000000) :
    Calls Tryz.prog 91 #[.agg #[.int .i64 (x.kind : Int), .int .i64 (x.lo : Int), .int .i64 (x.hi : Int), .string (bs x.name), .int .i64 (x.num : Int), .int .i64 x.a, .int .i64 (x.b : Int), l, m]] w (PcsPost [.tx ([118, 97, 114, 32] ++ x.name ++ [32, 61, 32]), .pt x.a] w) := by
  have hT := Lib.hid ptextB
  have hP := Lib.hid ppartV
  · have e1 : ((x.kind : Int) == 1) = true := keq hk
    have a0 : (9223372036854775807 < ((⟨#[118, 97, 114, 32]⟩ : ByteArray)).size + (bs x.name).size) = False := by simp only [bs_size]; simp [ByteArray.size]; omega
    have a1 : (9223372036854775807 < 4 + (bs x.name).size) = False := by simp only [bs_size]; simp; omega
    have a2 : (9223372036854775807 < ((⟨#[118, 97, 114, 32]⟩ : ByteArray) ++ bs x.name).size + ((⟨#[32, 61, 32]⟩ : ByteArray)).size) = False := by simp only [ByteArray.size_append, bs_size]; simp [ByteArray.size]; omega
    have a3 : (9223372036854775807 < 4 + (bs x.name).size + 3) = False := by simp only [bs_size]; simp; omega
    have HSa : Hid ((⟨#[118, 97, 114, 32]⟩ : ByteArray) ++ bs x.name ++ (⟨#[32, 61, 32]⟩ : ByteArray) = bs ([118, 97, 114, 32] ++ x.name ++ [32, 61, 32])) := Lib.hid (by rw [show (⟨#[118, 97, 114, 32]⟩ : ByteArray) = bs [118, 97, 114, 32] from rfl, show (⟨#[32, 61, 32]⟩ : ByteArray) = bs [32, 61, 32] from rfl]; simp only [bs_app])
    clear hnm
    have HB0 : Hid (Below w.heap.size w (w.alloc (.cells #[.int .i64 (x.kind : Int), .int .i64 (x.lo : Int), .int .i64 (x.hi : Int), .string (bs x.name), .int .i64 (x.num : Int), .int .i64 x.a, .int .i64 (x.b : Int), l, m] 42))) := Lib.hid ((Below.refl _ w).alloc (Nat.le_refl _) _)
    have HBX : Hid ((w.alloc (.cells #[.int .i64 (x.kind : Int), .int .i64 (x.lo : Int), .int .i64 (x.hi : Int), .string (bs x.name), .int .i64 (x.num : Int), .int .i64 x.a, .int .i64 (x.b : Int), l, m] 42)).heap[w.heap.size]? = some (.cells #[.int .i64 (x.kind : Int), .int .i64 (x.lo : Int), .int .i64 (x.hi : Int), .string (bs x.name), .int .i64 (x.num : Int), .int .i64 x.a, .int .i64 (x.b : Int), l, m] 42)) := Lib.hid (heap_one w _ _)
    clear hk
    go_enter Tryz.func91, Tryz.ntmps91
    go_wp2_with fail
    generalize w.alloc (.cells #[.int .i64 (x.kind : Int), .int .i64 (x.lo : Int), .int .i64 (x.hi : Int), .string (bs x.name), .int .i64 (x.num : Int), .int .i64 x.a, .int .i64 (x.b : Int), l, m] 42) = W0 at *
    have d3 : W0.drew.cell? ⟨w.heap.size, 3, none⟩ = some (.string (bs x.name)) := cellK HBX.out 3
    have d5 : W0.drew.cell? ⟨w.heap.size, 5, none⟩ = some (.int .i64 x.a) := cellK HBX.out 5
    have HBc := Lib.hid HB0.out.drew
    go_region_held3 (fun w' => w'.cell? ⟨w.heap.size, 3, none⟩ = some (.string (bs x.name)) ∧ w'.cell? ⟨w.heap.size, 5, none⟩ = some (.int .i64 x.a))
      (first | with_reducible exact ⟨d3, d5⟩ | with_reducible exact ⟨cell_new d3 _, cell_new d5 _⟩)
      (first
        | (go_at_call 40; refine (hT.out _ _).mono ?_; rintro e w5 ⟨rfl, hb5⟩; have HBc := Lib.hid (HBc.out.trans (hb5.mono HBc.out.size)); have d3 := (hb5.cell (p := ⟨w.heap.size, 3, none⟩) (World.block_lt_of_cell? _ _ d3)).trans d3; have d5 := (hb5.cell (p := ⟨w.heap.size, 5, none⟩) (World.block_lt_of_cell? _ _ d5)).trans d5; clear hb5)
        | (go_at_call 19; refine (hP.out _ _).mono ?_; rintro e w5 ⟨rfl, hb5⟩; have HBc := Lib.hid (HBc.out.trans (hb5.mono HBc.out.size)); have d3 := (hb5.cell (p := ⟨w.heap.size, 3, none⟩) (World.block_lt_of_cell? _ _ d3)).trans d3; have d5 := (hb5.cell (p := ⟨w.heap.size, 5, none⟩) (World.block_lt_of_cell? _ _ d5)).trans d5; clear hb5))
    all_goals
      go_wp2
      go_ret
      exact ⟨_, rfl, own_pcs _ _ [.tx ([118, 97, 114, 32] ++ x.name ++ [32, 61, 32]), .pt x.a] 2 rfl HBc.out.size (by decide) _ (by rw [HSa.out]; rfl), HBc.out.alloc HBc.out.size _⟩
set_option maxRecDepth 100000 in
set_option maxHeartbeats 2000000 in
theorem wsim_arr (x : Sm) (l m : Value) (w : World) (hk : x.kind = 2) (dec : Nat → List UInt8) (hd : (dec x.num).length ≤ 1000) (hI : ∀ W, Below w.heap.size w W → Calls Tryz.prog 86 #[.int .i64 (x.num : Int)] W fun e w' => e = .returned (.string (bs (dec x.num))) ∧ Below W.heap.size W w') (hnm : x.name.length ≤ 1000000) :
    Calls Tryz.prog 91 #[.agg #[.int .i64 (x.kind : Int), .int .i64 (x.lo : Int), .int .i64 (x.hi : Int), .string (bs x.name), .int .i64 (x.num : Int), .int .i64 x.a, .int .i64 (x.b : Int), l, m]] w (PcsPost [.tx ([118, 97, 114, 32] ++ x.name ++ [91] ++ (dec x.num) ++ [93])] w) := by
  have hT := Lib.hid ptextB
  have hP := Lib.hid ppartV
  · have e1 : ((x.kind : Int) == 1) = false := kne (by rw [hk]; decide)
    have e2 : ((x.kind : Int) == 2) = true := keq hk
    have a0 : (9223372036854775807 < ((⟨#[118, 97, 114, 32]⟩ : ByteArray)).size + (bs x.name).size) = False := by simp only [bs_size]; simp [ByteArray.size]; omega
    have a1 : (9223372036854775807 < 4 + (bs x.name).size) = False := by simp only [bs_size]; simp; omega
    have a2 : (9223372036854775807 < ((⟨#[118, 97, 114, 32]⟩ : ByteArray) ++ bs x.name).size + ((⟨#[91]⟩ : ByteArray)).size) = False := by simp only [ByteArray.size_append, bs_size]; simp [ByteArray.size]; omega
    have a3 : (9223372036854775807 < 4 + (bs x.name).size + 1) = False := by simp only [bs_size]; simp; omega
    have a4 : (9223372036854775807 < ((⟨#[118, 97, 114, 32]⟩ : ByteArray) ++ bs x.name ++ (⟨#[91]⟩ : ByteArray)).size + (bs (dec x.num)).size) = False := by simp only [ByteArray.size_append, bs_size]; simp [ByteArray.size]; omega
    have a5 : (9223372036854775807 < 4 + (bs x.name).size + 1 + (bs (dec x.num)).size) = False := by simp only [bs_size]; simp; omega
    have a6 : (9223372036854775807 < ((⟨#[118, 97, 114, 32]⟩ : ByteArray) ++ bs x.name ++ (⟨#[91]⟩ : ByteArray) ++ bs (dec x.num)).size + ((⟨#[93]⟩ : ByteArray)).size) = False := by simp only [ByteArray.size_append, bs_size]; simp [ByteArray.size]; omega
    have a7 : (9223372036854775807 < 4 + (bs x.name).size + 1 + (bs (dec x.num)).size + 1) = False := by simp only [bs_size]; simp; omega
    have HSa : Hid ((⟨#[118, 97, 114, 32]⟩ : ByteArray) ++ bs x.name ++ (⟨#[91]⟩ : ByteArray) ++ bs (dec x.num) ++ (⟨#[93]⟩ : ByteArray) = bs ([118, 97, 114, 32] ++ x.name ++ [91] ++ (dec x.num) ++ [93])) := Lib.hid (by rw [show (⟨#[118, 97, 114, 32]⟩ : ByteArray) = bs [118, 97, 114, 32] from rfl, show (⟨#[91]⟩ : ByteArray) = bs [91] from rfl, show (⟨#[93]⟩ : ByteArray) = bs [93] from rfl]; simp only [bs_app])
    clear hnm
    have hI := Lib.hid hI
    clear hd
    have HB0 : Hid (Below w.heap.size w (w.alloc (.cells #[.int .i64 (x.kind : Int), .int .i64 (x.lo : Int), .int .i64 (x.hi : Int), .string (bs x.name), .int .i64 (x.num : Int), .int .i64 x.a, .int .i64 (x.b : Int), l, m] 42))) := Lib.hid ((Below.refl _ w).alloc (Nat.le_refl _) _)
    have HBX : Hid ((w.alloc (.cells #[.int .i64 (x.kind : Int), .int .i64 (x.lo : Int), .int .i64 (x.hi : Int), .string (bs x.name), .int .i64 (x.num : Int), .int .i64 x.a, .int .i64 (x.b : Int), l, m] 42)).heap[w.heap.size]? = some (.cells #[.int .i64 (x.kind : Int), .int .i64 (x.lo : Int), .int .i64 (x.hi : Int), .string (bs x.name), .int .i64 (x.num : Int), .int .i64 x.a, .int .i64 (x.b : Int), l, m] 42)) := Lib.hid (heap_one w _ _)
    clear hk
    go_enter Tryz.func91, Tryz.ntmps91
    go_wp2_with fail
    generalize w.alloc (.cells #[.int .i64 (x.kind : Int), .int .i64 (x.lo : Int), .int .i64 (x.hi : Int), .string (bs x.name), .int .i64 (x.num : Int), .int .i64 x.a, .int .i64 (x.b : Int), l, m] 42) = W0 at *
    have d3 : W0.drew.cell? ⟨w.heap.size, 3, none⟩ = some (.string (bs x.name)) := cellK HBX.out 3
    have d4 : W0.drew.cell? ⟨w.heap.size, 4, none⟩ = some (.int .i64 (x.num : Int)) := cellK HBX.out 4
    have HBc := Lib.hid HB0.out.drew
    go_region_held3 (fun w' => w'.cell? ⟨w.heap.size, 3, none⟩ = some (.string (bs x.name)) ∧ w'.cell? ⟨w.heap.size, 4, none⟩ = some (.int .i64 (x.num : Int)))
      (first | with_reducible exact ⟨d3, d4⟩ | with_reducible exact ⟨cell_new d3 _, cell_new d4 _⟩)
      (first
        | (go_at_call 40; refine (hT.out _ _).mono ?_; rintro e w5 ⟨rfl, hb5⟩; have HBc := Lib.hid (HBc.out.trans (hb5.mono HBc.out.size)); have d3 := (hb5.cell (p := ⟨w.heap.size, 3, none⟩) (World.block_lt_of_cell? _ _ d3)).trans d3; have d4 := (hb5.cell (p := ⟨w.heap.size, 4, none⟩) (World.block_lt_of_cell? _ _ d4)).trans d4; clear hb5)
        | (go_at_call 19; refine (hP.out _ _).mono ?_; rintro e w5 ⟨rfl, hb5⟩; have HBc := Lib.hid (HBc.out.trans (hb5.mono HBc.out.size)); have d3 := (hb5.cell (p := ⟨w.heap.size, 3, none⟩) (World.block_lt_of_cell? _ _ d3)).trans d3; have d4 := (hb5.cell (p := ⟨w.heap.size, 4, none⟩) (World.block_lt_of_cell? _ _ d4)).trans d4; clear hb5)
        | (go_at_call 86; refine (hI.out _ HBc.out).mono ?_; rintro e w5 ⟨rfl, hb5⟩; have HBc := Lib.hid (HBc.out.trans (hb5.mono HBc.out.size)); have d3 := (hb5.cell (p := ⟨w.heap.size, 3, none⟩) (World.block_lt_of_cell? _ _ d3)).trans d3; have d4 := (hb5.cell (p := ⟨w.heap.size, 4, none⟩) (World.block_lt_of_cell? _ _ d4)).trans d4; clear hb5))
    all_goals
      go_wp2
      go_ret
      exact ⟨_, rfl, own_pcs _ _ [.tx ([118, 97, 114, 32] ++ x.name ++ [91] ++ (dec x.num) ++ [93])] 1 rfl HBc.out.size (by decide) _ (by rw [HSa.out]; rfl), HBc.out.alloc HBc.out.size _⟩
set_option maxRecDepth 100000 in
set_option maxHeartbeats 2000000 in
theorem wsim_set (x : Sm) (l m : Value) (w : World) (hk : x.kind = 3) (hnm : x.name.length ≤ 1000000) :
    Calls Tryz.prog 91 #[.agg #[.int .i64 (x.kind : Int), .int .i64 (x.lo : Int), .int .i64 (x.hi : Int), .string (bs x.name), .int .i64 (x.num : Int), .int .i64 x.a, .int .i64 (x.b : Int), l, m]] w (PcsPost [.tx (x.name ++ [32, 61, 32]), .pt x.a] w) := by
  have hT := Lib.hid ptextB
  have hP := Lib.hid ppartV
  · have e1 : ((x.kind : Int) == 1) = false := kne (by rw [hk]; decide)
    have e2 : ((x.kind : Int) == 2) = false := kne (by rw [hk]; decide)
    have e3 : ((x.kind : Int) == 3) = true := keq hk
    have a0 : (9223372036854775807 < (bs x.name).size + ((⟨#[32, 61, 32]⟩ : ByteArray)).size) = False := by simp only [bs_size]; simp [ByteArray.size]; omega
    have a1 : (9223372036854775807 < (bs x.name).size + 3) = False := by simp only [bs_size]; simp; omega
    have HSa : Hid (bs x.name ++ (⟨#[32, 61, 32]⟩ : ByteArray) = bs (x.name ++ [32, 61, 32])) := Lib.hid (by rw [show (⟨#[32, 61, 32]⟩ : ByteArray) = bs [32, 61, 32] from rfl]; simp only [bs_app])
    clear hnm
    have HB0 : Hid (Below w.heap.size w (w.alloc (.cells #[.int .i64 (x.kind : Int), .int .i64 (x.lo : Int), .int .i64 (x.hi : Int), .string (bs x.name), .int .i64 (x.num : Int), .int .i64 x.a, .int .i64 (x.b : Int), l, m] 42))) := Lib.hid ((Below.refl _ w).alloc (Nat.le_refl _) _)
    have HBX : Hid ((w.alloc (.cells #[.int .i64 (x.kind : Int), .int .i64 (x.lo : Int), .int .i64 (x.hi : Int), .string (bs x.name), .int .i64 (x.num : Int), .int .i64 x.a, .int .i64 (x.b : Int), l, m] 42)).heap[w.heap.size]? = some (.cells #[.int .i64 (x.kind : Int), .int .i64 (x.lo : Int), .int .i64 (x.hi : Int), .string (bs x.name), .int .i64 (x.num : Int), .int .i64 x.a, .int .i64 (x.b : Int), l, m] 42)) := Lib.hid (heap_one w _ _)
    clear hk
    go_enter Tryz.func91, Tryz.ntmps91
    go_wp2_with fail
    generalize w.alloc (.cells #[.int .i64 (x.kind : Int), .int .i64 (x.lo : Int), .int .i64 (x.hi : Int), .string (bs x.name), .int .i64 (x.num : Int), .int .i64 x.a, .int .i64 (x.b : Int), l, m] 42) = W0 at *
    have d3 : W0.drew.cell? ⟨w.heap.size, 3, none⟩ = some (.string (bs x.name)) := cellK HBX.out 3
    have d5 : W0.drew.cell? ⟨w.heap.size, 5, none⟩ = some (.int .i64 x.a) := cellK HBX.out 5
    have HBc := Lib.hid HB0.out.drew
    go_region_held3 (fun w' => w'.cell? ⟨w.heap.size, 3, none⟩ = some (.string (bs x.name)) ∧ w'.cell? ⟨w.heap.size, 5, none⟩ = some (.int .i64 x.a))
      (first | with_reducible exact ⟨d3, d5⟩ | with_reducible exact ⟨cell_new d3 _, cell_new d5 _⟩)
      (first
        | (go_at_call 40; refine (hT.out _ _).mono ?_; rintro e w5 ⟨rfl, hb5⟩; have HBc := Lib.hid (HBc.out.trans (hb5.mono HBc.out.size)); have d3 := (hb5.cell (p := ⟨w.heap.size, 3, none⟩) (World.block_lt_of_cell? _ _ d3)).trans d3; have d5 := (hb5.cell (p := ⟨w.heap.size, 5, none⟩) (World.block_lt_of_cell? _ _ d5)).trans d5; clear hb5)
        | (go_at_call 19; refine (hP.out _ _).mono ?_; rintro e w5 ⟨rfl, hb5⟩; have HBc := Lib.hid (HBc.out.trans (hb5.mono HBc.out.size)); have d3 := (hb5.cell (p := ⟨w.heap.size, 3, none⟩) (World.block_lt_of_cell? _ _ d3)).trans d3; have d5 := (hb5.cell (p := ⟨w.heap.size, 5, none⟩) (World.block_lt_of_cell? _ _ d5)).trans d5; clear hb5))
    all_goals
      go_wp2
      go_ret
      exact ⟨_, rfl, own_pcs _ _ [.tx (x.name ++ [32, 61, 32]), .pt x.a] 2 rfl HBc.out.size (by decide) _ (by rw [HSa.out]; rfl), HBc.out.alloc HBc.out.size _⟩
set_option maxRecDepth 100000 in
set_option maxHeartbeats 2000000 in
theorem wsim_put (x : Sm) (l m : Value) (w : World) (hk : x.kind = 4) (hnm : x.name.length ≤ 1000000) :
    Calls Tryz.prog 91 #[.agg #[.int .i64 (x.kind : Int), .int .i64 (x.lo : Int), .int .i64 (x.hi : Int), .string (bs x.name), .int .i64 (x.num : Int), .int .i64 x.a, .int .i64 (x.b : Int), l, m]] w (PcsPost [.tx (x.name ++ [91]), .pt x.a, .tx [93, 32, 61, 32], .pt (x.b : Int)] w) := by
  have hT := Lib.hid ptextB
  have hP := Lib.hid ppartV
  · have e1 : ((x.kind : Int) == 1) = false := kne (by rw [hk]; decide)
    have e2 : ((x.kind : Int) == 2) = false := kne (by rw [hk]; decide)
    have e3 : ((x.kind : Int) == 3) = false := kne (by rw [hk]; decide)
    have e4 : ((x.kind : Int) == 4) = true := keq hk
    have a0 : (9223372036854775807 < (bs x.name).size + ((⟨#[91]⟩ : ByteArray)).size) = False := by simp only [bs_size]; simp [ByteArray.size]; omega
    have a1 : (9223372036854775807 < (bs x.name).size + 1) = False := by simp only [bs_size]; simp; omega
    have HSa : Hid (bs x.name ++ (⟨#[91]⟩ : ByteArray) = bs (x.name ++ [91])) := Lib.hid (by rw [show (⟨#[91]⟩ : ByteArray) = bs [91] from rfl]; simp only [bs_app])
    clear hnm
    have HB0 : Hid (Below w.heap.size w (w.alloc (.cells #[.int .i64 (x.kind : Int), .int .i64 (x.lo : Int), .int .i64 (x.hi : Int), .string (bs x.name), .int .i64 (x.num : Int), .int .i64 x.a, .int .i64 (x.b : Int), l, m] 42))) := Lib.hid ((Below.refl _ w).alloc (Nat.le_refl _) _)
    have HBX : Hid ((w.alloc (.cells #[.int .i64 (x.kind : Int), .int .i64 (x.lo : Int), .int .i64 (x.hi : Int), .string (bs x.name), .int .i64 (x.num : Int), .int .i64 x.a, .int .i64 (x.b : Int), l, m] 42)).heap[w.heap.size]? = some (.cells #[.int .i64 (x.kind : Int), .int .i64 (x.lo : Int), .int .i64 (x.hi : Int), .string (bs x.name), .int .i64 (x.num : Int), .int .i64 x.a, .int .i64 (x.b : Int), l, m] 42)) := Lib.hid (heap_one w _ _)
    clear hk
    go_enter Tryz.func91, Tryz.ntmps91
    go_wp2_with fail
    generalize w.alloc (.cells #[.int .i64 (x.kind : Int), .int .i64 (x.lo : Int), .int .i64 (x.hi : Int), .string (bs x.name), .int .i64 (x.num : Int), .int .i64 x.a, .int .i64 (x.b : Int), l, m] 42) = W0 at *
    have d3 : W0.drew.cell? ⟨w.heap.size, 3, none⟩ = some (.string (bs x.name)) := cellK HBX.out 3
    have d5 : W0.drew.cell? ⟨w.heap.size, 5, none⟩ = some (.int .i64 x.a) := cellK HBX.out 5
    have d6 : W0.drew.cell? ⟨w.heap.size, 6, none⟩ = some (.int .i64 (x.b : Int)) := cellK HBX.out 6
    have HBc := Lib.hid HB0.out.drew
    go_region_held3 (fun w' => w'.cell? ⟨w.heap.size, 3, none⟩ = some (.string (bs x.name)) ∧ w'.cell? ⟨w.heap.size, 5, none⟩ = some (.int .i64 x.a) ∧ w'.cell? ⟨w.heap.size, 6, none⟩ = some (.int .i64 (x.b : Int)))
      (first | with_reducible exact ⟨d3, d5, d6⟩ | with_reducible exact ⟨cell_new d3 _, cell_new d5 _, cell_new d6 _⟩)
      (first
        | (go_at_call 40; refine (hT.out _ _).mono ?_; rintro e w5 ⟨rfl, hb5⟩; have HBc := Lib.hid (HBc.out.trans (hb5.mono HBc.out.size)); have d3 := (hb5.cell (p := ⟨w.heap.size, 3, none⟩) (World.block_lt_of_cell? _ _ d3)).trans d3; have d5 := (hb5.cell (p := ⟨w.heap.size, 5, none⟩) (World.block_lt_of_cell? _ _ d5)).trans d5; have d6 := (hb5.cell (p := ⟨w.heap.size, 6, none⟩) (World.block_lt_of_cell? _ _ d6)).trans d6; clear hb5)
        | (go_at_call 19; refine (hP.out _ _).mono ?_; rintro e w5 ⟨rfl, hb5⟩; have HBc := Lib.hid (HBc.out.trans (hb5.mono HBc.out.size)); have d3 := (hb5.cell (p := ⟨w.heap.size, 3, none⟩) (World.block_lt_of_cell? _ _ d3)).trans d3; have d5 := (hb5.cell (p := ⟨w.heap.size, 5, none⟩) (World.block_lt_of_cell? _ _ d5)).trans d5; have d6 := (hb5.cell (p := ⟨w.heap.size, 6, none⟩) (World.block_lt_of_cell? _ _ d6)).trans d6; clear hb5))
    all_goals
      go_wp2
      go_ret
      exact ⟨_, rfl, own_pcs _ _ [.tx (x.name ++ [91]), .pt x.a, .tx [93, 32, 61, 32], .pt (x.b : Int)] 4 rfl HBc.out.size (by decide) _ (by rw [HSa.out]; rfl), HBc.out.alloc HBc.out.size _⟩
set_option maxRecDepth 100000 in
set_option maxHeartbeats 2000000 in
theorem wsim_print (x : Sm) (l m : Value) (w : World) (hk : x.kind = 10)  :
    Calls Tryz.prog 91 #[.agg #[.int .i64 (x.kind : Int), .int .i64 (x.lo : Int), .int .i64 (x.hi : Int), .string (bs x.name), .int .i64 (x.num : Int), .int .i64 x.a, .int .i64 (x.b : Int), l, m]] w (PcsPost [.tx [112, 114, 105, 110, 116, 32], .pt x.a] w) := by
  have hT := Lib.hid ptextB
  have hP := Lib.hid ppartV
  · have e1 : ((x.kind : Int) == 1) = false := kne (by rw [hk]; decide)
    have e2 : ((x.kind : Int) == 2) = false := kne (by rw [hk]; decide)
    have e3 : ((x.kind : Int) == 3) = false := kne (by rw [hk]; decide)
    have e4 : ((x.kind : Int) == 4) = false := kne (by rw [hk]; decide)
    have e7 : ((x.kind : Int) == 7) = false := kne (by rw [hk]; decide)
    have e8 : ((x.kind : Int) == 8) = false := kne (by rw [hk]; decide)
    have e9 : ((x.kind : Int) == 9) = false := kne (by rw [hk]; decide)
    have e10 : ((x.kind : Int) == 10) = true := keq hk
    have HB0 : Hid (Below w.heap.size w (w.alloc (.cells #[.int .i64 (x.kind : Int), .int .i64 (x.lo : Int), .int .i64 (x.hi : Int), .string (bs x.name), .int .i64 (x.num : Int), .int .i64 x.a, .int .i64 (x.b : Int), l, m] 42))) := Lib.hid ((Below.refl _ w).alloc (Nat.le_refl _) _)
    have HBX : Hid ((w.alloc (.cells #[.int .i64 (x.kind : Int), .int .i64 (x.lo : Int), .int .i64 (x.hi : Int), .string (bs x.name), .int .i64 (x.num : Int), .int .i64 x.a, .int .i64 (x.b : Int), l, m] 42)).heap[w.heap.size]? = some (.cells #[.int .i64 (x.kind : Int), .int .i64 (x.lo : Int), .int .i64 (x.hi : Int), .string (bs x.name), .int .i64 (x.num : Int), .int .i64 x.a, .int .i64 (x.b : Int), l, m] 42)) := Lib.hid (heap_one w _ _)
    clear hk
    go_enter Tryz.func91, Tryz.ntmps91
    go_wp2_with fail
    generalize w.alloc (.cells #[.int .i64 (x.kind : Int), .int .i64 (x.lo : Int), .int .i64 (x.hi : Int), .string (bs x.name), .int .i64 (x.num : Int), .int .i64 x.a, .int .i64 (x.b : Int), l, m] 42) = W0 at *
    have d5 : W0.drew.cell? ⟨w.heap.size, 5, none⟩ = some (.int .i64 x.a) := cellK HBX.out 5
    have HBc := Lib.hid HB0.out.drew
    go_region_held3 (fun w' => w'.cell? ⟨w.heap.size, 5, none⟩ = some (.int .i64 x.a))
      (first | with_reducible exact d5 | with_reducible exact cell_new d5 _)
      (first
        | (go_at_call 40; refine (hT.out _ _).mono ?_; rintro e w5 ⟨rfl, hb5⟩; have HBc := Lib.hid (HBc.out.trans (hb5.mono HBc.out.size)); have d5 := (hb5.cell (p := ⟨w.heap.size, 5, none⟩) (World.block_lt_of_cell? _ _ d5)).trans d5; clear hb5)
        | (go_at_call 19; refine (hP.out _ _).mono ?_; rintro e w5 ⟨rfl, hb5⟩; have HBc := Lib.hid (HBc.out.trans (hb5.mono HBc.out.size)); have d5 := (hb5.cell (p := ⟨w.heap.size, 5, none⟩) (World.block_lt_of_cell? _ _ d5)).trans d5; clear hb5))
    all_goals
      go_wp2
      go_ret
      exact ⟨_, rfl, own_pcs _ _ [.tx [112, 114, 105, 110, 116, 32], .pt x.a] 2 rfl HBc.out.size (by decide) _ (rfl), HBc.out.alloc HBc.out.size _⟩
set_option maxRecDepth 100000 in
set_option maxHeartbeats 2000000 in
theorem wsim_break (x : Sm) (l m : Value) (w : World) (hk : x.kind = 7)  :
    Calls Tryz.prog 91 #[.agg #[.int .i64 (x.kind : Int), .int .i64 (x.lo : Int), .int .i64 (x.hi : Int), .string (bs x.name), .int .i64 (x.num : Int), .int .i64 x.a, .int .i64 (x.b : Int), l, m]] w (PcsPost [.tx [98, 114, 101, 97, 107]] w) := by
  have hT := Lib.hid ptextB
  have hP := Lib.hid ppartV
  · have e1 : ((x.kind : Int) == 1) = false := kne (by rw [hk]; decide)
    have e2 : ((x.kind : Int) == 2) = false := kne (by rw [hk]; decide)
    have e3 : ((x.kind : Int) == 3) = false := kne (by rw [hk]; decide)
    have e4 : ((x.kind : Int) == 4) = false := kne (by rw [hk]; decide)
    have e7 : ((x.kind : Int) == 7) = true := keq hk
    have HB0 : Hid (Below w.heap.size w (w.alloc (.cells #[.int .i64 (x.kind : Int), .int .i64 (x.lo : Int), .int .i64 (x.hi : Int), .string (bs x.name), .int .i64 (x.num : Int), .int .i64 x.a, .int .i64 (x.b : Int), l, m] 42))) := Lib.hid ((Below.refl _ w).alloc (Nat.le_refl _) _)
    clear hk
    go_enter Tryz.func91, Tryz.ntmps91
    go_wp2_with (go_at_call 40; refine (hT.out _ _).mono ?_)
    rintro e w5 ⟨rfl, hb5⟩
    have HBc := Lib.hid (HB0.out.trans (hb5.mono HB0.out.size))
    clear hb5
    go_wp2
    go_ret
    exact ⟨_, rfl, own_pcs _ _ [.tx [98, 114, 101, 97, 107]] 1 rfl HBc.out.size (by decide) _ rfl, HBc.out.alloc HBc.out.size _⟩
set_option maxRecDepth 100000 in
set_option maxHeartbeats 2000000 in
theorem wsim_continue (x : Sm) (l m : Value) (w : World) (hk : x.kind = 8)  :
    Calls Tryz.prog 91 #[.agg #[.int .i64 (x.kind : Int), .int .i64 (x.lo : Int), .int .i64 (x.hi : Int), .string (bs x.name), .int .i64 (x.num : Int), .int .i64 x.a, .int .i64 (x.b : Int), l, m]] w (PcsPost [.tx [99, 111, 110, 116, 105, 110, 117, 101]] w) := by
  have hT := Lib.hid ptextB
  have hP := Lib.hid ppartV
  · have e1 : ((x.kind : Int) == 1) = false := kne (by rw [hk]; decide)
    have e2 : ((x.kind : Int) == 2) = false := kne (by rw [hk]; decide)
    have e3 : ((x.kind : Int) == 3) = false := kne (by rw [hk]; decide)
    have e4 : ((x.kind : Int) == 4) = false := kne (by rw [hk]; decide)
    have e7 : ((x.kind : Int) == 7) = false := kne (by rw [hk]; decide)
    have e8 : ((x.kind : Int) == 8) = true := keq hk
    have HB0 : Hid (Below w.heap.size w (w.alloc (.cells #[.int .i64 (x.kind : Int), .int .i64 (x.lo : Int), .int .i64 (x.hi : Int), .string (bs x.name), .int .i64 (x.num : Int), .int .i64 x.a, .int .i64 (x.b : Int), l, m] 42))) := Lib.hid ((Below.refl _ w).alloc (Nat.le_refl _) _)
    clear hk
    go_enter Tryz.func91, Tryz.ntmps91
    go_wp2_with (go_at_call 40; refine (hT.out _ _).mono ?_)
    rintro e w5 ⟨rfl, hb5⟩
    have HBc := Lib.hid (HB0.out.trans (hb5.mono HB0.out.size))
    clear hb5
    go_wp2
    go_ret
    exact ⟨_, rfl, own_pcs _ _ [.tx [99, 111, 110, 116, 105, 110, 117, 101]] 1 rfl HBc.out.size (by decide) _ rfl, HBc.out.alloc HBc.out.size _⟩
set_option maxRecDepth 100000 in
set_option maxHeartbeats 2000000 in
theorem wsim_call (x : Sm) (l m : Value) (w : World) (hk : x.kind = 11)  :
    Calls Tryz.prog 91 #[.agg #[.int .i64 (x.kind : Int), .int .i64 (x.lo : Int), .int .i64 (x.hi : Int), .string (bs x.name), .int .i64 (x.num : Int), .int .i64 x.a, .int .i64 (x.b : Int), l, m]] w (PcsPost [.pt x.a] w) := by
  have hT := Lib.hid ptextB
  have hP := Lib.hid ppartV
  · have e1 : ((x.kind : Int) == 1) = false := kne (by rw [hk]; decide)
    have e2 : ((x.kind : Int) == 2) = false := kne (by rw [hk]; decide)
    have e3 : ((x.kind : Int) == 3) = false := kne (by rw [hk]; decide)
    have e4 : ((x.kind : Int) == 4) = false := kne (by rw [hk]; decide)
    have e7 : ((x.kind : Int) == 7) = false := kne (by rw [hk]; decide)
    have e8 : ((x.kind : Int) == 8) = false := kne (by rw [hk]; decide)
    have e9 : ((x.kind : Int) == 9) = false := kne (by rw [hk]; decide)
    have e10 : ((x.kind : Int) == 10) = false := kne (by rw [hk]; decide)
    have HB0 : Hid (Below w.heap.size w (w.alloc (.cells #[.int .i64 (x.kind : Int), .int .i64 (x.lo : Int), .int .i64 (x.hi : Int), .string (bs x.name), .int .i64 (x.num : Int), .int .i64 x.a, .int .i64 (x.b : Int), l, m] 42))) := Lib.hid ((Below.refl _ w).alloc (Nat.le_refl _) _)
    clear hk
    go_enter Tryz.func91, Tryz.ntmps91
    go_wp2_with (go_at_call 19; refine (hP.out _ _).mono ?_)
    rintro e w5 ⟨rfl, hb5⟩
    have HBc := Lib.hid (HB0.out.trans (hb5.mono HB0.out.size))
    clear hb5
    go_wp2
    go_ret
    exact ⟨_, rfl, own_pcs _ _ [.pt x.a] 1 rfl HBc.out.size (by decide) _ rfl, HBc.out.alloc HBc.out.size _⟩
end Go.Proofs.YtdeflloidhbpmaaGreatDoor
