/-
  expression: the pieces of an expression.
-/
import Derived.Test.YtdeflloidhbpmaaGreatDoorK34
namespace Go.Proofs.YtdeflloidhbpmaaGreatDoor
open Go.RowKit

theorem ItoaAt.below {dec : Nat → List UInt8} {n : Nat} {w w' : World} (h : ItoaAt dec n w) (hB : Below w.heap.size w w') : ItoaAt dec n w' := fun w1 h1 => h w1 (hB.trans (h1.mono hB.size))
theorem RwAt.below {w w' : World} {v : Value} {vs : List Value} (h : RwAt w (fun _ => True) v vs) (hB : Below w.heap.size w w') : RwAt w' (fun _ => True) v vs := h.keep hB.size fun g _ _ hg => ⟨trivial, hB.block g hg⟩
def OneP (x : Ex) (l : Value) (w : World) (e : Ending) (w' : World) : Prop := e = .returned (.agg (exV x l).toArray) ∧ Below w.heap.size w w'
section
variable {nm : List UInt8 → Prop} {nu : Nat → Prop} {dec : Nat → List UInt8} {E : List Ex}
set_option maxRecDepth 100000 in
set_option maxHeartbeats 2000000 in
theorem wexp_pair (wb ge n c i : Nat) (x : Ex) (l : Value) (w : World) (h : EIn w wb ge n c i x l) (hk : x.kind = 9) (g cl : Nat → Nat) (y z : Ex) (ly lz : Value) (hL : Levs g cl w) (hy : EIn w wb ge n c x.a y ly) (hz : EIn w wb ge n c x.b z lz) (hop : x.op.length ≤ 1000) :
    Calls Tryz.prog 38 #[.pointer (some ⟨wb, 0, none⟩), .int .i64 (i : Int)] w (PcsPost (atL y (if levI x.op = 2 then levI x.op + 1 else levI x.op) x.a ++ [.tx (32 :: (x.op ++ [32]))] ++ atL z (levI x.op + 1) x.b) w) := by
  have hO : Hid (Calls Tryz.prog 60 #[.slice (some ⟨ge, 0, none⟩) n c, .int .i64 (i : Int)] w (OneP x l w)) := Lib.hid (oneE_calls ge n c i x l h.one w h.lt h.cell)
  have hl := h.one
  have h0 := h.wr
  clear h
  · have HP : Hid (∀ W, Below w.heap.size w W → Calls Tryz.prog 61 #[.pointer (some ⟨wb, 0, none⟩), .agg #[.int .i64 (x.kind : Int), .int .i64 (x.lo : Int), .int .i64 (x.hi : Int), .int .i64 (x.num : Int), .string (bs x.name), .string (bs x.op), .int .i64 (x.a : Int), .int .i64 (x.b : Int), l]] W (PcsPost (atL y (if levI x.op = 2 then levI x.op + 1 else levI x.op) x.a ++ [.tx (32 :: (x.op ++ [32]))] ++ atL z (levI x.op + 1) x.b) W)) := Lib.hid fun W hB => wpair_calls g cl wb ge n c x y z l ly lz W (hL.below hB) (hy.below hB) (hz.below hB) hop
    clear hL hy hz hop
    generalize (atL y (if levI x.op = 2 then levI x.op + 1 else levI x.op) x.a ++ [.tx (32 :: (x.op ++ [32]))] ++ atL z (levI x.op + 1) x.b) = L at HP ⊢
    have e9 : ((x.kind : Int) == 9) = true := keq hk
    clear hk
    go_enter Tryz.func38, Tryz.ntmps38
    go_wp2_with (go_at_call 60; refine hO.out.mono ?_)
    rintro e w2 ⟨rfl, hB⟩
    have HB := Lib.hid hB
    clear hB
    go_wp2_with (refine wpList_store_whole rfl 63 (.tmp 5) (.tmp 12) rfl w2.heap.size #[.int .i64 0, .int .i64 0, .int .i64 0, .int .i64 0, .string ⟨#[]⟩, .string ⟨#[]⟩, .int .i64 0, .int .i64 0, .slice none 0 0] (exV x l).toArray 63 (heap_one w2 _ _) rfl rfl rfl Tryz.sizeEx (all_oneCell_toArray (oneE x l hl)) ?_; intro w3 ho hb; have HO3 := Lib.hid ho; have d0 : w3.cell? ⟨w2.heap.size, 0, none⟩ = some (.int .i64 (x.kind : Int)) := cellK hb 0; have d1 : w3.cell? ⟨w2.heap.size, 1, none⟩ = some (.int .i64 (x.lo : Int)) := cellK hb 1; have d2 : w3.cell? ⟨w2.heap.size, 2, none⟩ = some (.int .i64 (x.hi : Int)) := cellK hb 2; have d3 : w3.cell? ⟨w2.heap.size, 3, none⟩ = some (.int .i64 (x.num : Int)) := cellK hb 3; have d4 : w3.cell? ⟨w2.heap.size, 4, none⟩ = some (.string (bs x.name)) := cellK hb 4; have d5 : w3.cell? ⟨w2.heap.size, 5, none⟩ = some (.string (bs x.op)) := cellK hb 5; have d6 : w3.cell? ⟨w2.heap.size, 6, none⟩ = some (.int .i64 (x.a : Int)) := cellK hb 6; have d7 : w3.cell? ⟨w2.heap.size, 7, none⟩ = some (.int .i64 (x.b : Int)) := cellK hb 7; have d8 : w3.cell? ⟨w2.heap.size, 8, none⟩ = some (l) := cellK hb 8; have HB3 : Hid (Below w.heap.size w w3) := Lib.hid (HB.out.trans ((below_only HO3.out).mono HB.out.size)); clear ho hb)
    have hP := Lib.hid (HP.out w3 HB3.out)
    go_wp2_with (go_at_call 61; refine hP.out.mono ?_)
    intro e w4 h4
    have HE := Lib.hid (h4.back HB3.out)
    obtain ⟨A4, n4, c4, rfl⟩ := h4.form
    clear h4
    go_wp2
    go_ret
    exact HE.out
set_option maxRecDepth 100000 in
set_option maxHeartbeats 2000000 in
theorem wexp_call (wb ge n c i : Nat) (x : Ex) (l : Value) (w : World) (h : EIn w wb ge n c i x l) (hk : x.kind = 6) (hnm : x.name.length ≤ 1000000) (hn : x.list.length ≤ 10000) (hR : RwAt w (fun _ => True) l (intsV x.list)) :
    Calls Tryz.prog 38 #[.pointer (some ⟨wb, 0, none⟩), .int .i64 (i : Int)] w (PcsPost (.tx (x.name ++ [40]) :: (cj x.list ++ [.tx [41]])) w) := by
  have hO : Hid (Calls Tryz.prog 60 #[.slice (some ⟨ge, 0, none⟩) n c, .int .i64 (i : Int)] w (OneP x l w)) := Lib.hid (oneE_calls ge n c i x l h.one w h.lt h.cell)
  have hl := h.one
  have h0 := h.wr
  clear h
  · have HP : Hid (∀ W, Below w.heap.size w W → Calls Tryz.prog 63 #[.agg #[.int .i64 (x.kind : Int), .int .i64 (x.lo : Int), .int .i64 (x.hi : Int), .int .i64 (x.num : Int), .string (bs x.name), .string (bs x.op), .int .i64 (x.a : Int), .int .i64 (x.b : Int), l]] W (PcsPost (.tx (x.name ++ [40]) :: (cj x.list ++ [.tx [41]])) W)) := Lib.hid fun W hB => wcall_calls x l W hnm hn (hR.below hB)
    clear hR hnm hn
    have e9 : ((x.kind : Int) == 9) = false := kne (by rw [hk]; decide)
    have e8 : ((x.kind : Int) == 8) = false := kne (by rw [hk]; decide)
    have e5 : ((x.kind : Int) == 5) = false := kne (by rw [hk]; decide)
    have e6 : ((x.kind : Int) == 6) = true := keq hk
    clear hk
    go_enter Tryz.func38, Tryz.ntmps38
    go_wp2_with (go_at_call 60; refine hO.out.mono ?_)
    rintro e w2 ⟨rfl, hB⟩
    have HB := Lib.hid hB
    clear hB
    go_wp2_with (refine wpList_store_whole rfl 63 (.tmp 5) (.tmp 12) rfl w2.heap.size #[.int .i64 0, .int .i64 0, .int .i64 0, .int .i64 0, .string ⟨#[]⟩, .string ⟨#[]⟩, .int .i64 0, .int .i64 0, .slice none 0 0] (exV x l).toArray 63 (heap_one w2 _ _) rfl rfl rfl Tryz.sizeEx (all_oneCell_toArray (oneE x l hl)) ?_; intro w3 ho hb; have HO3 := Lib.hid ho; have d0 : w3.cell? ⟨w2.heap.size, 0, none⟩ = some (.int .i64 (x.kind : Int)) := cellK hb 0; have d1 : w3.cell? ⟨w2.heap.size, 1, none⟩ = some (.int .i64 (x.lo : Int)) := cellK hb 1; have d2 : w3.cell? ⟨w2.heap.size, 2, none⟩ = some (.int .i64 (x.hi : Int)) := cellK hb 2; have d3 : w3.cell? ⟨w2.heap.size, 3, none⟩ = some (.int .i64 (x.num : Int)) := cellK hb 3; have d4 : w3.cell? ⟨w2.heap.size, 4, none⟩ = some (.string (bs x.name)) := cellK hb 4; have d5 : w3.cell? ⟨w2.heap.size, 5, none⟩ = some (.string (bs x.op)) := cellK hb 5; have d6 : w3.cell? ⟨w2.heap.size, 6, none⟩ = some (.int .i64 (x.a : Int)) := cellK hb 6; have d7 : w3.cell? ⟨w2.heap.size, 7, none⟩ = some (.int .i64 (x.b : Int)) := cellK hb 7; have d8 : w3.cell? ⟨w2.heap.size, 8, none⟩ = some (l) := cellK hb 8; have HB3 : Hid (Below w.heap.size w w3) := Lib.hid (HB.out.trans ((below_only HO3.out).mono HB.out.size)); clear ho hb)
    have hP := Lib.hid (HP.out w3 HB3.out)
    go_wp2_with (go_at_call 63; refine hP.out.mono ?_)
    intro e w4 h4
    have HE := Lib.hid (h4.back HB3.out)
    obtain ⟨A4, n4, c4, rfl⟩ := h4.form
    clear h4
    go_wp2
    go_ret
    exact HE.out
set_option maxRecDepth 100000 in
set_option maxHeartbeats 2000000 in
theorem wexp_single (wb ge n c i : Nat) (x : Ex) (l : Value) (w : World) (h : EIn w wb ge n c i x l) (hk : x.kind ≠ 9 ∧ x.kind ≠ 8 ∧ x.kind ≠ 5 ∧ x.kind ≠ 6) (hI : x.kind = 1 → ItoaAt dec x.num w) :
    Calls Tryz.prog 38 #[.pointer (some ⟨wb, 0, none⟩), .int .i64 (i : Int)] w (PcsPost [.tx (sgl dec x)] w) := by
  have hO : Hid (Calls Tryz.prog 60 #[.slice (some ⟨ge, 0, none⟩) n c, .int .i64 (i : Int)] w (OneP x l w)) := Lib.hid (oneE_calls ge n c i x l h.one w h.lt h.cell)
  have hl := h.one
  have h0 := h.wr
  clear h
  · have HP : Hid (∀ W, Below w.heap.size w W → Calls Tryz.prog 64 #[.agg #[.int .i64 (x.kind : Int), .int .i64 (x.lo : Int), .int .i64 (x.hi : Int), .int .i64 (x.num : Int), .string (bs x.name), .string (bs x.op), .int .i64 (x.a : Int), .int .i64 (x.b : Int), l]] W fun e w' => e = .returned (.string (bs (sgl dec x))) ∧ Below W.heap.size W w') := Lib.hid fun W hB => single_calls dec x l W fun h1 => (hI h1).below hB
    clear hI
    have e9 : ((x.kind : Int) == 9) = false := kne hk.1
    have e8 : ((x.kind : Int) == 8) = false := kne hk.2.1
    have e5 : ((x.kind : Int) == 5) = false := kne hk.2.2.1
    have e6 : ((x.kind : Int) == 6) = false := kne hk.2.2.2
    clear hk
    go_enter Tryz.func38, Tryz.ntmps38
    go_wp2_with (go_at_call 60; refine hO.out.mono ?_)
    rintro e w2 ⟨rfl, hB⟩
    have HB := Lib.hid hB
    clear hB
    go_wp2_with (refine wpList_store_whole rfl 63 (.tmp 5) (.tmp 12) rfl w2.heap.size #[.int .i64 0, .int .i64 0, .int .i64 0, .int .i64 0, .string ⟨#[]⟩, .string ⟨#[]⟩, .int .i64 0, .int .i64 0, .slice none 0 0] (exV x l).toArray 63 (heap_one w2 _ _) rfl rfl rfl Tryz.sizeEx (all_oneCell_toArray (oneE x l hl)) ?_; intro w3 ho hb; have HO3 := Lib.hid ho; have d0 : w3.cell? ⟨w2.heap.size, 0, none⟩ = some (.int .i64 (x.kind : Int)) := cellK hb 0; have d1 : w3.cell? ⟨w2.heap.size, 1, none⟩ = some (.int .i64 (x.lo : Int)) := cellK hb 1; have d2 : w3.cell? ⟨w2.heap.size, 2, none⟩ = some (.int .i64 (x.hi : Int)) := cellK hb 2; have d3 : w3.cell? ⟨w2.heap.size, 3, none⟩ = some (.int .i64 (x.num : Int)) := cellK hb 3; have d4 : w3.cell? ⟨w2.heap.size, 4, none⟩ = some (.string (bs x.name)) := cellK hb 4; have d5 : w3.cell? ⟨w2.heap.size, 5, none⟩ = some (.string (bs x.op)) := cellK hb 5; have d6 : w3.cell? ⟨w2.heap.size, 6, none⟩ = some (.int .i64 (x.a : Int)) := cellK hb 6; have d7 : w3.cell? ⟨w2.heap.size, 7, none⟩ = some (.int .i64 (x.b : Int)) := cellK hb 7; have d8 : w3.cell? ⟨w2.heap.size, 8, none⟩ = some (l) := cellK hb 8; have HB3 : Hid (Below w.heap.size w w3) := Lib.hid (HB.out.trans ((below_only HO3.out).mono HB.out.size)); clear ho hb)
    have hP := Lib.hid (HP.out w3 HB3.out)
    go_wp2_with (go_at_call 64; refine hP.out.mono ?_)
    rintro e w4 ⟨rfl, hB4⟩
    have HB4 := Lib.hid (HB3.out.trans (hB4.mono HB3.out.size))
    have hT := Lib.hid (ptextV (sgl dec x) w4)
    clear hB4
    go_wp2_with (go_at_call 40; refine hT.out.mono ?_)
    rintro e w5 ⟨rfl, hB5⟩
    have HB5 := Lib.hid (HB4.out.trans (hB5.mono HB4.out.size))
    clear hB5
    go_wp2
    go_ret
    exact ⟨_, rfl, own_pcs w5 _ _ 1 rfl HB5.out.size (by decide) _ rfl, HB5.out.alloc HB5.out.size _⟩
set_option maxRecDepth 100000 in
set_option maxHeartbeats 2000000 in
theorem wexp_idx (wb ge n c i : Nat) (x : Ex) (l : Value) (w : World) (h : EIn w wb ge n c i x l) (hk : x.kind = 5) (hnm : x.name.length ≤ 1000000) :
    Calls Tryz.prog 38 #[.pointer (some ⟨wb, 0, none⟩), .int .i64 (i : Int)] w (PcsPost [.tx (x.name ++ [91]), .pt (x.a : Int), .tx [93]] w) := by
  have hO : Hid (Calls Tryz.prog 60 #[.slice (some ⟨ge, 0, none⟩) n c, .int .i64 (i : Int)] w (OneP x l w)) := Lib.hid (oneE_calls ge n c i x l h.one w h.lt h.cell)
  have hl := h.one
  have h0 := h.wr
  clear h
  · have e9 : ((x.kind : Int) == 9) = false := kne (by rw [hk]; decide)
    have e8 : ((x.kind : Int) == 8) = false := kne (by rw [hk]; decide)
    have e5 : ((x.kind : Int) == 5) = true := keq hk
    clear hk
    have hsum : (9223372036854775807 < (bs x.name).size + (⟨#[91]⟩ : ByteArray).size) = False := by rw [bs_size]; simp [ByteArray.size]; omega
    have hsum1 : (9223372036854775807 < (bs x.name).size + 1) = False := by rw [bs_size]; simp; omega
    have HS91 : Hid (bs x.name ++ ⟨#[91]⟩ = bs (x.name ++ [91])) := Lib.hid (bs_app x.name [91])
    have hT := Lib.hid ptextB
    have hP := Lib.hid ppartV
    clear hnm
    go_enter Tryz.func38, Tryz.ntmps38
    go_wp2_with (go_at_call 60; refine hO.out.mono ?_)
    rintro e w2 ⟨rfl, hB⟩
    have HB := Lib.hid hB
    clear hB
    go_wp2_with (refine wpList_store_whole rfl 63 (.tmp 5) (.tmp 12) rfl w2.heap.size #[.int .i64 0, .int .i64 0, .int .i64 0, .int .i64 0, .string ⟨#[]⟩, .string ⟨#[]⟩, .int .i64 0, .int .i64 0, .slice none 0 0] (exV x l).toArray 63 (heap_one w2 _ _) rfl rfl rfl Tryz.sizeEx (all_oneCell_toArray (oneE x l hl)) ?_; intro w3 ho hb; have HO3 := Lib.hid ho; have d0 : w3.cell? ⟨w2.heap.size, 0, none⟩ = some (.int .i64 (x.kind : Int)) := cellK hb 0; have d3 : w3.cell? ⟨w2.heap.size, 3, none⟩ = some (.int .i64 (x.num : Int)) := cellK hb 3; have d4 : w3.cell? ⟨w2.heap.size, 4, none⟩ = some (.string (bs x.name)) := cellK hb 4; have d6 : w3.cell? ⟨w2.heap.size, 6, none⟩ = some (.int .i64 (x.a : Int)) := cellK hb 6; have HB3 : Hid (Below w.heap.size w w3) := Lib.hid (HB.out.trans ((below_only HO3.out).mono HB.out.size)); clear ho hb)
    have d4 : w3.drew.cell? ⟨w2.heap.size, 4, none⟩ = some (.string (bs x.name)) := d4
    have d6 : w3.drew.cell? ⟨w2.heap.size, 6, none⟩ = some (.int .i64 (x.a : Int)) := d6
    have HBc := Lib.hid HB3.out.drew
    go_region_held3 (fun w' => w'.cell? ⟨w2.heap.size, 4, none⟩ = some (.string (bs x.name)) ∧ w'.cell? ⟨w2.heap.size, 6, none⟩ = some (.int .i64 (x.a : Int)))
      (first | with_reducible exact ⟨d4, d6⟩ | with_reducible exact ⟨cell_new d4 _, cell_new d6 _⟩)
      (first
        | (go_at_call 40; refine (hT.out _ _).mono ?_; rintro e w5 ⟨rfl, hb5⟩; have HBc := Lib.hid (HBc.out.trans (hb5.mono HBc.out.size)); have d4 := (hb5.cell (p := ⟨w2.heap.size, 4, none⟩) (World.block_lt_of_cell? _ _ d4)).trans d4; have d6 := (hb5.cell (p := ⟨w2.heap.size, 6, none⟩) (World.block_lt_of_cell? _ _ d6)).trans d6; clear hb5)
        | (go_at_call 19; refine (hP.out _ _).mono ?_; rintro e w5 ⟨rfl, hb5⟩; have HBc := Lib.hid (HBc.out.trans (hb5.mono HBc.out.size)); have d4 := (hb5.cell (p := ⟨w2.heap.size, 4, none⟩) (World.block_lt_of_cell? _ _ d4)).trans d4; have d6 := (hb5.cell (p := ⟨w2.heap.size, 6, none⟩) (World.block_lt_of_cell? _ _ d6)).trans d6; clear hb5))
    all_goals
      go_wp2
      go_ret
      exact ⟨_, rfl, own_pcs _ _ [.tx (x.name ++ [91]), .pt (x.a : Int), .tx [93]] 3 rfl HBc.out.size (by decide) _ (by rw [HS91.out]; rfl), HBc.out.alloc HBc.out.size _⟩
end
end Go.Proofs.YtdeflloidhbpmaaGreatDoor
