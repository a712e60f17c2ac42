/-
  expression: the pieces of a unary expression; all kinds.
-/
import Derived.Test.YtdeflloidhbpmaaGreatDoorK35
import Derived.Deep.AppendLies
namespace Go.Proofs.YtdeflloidhbpmaaGreatDoor
open Go.RowKit

theorem PcsPost.cells {l : List Pc} {w w' : World} {e : Ending} (h : PcsPost l w e w') (hl : 0 < l.length) : ∃ g n c, n = l.length ∧ e = .returned (.slice (some ⟨g, 0, none⟩) n c) ∧ ∀ j u, (pcsV l)[j]? = some u → w'.cell? ⟨g, j, none⟩ = some u := by
  obtain ⟨v, rfl, ho, _⟩ := h
  obtain ⟨A, c, rfl⟩ := own_sl ho
  obtain ⟨g, rfl, _, hc⟩ := arr_get (arr_of_own (by decide) ho) hl
  exact ⟨g, _, c, rfl, rfl, hc⟩
theorem add_cells {w : World} {g : Nat} {cs : List Value} (h : ∀ j u, cs[j]? = some u → w.cell? ⟨g, j, none⟩ = some u) : ∀ j u, cs[j]? = some u → w.cell? ((⟨g, 0, none⟩ : Addr).add j) = some u := fun j u hu => by
  rw [Addr.add_lit, Nat.zero_add]; exact h j u hu
theorem un_end {op : List UInt8} {l : List Pc} {n g cap : Nat} {v : Value} {w W w' : World} (hn : n = l.length) (ho : w'.ownsRow w.heap.size 59 3 (.slice (some ⟨g, 0, none⟩) (1 + n) cap) (1 + n) (pcsV [.tx op] ++ pcsV l)) (hB : Below w.heap.size w W) (hown : W.ownsRow w.heap.size 59 3 v 1 (pcsV [.tx op])) (hg : W.grownBy w' v.ownBlock) :
    PcsPost (.tx op :: l) w (.returned (.slice (some ⟨g, 0, none⟩) (1 + n) cap)) w' := by
  refine ⟨_, rfl, ?_, below_append hB (Nat.le_refl _) hown hg⟩
  rw [List.length_cons, ← hn, Nat.add_comm n 1]
  exact ho
theorem ne_own {w : World} {B b g n m c : Nat} {e : TypeId} {sz : Nat} {xs : List Value} (_h : w.ownsRow B e sz (.slice (some ⟨g, 0, none⟩) n c) m xs) (hb : b < g) : some b ≠ (Value.slice (some ⟨g, 0, none⟩) n c).ownBlock := by
  intro h
  have : b = g := by simpa [Value.ownBlock] using h
  omega
section
variable {nm : List UInt8 → Prop} {nu : Nat → Prop} {dec : Nat → List UInt8} {E : List Ex}
set_option maxRecDepth 100000 in
set_option maxHeartbeats 2000000 in
theorem wexp_un (wb ge n c i : Nat) (x : Ex) (l : Value) (w : World) (h : EIn w wb ge n c i x l) (hk : x.kind = 8) (g cl : Nat → Nat) (y : Ex) (ly : Value) (hL : Levs g cl w) (hy : EIn w wb ge n c x.a y ly) :
    Calls Tryz.prog 38 #[.pointer (some ⟨wb, 0, none⟩), .int .i64 (i : Int)] w (PcsPost (.tx x.op :: atL y 5 x.a) w) := by
  obtain ⟨i0, hi0, hz0, hz1, hz2⟩ := info_parts Tryz.infoPc
  have hO : Hid (Calls Tryz.prog 60 #[.slice (some ⟨ge, 0, none⟩) n c, .int .i64 (i : Int)] w (OneP x l w)) := Lib.hid (oneE_calls ge n c i x l h.one w h.lt h.cell)
  have hl := h.one
  have h0 := h.wr
  have HA : Hid (∀ W, Below w.heap.size w W → Calls Tryz.prog 62 #[.pointer (some ⟨wb, 0, none⟩), .int .i64 5, .int .i64 (x.a : Int)] W (PcsPost (atL y 5 x.a) W)) := Lib.hid fun W hB => atleast_calls g cl wb ge n c x.a 5 y ly W (hL.below hB) (hy.below hB)
  have HLA := Lib.hid (atL_len y 5 x.a)
  have hT := Lib.hid ptextB
  clear h hL hy
  · have e9 : ((x.kind : Int) == 9) = false := kne (by rw [hk]; decide)
    have e8 : ((x.kind : Int) == 8) = true := keq hk
    clear hk
    go_enter Tryz.func38, Tryz.ntmps38
    go_wp2_with (go_at_call 60; refine hO.out.mono ?_)
    rintro e w2 ⟨rfl, hB⟩
    have HB := Lib.hid hB
    clear hB
    go_wp2_with (refine wpList_store_whole rfl 63 (.tmp 5) (.tmp 12) rfl w2.heap.size #[.int .i64 0, .int .i64 0, .int .i64 0, .int .i64 0, .string ⟨#[]⟩, .string ⟨#[]⟩, .int .i64 0, .int .i64 0, .slice none 0 0] (exV x l).toArray 63 (heap_one w2 _ _) rfl rfl rfl Tryz.sizeEx (all_oneCell_toArray (oneE x l hl)) ?_; intro w3 ho hb; have HO3 := Lib.hid ho; have d0 : w3.cell? ⟨w2.heap.size, 0, none⟩ = some (.int .i64 (x.kind : Int)) := cellK hb 0; have d5 : w3.cell? ⟨w2.heap.size, 5, none⟩ = some (.string (bs x.op)) := cellK hb 5; have d6 : w3.cell? ⟨w2.heap.size, 6, none⟩ = some (.int .i64 (x.a : Int)) := cellK hb 6; have HB3 : Hid (Below w.heap.size w w3) := Lib.hid (HB.out.trans ((below_only HO3.out).mono HB.out.size)); clear ho hb)
    have d5 : w3.drew.cell? ⟨w2.heap.size, 5, none⟩ = some (.string (bs x.op)) := d5
    have d6 : w3.drew.cell? ⟨w2.heap.size, 6, none⟩ = some (.int .i64 (x.a : Int)) := d6
    go_region_held3 (fun w' => w'.cell? ⟨w2.heap.size, 5, none⟩ = some (.string (bs x.op)) ∧ w'.cell? ⟨w2.heap.size, 6, none⟩ = some (.int .i64 (x.a : Int)))
      (first | with_reducible exact ⟨d5, d6⟩ | with_reducible exact ⟨cell_new d5 _, cell_new d6 _⟩)
      (first
        | (revert HB9; intro HB9; have HBX := HB9; have HOX := HO9; have HCX : Hid (∀ j u, (pcsV (atL y 5 x.a))[j]? = some u → w9.cell? ((⟨g9, 0, none⟩ : Addr).add j) = some u) := Lib.hid (add_cells HC9.out); refine step_append_lies _ rfl (.tmp 25) (.tmp 29) 97 rfl w.heap.size 59 i0 (.agg #[.bool false, .string ⟨#[]⟩, .int .i64 0]) 3 32 Tryz.underlying97 hi0 hz0 hz1 hz2 rfl (by decide) _ 1 (pcsV [.tx x.op]) (by simp [Act.eval]) HOX.out ⟨g9, 0, none⟩ n9 c9 (pcsV (atL y 5 x.a)) (by simp [Act.eval]) HL9.out HCX.out (pcs_one _) hp9 (by unfold maxLen; omega) (by omega) HBX.out.size _ rfl ?_; intro g10 c10 w10 hown hgrow hat hlt; have HE := Lib.hid (un_end HN9.out hown HBX.out HOX.out hgrow); have d5 := (hgrow.cell_far ⟨w2.heap.size, 5, none⟩ (World.block_lt_of_cell? _ _ d5) (ne_own HOX.out HLT.out)).trans d5; have d6 := (hgrow.cell_far ⟨w2.heap.size, 6, none⟩ (World.block_lt_of_cell? _ _ d6) (ne_own HOX.out HLT.out)).trans d6; clear hown hgrow hat hlt)
        | (revert HBq; intro HBq; have HBX := Lib.hid (HBq.out.alloc HBq.out.size (.cells #[.bool false, .string (bs x.op), .int .i64 0] 59)); have HOX := Lib.hid (own_pcs w9 w.heap.size [.tx x.op] 1 rfl HBq.out.size (by decide) #[.bool false, .string (bs x.op), .int .i64 0] rfl); have HCX : Hid (∀ j u, (pcsV (atL y 5 x.a))[j]? = some u → (w9.alloc (.cells #[.bool false, .string (bs x.op), .int .i64 0] 59)).cell? ((⟨g9, 0, none⟩ : Addr).add j) = some u) := Lib.hid (add_cells fun j u hu => cell_new (HC9.out j u hu) _); have d5 := cell_new d5 (.cells #[.bool false, .string (bs x.op), .int .i64 0] 59); have d6 := cell_new d6 (.cells #[.bool false, .string (bs x.op), .int .i64 0] 59); refine step_append_lies _ rfl (.tmp 25) (.tmp 29) 97 rfl w.heap.size 59 i0 (.agg #[.bool false, .string ⟨#[]⟩, .int .i64 0]) 3 32 Tryz.underlying97 hi0 hz0 hz1 hz2 rfl (by decide) _ 1 (pcsV [.tx x.op]) (by simp [Act.eval]) HOX.out ⟨g9, 0, none⟩ n9 c9 (pcsV (atL y 5 x.a)) (by simp [Act.eval]) HL9.out HCX.out (pcs_one _) hp9 (by unfold maxLen; omega) (by omega) HBX.out.size _ rfl ?_; intro g10 c10 w10 hown hgrow hat hlt; have HE := Lib.hid (un_end HN9.out hown HBX.out HOX.out hgrow); have d5 := (hgrow.cell_far ⟨w2.heap.size, 5, none⟩ (World.block_lt_of_cell? _ _ d5) (ne_own HOX.out HLT.out)).trans d5; have d6 := (hgrow.cell_far ⟨w2.heap.size, 6, none⟩ (World.block_lt_of_cell? _ _ d6) (ne_own HOX.out HLT.out)).trans d6; clear hown hgrow hat hlt)
        | (revert HBt; intro HBt; go_at_call 62; (with_reducible refine (HA.out wt HBt.out).mono ?_); intro e w9 h9; have hb9 := h9.below; obtain ⟨g9, n9, c9, hn9, rfl, hc9⟩ := h9.cells HLA.out.1; have HN9 := Lib.hid hn9; have hl9 : n9 ≤ 1000 := (by rw [hn9]; exact HLA.out.2); have hp9 : 0 < n9 := (by rw [hn9]; exact HLA.out.1); have HL9 : Hid ((pcsV (atL y 5 x.a)).length = n9 * 3) := Lib.hid (by rw [hn9, pcs_len]); have d5 := (hb9.cell (p := ⟨w2.heap.size, 5, none⟩) (World.block_lt_of_cell? wt _ d5)).trans d5; have d6 := (hb9.cell (p := ⟨w2.heap.size, 6, none⟩) (World.block_lt_of_cell? wt _ d6)).trans d6; have HLT := Lib.hid (World.block_lt_of_cell? w9 _ d5); have HBq := Lib.hid (HBt.out.trans (hb9.mono HBt.out.size)); have HC9 := Lib.hid hc9; clear h9 hb9 hn9 hc9)
        | (revert HBt; intro HBt; go_at_call 62; have d5 := cell_new d5 (.cells #[.bool false, .string (bs x.op), .int .i64 0] 59); have d6 := cell_new d6 (.cells #[.bool false, .string (bs x.op), .int .i64 0] 59); have HB8a := Lib.hid (HBt.out.alloc HBt.out.size (.cells #[.bool false, .string (bs x.op), .int .i64 0] 59)); have HO8 := Lib.hid (own_pcs wt w.heap.size [.tx x.op] 1 rfl HBt.out.size (by decide) #[.bool false, .string (bs x.op), .int .i64 0] rfl); generalize wt.alloc (.cells #[.bool false, .string (bs x.op), .int .i64 0] 59) = W8 at d5 d6 HB8a HO8 ⊢; (with_reducible refine (HA.out W8 HB8a.out).mono ?_); intro e w9 h9; have hb9 := h9.below; obtain ⟨g9, n9, c9, hn9, rfl, hc9⟩ := h9.cells HLA.out.1; have HN9 := Lib.hid hn9; have hl9 : n9 ≤ 1000 := (by rw [hn9]; exact HLA.out.2); have hp9 : 0 < n9 := (by rw [hn9]; exact HLA.out.1); have HL9 : Hid ((pcsV (atL y 5 x.a)).length = n9 * 3) := Lib.hid (by rw [hn9, pcs_len]); have d5 := (hb9.cell (p := ⟨w2.heap.size, 5, none⟩) (World.block_lt_of_cell? W8 _ d5)).trans d5; have d6 := (hb9.cell (p := ⟨w2.heap.size, 6, none⟩) (World.block_lt_of_cell? W8 _ d6)).trans d6; have HB9 := Lib.hid (HB8a.out.trans (hb9.mono HB8a.out.size)); have HC9 := Lib.hid hc9; have HO9 := Lib.hid (own_below HO8.out hb9); clear h9 hb9 hn9 hc9)
        | (go_at_call 40; (with_reducible refine (hT.out _ w3.drew).mono ?_); rintro e wt ⟨rfl, hbt⟩; have HBt := Lib.hid (HB3.out.drew.trans (hbt.mono HB3.out.drew.size)); have d5 := (hbt.cell (p := ⟨w2.heap.size, 5, none⟩) (World.block_lt_of_cell? w3.drew _ d5)).trans d5; have d6 := (hbt.cell (p := ⟨w2.heap.size, 6, none⟩) (World.block_lt_of_cell? w3.drew _ d6)).trans d6; have HLT := Lib.hid (World.block_lt_of_cell? wt _ d5); clear hbt))
    all_goals
      go_wp2
      go_ret
      exact HE.out
end
end Go.Proofs.YtdeflloidhbpmaaGreatDoor
