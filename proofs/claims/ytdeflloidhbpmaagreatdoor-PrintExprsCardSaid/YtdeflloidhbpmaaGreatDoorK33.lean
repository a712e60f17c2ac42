/-
  slices.Concat of three rows of pieces.
-/
import Derived.Test.YtdeflloidhbpmaaGreatDoorK32
import Derived.Shelf.Spec.SlicesGrow
namespace Go.Proofs
open Go.Shelf
def Tryz.growP_ren : Go.Shelf.Ren := ⟨fun | 4 => 117 | n => n, fun | 0 => 0 | 3 => 3 | 4 => 4 | 9 => 9 | 20 => 20 | 22 => 97 | 25 => 59 | n => n, fun | n => n⟩
theorem Tryz.growP : Lays8.n4 Tryz.prog Tryz.growP_ren := {
  mixed := by kernel_rfl
  f4 := ⟨((Tryz.prog.funcs[117]?).map (·.name)).getD "", by kernel_rfl, Tryz.func117.trans (congrArg some (by kernel_rfl))⟩
  t0 := Tryz.underlying0
  a0 := Tryz.isAgg0
  z0 := Tryz.sizeOf0
  v0 := Tryz.zeroValue0
  t3 := Tryz.underlying3
  a3 := Tryz.isAgg3
  z3 := Tryz.sizeOf3
  v3 := Tryz.zeroValue3
  t4 := Tryz.underlying4
  a4 := Tryz.isAgg4
  z4 := Tryz.sizeOf4
  v4 := Tryz.zeroValue4
  t9 := Tryz.underlying9
  a9 := Tryz.isAgg9
  z9 := Tryz.sizeOf9
  v9 := Tryz.zeroValue9
  t20 := Tryz.underlying20
  a20 := Tryz.isAgg20
  z20 := Tryz.sizeOf20
  v20 := Tryz.zeroValue20
  t22 := Tryz.underlying97
  a22 := Tryz.isAgg97
  z22 := Tryz.sizeOf97
  v22 := Tryz.zeroValue97 }
end Go.Proofs
namespace Go.Proofs.YtdeflloidhbpmaaGreatDoor
open Go.RowKit

def PRoom (w : World) (e : Ending) (w' : World) : Prop := ∃ v, e = .returned v ∧ w'.ownsRow w.heap.size 59 3 v 0 [] ∧ Below w.heap.size w w'
/-- Room for so many pieces. -/
theorem pgrow_calls (n : Nat) (hn : n ≤ 100000) (w : World) : Calls Tryz.prog 117 #[.slice none 0 0, .int .i64 (n : Int)] w (PRoom w) := by
  obtain ⟨i0, hi0, hz0, hz1, hz2⟩ := info_parts Tryz.infoPc
  cases n with
  | zero =>
    refine Calls.mono (Any8.slices_Grow_room Tryz.growP none 0 0 0 w (Nat.le_refl _) (by decide) (by decide) (Nat.le_refl _)) ?_
    rintro e w' ⟨rfl, rfl⟩
    exact ⟨_, rfl, own_zero _ _ _ _, Below.refl _ _⟩
  | succ n =>
    refine Calls.mono (Any8.slices_Grow_grow Tryz.growP i0 _ hi0 hz0 (by rw [hz1]; decide) none 0 0 (n + 1) [] w (Nat.le_refl _) (by omega) (by rw [hz2]; omega) (by omega) (by simp) (fun _ => rfl) (fun a h => by cases h)) ?_
    rintro e w' ⟨rfl, rfl⟩
    refine ⟨_, rfl, ?_, ?_⟩
    · have h1 := grownCap_ge w (0 + (n + 1)) 0 59
      have h2 := grownCap_le_maxLen w (0 + (n + 1)) 0 59 (by unfold maxLen; omega)
      refine World.ownsRow_made w.drew _ _ (Nat.le_refl _) h2 ?_
      rw [Array.size_append, Array.size_append, size_zeroCells, size_zeroCells]
      simp [Value.cells]
      rw [Nat.zero_add] at h1
      have h3 : (Tryz.growP_ren).t 25 = 59 := rfl
      rw [h3]
      omega
    · exact ((Below.refl w.heap.size w).drew).alloc (Nat.le_refl _) _

/-- The lists so far. -/
def catL (ll : Nat → List Pc) : Nat → List Pc
  | 0 => []
  | i + 1 => catL ll i ++ ll i
theorem catL_le (ll : Nat → List Pc) (h : ∀ i, (ll i).length ≤ 1000) : ∀ i, (catL ll i).length ≤ 1000 * i
  | 0 => Nat.le_refl _
  | i + 1 => by
    have := catL_le ll h i
    have := h i
    show (catL ll i ++ ll i).length ≤ _
    rw [List.length_append]; omega
set_option maxRecDepth 100000 in
set_option maxHeartbeats 2000000 in
theorem concat_calls (g : Nat) (A : Nat → Option Addr) (c : Nat → Nat) (ll : Nat → List Pc) (w : World) (hll : ∀ i, (ll i).length ≤ 1000) (hg : ∀ i, i < 3 → w.cell? ⟨g, i, none⟩ = some (.slice (A i) (ll i).length (c i))) (hgl : g < w.heap.size)
    (hA : ∀ i, i < 3 → ArrAt w 3 (.slice (A i) (ll i).length (c i)) (ll i).length (pcsV (ll i))) (hne : ∀ i, i < 3 → 0 < (ll i).length) :
    Calls Tryz.prog 85 #[.slice (some ⟨g, 0, none⟩) 3 3] w (PcsPost (catL ll 3) w) := by
  obtain ⟨i0, hi0, hz0, hz1, hz2⟩ := info_parts Tryz.infoPc
  have HC : Hid (∀ i, i < 3 → ∀ W, Below w.heap.size w W → W.cell? ⟨g, i, none⟩ = some (.slice (A i) (ll i).length (c i))) := Lib.hid fun i hi W hB => (hB.cell (p := ⟨g, i, none⟩) hgl).trans (hg i hi)
  have HA : Hid (∀ i, i < 3 → ∃ gi, A i = some ⟨gi, 0, none⟩ ∧ ∀ W, Below w.heap.size w W → ∀ j u, (pcsV (ll i))[j]? = some u → W.cell? ((⟨gi, 0, none⟩ : Addr).add j) = some u) := Lib.hid fun i hi => by
    obtain ⟨A', c', e, _, h2⟩ := hA i hi
    injection e with e1 e2 e3
    obtain ⟨gi, e4, h3, h4⟩ := h2 (hne i hi)
    refine ⟨gi, by rw [e1]; exact e4, fun W hB j u hu => ?_⟩
    rw [Addr.add_lit, Nat.zero_add]
    exact (hB.cell (p := ⟨gi, j, none⟩) h3).trans (h4 j u hu)
  have HL := Lib.hid hll
  have HCL := Lib.hid (catL_le ll hll)
  have HG := Lib.hid (fun n (hn : n ≤ 100000) W => pgrow_calls n hn W)
  clear hg hA hne hll
  go_enter Tryz.func85, Tryz.ntmps85
  go_wp2
  go_loop [3, 11] (fun s a => ∃ i : Nat, i ≤ 3 ∧ s = .int .i64 ((catL ll i).length : Int) ∧ a = .int .i64 i) (fun _ a => 3 - (intOf a).toNat)
  case atStart => exact ⟨0, by omega, rfl, rfl⟩
  case round =>
    obtain ⟨i, hi, rfl, rfl⟩ := hrel
    by_cases hlt : i < 3
    · have hc := HC.out i hlt w (Below.refl _ _)
      have h3 : (i : Int) < 3 := by omega
      have h0 : 0 ≤ (i : Int) := by omega
      have hln : ((catL ll (i + 1)).length : Int) = ((catL ll i).length : Int) + ((ll i).length : Int) := by
        show ((catL ll i ++ ll i).length : Int) = _
        rw [List.length_append]; omega
      have hb := HCL.out (i + 1)
      have hw : wrap64 (((catL ll i).length : Int) + ((ll i).length : Int)) = ((catL ll (i + 1)).length : Int) := by
        rw [hln]; unfold wrap64; omega
      have hneg : decide (((catL ll (i + 1)).length : Int) < 0) = false := decide_eq_false (by omega)
      have HLN := Lib.hid hln
      clear hln hb
      go_wp2
      go_round
      case rel => exact ⟨i + 1, by omega, by go_num, by go_num⟩
      case measure => simp [intOf]; omega
    · obtain rfl : i = 3 := by omega
      have hgr := Lib.hid (HG.out (catL ll 3).length (by have := HCL.out 3; omega) w)
      go_wp2_with (go_at_call 117; refine hgr.out.mono ?_)
      intro e w1 h1
      obtain ⟨v1, rfl, h1⟩ := h1
      have HO1 := Lib.hid h1.1
      have HB1 := Lib.hid h1.2
      clear h1
      go_wp2
      go_loopw [6, 27] (fun v a wr => ∃ i : Nat, i ≤ 3 ∧ a = .int .i64 i ∧ wr.ownsRow w.heap.size 59 3 v (catL ll i).length (pcsV (catL ll i)) ∧ Below w.heap.size w wr) (fun _ a _ => 3 - (intOf a).toNat)
      case atStart => exact ⟨0, by omega, rfl, HO1.out, HB1.out⟩
      case round =>
        obtain ⟨i, hi, rfl, hown, hB⟩ := hrel
        have hbs := hB.size
        by_cases hlt : i < 3
        · have hc := HC.out i hlt wr hB
          obtain ⟨gi, hAi, hcs⟩ := HA.out i hlt
          rw [hAi] at hc
          have h3 : (i : Int) < 3 := by omega
          have h0 : 0 ≤ (i : Int) := by omega
          have hb1 := HCL.out i
          have hb2 := HL.out i
          have HCS := Lib.hid (hcs wr hB)
          have HON := Lib.hid hown
          have HBB := Lib.hid hB
          clear hcs hown hB
          go_wp2_with (at_builtin; refine wpList_append_own _ rfl _ _ 97 rfl w.heap.size 59 i0 (.agg #[.bool false, .string ⟨#[]⟩, .int .i64 0]) 3 32 Tryz.underlying97 hi0 hz0 hz1 hz2 rfl (by decide) _ _ _ rfl HON.out ⟨gi, 0, none⟩ (ll i).length (c i) (pcsV (ll i)) rfl (pcs_len _) HCS.out (pcs_one _) (by unfold maxLen; omega) (by omega) hbs ?_; intro v' w3 hown' hgrow _; have HG3 := Lib.hid hgrow; have HO3 := Lib.hid hown'; clear hgrow hown')
          have hB4 := Lib.hid (below_append HBB.out (Nat.le_refl _) HON.out HG3.out)
          go_roundw
          case rel =>
            refine ⟨i + 1, by omega, by go_num, ?_, hB4.out⟩
            have := HO3.out
            rw [show catL ll (i + 1) = catL ll i ++ ll i from rfl, List.length_append, pcsV_app]
            exact this
          case measure => simp [intOf]; omega
        · obtain rfl : i = 3 := by omega
          obtain ⟨A6, c6, rfl⟩ := own_sl hown
          have HE : Hid (PcsPost (catL ll 3) w (.returned (.slice A6 (catL ll 3).length c6)) wr) := Lib.hid ⟨_, rfl, hown, hB⟩
          clear hown hB
          go_wp2
          go_ret
          exact HE.out
theorem own_base {w : World} {B B' : Nat} {e : TypeId} {sz n : Nat} {v : Value} {xs : List Value} (h : w.ownsRow B e sz v n xs) (hB : B' ≤ B) : w.ownsRow B' e sz v n xs := by
  refine ⟨h.1, ?_⟩
  rcases h.2 with h0 | ⟨g, cap, cur, hv, hb, hr⟩
  · exact .inl h0
  · exact .inr ⟨g, cap, cur, hv, Nat.le_trans hB hb, hr⟩
/-- What a call answers that came later. -/
theorem PcsPost.back {l : List Pc} {w w1 w2 : World} {e : Ending} (h : PcsPost l w1 e w2) (hB : Below w.heap.size w w1) : PcsPost l w e w2 := by
  obtain ⟨v, rfl, ho, hb⟩ := h
  exact ⟨v, rfl, own_base ho hB.size, hB.trans (hb.mono hB.size)⟩
theorem concat3_calls (g : Nat) (v1 v2 v3 : Value) (l1 l2 l3 : List Pc) (w : World) (h1 : w.cell? ⟨g, 0, none⟩ = some v1) (h2 : w.cell? ⟨g, 1, none⟩ = some v2) (h3 : w.cell? ⟨g, 2, none⟩ = some v3)
    (a1 : ArrAt w 3 v1 l1.length (pcsV l1)) (a2 : ArrAt w 3 v2 l2.length (pcsV l2)) (a3 : ArrAt w 3 v3 l3.length (pcsV l3)) (n1 : 0 < l1.length ∧ l1.length ≤ 1000) (n2 : 0 < l2.length ∧ l2.length ≤ 1000) (n3 : 0 < l3.length ∧ l3.length ≤ 1000) :
    Calls Tryz.prog 85 #[.slice (some ⟨g, 0, none⟩) 3 3] w (PcsPost (l1 ++ l2 ++ l3) w) := by
  have hgl := World.block_lt_of_cell? w _ h1
  obtain ⟨A1, c1, rfl⟩ := arr_form a1
  obtain ⟨A2, c2, rfl⟩ := arr_form a2
  obtain ⟨A3, c3, rfl⟩ := arr_form a3
  have h := concat_calls g (fun i => if i = 0 then A1 else if i = 1 then A2 else A3) (fun i => if i = 0 then c1 else if i = 1 then c2 else c3) (fun i => if i = 0 then l1 else if i = 1 then l2 else l3) w
    (fun i => by
      show (if i = 0 then l1 else if i = 1 then l2 else l3).length ≤ 1000
      split
      · exact n1.2
      · split
        · exact n2.2
        · exact n3.2)
    (fun i hi => by
      have : i = 0 ∨ i = 1 ∨ i = 2 := by omega
      rcases this with rfl | rfl | rfl
      · exact h1
      · exact h2
      · exact h3) hgl
    (fun i hi => by
      have : i = 0 ∨ i = 1 ∨ i = 2 := by omega
      rcases this with rfl | rfl | rfl
      · exact a1
      · exact a2
      · exact a3)
    (fun i hi => by
      have : i = 0 ∨ i = 1 ∨ i = 2 := by omega
      rcases this with rfl | rfl | rfl
      · exact n1.1
      · exact n2.1
      · exact n3.1)
  have e : catL (fun i => if i = 0 then l1 else if i = 1 then l2 else l3) 3 = l1 ++ l2 ++ l3 := by simp [catL]
  rw [e] at h
  exact h
end Go.Proofs.YtdeflloidhbpmaaGreatDoor
