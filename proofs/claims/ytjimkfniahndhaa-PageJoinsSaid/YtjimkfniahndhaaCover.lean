/-
  page.Cover: what is in one of some spans, by the cover of the sorted ones.
-/
import Derived.Test.YtjimkfniahndhaaByFrom
import Derived.Test.YtjimkfniahndhaaMathB
import Derived.RegionTactic
import Derived.BigRegion
import Derived.Deep.QuietTactic
import Derived.BigQuiet
namespace Go.Proofs.Ytjimkfniahndhaa
open Go.RowKit

def CovPost (xs : List Sp) (w : World) (e : Ending) (w' : World) : Prop :=
  ∃ (A : Option Addr) (c : Nat) (zs : List Sp), e = .returned (.slice A (covL zs).length c) ∧ SpAt w' w'.heap.size A (covL zs).length (covL zs) ∧ zs.Perm (xs.filter fullB) ∧ zs.Pairwise (fun a b => a.1 ≤ b.1) ∧ Below w.heap.size w w' ∧ (∀ a : Addr, A = some a → w.heap.size ≤ a.block)

/-- What Cover's loop knows at the head of a round. -/
def CovI (zs : List Sp) (w1 : World) (k : Nat) (v : Value) (wr : World) : Prop :=
  wr.ownsRow w1.heap.size 41 2 v (covL (zs.take k)).length (flatS (covL (zs.take k))) ∧ (covL (zs.take k) = [] → v = .slice none 0 0) ∧ Below w1.heap.size w1 wr

theorem own_drewN {w : World} {base n : Nat} {e : TypeId} {size : Nat} {v : Value} {xs : List Value} (h : w.ownsRow base e size v n xs) (k : Nat) : (w.drewN k).ownsRow base e size v n xs := h
theorem below_drewN' {B : Nat} {a w : World} (h : Below B a w) (n : Nat) : Below B a (w.drewN n) := ⟨h.os, h.tape, h.output, h.size, h.block⟩
theorem news2' (W : World) (o : Obj) (n : Nat) (a b : Value) (t : TypeId) : ∀ j u, [a, b][j]? = some u → (((W.alloc o).drewN n).alloc (.cells #[a, b] t)).cell? ((⟨W.heap.size + 1, 0, none⟩ : Addr).add j) = some u := news2 W o a b t

theorem flatS_set (init : List Sp) (l1 l2 m : Int) : (flatS (init ++ [(l1, l2)])).set (init.length * 2 + 1) (.int .i64 m) = flatS (init ++ [(l1, m)]) := by
  rw [flatS_append, flatS_append, List.set_append_right _ _ (by rw [flatS_length]; omega), flatS_length, show init.length * 2 + 1 - init.length * 2 = 1 from by omega]
  rfl

set_option maxRecDepth 100000 in
set_option maxHeartbeats 1000000 in
theorem cover_calls (A : Option Addr) (n c : Nat) (xs : List Sp) (hn : n ≤ 1000) (w : World) (hx : SpAt w w.heap.size A n xs) :
    Calls Try.prog 22 #[.slice A n c] w (CovPost xs w) := by
  obtain ⟨i0, hi, hz0, hz1, hz2⟩ := info_parts Try.info41
  have hby := Lib.hid (byFrom_calls A n c xs hn w hx)
  have HL := Lib.hid hx.1
  clear hx
  go_enter Try.func22, Try.ntmps22
  go_wp2_with fail
  refine hby.out.mono ?_
  rintro e w1 ⟨A1, c1, zs, rfl, hz, hperm, hsort, hB1⟩
  have hzn : zs.length ≤ 1000 := by
    have h1 := hperm.length_eq
    have h2 := List.length_filter_le fullB xs
    have h3 := HL.out
    omega
  have HZ := Lib.hid hz
  have HP := Lib.hid hperm
  have HS := Lib.hid hsort
  clear hz hperm hsort hby HL
  go_wp2
  go_loopw [3, 10] (fun v i wr => ∃ (k : Nat), k ≤ zs.length ∧ i = .int .i64 k ∧ CovI zs w1 k v wr) (fun _ i _ => zs.length - (intOf i).toNat)
  case atStart => exact ⟨0, Nat.zero_le _, rfl, ⟨by simp [covL, flatS], .inl ⟨rfl, by simp [covL]⟩⟩, fun _ => rfl, Below.refl _ _⟩
  case round =>
    obtain ⟨k, hk, rfl, hown, hnil, hB⟩ := hrel
    have hbs := hB.size
    by_cases hlt : k < zs.length
    · have HT := Lib.hid (covL_take zs k hlt)
      have hle : (covL (zs.take k)).length ≤ k := Nat.le_trans (covL_le _) (List.length_take_le _ _)
      obtain ⟨b, off, hA, hbl, hcs⟩ := (HZ.out.below hB (Nat.le_refl _)).2 (by omega)
      subst hA
      obtain ⟨hc1, hc2⟩ := hcs k hlt
      clear hcs
      generalize hgx : zs[k] = x at HT hc1 hc2
      obtain ⟨x1, x2⟩ := x
      dsimp only at hc1 hc2
      clear hgx
      generalize hys : covL (zs.take k) = ys at hown hle HT hnil
      clear hys
      rcases List.eq_nil_or_concat ys with rfl | ⟨init, l, rfl⟩
      · obtain rfl := hnil rfl
        clear hnil
        go_wp2_with fail
        go_quiet (fail)
        have hown2 := own_drewN (hown.alloc (.cells #[.int .i64 x1, .int .i64 x2] 41)) nq
        have hB2 := below_drewN' (hB.alloc hbs (.cells #[.int .i64 x1, .int .i64 x2] 41)) nq
        go_wp2_with (at_builtin; refine wpList_append_own _ rfl _ _ 37 rfl w1.heap.size 41 i0 (.agg #[.int .i64 0, .int .i64 0]) 2 16 Try.underlying37 hi hz0 hz1 hz2 rfl (by decide) (.slice none 0 0) _ _ rfl (hown2.alloc _) ⟨wr.heap.size + 1, 0, none⟩ 1 1 [.int .i64 x1, .int .i64 x2] rfl rfl (news2' _ _ _ _ _ _) (fun x hx => by simp at hx; rcases hx with rfl | rfl <;> rfl) (by unfold maxLen; omega) (by simp) (by simp; omega) ?_; intro v' w3 hown' hgrow hn3)
        have hB3 := below_append (hB2.alloc (by simp; omega) _) (Nat.le_refl _) (hown2.alloc _) hgrow
        go_roundw
        case rel =>
          refine ⟨k + 1, by omega, by go_num, ?_, ?_, hB3⟩
          · rw [HT.out, covStep_nil]
            exact hown'
          · rw [HT.out, covStep_nil]; intro e; cases e
        case measure => simp [intOf]; omega
      · rw [List.concat_eq_append] at *
        clear hnil
        rcases hown.2 with ⟨rfl, h0⟩ | ⟨g, cap, cur, rfl, hb, hg, hnc, hcm, hcs, ht⟩
        · simp at h0
        · clear hg hnc hcm hcs ht
          have hlen : (init ++ [l]).length = init.length + 1 := by simp
          rw [hlen] at hown hle ⊢
          have hownA := hown.alloc (.cells #[.int .i64 x1, .int .i64 x2] 41)
          have hcl := hownA.cellAt (init.length * 2 + 1) (by omega)
          have hfz := hownA.frozenAt (init.length * 2 + 1)
          rw [(flatS_get (init ++ [l]) init.length (by simp)).2] at hcl
          simp only [List.getElem_append_right (Nat.le_refl _), Nat.sub_self, List.getElem_cons_zero] at hcl
          obtain ⟨l1, l2⟩ := l
          dsimp only at hcl
          clear hlen
          generalize hp : init.length = p at hown hownA hle hcl hfz ⊢
          have HPn := Lib.hid hp
          clear hp
          by_cases hj : x1 ≤ l2
          · have hq : (p : Int) < (p : Int) + 1 := by omega
            have hq0 : (0 : Int) ≤ (p : Int) := by omega
            go_wp2_with fail
            go_quiet (fail)
            go_wp2_with fail
            go_region
            obtain ⟨mx, hmx⟩ : ∃ mx, max l2 x2 = mx := ⟨_, rfl⟩
            rw [hmx]
            have HM := Lib.hid hmx
            clear hmx
            have hst := ((own_drewN hownA (nq + 1)).stored (p * 2 + 1) (.int .i64 mx)).1
            have hB3 := (below_drewN' (hB.alloc hbs (.cells #[.int .i64 x1, .int .i64 x2] 41)) (nq + 1)).setCell (p := ⟨g, p * 2 + 1, none⟩) hb (.int .i64 mx)
            have hfl := flatS_set init l1 l2 mx
            rw [HPn.out] at hfl
            rw [hfl] at hst
            clear hfl
            go_wp2
            go_roundw
            case rel =>
              refine ⟨k + 1, by omega, by go_num, ?_, ?_, hB3⟩
              · rw [HT.out, covStep_join init (l1, l2) (x1, x2) hj, List.length_append, HPn.out, HM.out]
                exact hst
              · rw [HT.out, covStep_join init (l1, l2) (x1, x2) hj]; intro e; simp at e
            case measure => simp [intOf]; omega
          · have hj' : decide (x1 ≤ l2) = false := by simp; omega
            have hq : (p : Int) < (p : Int) + 1 := by omega
            have hq0 : (0 : Int) ≤ (p : Int) := by omega
            go_wp2_with fail
            go_quiet (fail)
            have hown2 := own_drewN hownA nq
            have hB2 := below_drewN' (hB.alloc hbs (.cells #[.int .i64 x1, .int .i64 x2] 41)) nq
            go_wp2_with (at_builtin; refine wpList_append_own _ rfl _ _ 37 rfl w1.heap.size 41 i0 (.agg #[.int .i64 0, .int .i64 0]) 2 16 Try.underlying37 hi hz0 hz1 hz2 rfl (by decide) (.slice (some ⟨g, 0, none⟩) (p + 1) cap) _ _ rfl (hown2.alloc _) ⟨wr.heap.size + 1, 0, none⟩ 1 1 [.int .i64 x1, .int .i64 x2] rfl rfl (news2' _ _ _ _ _ _) (fun x hx => by simp at hx; rcases hx with rfl | rfl <;> rfl) (by unfold maxLen; omega) (by omega) (by simp; omega) ?_; intro v' w3 hown' hgrow hn3)
            have hB3 := below_append (hB2.alloc (by simp; omega) _) (Nat.le_refl _) (hown2.alloc _) hgrow
            go_roundw
            case rel =>
              refine ⟨k + 1, by omega, by go_num, ?_, ?_, hB3⟩
              · rw [HT.out, covStep_apart init (l1, l2) (x1, x2) (Int.not_le.2 hj), List.length_append, List.length_append, HPn.out, flatS_append]
                exact hown'
              · rw [HT.out, covStep_apart init (l1, l2) (x1, x2) (Int.not_le.2 hj)]; intro e; simp at e
            case measure => simp [intOf]; omega
    · obtain rfl : k = zs.length := by omega
      have HT := Lib.hid (show zs.take zs.length = zs from List.take_of_length_le (Nat.le_refl _))
      rw [HT.out] at hown hnil
      have hfinB := hB1.trans (hB.mono hB1.size)
      rcases hown.2 with ⟨rfl, h0⟩ | ⟨g, cap, cur, rfl, hb, hg, hnc, hcm, hcs, ht⟩
      · have hsp := spAt_of_own (c := 0) (A := none) (n := 0) (xs := covL zs) (by rw [h0] at hown; exact hown)
        have HSP := Lib.hid (show CovPost xs w (.returned (.slice none 0 0)) wr from ⟨none, 0, zs, by rw [h0], by rw [h0]; exact hsp, HP.out, HS.out, hfinB, fun a e => by cases e⟩)
        clear hsp hown hnil h0
        go_wp2
        go_ret
        exact HSP.out
      · clear hg hnc hcm hcs ht hnil
        have hsp := spAt_of_own hown
        have HSP := Lib.hid (show CovPost xs w (.returned (.slice (some ⟨g, 0, none⟩) (covL zs).length cap)) wr from ⟨_, cap, zs, rfl, hsp, HP.out, HS.out, hfinB, fun a e => by cases e; exact Nat.le_trans hB1.size hb⟩)
        clear hsp hown hb
        go_wp2
        go_ret
        exact HSP.out

end Go.Proofs.Ytjimkfniahndhaa
