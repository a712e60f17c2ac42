/-
  token.All: a text's tokens, or where something is none.
-/
import Derived.Test.YtccmodefjgjpeaaGreatDoorToks
import Derived.RegionTactic
import Derived.Deep.QuietTactic
import Derived.BigQuiet
namespace Go.Proofs.YtccmodefjgjpeaaGreatDoor
open Go.RowKit

/-- What All answers. -/
def AllPost (s : ByteArray) (w : World) (e : Ending) (w' : World) : Prop :=
  Below w.heap.size w w' ∧ ((∃ p, (toks s.data.toList 0).2 = some p ∧ e = .returned (.tuple #[.slice none 0 0, .int .i64 (p : Int), .int .i64 2])) ∨
  ((toks s.data.toList 0).2 = none ∧ ∃ A c, e = .returned (.tuple #[.slice A (toks s.data.toList 0).1.length c, .int .i64 0, .int .i64 0]) ∧ TkAt w' w'.heap.size A (toks s.data.toList 0).1.length (toks s.data.toList 0).1))
/-- What All's loop knows at the head of a round. -/
def AllI (s : ByteArray) (w : World) (k : Nat) (pre : List Tok) (v i : Value) (wr : World) : Prop :=
  k ≤ s.size ∧ i = .int .i64 (k : Int) ∧ pre.length ≤ k ∧ toks s.data.toList 0 = (pre ++ (toks s.data.toList k).1, (toks s.data.toList k).2) ∧ wr.ownsRow w.heap.size 77 3 v pre.length (flatT pre) ∧ Below w.heap.size w wr

theorem own_some {w : World} {base n : Nat} {e : TypeId} {size : Nat} {v : Value} {xs : List Value} (h : w.ownsRow base e size v (n + 1) xs) : ∃ g cap, v = .slice (some ⟨g, 0, none⟩) (n + 1) cap := by
  rcases h.2 with ⟨_, h0⟩ | ⟨g, cap, cur, hv, _⟩
  · omega
  · exact ⟨g, cap, hv⟩
theorem box_after {W w3 : World} {base n : Nat} {e t : TypeId} {size : Nat} {v : Value} {xs : List Value} {a b c : Value} {o : Obj} (h : W.ownsRow base e size v n xs) (hg : ((W.alloc (.cells #[a, b, c] t)).alloc o).grownBy w3 v.ownBlock) :
    w3.cell? ⟨W.heap.size, 0, none⟩ = some a ∧ w3.cell? ⟨W.heap.size, 1, none⟩ = some b ∧ w3.cell? ⟨W.heap.size, 2, none⟩ = some c := by
  have hne : some W.heap.size ≠ v.ownBlock := fun e => by
    rcases h.2 with ⟨rfl, _⟩ | ⟨g, cap, cur, rfl, hb, hgg, _⟩
    · simp [Value.ownBlock] at e
    · have : W.heap.size = g := by simpa [Value.ownBlock] using e
      have hlt := (Array.getElem?_eq_some_iff.1 hgg).1
      omega
  have hk := hg.block W.heap.size (by simp; omega) hne
  have h0 : ((W.alloc (.cells #[a, b, c] t)).alloc o).heap[W.heap.size]? = some (.cells #[a, b, c] t (0, 0)) := by
    show ((W.heap.push _).push _)[W.heap.size]? = _
    simp [Array.getElem?_push]
  rw [h0] at hk
  refine ⟨?_, ?_, ?_⟩ <;> simp [World.cell?, hk]

theorem own_below {w w' : World} {base n : Nat} {e : TypeId} {size : Nat} {v : Value} {xs : List Value} (h : w.ownsRow base e size v n xs) (hB : Below w.heap.size w w') : w'.ownsRow base e size v n xs := by
  refine ⟨h.1, ?_⟩
  rcases h.2 with h0 | ⟨g, cap, cur, hv, hb, hg, hnc, hcm, hcs, ht⟩
  · exact .inl h0
  · exact .inr ⟨g, cap, cur, hv, hb, (hB.block g (Array.getElem?_eq_some_iff.1 hg).1).trans hg, hnc, hcm, hcs, ht⟩

set_option maxRecDepth 100000 in
set_option maxHeartbeats 2000000 in
theorem all_calls (s : ByteArray) (hs : s.size ≤ 20000) (w : World) (hw : Tabs w) :
    Calls Tryz.prog 26 #[.string s] w (AllPost s w) := by
  obtain ⟨i0, hi, hz0, hz1, hz2⟩ := info_parts Tryz.infoTk
  have hd : decide ((20000 : Int) < (s.size : Int)) = false := by simp; omega
  have hw2 := hw.2.2
  have HW := Lib.hid hw
  clear hw
  go_enter Tryz.func26, Tryz.ntmps26
  go_wp2
  go_loopw [5, 6] (fun v i wr => ∃ (k : Nat) (pre : List Tok), AllI s w k pre v i wr) (fun _ i _ => s.size - (intOf i).toNat)
  case atStart => exact ⟨0, [], Nat.zero_le _, rfl, Nat.le_refl _, by simp, ⟨by simp [flatT], .inl ⟨rfl, by simp⟩⟩, Below.refl _ _⟩
  case round =>
    obtain ⟨k, pre, hk, rfl, hpl, hpre, hown, hB⟩ := hrel
    have HPRE := Lib.hid hpre
    have hbs := hB.size
    have hn := Lib.hid (tnext_calls s (by omega) k hk wr (HW.out.below hB hw2))
    have hle := nextT_le s.data.toList k (by rw [sizeL]; exact hk)
    rw [sizeL] at hle
    have HK := Lib.hid (nextT_kind s.data.toList k)
    have HB := Lib.hid (toks_bad s.data.toList k)
    have HE := Lib.hid (toks_end s.data.toList k)
    have HM := Lib.hid (toks_more s.data.toList k (by rw [sizeL]; exact hk))
    generalize hx : nextT s.data.toList k = x at hn hle HK HB HE HM
    clear hx hpre
    obtain ⟨kd, lo, hi'⟩ := x
    obtain ⟨hl1, hl2, hl3, hl4⟩ := hle
    dsimp only at hl1 hl2 hl3 hl4 HK HB HE HM
    unfold tokV at hn
    dsimp only at hn
    cases hb : nextBad s.data.toList k
    · rw [hb] at hn HB HE HM
      unfold badC at hn
      rw [if_neg (by simp)] at hn
      clear hb HB
      by_cases h0 : kd = 0
      · subst h0
        have HP : Hid ((toks s.data.toList 0) = (pre ++ [⟨0, lo, hi'⟩], none)) := Lib.hid (by
          have h1 := HPRE.out
          rw [HE.out rfl rfl] at h1
          exact h1)
        clear HE HM HK HPRE
        go_wp2_with fail
        refine hn.out.mono ?_
        rintro e w2 ⟨rfl, hB2⟩
        have hown2 := own_below hown hB2
        have hB3 := hB.trans (hB2.mono hbs)
        have hbs2 := hB2.size
        go_wp2_with (at_builtin; refine wpList_append_own _ rfl _ _ 57 rfl w.heap.size 77 i0 (.agg #[.int .i64 0, .int .i64 0, .int .i64 0]) 3 24 Tryz.underlying57 hi hz0 hz1 hz2 rfl (by decide) u5 _ _ rfl ((hown2.alloc _).alloc _) ⟨w2.heap.size + 1, 0, none⟩ 1 1 [.int .i64 ((0 : Nat) : Int), .int .i64 (lo : Int), .int .i64 (hi' : Int)] rfl rfl (news3 _ _ _ _ _ _) (fun x hx => by simp at hx; rcases hx with rfl | rfl | rfl <;> rfl) (by unfold maxLen; omega) (by omega) (by simp; omega) ?_; intro v' w3 hown' hgrow _; obtain ⟨d0, d1, d2⟩ := box_after hown2 hgrow; obtain ⟨g, cap, rfl⟩ := own_some hown'; have HG := Lib.hid hgrow; clear hgrow)
        have hB4 := below_append ((hB3.alloc (by omega) _).alloc (by simp; omega) _) (Nat.le_refl _) ((hown2.alloc _).alloc _) HG.out
        have hsp := tkAt_of_own (xs := pre ++ [⟨0, lo, hi'⟩]) (by rw [flatT_append]; exact hown')
        have hlen : (pre ++ [(⟨0, lo, hi'⟩ : Tok)]).length = pre.length + 1 := by simp
        go_ret3
        refine ⟨hB4, .inr ⟨by rw [HP.out], some ⟨g, 0, none⟩, cap, ?_, ?_⟩⟩
        · rw [HP.out]; dsimp only; rw [hlen]; rfl
        · rw [HP.out]; dsimp only; rw [hlen]; exact hsp
      · have hkl := HK.out h0
        have HP : Hid ((toks s.data.toList 0) = ((pre ++ [⟨kd, lo, hi'⟩]) ++ (toks s.data.toList hi').1, (toks s.data.toList hi').2)) := Lib.hid (by
          have h1 := HPRE.out
          rw [HM.out rfl h0] at h1
          rw [h1]; simp)
        clear HE HM HK HPRE
        have hk0 : ((kd : Int) == 0) = false := by rw [beq_eq_false_iff_ne]; omega
        clear h0
        go_wp2_with fail
        refine hn.out.mono ?_
        rintro e w2 ⟨rfl, hB2⟩
        have hown2 := own_below hown hB2
        have hB3 := hB.trans (hB2.mono hbs)
        have hbs2 := hB2.size
        go_wp2_with (at_builtin; refine wpList_append_own _ rfl _ _ 57 rfl w.heap.size 77 i0 (.agg #[.int .i64 0, .int .i64 0, .int .i64 0]) 3 24 Tryz.underlying57 hi hz0 hz1 hz2 rfl (by decide) u5 _ _ rfl ((hown2.alloc _).alloc _) ⟨w2.heap.size + 1, 0, none⟩ 1 1 [.int .i64 (kd : Int), .int .i64 (lo : Int), .int .i64 (hi' : Int)] rfl rfl (news3 _ _ _ _ _ _) (fun x hx => by simp at hx; rcases hx with rfl | rfl | rfl <;> rfl) (by unfold maxLen; omega) (by omega) (by simp; omega) ?_; intro v' w3 hown' hgrow _; obtain ⟨d0, d1, d2⟩ := box_after hown2 hgrow; have HG := Lib.hid hgrow; clear hgrow)
        have hB4 := below_append ((hB3.alloc (by omega) _).alloc (by simp; omega) _) (Nat.le_refl _) ((hown2.alloc _).alloc _) HG.out
        go_roundw
        case rel =>
          refine ⟨hi', pre ++ [⟨kd, lo, hi'⟩], by omega, rfl, by simp; omega, HP.out, ?_, hB4⟩
          rw [flatT_append, List.length_append]
          exact hown'
        case measure => simp [intOf]; omega
    · rw [hb] at hn HB
      have HP : Hid ((toks s.data.toList 0) = (pre, some lo)) := Lib.hid (by
        have h1 := HPRE.out
        rw [HB.out rfl] at h1
        rw [h1]; simp)
      unfold badC at hn
      rw [if_pos rfl] at hn
      clear hb HB HE HM HK HPRE
      go_wp2_with fail
      refine hn.out.mono ?_
      rintro e w2 ⟨rfl, hB2⟩
      have hB3 := hB.trans (hB2.mono hbs)
      have hbs2 := hB2.size
      go_wp2
      go_quiet (fail)
      go_wp2
      go_ret3
      refine ⟨below_drewN' (hB3.alloc (by omega) _) _, .inl ⟨lo, by rw [HP.out], rfl⟩⟩

end Go.Proofs.YtccmodefjgjpeaaGreatDoor
