/-
  The reference's All; whether two lists of tokens are the same.
-/
import Derived.Test.YtdknejmhlfpdfaaGreatDoorRefNext
namespace Go.Proofs.YtdknejmhlfpdfaaGreatDoor
open Go.RowKit

set_option maxRecDepth 100000 in
set_option maxHeartbeats 2000000 in
theorem refAll0_calls (s : ByteArray) (hs : s.size ≤ 20000) (w : World) :
    Calls Tryz.prog 26 #[.string s] w (AllPost s w) := by
  obtain ⟨i0, hi, hz0, hz1, hz2⟩ := info_parts Tryz.infoTk
  have hd : decide ((20000 : Int) < (s.size : Int)) = false := by simp; omega
  go_enter Tryz.func26, Tryz.ntmps26
  go_wp2
  go_loopw [5, 6] (fun v i wr => ∃ (k : Nat) (pre : List Tok), AllI s w k pre v i wr) (fun _ i _ => s.size - (intOf i).toNat)
  case atStart => exact ⟨0, [], Nat.zero_le _, rfl, Nat.le_refl _, by simp, ⟨by simp [flatT], .inl ⟨rfl, by simp⟩⟩, Below.refl _ _⟩
  case round =>
    obtain ⟨k, pre, hk, rfl, hpl, hpre, hown, hB⟩ := hrel
    have HPRE := Lib.hid hpre
    have hbs := hB.size
    have hn := Lib.hid (refNext0_calls s (by omega) k hk wr)
    have hle := nextT_le s.data.toList k (by rw [sizeL]; exact hk)
    rw [sizeL] at hle
    have HK := Lib.hid (nextT_kind s.data.toList k)
    have HB := Lib.hid (toks_bad s.data.toList k)
    have HE := Lib.hid (toks_end s.data.toList k)
    have HM := Lib.hid (toks_more s.data.toList k (by rw [sizeL]; exact hk))
    generalize hx : nextT s.data.toList k = x at hn hle HK HB HE HM
    clear hx hpre
    obtain ⟨kd, lo, hi'⟩ := x
    obtain ⟨hl1, hl2, hl3, hl4⟩ := hle
    dsimp only at hl1 hl2 hl3 hl4 HK HB HE HM
    unfold tokV at hn
    dsimp only at hn
    cases hb : nextBad s.data.toList k
    · rw [hb] at hn HB HE HM
      unfold badC at hn
      rw [if_neg (by simp)] at hn
      clear hb HB
      by_cases h0 : kd = 0
      · subst h0
        have HP : Hid ((toks s.data.toList 0) = (pre ++ [⟨0, lo, hi'⟩], none)) := Lib.hid (by
          have h1 := HPRE.out
          rw [HE.out rfl rfl] at h1
          exact h1)
        clear HE HM HK HPRE
        go_wp2_with fail
        refine hn.out.mono ?_
        rintro e w2 ⟨rfl, hB2⟩
        have hown2 := own_below hown hB2
        have hB3 := hB.trans (hB2.mono hbs)
        have hbs2 := hB2.size
        go_wp2_with (at_builtin; refine wpList_append_own _ rfl _ _ 50 rfl w.heap.size 56 i0 (.agg #[.int .i64 0, .int .i64 0, .int .i64 0]) 3 24 Tryz.underlying50 hi hz0 hz1 hz2 rfl (by decide) u5 _ _ rfl ((hown2.alloc _).alloc _) ⟨w2.heap.size + 1, 0, none⟩ 1 1 [.int .i64 ((0 : Nat) : Int), .int .i64 (lo : Int), .int .i64 (hi' : Int)] rfl rfl (news3 _ _ _ _ _ _) (fun x hx => by simp at hx; rcases hx with rfl | rfl | rfl <;> rfl) (by unfold maxLen; omega) (by omega) (by simp; omega) ?_; intro v' w3 hown' hgrow _; obtain ⟨d0, d1, d2⟩ := box_after hown2 hgrow; obtain ⟨g, cap, rfl⟩ := own_some hown'; have HG := Lib.hid hgrow; clear hgrow)
        have hB4 := below_append ((hB3.alloc (by omega) _).alloc (by simp; omega) _) (Nat.le_refl _) ((hown2.alloc _).alloc _) HG.out
        have hsp := tkAt_of_own (xs := pre ++ [⟨0, lo, hi'⟩]) (by rw [flatT_append]; exact hown')
        have hlen : (pre ++ [(⟨0, lo, hi'⟩ : Tok)]).length = pre.length + 1 := by simp
        go_ret3
        refine ⟨hB4, .inr ⟨by rw [HP.out], some ⟨g, 0, none⟩, cap, ?_, ?_⟩⟩
        · rw [HP.out]; dsimp only; rw [hlen]; rfl
        · rw [HP.out]; dsimp only; rw [hlen]; exact hsp
      · have hkl := HK.out h0
        have HP : Hid ((toks s.data.toList 0) = ((pre ++ [⟨kd, lo, hi'⟩]) ++ (toks s.data.toList hi').1, (toks s.data.toList hi').2)) := Lib.hid (by
          have h1 := HPRE.out
          rw [HM.out rfl h0] at h1
          rw [h1]; simp)
        clear HE HM HK HPRE
        have hk0 : ((kd : Int) == 0) = false := by rw [beq_eq_false_iff_ne]; omega
        clear h0
        go_wp2_with fail
        refine hn.out.mono ?_
        rintro e w2 ⟨rfl, hB2⟩
        have hown2 := own_below hown hB2
        have hB3 := hB.trans (hB2.mono hbs)
        have hbs2 := hB2.size
        go_wp2_with (at_builtin; refine wpList_append_own _ rfl _ _ 50 rfl w.heap.size 56 i0 (.agg #[.int .i64 0, .int .i64 0, .int .i64 0]) 3 24 Tryz.underlying50 hi hz0 hz1 hz2 rfl (by decide) u5 _ _ rfl ((hown2.alloc _).alloc _) ⟨w2.heap.size + 1, 0, none⟩ 1 1 [.int .i64 (kd : Int), .int .i64 (lo : Int), .int .i64 (hi' : Int)] rfl rfl (news3 _ _ _ _ _ _) (fun x hx => by simp at hx; rcases hx with rfl | rfl | rfl <;> rfl) (by unfold maxLen; omega) (by omega) (by simp; omega) ?_; intro v' w3 hown' hgrow _; obtain ⟨d0, d1, d2⟩ := box_after hown2 hgrow; have HG := Lib.hid hgrow; clear hgrow)
        have hB4 := below_append ((hB3.alloc (by omega) _).alloc (by simp; omega) _) (Nat.le_refl _) ((hown2.alloc _).alloc _) HG.out
        go_roundw
        case rel =>
          refine ⟨hi', pre ++ [⟨kd, lo, hi'⟩], by omega, rfl, by simp; omega, HP.out, ?_, hB4⟩
          rw [flatT_append, List.length_append]
          exact hown'
        case measure => simp [intOf]; omega
    · rw [hb] at hn HB
      have HP : Hid ((toks s.data.toList 0) = (pre, some lo)) := Lib.hid (by
        have h1 := HPRE.out
        rw [HB.out rfl] at h1
        rw [h1]; simp)
      unfold badC at hn
      rw [if_pos rfl] at hn
      clear hb HB HE HM HK HPRE
      go_wp2_with fail
      refine hn.out.mono ?_
      rintro e w2 ⟨rfl, hB2⟩
      have hB3 := hB.trans (hB2.mono hbs)
      have hbs2 := hB2.size
      go_wp2
      go_quiet (fail)
      go_wp2
      go_ret3
      refine ⟨below_drewN' (hB3.alloc (by omega) _) _, .inl ⟨lo, by rw [HP.out], rfl⟩⟩

theorem refAll_calls (s : ByteArray) (hs : s.size ≤ 20000) (w : World) (_ : Tabs w) :
    Calls Tryz.prog 26 #[.string s] w (AllPost s w) := refAll0_calls s hs w

end Go.Proofs.YtdknejmhlfpdfaaGreatDoor
