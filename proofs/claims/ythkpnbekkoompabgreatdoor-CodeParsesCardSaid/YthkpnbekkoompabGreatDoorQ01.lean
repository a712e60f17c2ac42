/-
  The reference's Next at a sign.
  The reference's Next: the same token, or that there is none.
  The reference's All; whether two lists of tokens are the same.
-/
import Derived.Test.YthkpnbekkoompabGreatDoorQ00
import Derived.Test.YthkpnbekkoompabGreatDoorRefNextBQ
namespace Go.Proofs.YthkpnbekkoompabGreatDoor
open Go.RowKit

theorem strAt_two (w : World) (o o2 : Obj) : StrAt (((w.alloc o).alloc (.cells #[Value.string ⟨#[61, 61]⟩, Value.string ⟨#[33, 61]⟩, Value.string ⟨#[60, 61]⟩, Value.string ⟨#[62, 61]⟩, Value.string ⟨#[38, 38]⟩, Value.string ⟨#[124, 124]⟩] 9)).alloc o2) (w.heap.size + 1 + 1) (some ⟨w.heap.size + 1, 0, none⟩) 6 twoL := by
  have h := strAt_new (w.alloc o) #[Value.string ⟨#[61, 61]⟩, Value.string ⟨#[33, 61]⟩, Value.string ⟨#[60, 61]⟩, Value.string ⟨#[62, 61]⟩, Value.string ⟨#[38, 38]⟩, Value.string ⟨#[124, 124]⟩] 9 twoL 6 rfl (fun i h => by
    have : i = 0 ∨ i = 1 ∨ i = 2 ∨ i = 3 ∨ i = 4 ∨ i = 5 := by simp [twoL] at h; omega
    rcases this with rfl | rfl | rfl | rfl | rfl | rfl <;> rfl)
  rw [World.size_alloc] at h
  exact h.below ((Below.refl _ _).alloc (Nat.le_refl _) o2) (by simp)
theorem strAt_one (w : World) (o o2 : Obj) : StrAt (((w.alloc o).alloc o2).alloc (.cells #[Value.string ⟨#[43]⟩, Value.string ⟨#[45]⟩, Value.string ⟨#[42]⟩, Value.string ⟨#[47]⟩, Value.string ⟨#[37]⟩, Value.string ⟨#[60]⟩, Value.string ⟨#[62]⟩, Value.string ⟨#[33]⟩, Value.string ⟨#[61]⟩, Value.string ⟨#[40]⟩, Value.string ⟨#[41]⟩, Value.string ⟨#[123]⟩, Value.string ⟨#[125]⟩, Value.string ⟨#[91]⟩, Value.string ⟨#[93]⟩, Value.string ⟨#[44]⟩, Value.string ⟨#[59]⟩] 9)) (w.heap.size + 1 + 1 + 1) (some ⟨w.heap.size + 1 + 1, 0, none⟩) 17 oneL := by
  have h := strAt_new ((w.alloc o).alloc o2) #[Value.string ⟨#[43]⟩, Value.string ⟨#[45]⟩, Value.string ⟨#[42]⟩, Value.string ⟨#[47]⟩, Value.string ⟨#[37]⟩, Value.string ⟨#[60]⟩, Value.string ⟨#[62]⟩, Value.string ⟨#[33]⟩, Value.string ⟨#[61]⟩, Value.string ⟨#[40]⟩, Value.string ⟨#[41]⟩, Value.string ⟨#[123]⟩, Value.string ⟨#[125]⟩, Value.string ⟨#[91]⟩, Value.string ⟨#[93]⟩, Value.string ⟨#[44]⟩, Value.string ⟨#[59]⟩] 9 oneL 17 rfl (fun i h => by
    have : i = 0 ∨ i = 1 ∨ i = 2 ∨ i = 3 ∨ i = 4 ∨ i = 5 ∨ i = 6 ∨ i = 7 ∨ i = 8 ∨ i = 9 ∨ i = 10 ∨ i = 11 ∨ i = 12 ∨ i = 13 ∨ i = 14 ∨ i = 15 ∨ i = 16 := by simp [oneL] at h; omega
    rcases this with rfl | rfl | rfl | rfl | rfl | rfl | rfl | rfl | rfl | rfl | rfl | rfl | rfl | rfl | rfl | rfl | rfl <;> rfl)
  rw [World.size_alloc, World.size_alloc] at h
  exact h
theorem two_none (c : UInt8) : isTwo [c] = false := by simp [isTwo, twoL]

set_option maxRecDepth 100000 in
set_option maxHeartbeats 4000000 in
theorem refSign (s : ByteArray) (hs : s.size ≤ 100000) (k f : Nat) (hk : k ≤ s.size) (hf : f < s.size) (h : skipTo false s.data.toList k = f) (hl : isLet s[f] = false) (hdg : isDig s[f] = false) (w : World) :
    Calls Tryz.prog 69 #[.string s, .int .i64 (k : Int)] w fun e w' => e = .returned (.tuple #[tokV ⟨signKL (s.data.toList.drop f), f, f + signL (s.data.toList.drop f)⟩, .int .i64 (badC (signL (s.data.toList.drop f) == 0))]) ∧ Below w.heap.size w w' := by
  have hsk := Lib.hid (fun w => refSkip_calls s hs k hk w)
  rw [h] at hsk
  clear h
  have hne : ((f : Int) == (s.size : Int)) = false := by rw [beq_eq_false_iff_ne]; omega
  have hlt := Lib.hid (fun w => refLetter_calls s[f] w)
  rw [hl] at hlt
  clear hl
  have hdt := Lib.hid (fun w => refDigit_calls s[f] w)
  rw [hdg] at hdt
  clear hdg
  have hx2 : (s.extract f (f + 2)).data.toList = (s.data.toList.drop f).take 2 := by rw [extract_list, Nat.add_sub_cancel_left]
  have hx1 : (s.extract f (f + 1)).data.toList = (s.data.toList.drop f).take 1 := by rw [extract_list, Nat.add_sub_cancel_left]
  have h2 := Lib.hid (has_calls _ 6 6 twoL (s.extract f (f + 2)) (by omega) _ _ (strAt_two w (.cells #[.int .i64 0, .int .i64 0, .int .i64 0] 101) (.cells #[Value.string ⟨#[43]⟩, Value.string ⟨#[45]⟩, Value.string ⟨#[42]⟩, Value.string ⟨#[47]⟩, Value.string ⟨#[37]⟩, Value.string ⟨#[60]⟩, Value.string ⟨#[62]⟩, Value.string ⟨#[33]⟩, Value.string ⟨#[61]⟩, Value.string ⟨#[40]⟩, Value.string ⟨#[41]⟩, Value.string ⟨#[123]⟩, Value.string ⟨#[125]⟩, Value.string ⟨#[91]⟩, Value.string ⟨#[93]⟩, Value.string ⟨#[44]⟩, Value.string ⟨#[59]⟩] 9)))
  have h1 := Lib.hid (has_calls _ 17 17 oneL (s.extract f (f + 1)) (by omega) _ _ (strAt_one w (.cells #[.int .i64 0, .int .i64 0, .int .i64 0] 101) (.cells #[Value.string ⟨#[61, 61]⟩, Value.string ⟨#[33, 61]⟩, Value.string ⟨#[60, 61]⟩, Value.string ⟨#[62, 61]⟩, Value.string ⟨#[38, 38]⟩, Value.string ⟨#[124, 124]⟩] 9)))
  rw [hx2, show hasB twoL ((s.data.toList.drop f).take 2) = isTwo ((s.data.toList.drop f).take 2) from rfl] at h2
  rw [hx1, show hasB oneL ((s.data.toList.drop f).take 1) = isOne ((s.data.toList.drop f).take 1) from rfl] at h1
  clear hx1 hx2
  have HK : Hid (signKL (s.data.toList.drop f) = if signL (s.data.toList.drop f) = 0 then 0 else 4) := Lib.hid rfl
  have HS : Hid (signL (s.data.toList.drop f) = if isTwo ((s.data.toList.drop f).take 2) then 2 else if isOne ((s.data.toList.drop f).take 1) then 1 else 0) := Lib.hid rfl
  by_cases hf2 : f + 2 ≤ s.size
  · have g1 : decide ((f : Int) + 2 ≤ (s.size : Int)) = true := by simp; omega
    have g2 : (f : Int) + 2 ≤ (s.size : Int) := by omega
    have g3 : (f : Int) ≤ (f : Int) + 2 := by omega
    have g4 : (f : Int) + 1 ≤ (s.size : Int) := by omega
    have g5 : (f : Int) ≤ (f : Int) + 1 := by omega
    cases e2 : isTwo ((s.data.toList.drop f).take 2)
    · cases e1 : isOne ((s.data.toList.drop f).take 1)
      · have HS2 : Hid (signL (s.data.toList.drop f) = 0) := Lib.hid (by rw [HS.out, e2, e1]; rfl)
        rw [e2] at h2
        rw [e1] at h1
        clear HS e2 e1
        go_enter Tryz.func69, Tryz.ntmps69
        go_wp2_with fail
        refine (hsk.out _).mono ?_
        rintro e w1 ⟨rfl, rfl⟩
        go_wp2_with fail
        refine (hlt.out _).mono ?_
        rintro e w1 ⟨rfl, rfl⟩
        go_wp2_with fail
        refine (hdt.out _).mono ?_
        rintro e w1 ⟨rfl, rfl⟩
        go_wp2_with fail
        refine h2.out.mono ?_
        rintro e w1 ⟨rfl, rfl⟩
        go_wp2_with fail
        refine h1.out.mono ?_
        rintro e w1 ⟨rfl, rfl⟩
        go_wp2
        refine bodyPost_ret (v := .tuple #[tokV ⟨0, f, f⟩, .int .i64 2]) (by simp [results, Tryz.results69, go_sem, tokV]) rfl ⟨by rw [HK.out, HS2.out]; rfl, ?_⟩
        exact (((Below.refl _ w).alloc (Nat.le_refl _) _).alloc (by simp) _).alloc (by simp; omega) _
      · have HS2 : Hid (signL (s.data.toList.drop f) = 1) := Lib.hid (by rw [HS.out, e2, e1]; rfl)
        rw [e2] at h2
        rw [e1] at h1
        clear HS e2 e1
        go_enter Tryz.func69, Tryz.ntmps69
        go_wp2_with fail
        refine (hsk.out _).mono ?_
        rintro e w1 ⟨rfl, rfl⟩
        go_wp2_with fail
        refine (hlt.out _).mono ?_
        rintro e w1 ⟨rfl, rfl⟩
        go_wp2_with fail
        refine (hdt.out _).mono ?_
        rintro e w1 ⟨rfl, rfl⟩
        go_wp2_with fail
        refine h2.out.mono ?_
        rintro e w1 ⟨rfl, rfl⟩
        go_wp2_with fail
        refine h1.out.mono ?_
        rintro e w1 ⟨rfl, rfl⟩
        go_wp2
        refine bodyPost_ret (v := .tuple #[tokV ⟨4, f, f + 1⟩, .int .i64 0]) (by simp [results, Tryz.results69, go_sem, tokV]) rfl ⟨by rw [HK.out, HS2.out]; rfl, ?_⟩
        exact (((Below.refl _ w).alloc (Nat.le_refl _) _).alloc (by simp) _).alloc (by simp; omega) _
    · have HS2 : Hid (signL (s.data.toList.drop f) = 2) := Lib.hid (by rw [HS.out, e2]; rfl)
      rw [e2] at h2
      clear HS e2
      go_enter Tryz.func69, Tryz.ntmps69
      go_wp2_with fail
      refine (hsk.out _).mono ?_
      rintro e w1 ⟨rfl, rfl⟩
      go_wp2_with fail
      refine (hlt.out _).mono ?_
      rintro e w1 ⟨rfl, rfl⟩
      go_wp2_with fail
      refine (hdt.out _).mono ?_
      rintro e w1 ⟨rfl, rfl⟩
      go_wp2_with fail
      refine h2.out.mono ?_
      rintro e w1 ⟨rfl, rfl⟩
      go_wp2
      refine bodyPost_ret (v := .tuple #[tokV ⟨4, f, f + 2⟩, .int .i64 0]) (by simp [results, Tryz.results69, go_sem, tokV]) rfl ⟨by rw [HK.out, HS2.out]; rfl, ?_⟩
      exact (((Below.refl _ w).alloc (Nat.le_refl _) _).alloc (by simp) _).alloc (by simp; omega) _
  · obtain hf1 : f + 1 = s.size := by omega
    have e2 : isTwo ((s.data.toList.drop f).take 2) = false := by
      rw [List.drop_eq_getElem_cons (by rw [sizeL]; omega), List.drop_eq_nil_of_le (by rw [sizeL]; omega)]
      exact two_none _
    have g1 : decide ((f : Int) + 2 ≤ (s.size : Int)) = false := by simp; omega
    have g4 : (f : Int) + 1 ≤ (s.size : Int) := by omega
    have g5 : (f : Int) ≤ (f : Int) + 1 := by omega
    clear hf1
    cases e1 : isOne ((s.data.toList.drop f).take 1)
    · have HS2 : Hid (signL (s.data.toList.drop f) = 0) := Lib.hid (by rw [HS.out, e2, e1]; rfl)
      rw [e2] at h2
      rw [e1] at h1
      clear HS e2 e1
      go_enter Tryz.func69, Tryz.ntmps69
      go_wp2_with fail
      refine (hsk.out _).mono ?_
      rintro e w1 ⟨rfl, rfl⟩
      go_wp2_with fail
      refine (hlt.out _).mono ?_
      rintro e w1 ⟨rfl, rfl⟩
      go_wp2_with fail
      refine (hdt.out _).mono ?_
      rintro e w1 ⟨rfl, rfl⟩
      go_wp2_with fail
      refine h1.out.mono ?_
      rintro e w1 ⟨rfl, rfl⟩
      go_wp2
      refine bodyPost_ret (v := .tuple #[tokV ⟨0, f, f⟩, .int .i64 2]) (by simp [results, Tryz.results69, go_sem, tokV]) rfl ⟨by rw [HK.out, HS2.out]; rfl, ?_⟩
      exact (((Below.refl _ w).alloc (Nat.le_refl _) _).alloc (by simp) _).alloc (by simp; omega) _
    · have HS2 : Hid (signL (s.data.toList.drop f) = 1) := Lib.hid (by rw [HS.out, e2, e1]; rfl)
      rw [e2] at h2
      rw [e1] at h1
      clear HS e2 e1
      go_enter Tryz.func69, Tryz.ntmps69
      go_wp2_with fail
      refine (hsk.out _).mono ?_
      rintro e w1 ⟨rfl, rfl⟩
      go_wp2_with fail
      refine (hlt.out _).mono ?_
      rintro e w1 ⟨rfl, rfl⟩
      go_wp2_with fail
      refine (hdt.out _).mono ?_
      rintro e w1 ⟨rfl, rfl⟩
      go_wp2_with fail
      refine h1.out.mono ?_
      rintro e w1 ⟨rfl, rfl⟩
      go_wp2
      refine bodyPost_ret (v := .tuple #[tokV ⟨4, f, f + 1⟩, .int .i64 0]) (by simp [results, Tryz.results69, go_sem, tokV]) rfl ⟨by rw [HK.out, HS2.out]; rfl, ?_⟩
      exact (((Below.refl _ w).alloc (Nat.le_refl _) _).alloc (by simp) _).alloc (by simp; omega) _

end Go.Proofs.YthkpnbekkoompabGreatDoor

namespace Go.Proofs.YthkpnbekkoompabGreatDoor
open Go.RowKit

theorem nextBad_of (t : List UInt8) (k f : Nat) (h : skipTo false t k = f) : nextT t k = ⟨(tokL (t.drop f)).1, f, f + (tokL (t.drop f)).2⟩ ∧ nextBad t k = ((tokL (t.drop f)).2 == 0 && decide (f < t.length)) := by
  have h1 : nextT t k = ⟨(tokL (t.drop f)).1, f, f + (tokL (t.drop f)).2⟩ := by simp [nextT, h]
  refine ⟨h1, ?_⟩
  unfold nextBad
  rw [h1]
  dsimp only
  congr 1
  rw [Bool.eq_iff_iff, beq_iff_eq, beq_iff_eq]
  omega

theorem refNext0_calls (s : ByteArray) (hs : s.size ≤ 100000) (k : Nat) (hk : k ≤ s.size) (w : World) :
    Calls Tryz.prog 69 #[.string s, .int .i64 (k : Int)] w fun e w' => e = .returned (.tuple #[tokV (nextT s.data.toList k), .int .i64 (badC (nextBad s.data.toList k))]) ∧ Below w.heap.size w w' := by
  have hle := skipTo_le false s.data.toList k (by rw [sizeL]; exact hk)
  rw [sizeL] at hle
  generalize hf : skipTo false s.data.toList k = f at hle
  obtain ⟨e1, e2⟩ := nextBad_of s.data.toList k f hf
  rw [e1, e2, sizeL]
  clear e1 e2
  by_cases hlt : f < s.size
  · cases el : isLet s[f]
    · cases ed : isDig s[f]
      · rw [tokL_sign s f hlt el ed]
        refine (refSign s hs k f hk hlt hf el ed w).mono fun e w' ⟨he, hB⟩ => ⟨?_, hB⟩
        rw [he]
        simp [hlt]
      · rw [tokL_num s f hlt el ed]
        refine (refNum s hs k f hk hlt hf el ed w).mono fun e w' ⟨he, hB⟩ => ⟨?_, hB⟩
        rw [he]
        have hpos : 0 < run isDig (s.data.toList.drop f) := by rw [drop_cons s f hlt, run_cons, if_pos ed]; omega
        cases hb : numBad (s.data.toList.drop f) (run isDig (s.data.toList.drop f))
        · have : (run isDig (s.data.toList.drop f) == 0) = false := by rw [beq_eq_false_iff_ne]; omega
          simp [numT, this]
        · simp [numT, hlt]
    · rw [tokL_name s f hlt el]
      refine (refName s hs k f hk hlt hf el w).mono fun e w' ⟨he, hB⟩ => ⟨?_, hB⟩
      rw [he]
      have hpos : 0 < run isAl (s.data.toList.drop f) := by rw [drop_cons s f hlt, run_cons, if_pos (by simp [isAl, el])]; omega
      have : (run isAl (s.data.toList.drop f) == 0) = false := by rw [beq_eq_false_iff_ne]; omega
      simp [this, badC]
  · obtain rfl : f = s.size := by omega
    rw [List.drop_eq_nil_of_le (by rw [sizeL]; omega)]
    refine (refEnd s hs k hk hf w).mono fun e w' ⟨he, hB⟩ => ⟨?_, hB⟩
    rw [he]
    simp [tokL, badC]
theorem refNext_calls (s : ByteArray) (hs : s.size ≤ 100000) (k : Nat) (hk : k ≤ s.size) (w : World) (_ : Tabs w) :
    Calls Tryz.prog 69 #[.string s, .int .i64 (k : Int)] w fun e w' => e = .returned (.tuple #[tokV (nextT s.data.toList k), .int .i64 (badC (nextBad s.data.toList k))]) ∧ Below w.heap.size w w' := refNext0_calls s hs k hk w

end Go.Proofs.YthkpnbekkoompabGreatDoor

namespace Go.Proofs.YthkpnbekkoompabGreatDoor
open Go.RowKit

set_option maxRecDepth 100000 in
set_option maxHeartbeats 2000000 in
theorem refAll0_calls (s : ByteArray) (hs : s.size ≤ 20000) (w : World) :
    Calls Tryz.prog 48 #[.string s] w (AllPost s w) := by
  obtain ⟨i0, hi, hz0, hz1, hz2⟩ := info_parts Tryz.infoTk
  have hd : decide ((20000 : Int) < (s.size : Int)) = false := by simp; omega
  go_enter Tryz.func48, Tryz.ntmps48
  go_wp2
  go_loopw [5, 6] (fun v i wr => ∃ (k : Nat) (pre : List Tok), AllI s w k pre v i wr) (fun _ i _ => s.size - (intOf i).toNat)
  case atStart => exact ⟨0, [], Nat.zero_le _, rfl, Nat.le_refl _, by simp, ⟨by simp [flatT], .inl ⟨rfl, by simp⟩⟩, Below.refl _ _⟩
  case round =>
    obtain ⟨k, pre, hk, rfl, hpl, hpre, hown, hB⟩ := hrel
    have HPRE := Lib.hid hpre
    have hbs := hB.size
    have hn := Lib.hid (refNext0_calls s (by omega) k hk wr)
    have hle := nextT_le s.data.toList k (by rw [sizeL]; exact hk)
    rw [sizeL] at hle
    have HK := Lib.hid (nextT_kind s.data.toList k)
    have HB := Lib.hid (toks_bad s.data.toList k)
    have HE := Lib.hid (toks_end s.data.toList k)
    have HM := Lib.hid (toks_more s.data.toList k (by rw [sizeL]; exact hk))
    generalize hx : nextT s.data.toList k = x at hn hle HK HB HE HM
    clear hx hpre
    obtain ⟨kd, lo, hi'⟩ := x
    obtain ⟨hl1, hl2, hl3, hl4⟩ := hle
    dsimp only at hl1 hl2 hl3 hl4 HK HB HE HM
    unfold tokV at hn
    dsimp only at hn
    cases hb : nextBad s.data.toList k
    · rw [hb] at hn HB HE HM
      unfold badC at hn
      rw [if_neg (by simp)] at hn
      clear hb HB
      by_cases h0 : kd = 0
      · subst h0
        have HP : Hid ((toks s.data.toList 0) = (pre ++ [⟨0, lo, hi'⟩], none)) := Lib.hid (by
          have h1 := HPRE.out
          rw [HE.out rfl rfl] at h1
          exact h1)
        clear HE HM HK HPRE
        go_wp2_with fail
        refine hn.out.mono ?_
        rintro e w2 ⟨rfl, hB2⟩
        have hown2 := own_below hown hB2
        have hB3 := hB.trans (hB2.mono hbs)
        have hbs2 := hB2.size
        go_wp2_with (at_builtin; refine wpList_append_own _ rfl _ _ 95 rfl w.heap.size 101 i0 (.agg #[.int .i64 0, .int .i64 0, .int .i64 0]) 3 24 Tryz.underlying95 hi hz0 hz1 hz2 rfl (by decide) u5 _ _ rfl ((hown2.alloc _).alloc _) ⟨w2.heap.size + 1, 0, none⟩ 1 1 [.int .i64 ((0 : Nat) : Int), .int .i64 (lo : Int), .int .i64 (hi' : Int)] rfl rfl (news3 _ _ _ _ _ _) (fun x hx => by simp at hx; rcases hx with rfl | rfl | rfl <;> rfl) (by unfold maxLen; omega) (by omega) (by simp; omega) ?_; intro v' w3 hown' hgrow _; obtain ⟨d0, d1, d2⟩ := box_after hown2 hgrow; obtain ⟨g, cap, rfl⟩ := own_some hown'; have HG := Lib.hid hgrow; clear hgrow)
        have hB4 := below_append ((hB3.alloc (by omega) _).alloc (by simp; omega) _) (Nat.le_refl _) ((hown2.alloc _).alloc _) HG.out
        have hsp := tkAt_of_own (xs := pre ++ [⟨0, lo, hi'⟩]) (by rw [flatT_append]; exact hown')
        have hlen : (pre ++ [(⟨0, lo, hi'⟩ : Tok)]).length = pre.length + 1 := by simp
        go_ret3
        refine ⟨hB4, .inr ⟨by rw [HP.out], some ⟨g, 0, none⟩, cap, ?_, ?_⟩⟩
        · rw [HP.out]; dsimp only; rw [hlen]; rfl
        · rw [HP.out]; dsimp only; rw [hlen]; exact hsp
      · have hkl := HK.out h0
        have HP : Hid ((toks s.data.toList 0) = ((pre ++ [⟨kd, lo, hi'⟩]) ++ (toks s.data.toList hi').1, (toks s.data.toList hi').2)) := Lib.hid (by
          have h1 := HPRE.out
          rw [HM.out rfl h0] at h1
          rw [h1]; simp)
        clear HE HM HK HPRE
        have hk0 : ((kd : Int) == 0) = false := by rw [beq_eq_false_iff_ne]; omega
        clear h0
        go_wp2_with fail
        refine hn.out.mono ?_
        rintro e w2 ⟨rfl, hB2⟩
        have hown2 := own_below hown hB2
        have hB3 := hB.trans (hB2.mono hbs)
        have hbs2 := hB2.size
        go_wp2_with (at_builtin; refine wpList_append_own _ rfl _ _ 95 rfl w.heap.size 101 i0 (.agg #[.int .i64 0, .int .i64 0, .int .i64 0]) 3 24 Tryz.underlying95 hi hz0 hz1 hz2 rfl (by decide) u5 _ _ rfl ((hown2.alloc _).alloc _) ⟨w2.heap.size + 1, 0, none⟩ 1 1 [.int .i64 (kd : Int), .int .i64 (lo : Int), .int .i64 (hi' : Int)] rfl rfl (news3 _ _ _ _ _ _) (fun x hx => by simp at hx; rcases hx with rfl | rfl | rfl <;> rfl) (by unfold maxLen; omega) (by omega) (by simp; omega) ?_; intro v' w3 hown' hgrow _; obtain ⟨d0, d1, d2⟩ := box_after hown2 hgrow; have HG := Lib.hid hgrow; clear hgrow)
        have hB4 := below_append ((hB3.alloc (by omega) _).alloc (by simp; omega) _) (Nat.le_refl _) ((hown2.alloc _).alloc _) HG.out
        go_roundw
        case rel =>
          refine ⟨hi', pre ++ [⟨kd, lo, hi'⟩], by omega, rfl, by simp; omega, HP.out, ?_, hB4⟩
          rw [flatT_append, List.length_append]
          exact hown'
        case measure => simp [intOf]; omega
    · rw [hb] at hn HB
      have HP : Hid ((toks s.data.toList 0) = (pre, some lo)) := Lib.hid (by
        have h1 := HPRE.out
        rw [HB.out rfl] at h1
        rw [h1]; simp)
      unfold badC at hn
      rw [if_pos rfl] at hn
      clear hb HB HE HM HK HPRE
      go_wp2_with fail
      refine hn.out.mono ?_
      rintro e w2 ⟨rfl, hB2⟩
      have hB3 := hB.trans (hB2.mono hbs)
      have hbs2 := hB2.size
      go_wp2
      go_quiet (fail)
      go_wp2
      go_ret3
      refine ⟨below_drewN' (hB3.alloc (by omega) _) _, .inl ⟨lo, by rw [HP.out], rfl⟩⟩

theorem refAll_calls (s : ByteArray) (hs : s.size ≤ 20000) (w : World) (_ : Tabs w) :
    Calls Tryz.prog 48 #[.string s] w (AllPost s w) := refAll0_calls s hs w

end Go.Proofs.YthkpnbekkoompabGreatDoor
