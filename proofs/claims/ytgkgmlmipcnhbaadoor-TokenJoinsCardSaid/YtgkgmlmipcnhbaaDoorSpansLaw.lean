/-
  The statement TokenSpans, gone through.
-/
import Derived.Test.YtgkgmlmipcnhbaaDoorAwake
import Derived.Test.YtgkgmlmipcnhbaaDoorText
import Derived.Deep.QuietTactic
import Derived.BigQuiet
namespace Go.Proofs.YtgkgmlmipcnhbaaDoor
open Go.RowKit

theorem goods (t : List UInt8) (l : List Tok) (h : toks t 0 = (l, none)) : ∀ i (hi : i < l.length), (l[i]).lo ≤ (l[i]).hi ∧ (l[i]).hi ≤ t.length := by
  have hall : ∀ i (hi : i < l.length), ∃ k, GoI t l i k := by
    intro i
    induction i with
    | zero => intro hi; exact ⟨0, goI_start t l h⟩
    | succ i ih =>
      intro hi
      obtain ⟨k, hk⟩ := ih (by omega)
      exact ⟨_, (goI_step t l i k hk (by omega)).2.2.2.2.2.2.2.2.2.2.2⟩
  intro i hi
  obtain ⟨k, hk⟩ := hall i hi
  have := goI_step t l i k hk hi
  exact ⟨this.2.2.2.1, this.2.2.2.2.1⟩

theorem str_some (s : ByteArray) (a b : Nat) (h : a < b) (hb : b ≤ s.size) : ((s.extract a b).toList == []) = false := by
  rw [beq_eq_false_iff_ne]
  intro e
  rw [ByteArray.toList_eq] at e
  have := congrArg List.length e
  rw [sizeL] at this
  simp at this
  omega

set_option maxRecDepth 100000 in
set_option maxHeartbeats 2000000 in
/-- TokenSpans answers true, and leaves what there was. -/
theorem spans_walk (a0 : ByteArray) (w : World) (hT : Tabs w) :
    Calls Tryd.prog 5 #[.string a0] w fun e w' => e = .returned (.bool true) ∧ Below w.heap.size w w' := by
  by_cases hs : a0.size ≤ 500
  · have hs0 : decide ((500 : Int) < (a0.size : Int)) = false := by simp; omega
    have HT := Lib.hid hT
    clear hT
    have hlen := toks_len a0
    have HA := Lib.hid (fun W hW => all_calls a0 (by omega) W hW)
    go_enter Tryd.func5, Tryd.ntmps5
    go_wp2_with fail
    refine (awake_calls _ HT.out).mono ?_
    rintro e w1 ⟨rfl, hB1⟩
    have HT1 := Lib.hid (HT.out.below hB1 HT.out.2.2)
    go_wp2_with fail
    refine (HA.out _ HT1.out).mono ?_
    rintro e w2 ⟨hB2, h2⟩
    have hB12 := hB1.trans (hB2.mono hB1.size)
    clear hB1 hB2
    rcases h2 with ⟨p, hp, rfl⟩ | ⟨hp, A, c, rfl, ht⟩
    · clear hp
      go_wp2
      go_ret
      exact ⟨rfl, hB12⟩
    · have hall : toks a0.data.toList 0 = ((toks a0.data.toList 0).1, none) := by rw [← hp]
      generalize (toks a0.data.toList 0).1 = xs at hlen ht hall ⊢
      have HALL := Lib.hid hall
      have HTK := Lib.hid ht
      have HGD := Lib.hid (goods a0.data.toList xs hall)
      clear hall ht hp
      go_wp2_with fail
      refine (text_calls a0 (by omega) A c xs (by omega) _ HTK.out (by rw [← sizeL]; exact HGD.out)).mono ?_
      rintro e w3 ⟨A2, c2, rfl, hst, hB3⟩
      have hB13 := hB12.trans (hB3.mono hB12.size)
      have HTK3 := Lib.hid (HTK.out.below hB3 (Nat.le_refl _) |>.mono hB3.size)
      have HST3 := Lib.hid hst
      clear hst hB12 HTK HT HT1 HA HGD
      have hB3z := hB3.size
      clear hB3
      go_wp2
      go_loopw [7, 34] (fun v a wr => ∃ i k : Nat, a = .int .i64 i ∧ v = .int .i64 k ∧ GoI a0.data.toList xs i k ∧ Below w3.heap.size w3 wr) (fun _ a _ => xs.length - (intOf a).toNat)
      case atStart => exact ⟨0, 0, rfl, rfl, goI_start _ _ HALL.out, Below.refl _ _⟩
      case round =>
        obtain ⟨i, k, rfl, rfl, hgo, hB⟩ := hrel
        have HGO := Lib.hid hgo
        have hgo1 := hgo.1
        have hgo2 := hgo.2.1
        rw [sizeL] at hgo2
        clear hgo
        have hbs := hB.size
        by_cases hlt : i < xs.length
        · obtain ⟨s1, s2, s3, s4, s5, s6, s7, s8, s9, s10, s11, s12⟩ := goI_step _ _ _ _ HGO.out hlt
          obtain ⟨b, off, rfl, hbl, hxl, c0, c1, c2⟩ := (HTK3.out.below hB (Nat.le_refl _)).get i hlt
          obtain ⟨b2, off2, rfl, hbl2, hxl2, d0⟩ := (HST3.out.below hB (Nat.le_refl _)).get i hlt
          rw [List.getElem_map, ← extract_bs] at d0
          rw [sizeL] at s5
          have hsk := refSkip_calls a0 (by omega) k hgo2
          rw [s6] at hsk
          have HSK := Lib.hid (fun W => (hsk W).mono (R' := fun e w' => e = .returned (.int .i64 (((xs[i]).lo : Nat) : Int)) ∧ w' = W) (fun _ _ h => ⟨h.1, h.2.symm⟩))
          have S12 := Lib.hid s12
          clear s1 s2 s6 s9 s10 hsk s12
          generalize hgx : xs[i] = x at c0 c1 c2 d0 s3 s4 s5 s7 s8 s11 HSK S12
          clear hgx
          obtain ⟨kd, lo, hi'⟩ := x
          dsimp only at c0 c1 c2 d0 s3 s4 s5 s7 s8 s11 HSK S12
          have hi0 : (0 : Int) ≤ (i : Int) := by omega
          have hi1 : (i : Int) < (xs.length : Int) := by omega
          have g1 : decide (lo < k) = false := by simp; omega
          have g2 : (lo : Int) ≤ (hi' : Int) := by omega
          have g3 : (hi' : Int) ≤ (a0.size : Int) := by omega
          have hz1 : b < wr.heap.size := by omega
          have hz2 : b2 < wr.heap.size := by omega
          have hB4 := fun n => below_drewN' (hB.alloc hbs (.cells #[.int .i64 (kd : Int), .int .i64 (lo : Int), .int .i64 (hi' : Int)] 35)) n
          have HB4 := Lib.hid hB4
          clear hB4
          by_cases hk0 : kd = 0
          · have hie := s7.1 hk0
            have hlh := s8.1 hk0
            subst hk0 hlh
            have k1 : ((i : Int) == (xs.length : Int) - 1) = true := by rw [beq_iff_eq]; omega
            clear s7 s8 hie
            go_wp2_with fail
            go_quiet ((go_at_call 19; exact Calls.quiet_of_same (HSK.out _)))
            go_wp2
            go_roundw
            case rel => exact ⟨i + 1, _, by go_num, rfl, S12.out, HB4.out _⟩
            case measure => simp [intOf]; omega
          · have hie : ¬ i = xs.length - 1 := fun e => hk0 (s7.2 e)
            have hlh : ¬ lo = hi' := fun e => hk0 (s8.2 e)
            have k1 : ((i : Int) == (xs.length : Int) - 1) = false := by rw [beq_eq_false_iff_ne]; omega
            have k2 : ((kd : Int) == 0) = false := by rw [beq_eq_false_iff_ne]; omega
            have k3 : ((a0.extract lo hi').toList == []) = false := str_some a0 lo hi' (by omega) s5
            clear s7 s8 hie hk0
            go_wp2_with fail
            go_quiet ((go_at_call 19; exact Calls.quiet_of_same (HSK.out _)))
            go_wp2
            go_roundw
            case rel => exact ⟨i + 1, _, by go_num, rfl, S12.out, HB4.out _⟩
            case measure => simp [intOf]; omega
        · obtain rfl : i = xs.length := by omega
          have hke := HGO.out.2.2.2 rfl
          rw [sizeL] at hke
          subst hke
          have hpos : 0 < xs.length := by
            have h1 := toks_ne a0.data.toList 0 (Nat.zero_le _) (by rw [HALL.out])
            rw [HALL.out] at h1
            exact List.length_pos_iff.2 h1
          have hB5 := hB13.trans (hB.mono hB13.size)
          go_wp2
          go_ret
          exact ⟨rfl, hB5⟩
  · have hs' : 500 < a0.size := by omega
    go_enter Tryd.func5, Tryd.ntmps5
    go_wp2_with fail
    refine (awake_calls _ hT).mono ?_
    rintro e w1 ⟨rfl, hB1⟩
    have hT1 := Lib.hid (hT.below hB1 hT.2.2)
    go_wp2_with fail
    refine (awake_calls _ hT1.out).mono ?_
    rintro e w2 ⟨rfl, hB2⟩
    go_wp2
    go_ret
    exact ⟨rfl, hB1.trans (hB2.mono hB1.size)⟩

end Go.Proofs.YtgkgmlmipcnhbaaDoor
