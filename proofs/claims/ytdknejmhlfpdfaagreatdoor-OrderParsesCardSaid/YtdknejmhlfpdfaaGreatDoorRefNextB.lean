/-
  The reference's Next at a number, and at a sign.
-/
import Derived.Test.YtdknejmhlfpdfaaGreatDoorRefHas
namespace Go.Proofs.YtdknejmhlfpdfaaGreatDoor
open Go.RowKit

/-- The token of a number of n digits, or that it is none. -/
def numT (b : Bool) (f n : Nat) : Tok := if b then ⟨0, f, f⟩ else ⟨2, f, f + n⟩
theorem refNum_ret {f i : Nat} (h : f ≤ i) : Ending.returned (.tuple #[tokV ⟨2, f, i⟩, .int .i64 0]) = .returned (.tuple #[tokV (numT false f (i - f)), .int .i64 (badC false)]) := by
  simp [numT, badC, tokV]; omega

set_option maxRecDepth 100000 in
set_option maxHeartbeats 4000000 in
theorem refNum (s : ByteArray) (hs : s.size ≤ 100000) (k f : Nat) (hk : k ≤ s.size) (hf : f < s.size) (h : skipTo false s.data.toList k = f) (hl : isLet s[f] = false) (hdg : isDig s[f] = true) (w : World) :
    Calls Tryz.prog 41 #[.string s, .int .i64 (k : Int)] w fun e w' => e = .returned (.tuple #[tokV (numT (numBad (s.data.toList.drop f) (run isDig (s.data.toList.drop f))) f (run isDig (s.data.toList.drop f))), .int .i64 (badC (numBad (s.data.toList.drop f) (run isDig (s.data.toList.drop f))))]) ∧ Below w.heap.size w w' := by
  have hsk := Lib.hid (fun w => refSkip_calls s hs k hk w)
  rw [h] at hsk
  clear h
  have hne : ((f : Int) == (s.size : Int)) = false := by rw [beq_eq_false_iff_ne]; omega
  have hlt := Lib.hid (fun w => refLetter_calls s[f] w)
  rw [hl] at hlt
  clear hl
  have hdt := Lib.hid (fun w => refDigit_calls s[f] w)
  rw [hdg] at hdt
  clear hdg
  go_enter Tryz.func41, Tryz.ntmps41
  go_wp2_with fail
  refine (hsk.out _).mono ?_
  rintro e w1 ⟨rfl, rfl⟩
  go_wp2_with fail
  refine (hlt.out _).mono ?_
  rintro e w1 ⟨rfl, rfl⟩
  go_wp2_with fail
  refine (hdt.out _).mono ?_
  rintro e w1 ⟨rfl, rfl⟩
  go_wp2
  go_loop [6] (fun a => ∃ i : Nat, i ≤ s.size ∧ f ≤ i ∧ a = .int .i64 i ∧ Hid (runTo isDig s.data.toList i = runTo isDig s.data.toList f)) (fun a => s.size - (intOf a).toNat)
  case atStart => exact ⟨f, by omega, Nat.le_refl _, rfl, Lib.hid rfl⟩
  case round =>
    obtain ⟨i, hi, hfi, rfl, HR⟩ := hrel
    by_cases hlt : i < s.size
    · have hc2 := Lib.hid (fun w => refDigit_calls s[i] w)
      have hlt' : i < s.data.toList.length := by simpa using hlt
      cases h2 : isDig s[i]
      · have HS := Lib.hid (runTo_stop isDig s.data.toList i hlt' h2)
        rw [h2] at hc2
        clear h2 hlt'
        have hrun : run isDig (s.data.toList.drop f) = i - f := by
          have h1 : runTo isDig s.data.toList f = i := by rw [← HR.out, HS.out]
          unfold runTo at h1; omega
        have hnb := numBad_eq s f hf i hfi hi
        rw [dif_pos hlt] at hnb
        have hlet := Lib.hid (fun w => refLetter_calls s[i] w)
        have HRUN := Lib.hid hrun
        clear hrun HS HR
        cases he : isLet s[i] <;> cases ha : decide ((18 : Int) < (i : Int) - (f : Int)) <;> cases hb : ((s[f].toNat : Int) == 48) <;> cases hd : decide ((1 : Int) < (i : Int) - (f : Int))
        all_goals
          rw [he, ha, hb, hd] at hnb
          rw [he] at hlet
          simp only [Bool.or_true, Bool.or_false, Bool.and_true, Bool.and_false] at hnb
          have HN := Lib.hid hnb
          clear he hnb
          go_wp2_with (first | (go_at_call 57; refine (hc2.out _).mono ?_; rintro e w' ⟨rfl, rfl⟩) | (go_at_call 56; refine (hlet.out _).mono ?_; rintro e w' ⟨rfl, rfl⟩))
          first
            | (refine bodyPost_ret (v := .tuple #[tokV ⟨0, f, f⟩, .int .i64 2]) (by simp [results, Tryz.results41, go_sem, tokV]) rfl ⟨by rw [HRUN.out, HN.out]; rfl, ?_⟩
               exact (Below.refl _ w).alloc (Nat.le_refl _) _)
            | (refine bodyPost_ret (v := .tuple #[tokV ⟨2, f, i⟩, .int .i64 0]) (by simp [results, Tryz.results41, go_sem, tokV]) rfl ⟨by rw [HRUN.out, HN.out]; exact refNum_ret hfi, ?_⟩
               exact (Below.refl _ w).alloc (Nat.le_refl _) _)
      · have HS := Lib.hid (runTo_step isDig s.data.toList i hlt' h2)
        rw [h2] at hc2
        clear h2 hlt'
        go_wp2_with (go_at_call 57; refine (hc2.out _).mono ?_; rintro e w' ⟨rfl, rfl⟩)
        go_round
        case rel => exact ⟨i + 1, by omega, by omega, by go_num, Lib.hid (HS.out.trans HR.out)⟩
        case measure => simp [intOf]; omega
    · have HS := Lib.hid (runTo_end isDig s.data.toList i (by simp; omega))
      have hdd : decide ((i : Int) < (s.size : Int)) = false := by simp; omega
      have hrun : run isDig (s.data.toList.drop f) = i - f := by
        have h1 : runTo isDig s.data.toList f = i := by rw [← HR.out, HS.out]
        unfold runTo at h1; omega
      have hnb := numBad_eq s f hf i hfi hi
      rw [dif_neg hlt] at hnb
      have HRUN := Lib.hid hrun
      clear hrun HS HR
      cases ha : decide ((18 : Int) < (i : Int) - (f : Int)) <;> cases hb : ((s[f].toNat : Int) == 48) <;> cases hd : decide ((1 : Int) < (i : Int) - (f : Int))
      all_goals
        rw [ha, hb, hd] at hnb
        simp only [Bool.or_true, Bool.or_false, Bool.and_true, Bool.and_false] at hnb
        have HN := Lib.hid hnb
        clear hnb
        go_wp2
        first
          | (refine bodyPost_ret (v := .tuple #[tokV ⟨0, f, f⟩, .int .i64 2]) (by simp [results, Tryz.results41, go_sem, tokV]) rfl ⟨by rw [HRUN.out, HN.out]; rfl, ?_⟩
             exact (Below.refl _ w).alloc (Nat.le_refl _) _)
          | (refine bodyPost_ret (v := .tuple #[tokV ⟨2, f, i⟩, .int .i64 0]) (by simp [results, Tryz.results41, go_sem, tokV]) rfl ⟨by rw [HRUN.out, HN.out]; exact refNum_ret hfi, ?_⟩
             exact (Below.refl _ w).alloc (Nat.le_refl _) _)

end Go.Proofs.YtdknejmhlfpdfaaGreatDoor
