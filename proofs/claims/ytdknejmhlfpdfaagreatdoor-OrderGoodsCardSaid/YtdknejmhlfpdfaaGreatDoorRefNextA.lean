/-
  The reference's Next at the text's end, and at a name.
-/
import Derived.Test.YtdknejmhlfpdfaaGreatDoorRefHas
import Derived.Deep.RegionWith
import Derived.BigRegion
namespace Go.Proofs.YtdknejmhlfpdfaaGreatDoor
open Go.RowKit

theorem has_words (w : World) (o : Obj) (s : ByteArray) : Calls Tryz.prog 58 #[.slice (some ⟨w.heap.size + 1, 0, none⟩) 13 13, .string s] ((w.alloc o).alloc (.cells wordsV 9)).drew fun e w' => e = .returned (.bool (isW s.data.toList)) ∧ ((w.alloc o).alloc (.cells wordsV 9)).drew = w' := by
  have h := strAt_new (w.alloc o) wordsV 9 wordsL 13 rfl wordsV_words
  rw [World.size_alloc] at h
  exact has_calls _ 13 13 wordsL s (by omega) _ _ h

theorem refEnd (s : ByteArray) (hs : s.size ≤ 100000) (k : Nat) (hk : k ≤ s.size) (h : skipTo false s.data.toList k = s.size) (w : World) :
    Calls Tryz.prog 41 #[.string s, .int .i64 (k : Int)] w fun e w' => e = .returned (.tuple #[tokV ⟨0, s.size, s.size⟩, .int .i64 0]) ∧ Below w.heap.size w w' := by
  have hsk := Lib.hid (fun w => refSkip_calls s hs k hk w)
  rw [h] at hsk
  clear h
  go_enter Tryz.func41, Tryz.ntmps41
  go_wp2_with fail
  refine (hsk.out _).mono ?_
  rintro e w1 ⟨rfl, rfl⟩
  go_wp2
  refine bodyPost_ret (v := .tuple #[tokV ⟨0, s.size, s.size⟩, .int .i64 0]) (by simp [results, Tryz.results41, go_sem, tokV]) rfl ⟨rfl, ?_⟩
  exact (Below.refl _ w).alloc (Nat.le_refl _) _

set_option maxRecDepth 100000 in
set_option maxHeartbeats 2000000 in
theorem refName (s : ByteArray) (hs : s.size ≤ 100000) (k f : Nat) (hk : k ≤ s.size) (hf : f < s.size) (h : skipTo false s.data.toList k = f) (hl : isLet s[f] = true) (w : World) :
    Calls Tryz.prog 41 #[.string s, .int .i64 (k : Int)] w fun e w' => e = .returned (.tuple #[tokV ⟨nameK ((s.data.toList.drop f).take (run isAl (s.data.toList.drop f))), f, f + run isAl (s.data.toList.drop f)⟩, .int .i64 0]) ∧ Below w.heap.size w w' := by
  have hsk := Lib.hid (fun w => refSkip_calls s hs k hk w)
  rw [h] at hsk
  clear h
  have hne : ((f : Int) == (s.size : Int)) = false := by rw [beq_eq_false_iff_ne]; omega
  have hlt := Lib.hid (fun w => refLetter_calls s[f] w)
  rw [hl] at hlt
  clear hl
  go_enter Tryz.func41, Tryz.ntmps41
  go_wp2_with fail
  refine (hsk.out _).mono ?_
  rintro e w1 ⟨rfl, rfl⟩
  go_wp2_with fail
  refine (hlt.out _).mono ?_
  rintro e w1 ⟨rfl, rfl⟩
  go_wp2
  go_loop [6] (fun a => ∃ i : Nat, i ≤ s.size ∧ f ≤ i ∧ a = .int .i64 i ∧ Hid (runTo isAl s.data.toList i = runTo isAl s.data.toList f)) (fun a => s.size - (intOf a).toNat)
  case atStart => exact ⟨f, by omega, Nat.le_refl _, rfl, Lib.hid rfl⟩
  case round =>
    obtain ⟨i, hi, hfi, rfl, HR⟩ := hrel
    by_cases hlt : i < s.size
    · have hc1 := Lib.hid (fun w => refLetter_calls s[i] w)
      have hc2 := Lib.hid (fun w => refDigit_calls s[i] w)
      have hlt' : i < s.data.toList.length := by simpa using hlt
      have hp : isAl s[i] = (isLet s[i] || isDig s[i]) := rfl
      cases h1 : isLet s[i] <;> cases h2 : isDig s[i]
      case false.false =>
        rw [h1] at hc1 hp
        rw [h2] at hc2 hp
        simp only [Bool.or_false] at hp
        have HS := Lib.hid (runTo_stop isAl s.data.toList i hlt' hp)
        clear hp h1 h2 hlt'
        have hx : (s.extract f i).data.toList = (s.data.toList.drop f).take (run isAl (s.data.toList.drop f)) := by
          have h1 : runTo isAl s.data.toList f = i := by rw [← HR.out, HS.out]
          rw [extract_list]; unfold runTo at h1; rw [show i - f = run isAl (s.data.toList.drop f) from by omega]
        have HX : Hid (nameK ((s.data.toList.drop f).take (run isAl (s.data.toList.drop f))) = nameK (s.extract f i).data.toList ∧ f + run isAl (s.data.toList.drop f) = i) := Lib.hid ⟨by rw [hx], by
          have h1 : runTo isAl s.data.toList f = i := by rw [← HR.out, HS.out]
          exact h1⟩
        have hwd := Lib.hid (has_words w (.cells #[.int .i64 0, .int .i64 0, .int .i64 0] 56) (s.extract f i))
        have h1 : (f : Int) ≤ (i : Int) := by omega
        have h2 : (i : Int) ≤ (s.size : Int) := by omega
        have HK : Hid (nameK (s.extract f i).data.toList = if isW (s.extract f i).data.toList then 3 else 1) := Lib.hid rfl
        clear hx HS HR
        cases hw : isW (s.extract f i).data.toList
        all_goals
          rw [hw] at hwd HK
          clear hw
          go_wp2_with (first | (go_at_call 56; refine (hc1.out _).mono ?_; rintro e w' ⟨rfl, rfl⟩) | (go_at_call 57; refine (hc2.out _).mono ?_; rintro e w' ⟨rfl, rfl⟩))
          go_region_with (first | (go_at_call 59; refine (refWords_calls _).mono ?_; rintro e w' ⟨rfl, rfl⟩) | (go_at_call 58; refine hwd.out.mono ?_; rintro e w' ⟨rfl, rfl⟩))
          go_wp2
        · refine bodyPost_ret (v := .tuple #[tokV ⟨1, f, i⟩, .int .i64 0]) (by simp [results, Tryz.results41, go_sem, tokV]) rfl ⟨by rw [HX.out.1, HX.out.2, HK.out]; rfl, ?_⟩
          exact (((Below.refl _ w).alloc (Nat.le_refl _) _).alloc (by simp) _).drew
        · refine bodyPost_ret (v := .tuple #[tokV ⟨3, f, i⟩, .int .i64 0]) (by simp [results, Tryz.results41, go_sem, tokV]) rfl ⟨by rw [HX.out.1, HX.out.2, HK.out]; rfl, ?_⟩
          exact (((Below.refl _ w).alloc (Nat.le_refl _) _).alloc (by simp) _).drew
      all_goals
        rw [h1] at hc1 hp
        rw [h2] at hc2 hp
        simp only [Bool.or_false, Bool.or_true] at hp
        have HS := Lib.hid (runTo_step isAl s.data.toList i hlt' hp)
        clear hp h1 h2 hlt'
        go_wp2_with (first | (go_at_call 56; refine (hc1.out _).mono ?_; rintro e w' ⟨rfl, rfl⟩) | (go_at_call 57; refine (hc2.out _).mono ?_; rintro e w' ⟨rfl, rfl⟩))
        go_round
        case rel => exact ⟨i + 1, by omega, by omega, by go_num, Lib.hid (HS.out.trans HR.out)⟩
        case measure => simp [intOf]; omega
    · have HS := Lib.hid (runTo_end isAl s.data.toList i (by simp; omega))
      have hd : decide ((i : Int) < (s.size : Int)) = false := by simp; omega
      have hx : (s.extract f i).data.toList = (s.data.toList.drop f).take (run isAl (s.data.toList.drop f)) := by
        have h1 : runTo isAl s.data.toList f = i := by rw [← HR.out, HS.out]
        rw [extract_list]; unfold runTo at h1; rw [show i - f = run isAl (s.data.toList.drop f) from by omega]
      have HX : Hid (nameK ((s.data.toList.drop f).take (run isAl (s.data.toList.drop f))) = nameK (s.extract f i).data.toList ∧ f + run isAl (s.data.toList.drop f) = i) := Lib.hid ⟨by rw [hx], by
        have h1 : runTo isAl s.data.toList f = i := by rw [← HR.out, HS.out]
        exact h1⟩
      have hwd := Lib.hid (has_words w (.cells #[.int .i64 0, .int .i64 0, .int .i64 0] 56) (s.extract f i))
      have h1 : (f : Int) ≤ (i : Int) := by omega
      have h2 : (i : Int) ≤ (s.size : Int) := by omega
      have HK : Hid (nameK (s.extract f i).data.toList = if isW (s.extract f i).data.toList then 3 else 1) := Lib.hid rfl
      clear hx HS HR
      cases hw : isW (s.extract f i).data.toList
      all_goals
        rw [hw] at hwd HK
        clear hw
        go_wp2_with fail
        go_region_with (first | (go_at_call 59; refine (refWords_calls _).mono ?_; rintro e w' ⟨rfl, rfl⟩) | (go_at_call 58; refine hwd.out.mono ?_; rintro e w' ⟨rfl, rfl⟩))
        go_wp2
      · refine bodyPost_ret (v := .tuple #[tokV ⟨1, f, i⟩, .int .i64 0]) (by simp [results, Tryz.results41, go_sem, tokV]) rfl ⟨by rw [HX.out.1, HX.out.2, HK.out]; rfl, ?_⟩
        exact (((Below.refl _ w).alloc (Nat.le_refl _) _).alloc (by simp) _).drew
      · refine bodyPost_ret (v := .tuple #[tokV ⟨3, f, i⟩, .int .i64 0]) (by simp [results, Tryz.results41, go_sem, tokV]) rfl ⟨by rw [HX.out.1, HX.out.2, HK.out]; rfl, ?_⟩
        exact (((Below.refl _ w).alloc (Nat.le_refl _) _).alloc (by simp) _).drew

end Go.Proofs.YtdknejmhlfpdfaaGreatDoor
