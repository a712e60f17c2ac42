/-
  The reference's Next at a sign.
-/
import Derived.Test.YtdknejmhlfpdfaaGreatDoorRefHas
namespace Go.Proofs.YtdknejmhlfpdfaaGreatDoor
open Go.RowKit

theorem strAt_two (w : World) (o o2 : Obj) : StrAt (((w.alloc o).alloc (.cells #[Value.string ⟨#[61, 61]⟩, Value.string ⟨#[33, 61]⟩, Value.string ⟨#[60, 61]⟩, Value.string ⟨#[62, 61]⟩, Value.string ⟨#[38, 38]⟩, Value.string ⟨#[124, 124]⟩] 9)).alloc o2) (w.heap.size + 1 + 1) (some ⟨w.heap.size + 1, 0, none⟩) 6 twoL := by
  have h := strAt_new (w.alloc o) #[Value.string ⟨#[61, 61]⟩, Value.string ⟨#[33, 61]⟩, Value.string ⟨#[60, 61]⟩, Value.string ⟨#[62, 61]⟩, Value.string ⟨#[38, 38]⟩, Value.string ⟨#[124, 124]⟩] 9 twoL 6 rfl (fun i h => by
    have : i = 0 ∨ i = 1 ∨ i = 2 ∨ i = 3 ∨ i = 4 ∨ i = 5 := by simp [twoL] at h; omega
    rcases this with rfl | rfl | rfl | rfl | rfl | rfl <;> rfl)
  rw [World.size_alloc] at h
  exact h.below ((Below.refl _ _).alloc (Nat.le_refl _) o2) (by simp)
theorem strAt_one (w : World) (o o2 : Obj) : StrAt (((w.alloc o).alloc o2).alloc (.cells #[Value.string ⟨#[43]⟩, Value.string ⟨#[45]⟩, Value.string ⟨#[42]⟩, Value.string ⟨#[47]⟩, Value.string ⟨#[37]⟩, Value.string ⟨#[60]⟩, Value.string ⟨#[62]⟩, Value.string ⟨#[33]⟩, Value.string ⟨#[61]⟩, Value.string ⟨#[40]⟩, Value.string ⟨#[41]⟩, Value.string ⟨#[123]⟩, Value.string ⟨#[125]⟩, Value.string ⟨#[91]⟩, Value.string ⟨#[93]⟩, Value.string ⟨#[44]⟩, Value.string ⟨#[59]⟩] 9)) (w.heap.size + 1 + 1 + 1) (some ⟨w.heap.size + 1 + 1, 0, none⟩) 17 oneL := by
  have h := strAt_new ((w.alloc o).alloc o2) #[Value.string ⟨#[43]⟩, Value.string ⟨#[45]⟩, Value.string ⟨#[42]⟩, Value.string ⟨#[47]⟩, Value.string ⟨#[37]⟩, Value.string ⟨#[60]⟩, Value.string ⟨#[62]⟩, Value.string ⟨#[33]⟩, Value.string ⟨#[61]⟩, Value.string ⟨#[40]⟩, Value.string ⟨#[41]⟩, Value.string ⟨#[123]⟩, Value.string ⟨#[125]⟩, Value.string ⟨#[91]⟩, Value.string ⟨#[93]⟩, Value.string ⟨#[44]⟩, Value.string ⟨#[59]⟩] 9 oneL 17 rfl (fun i h => by
    have : i = 0 ∨ i = 1 ∨ i = 2 ∨ i = 3 ∨ i = 4 ∨ i = 5 ∨ i = 6 ∨ i = 7 ∨ i = 8 ∨ i = 9 ∨ i = 10 ∨ i = 11 ∨ i = 12 ∨ i = 13 ∨ i = 14 ∨ i = 15 ∨ i = 16 := by simp [oneL] at h; omega
    rcases this with rfl | rfl | rfl | rfl | rfl | rfl | rfl | rfl | rfl | rfl | rfl | rfl | rfl | rfl | rfl | rfl | rfl <;> rfl)
  rw [World.size_alloc, World.size_alloc] at h
  exact h
theorem two_none (c : UInt8) : isTwo [c] = false := by simp [isTwo, twoL]

set_option maxRecDepth 100000 in
set_option maxHeartbeats 4000000 in
theorem refSign (s : ByteArray) (hs : s.size ≤ 100000) (k f : Nat) (hk : k ≤ s.size) (hf : f < s.size) (h : skipTo false s.data.toList k = f) (hl : isLet s[f] = false) (hdg : isDig s[f] = false) (w : World) :
    Calls Tryz.prog 41 #[.string s, .int .i64 (k : Int)] w fun e w' => e = .returned (.tuple #[tokV ⟨signKL (s.data.toList.drop f), f, f + signL (s.data.toList.drop f)⟩, .int .i64 (badC (signL (s.data.toList.drop f) == 0))]) ∧ Below w.heap.size w w' := by
  have hsk := Lib.hid (fun w => refSkip_calls s hs k hk w)
  rw [h] at hsk
  clear h
  have hne : ((f : Int) == (s.size : Int)) = false := by rw [beq_eq_false_iff_ne]; omega
  have hlt := Lib.hid (fun w => refLetter_calls s[f] w)
  rw [hl] at hlt
  clear hl
  have hdt := Lib.hid (fun w => refDigit_calls s[f] w)
  rw [hdg] at hdt
  clear hdg
  have hx2 : (s.extract f (f + 2)).data.toList = (s.data.toList.drop f).take 2 := by rw [extract_list, Nat.add_sub_cancel_left]
  have hx1 : (s.extract f (f + 1)).data.toList = (s.data.toList.drop f).take 1 := by rw [extract_list, Nat.add_sub_cancel_left]
  have h2 := Lib.hid (has_calls _ 6 6 twoL (s.extract f (f + 2)) (by omega) _ _ (strAt_two w (.cells #[.int .i64 0, .int .i64 0, .int .i64 0] 56) (.cells #[Value.string ⟨#[43]⟩, Value.string ⟨#[45]⟩, Value.string ⟨#[42]⟩, Value.string ⟨#[47]⟩, Value.string ⟨#[37]⟩, Value.string ⟨#[60]⟩, Value.string ⟨#[62]⟩, Value.string ⟨#[33]⟩, Value.string ⟨#[61]⟩, Value.string ⟨#[40]⟩, Value.string ⟨#[41]⟩, Value.string ⟨#[123]⟩, Value.string ⟨#[125]⟩, Value.string ⟨#[91]⟩, Value.string ⟨#[93]⟩, Value.string ⟨#[44]⟩, Value.string ⟨#[59]⟩] 9)))
  have h1 := Lib.hid (has_calls _ 17 17 oneL (s.extract f (f + 1)) (by omega) _ _ (strAt_one w (.cells #[.int .i64 0, .int .i64 0, .int .i64 0] 56) (.cells #[Value.string ⟨#[61, 61]⟩, Value.string ⟨#[33, 61]⟩, Value.string ⟨#[60, 61]⟩, Value.string ⟨#[62, 61]⟩, Value.string ⟨#[38, 38]⟩, Value.string ⟨#[124, 124]⟩] 9)))
  rw [hx2, show hasB twoL ((s.data.toList.drop f).take 2) = isTwo ((s.data.toList.drop f).take 2) from rfl] at h2
  rw [hx1, show hasB oneL ((s.data.toList.drop f).take 1) = isOne ((s.data.toList.drop f).take 1) from rfl] at h1
  clear hx1 hx2
  have HK : Hid (signKL (s.data.toList.drop f) = if signL (s.data.toList.drop f) = 0 then 0 else 4) := Lib.hid rfl
  have HS : Hid (signL (s.data.toList.drop f) = if isTwo ((s.data.toList.drop f).take 2) then 2 else if isOne ((s.data.toList.drop f).take 1) then 1 else 0) := Lib.hid rfl
  by_cases hf2 : f + 2 ≤ s.size
  · have g1 : decide ((f : Int) + 2 ≤ (s.size : Int)) = true := by simp; omega
    have g2 : (f : Int) + 2 ≤ (s.size : Int) := by omega
    have g3 : (f : Int) ≤ (f : Int) + 2 := by omega
    have g4 : (f : Int) + 1 ≤ (s.size : Int) := by omega
    have g5 : (f : Int) ≤ (f : Int) + 1 := by omega
    cases e2 : isTwo ((s.data.toList.drop f).take 2)
    · cases e1 : isOne ((s.data.toList.drop f).take 1)
      · have HS2 : Hid (signL (s.data.toList.drop f) = 0) := Lib.hid (by rw [HS.out, e2, e1]; rfl)
        rw [e2] at h2
        rw [e1] at h1
        clear HS e2 e1
        go_enter Tryz.func41, Tryz.ntmps41
        go_wp2_with fail
        refine (hsk.out _).mono ?_
        rintro e w1 ⟨rfl, rfl⟩
        go_wp2_with fail
        refine (hlt.out _).mono ?_
        rintro e w1 ⟨rfl, rfl⟩
        go_wp2_with fail
        refine (hdt.out _).mono ?_
        rintro e w1 ⟨rfl, rfl⟩
        go_wp2_with fail
        refine h2.out.mono ?_
        rintro e w1 ⟨rfl, rfl⟩
        go_wp2_with fail
        refine h1.out.mono ?_
        rintro e w1 ⟨rfl, rfl⟩
        go_wp2
        refine bodyPost_ret (v := .tuple #[tokV ⟨0, f, f⟩, .int .i64 2]) (by simp [results, Tryz.results41, go_sem, tokV]) rfl ⟨by rw [HK.out, HS2.out]; rfl, ?_⟩
        exact (((Below.refl _ w).alloc (Nat.le_refl _) _).alloc (by simp) _).alloc (by simp; omega) _
      · have HS2 : Hid (signL (s.data.toList.drop f) = 1) := Lib.hid (by rw [HS.out, e2, e1]; rfl)
        rw [e2] at h2
        rw [e1] at h1
        clear HS e2 e1
        go_enter Tryz.func41, Tryz.ntmps41
        go_wp2_with fail
        refine (hsk.out _).mono ?_
        rintro e w1 ⟨rfl, rfl⟩
        go_wp2_with fail
        refine (hlt.out _).mono ?_
        rintro e w1 ⟨rfl, rfl⟩
        go_wp2_with fail
        refine (hdt.out _).mono ?_
        rintro e w1 ⟨rfl, rfl⟩
        go_wp2_with fail
        refine h2.out.mono ?_
        rintro e w1 ⟨rfl, rfl⟩
        go_wp2_with fail
        refine h1.out.mono ?_
        rintro e w1 ⟨rfl, rfl⟩
        go_wp2
        refine bodyPost_ret (v := .tuple #[tokV ⟨4, f, f + 1⟩, .int .i64 0]) (by simp [results, Tryz.results41, go_sem, tokV]) rfl ⟨by rw [HK.out, HS2.out]; rfl, ?_⟩
        exact (((Below.refl _ w).alloc (Nat.le_refl _) _).alloc (by simp) _).alloc (by simp; omega) _
    · have HS2 : Hid (signL (s.data.toList.drop f) = 2) := Lib.hid (by rw [HS.out, e2]; rfl)
      rw [e2] at h2
      clear HS e2
      go_enter Tryz.func41, Tryz.ntmps41
      go_wp2_with fail
      refine (hsk.out _).mono ?_
      rintro e w1 ⟨rfl, rfl⟩
      go_wp2_with fail
      refine (hlt.out _).mono ?_
      rintro e w1 ⟨rfl, rfl⟩
      go_wp2_with fail
      refine (hdt.out _).mono ?_
      rintro e w1 ⟨rfl, rfl⟩
      go_wp2_with fail
      refine h2.out.mono ?_
      rintro e w1 ⟨rfl, rfl⟩
      go_wp2
      refine bodyPost_ret (v := .tuple #[tokV ⟨4, f, f + 2⟩, .int .i64 0]) (by simp [results, Tryz.results41, go_sem, tokV]) rfl ⟨by rw [HK.out, HS2.out]; rfl, ?_⟩
      exact (((Below.refl _ w).alloc (Nat.le_refl _) _).alloc (by simp) _).alloc (by simp; omega) _
  · obtain hf1 : f + 1 = s.size := by omega
    have e2 : isTwo ((s.data.toList.drop f).take 2) = false := by
      rw [List.drop_eq_getElem_cons (by rw [sizeL]; omega), List.drop_eq_nil_of_le (by rw [sizeL]; omega)]
      exact two_none _
    have g1 : decide ((f : Int) + 2 ≤ (s.size : Int)) = false := by simp; omega
    have g4 : (f : Int) + 1 ≤ (s.size : Int) := by omega
    have g5 : (f : Int) ≤ (f : Int) + 1 := by omega
    clear hf1
    cases e1 : isOne ((s.data.toList.drop f).take 1)
    · have HS2 : Hid (signL (s.data.toList.drop f) = 0) := Lib.hid (by rw [HS.out, e2, e1]; rfl)
      rw [e2] at h2
      rw [e1] at h1
      clear HS e2 e1
      go_enter Tryz.func41, Tryz.ntmps41
      go_wp2_with fail
      refine (hsk.out _).mono ?_
      rintro e w1 ⟨rfl, rfl⟩
      go_wp2_with fail
      refine (hlt.out _).mono ?_
      rintro e w1 ⟨rfl, rfl⟩
      go_wp2_with fail
      refine (hdt.out _).mono ?_
      rintro e w1 ⟨rfl, rfl⟩
      go_wp2_with fail
      refine h1.out.mono ?_
      rintro e w1 ⟨rfl, rfl⟩
      go_wp2
      refine bodyPost_ret (v := .tuple #[tokV ⟨0, f, f⟩, .int .i64 2]) (by simp [results, Tryz.results41, go_sem, tokV]) rfl ⟨by rw [HK.out, HS2.out]; rfl, ?_⟩
      exact (((Below.refl _ w).alloc (Nat.le_refl _) _).alloc (by simp) _).alloc (by simp; omega) _
    · have HS2 : Hid (signL (s.data.toList.drop f) = 1) := Lib.hid (by rw [HS.out, e2, e1]; rfl)
      rw [e2] at h2
      rw [e1] at h1
      clear HS e2 e1
      go_enter Tryz.func41, Tryz.ntmps41
      go_wp2_with fail
      refine (hsk.out _).mono ?_
      rintro e w1 ⟨rfl, rfl⟩
      go_wp2_with fail
      refine (hlt.out _).mono ?_
      rintro e w1 ⟨rfl, rfl⟩
      go_wp2_with fail
      refine (hdt.out _).mono ?_
      rintro e w1 ⟨rfl, rfl⟩
      go_wp2_with fail
      refine h1.out.mono ?_
      rintro e w1 ⟨rfl, rfl⟩
      go_wp2
      refine bodyPost_ret (v := .tuple #[tokV ⟨4, f, f + 1⟩, .int .i64 0]) (by simp [results, Tryz.results41, go_sem, tokV]) rfl ⟨by rw [HK.out, HS2.out]; rfl, ?_⟩
      exact (((Below.refl _ w).alloc (Nat.le_refl _) _).alloc (by simp) _).alloc (by simp; omega) _

end Go.Proofs.YtdknejmhlfpdfaaGreatDoor
