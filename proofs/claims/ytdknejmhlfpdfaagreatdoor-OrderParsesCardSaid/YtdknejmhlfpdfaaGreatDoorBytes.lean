/-
  The functions on one byte: blanks, letters, digits.
-/
import Derived.WalkKit
import Derived.WalkSpells
import Derived.WalkSmall
import Derived.Lib.Hide
import Derived.Test.YtdknejmhlfpdfaaGreatDoorRows
import Derived.Test.YtdknejmhlfpdfaaGreatDoorMathA
namespace Go.Proofs.YtdknejmhlfpdfaaGreatDoor
open Go.RowKit

theorem beq_int (c : UInt8) (n : Nat) (hn : n < 256) : (c == UInt8.ofNat n) = ((c.toNat : Int) == (n : Int)) := by
  rw [Bool.eq_iff_iff]; simp only [beq_iff_eq]
  constructor
  · rintro rfl; simp; omega
  · intro h; apply UInt8.toNat_inj.1; simp; omega
theorem le_int (c : UInt8) (n : Nat) (hn : n < 256) : decide (UInt8.ofNat n ≤ c) = decide ((n : Int) ≤ (c.toNat : Int)) := by
  rw [Bool.eq_iff_iff]; simp [UInt8.le_iff_toNat_le]; omega
theorem ge_int (c : UInt8) (n : Nat) (hn : n < 256) : decide (c ≤ UInt8.ofNat n) = decide ((c.toNat : Int) ≤ (n : Int)) := by
  rw [Bool.eq_iff_iff]; simp [UInt8.le_iff_toNat_le]; omega
theorem isBl_int (c : UInt8) : isBl c = ((((c.toNat : Int) == 32) || ((c.toNat : Int) == 9)) || ((c.toNat : Int) == 10) || ((c.toNat : Int) == 13)) := by
  have h1 := beq_int c 32 (by omega)
  have h2 := beq_int c 9 (by omega)
  have h3 := beq_int c 10 (by omega)
  have h4 := beq_int c 13 (by omega)
  simp only [isBl, ← show UInt8.ofNat 32 = 32 from rfl, ← show UInt8.ofNat 9 = 9 from rfl, ← show UInt8.ofNat 10 = 10 from rfl, ← show UInt8.ofNat 13 = 13 from rfl, h1, h2, h3, h4]
  rfl
theorem isLet_int (c : UInt8) : isLet c = ((decide (97 ≤ (c.toNat : Int)) && decide ((c.toNat : Int) ≤ 122)) || (decide (65 ≤ (c.toNat : Int)) && decide ((c.toNat : Int) ≤ 90)) || ((c.toNat : Int) == 95)) := by
  have h1 := le_int c 97 (by omega)
  have h2 := ge_int c 122 (by omega)
  have h3 := le_int c 65 (by omega)
  have h4 := ge_int c 90 (by omega)
  have h5 := beq_int c 95 (by omega)
  simp only [isLet, ← show UInt8.ofNat 97 = 97 from rfl, ← show UInt8.ofNat 122 = 122 from rfl, ← show UInt8.ofNat 65 = 65 from rfl, ← show UInt8.ofNat 90 = 90 from rfl, ← show UInt8.ofNat 95 = 95 from rfl, h1, h2, h3, h4, h5]
  rfl
theorem isDig_int (c : UInt8) : isDig c = (decide (48 ≤ (c.toNat : Int)) && decide ((c.toNat : Int) ≤ 57)) := by
  have h1 := le_int c 48 (by omega)
  have h2 := ge_int c 57 (by omega)
  simp only [isDig, ← show UInt8.ofNat 48 = 48 from rfl, ← show UInt8.ofNat 57 = 57 from rfl, h1, h2]
  rfl
theorem notNl_int (c : UInt8) : notNl c = ((c.toNat : Int) != 10) := by
  have h1 := beq_int c 10 (by omega)
  simp only [notNl, bne, ← show UInt8.ofNat 10 = 10 from rfl, h1]
  rfl

set_option maxHeartbeats 400000 in
theorem isBlank_calls (c : UInt8) (w : World) : Calls Tryz.prog 81 #[.int .u8 (c.toNat : Int)] w fun e w' => e = .returned (.bool (isBl c)) ∧ w = w' := by
  have hb := isBl_int c
  cases h0 : ((c.toNat : Int) == 32) <;> cases h1 : ((c.toNat : Int) == 9) <;> cases h2 : ((c.toNat : Int) == 10) <;> cases h3 : ((c.toNat : Int) == 13)
  all_goals
    rw [h0, h1, h2, h3] at hb
    simp only [Bool.or_true, Bool.or_false] at hb
    rw [hb]
    clear hb
    go_enter Tryz.func81, Tryz.ntmps81
    go_wp2
    go_ret
    exact ⟨rfl, rfl⟩

set_option maxHeartbeats 400000 in
theorem isLetter_calls (c : UInt8) (w : World) : Calls Tryz.prog 83 #[.int .u8 (c.toNat : Int)] w fun e w' => e = .returned (.bool (isLet c)) ∧ w = w' := by
  have hb := isLet_int c
  cases h0 : decide (97 ≤ (c.toNat : Int)) <;> cases h1 : decide ((c.toNat : Int) ≤ 122) <;> cases h2 : decide (65 ≤ (c.toNat : Int)) <;> cases h3 : decide ((c.toNat : Int) ≤ 90) <;> cases h4 : ((c.toNat : Int) == 95)
  all_goals
    rw [h0, h1, h2, h3, h4] at hb
    simp only [Bool.or_true, Bool.or_false, Bool.and_true, Bool.and_false] at hb
    rw [hb]
    clear hb
    go_enter Tryz.func83, Tryz.ntmps83
    go_wp2
    go_ret
    exact ⟨rfl, rfl⟩

set_option maxHeartbeats 400000 in
theorem isDigit_calls (c : UInt8) (w : World) : Calls Tryz.prog 85 #[.int .u8 (c.toNat : Int)] w fun e w' => e = .returned (.bool (isDig c)) ∧ w = w' := by
  have hb := isDig_int c
  cases h0 : decide (48 ≤ (c.toNat : Int)) <;> cases h1 : decide ((c.toNat : Int) ≤ 57)
  all_goals
    rw [h0, h1] at hb
    simp only [Bool.and_true, Bool.and_false] at hb
    rw [hb]
    clear hb
    go_enter Tryz.func85, Tryz.ntmps85
    go_wp2
    go_ret
    exact ⟨rfl, rfl⟩

set_option maxHeartbeats 400000 in
theorem refLetter_calls (c : UInt8) (w : World) : Calls Tryz.prog 56 #[.int .u8 (c.toNat : Int)] w fun e w' => e = .returned (.bool (isLet c)) ∧ w = w' := by
  have hb := isLet_int c
  cases h0 : decide (97 ≤ (c.toNat : Int)) <;> cases h1 : decide ((c.toNat : Int) ≤ 122) <;> cases h2 : decide (65 ≤ (c.toNat : Int)) <;> cases h3 : decide ((c.toNat : Int) ≤ 90) <;> cases h4 : ((c.toNat : Int) == 95)
  all_goals
    rw [h0, h1, h2, h3, h4] at hb
    simp only [Bool.or_true, Bool.or_false, Bool.and_true, Bool.and_false] at hb
    rw [hb]
    clear hb
    go_enter Tryz.func56, Tryz.ntmps56
    go_wp2
    go_ret
    exact ⟨rfl, rfl⟩

set_option maxHeartbeats 400000 in
theorem refDigit_calls (c : UInt8) (w : World) : Calls Tryz.prog 57 #[.int .u8 (c.toNat : Int)] w fun e w' => e = .returned (.bool (isDig c)) ∧ w = w' := by
  have hb := isDig_int c
  cases h0 : decide (48 ≤ (c.toNat : Int)) <;> cases h1 : decide ((c.toNat : Int) ≤ 57)
  all_goals
    rw [h0, h1] at hb
    simp only [Bool.and_true, Bool.and_false] at hb
    rw [hb]
    clear hb
    go_enter Tryz.func57, Tryz.ntmps57
    go_wp2
    go_ret
    exact ⟨rfl, rfl⟩

set_option maxHeartbeats 400000 in
theorem notNl_calls (c : UInt8) (w : World) : Calls Tryz.prog 82 #[.int .u8 (c.toNat : Int)] w fun e w' => e = .returned (.bool (notNl c)) ∧ w = w' := by
  rw [notNl_int c]
  go_enter Tryz.func82, Tryz.ntmps82
  go_wp2
  go_ret
  exact ⟨rfl, rfl⟩

set_option maxHeartbeats 400000 in
theorem isAl_calls (c : UInt8) (w : World) : Calls Tryz.prog 97 #[.int .u8 (c.toNat : Int)] w fun e w' => e = .returned (.bool (isAl c)) ∧ w = w' := by
  have h1 := Lib.hid (fun w => isLetter_calls c w)
  have h2 := Lib.hid (fun w => isDigit_calls c w)
  have hb : isAl c = (isLet c || isDig c) := rfl
  cases hl : isLet c <;> cases hd : isDig c
  all_goals
    rw [hl, hd] at hb
    rw [hl] at h1
    rw [hd] at h2
    simp only [Bool.or_true, Bool.or_false] at hb
    rw [hb]
    clear hb hl hd
    go_enter Tryz.func97, Tryz.ntmps97
    go_wp2_with (first | (go_at_call 83; refine (h1.out _).mono ?_; rintro e w' ⟨rfl, rfl⟩) | (go_at_call 85; refine (h2.out _).mono ?_; rintro e w' ⟨rfl, rfl⟩))
    go_ret
    exact ⟨rfl, rfl⟩

end Go.Proofs.YtdknejmhlfpdfaaGreatDoor
