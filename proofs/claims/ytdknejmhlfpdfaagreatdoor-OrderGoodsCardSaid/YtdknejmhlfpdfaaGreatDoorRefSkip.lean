/-
  The reference's place behind blanks.
-/
import Derived.Test.YtdknejmhlfpdfaaGreatDoorTake
import Derived.Deep.LoopGhost
namespace Go.Proofs.YtdknejmhlfpdfaaGreatDoor
open Go.RowKit

theorem bytes_ne (c : UInt8) (n : Nat) (hn : n < 256) (h : c ≠ UInt8.ofNat n) : ((c.toNat : Int) == (n : Int)) = false ∧ ((c.toNat : Int) != (n : Int)) = true := by
  have : ¬ (c.toNat : Int) = (n : Int) := fun e => h (by apply UInt8.toNat_inj.1; simp; omega)
  exact ⟨by rw [beq_eq_false_iff_ne]; exact this, by rw [bne_iff_ne]; exact this⟩
theorem isBl_false (c : UInt8) (h : isBl c = false) : ((c.toNat : Int) == 32) = false ∧ ((c.toNat : Int) == 9) = false ∧ ((c.toNat : Int) == 10) = false ∧ ((c.toNat : Int) == 13) = false := by
  rw [isBl_int] at h; simpa [and_assoc] using h

set_option maxHeartbeats 1000000 in
theorem refSkip_calls (s : ByteArray) (hs : s.size ≤ 100000) (k : Nat) (hk : k ≤ s.size) (w : World) :
    Calls Tryz.prog 55 #[.string s, .int .i64 (k : Int)] w fun e w' => e = .returned (.int .i64 ((skipTo false s.data.toList k : Nat) : Int)) ∧ w = w' := by
  go_enter Tryz.func55, Tryz.ntmps55
  go_wp2
  go_loop [1] (fun a => ∃ i : Nat, i ≤ s.size ∧ a = .int .i64 i ∧ Hid (skipTo false s.data.toList i = skipTo false s.data.toList k)) (fun a => s.size - (intOf a).toNat)
  case atStart => exact ⟨k, hk, rfl, Lib.hid rfl⟩
  case round =>
    obtain ⟨i, hi, rfl, HR⟩ := hrel
    by_cases hlt : i < s.size
    · have hlt' : i < s.data.toList.length := by simpa using hlt
      cases hb : isBl s[i]
      · obtain ⟨b1, b2, b3, b4⟩ := isBl_false _ hb
        by_cases hh : s[i] = 35
        · have hb5 : ((s[i].toNat : Int) != 35) = false := by rw [hh]; rfl
          have HT := Lib.hid ((skipTo_hash s.data.toList i hlt' hh).trans HR.out)
          have h10 : ((s[i].toNat : Int) != 10) = true := by rw [hh]; rfl
          clear hh hb HR
          go_wp2
          go_loop [1] (fun a => ∃ j : Nat, i ≤ j ∧ j ≤ s.size ∧ a = .int .i64 j ∧ Hid (skipTo true s.data.toList j = skipTo false s.data.toList k)) (fun a => s.size - (intOf a).toNat)
          case atStart => exact ⟨i, by omega, by omega, rfl, HT⟩
          case round =>
            obtain ⟨j, hij, hj, rfl, HJ⟩ := hrel
            by_cases hjl : j < s.size
            · have hjl' : j < s.data.toList.length := by simpa using hjl
              by_cases hn : s[j] = 10
              · have hne : j ≠ i := by rintro rfl; rw [hn] at h10; exact absurd h10 (by decide)
                have hgt : i < j := by omega
                have hb6 : ((s[j].toNat : Int) != 10) = false := by rw [hn]; rfl
                have HO := Lib.hid ((skipTo_out s.data.toList j hjl' hn).symm.trans HJ.out)
                clear hn hne
                go_wp2
                go_round
                case rel => exact ⟨j, by omega, rfl, HO⟩
                case measure => simp [intOf]; omega
              · have hb6 : ((s[j].toNat : Int) != 10) = true := (bytes_ne _ 10 (by omega) hn).2
                have HO := Lib.hid ((skipTo_in s.data.toList j hjl' hn).trans HJ.out)
                clear hn
                go_wp2
                go_round
                case rel => exact ⟨j + 1, by omega, by omega, by go_num, HO⟩
                case measure => simp [intOf]; omega
            · have hd : decide ((j : Int) < (s.size : Int)) = false := by simp; omega
              have hgt : i < j := by omega
              have HO := Lib.hid ((skipTo_end false s.data.toList j (by rw [sizeL]; omega)).trans ((skipTo_end true s.data.toList j (by rw [sizeL]; omega)).symm.trans HJ.out))
              go_wp2
              go_round
              case rel => exact ⟨j, by omega, rfl, HO⟩
              case measure => simp [intOf]; omega
        · have hb5 : ((s[i].toNat : Int) != 35) = true := (bytes_ne _ 35 (by omega) hh).2
          have HE := Lib.hid ((skipTo_other s.data.toList i hlt' hb hh).symm.trans HR.out)
          clear hh hb HR
          go_wp2
          go_ret
          exact ⟨ret_int (by rw [← HE.out]), rfl⟩
      · have HB := Lib.hid ((skipTo_blank s.data.toList i hlt' hb).trans HR.out)
        rw [isBl_int] at hb
        cases h1 : ((s[i].toNat : Int) == 32) <;> cases h2 : ((s[i].toNat : Int) == 9) <;> cases h3 : ((s[i].toNat : Int) == 10) <;> cases h4 : ((s[i].toNat : Int) == 13)
        all_goals
          rw [h1, h2, h3, h4] at hb
        case false.false.false.false => simp at hb
        all_goals
          clear hb
          go_wp2
          go_round
          case rel => exact ⟨i + 1, by omega, by go_num, HB⟩
          case measure => simp [intOf]; omega
    · have HE := Lib.hid ((skipTo_end false s.data.toList i (by rw [sizeL]; omega)).symm.trans HR.out)
      have hd : decide ((i : Int) < (s.size : Int)) = false := by simp; omega
      go_wp2
      go_ret
      exact ⟨ret_int (by rw [← HE.out]), rfl⟩

end Go.Proofs.YtdknejmhlfpdfaaGreatDoor
