/-
  The closure that takes runs of bytes; the place behind blanks.
-/
import Derived.Test.YtdknejmhlfpdfaaGreatDoorBytes
import Derived.LoopTactic
namespace Go.Proofs.YtdknejmhlfpdfaaGreatDoor
open Go.RowKit

theorem taker_calls (s : ByteArray) (w : World) : Calls Tryz.prog 80 #[.string s] w fun e w' => e = .returned (.func (.func 96) #[] #[.pointer (some ⟨w.heap.size, 0, none⟩)]) ∧ w.alloc (.cells #[.string s] 9) = w' := by
  go_enter Tryz.func80, Tryz.ntmps80
  go_wp2
  go_ret
  exact ⟨rfl, rfl⟩

theorem ret_int {k : IntKind} {a b : Int} (h : a = b) : Ending.returned (.int k a) = .returned (.int k b) := by rw [h]
theorem byteAt (s : ByteArray) (k : Nat) (h : k < s.size) : s.data.toList[k]'(by simpa using h) = s[k] := rfl
theorem sizeL (s : ByteArray) : s.data.toList.length = s.size := by simp

set_option maxHeartbeats 1000000 in
theorem take_bl (B : Nat) (s : ByteArray) (hs : s.size ≤ 100000) (k : Nat) (hk : k ≤ s.size) (w : World) (_hB : B < w.heap.size) (hc : w.cell? ⟨B, 0, none⟩ = some (.string s)) :
    Calls Tryz.prog 96 #[.int .i64 (k : Int), .func (.func 81) #[] #[], .pointer (some ⟨B, 0, none⟩)] w fun e w' => e = .returned (.int .i64 ((runTo isBl s.data.toList k : Nat) : Int)) ∧ w = w' := by
  go_enter Tryz.func96, Tryz.ntmps96
  go_wp2
  go_loop [0] (fun a => ∃ i : Nat, i ≤ s.size ∧ a = .int .i64 i ∧ Hid (runTo isBl s.data.toList i = runTo isBl s.data.toList k)) (fun a => s.size - (intOf a).toNat)
  case atStart => exact ⟨k, hk, rfl, Lib.hid rfl⟩
  case round =>
    obtain ⟨i, hi, rfl, HR⟩ := hrel
    by_cases hlt : i < s.size
    · have hcall := Lib.hid (fun w => isBlank_calls s[i] w)
      have hlt' : i < s.data.toList.length := by simpa using hlt
      cases hp : isBl s[i]
      · have HS := Lib.hid (runTo_stop isBl s.data.toList i hlt' hp)
        rw [hp] at hcall
        clear hp hlt'
        go_wp2_with (go_at_call 81; refine (hcall.out _).mono ?_; rintro e w' ⟨rfl, rfl⟩)
        go_ret
        exact ⟨ret_int (by rw [← HR.out, HS.out]), rfl⟩
      · have HS := Lib.hid (runTo_step isBl s.data.toList i hlt' hp)
        rw [hp] at hcall
        clear hp hlt'
        go_wp2_with (go_at_call 81; refine (hcall.out _).mono ?_; rintro e w' ⟨rfl, rfl⟩)
        go_round
        case rel => exact ⟨i + 1, by omega, by go_num, Lib.hid (HS.out.trans HR.out)⟩
        case measure => simp [intOf]; omega
    · have HS := Lib.hid (runTo_end isBl s.data.toList i (by simp; omega))
      have hd : decide ((i : Int) < (s.size : Int)) = false := by simp; omega
      go_wp2
      go_ret
      exact ⟨ret_int (by rw [← HR.out, HS.out]), rfl⟩

set_option maxHeartbeats 1000000 in
theorem take_nl (B : Nat) (s : ByteArray) (hs : s.size ≤ 100000) (k : Nat) (hk : k ≤ s.size) (w : World) (_hB : B < w.heap.size) (hc : w.cell? ⟨B, 0, none⟩ = some (.string s)) :
    Calls Tryz.prog 96 #[.int .i64 (k : Int), .func (.func 82) #[] #[], .pointer (some ⟨B, 0, none⟩)] w fun e w' => e = .returned (.int .i64 ((runTo notNl s.data.toList k : Nat) : Int)) ∧ w = w' := by
  go_enter Tryz.func96, Tryz.ntmps96
  go_wp2
  go_loop [0] (fun a => ∃ i : Nat, i ≤ s.size ∧ a = .int .i64 i ∧ Hid (runTo notNl s.data.toList i = runTo notNl s.data.toList k)) (fun a => s.size - (intOf a).toNat)
  case atStart => exact ⟨k, hk, rfl, Lib.hid rfl⟩
  case round =>
    obtain ⟨i, hi, rfl, HR⟩ := hrel
    by_cases hlt : i < s.size
    · have hcall := Lib.hid (fun w => notNl_calls s[i] w)
      have hlt' : i < s.data.toList.length := by simpa using hlt
      cases hp : notNl s[i]
      · have HS := Lib.hid (runTo_stop notNl s.data.toList i hlt' hp)
        rw [hp] at hcall
        clear hp hlt'
        go_wp2_with (go_at_call 82; refine (hcall.out _).mono ?_; rintro e w' ⟨rfl, rfl⟩)
        go_ret
        exact ⟨ret_int (by rw [← HR.out, HS.out]), rfl⟩
      · have HS := Lib.hid (runTo_step notNl s.data.toList i hlt' hp)
        rw [hp] at hcall
        clear hp hlt'
        go_wp2_with (go_at_call 82; refine (hcall.out _).mono ?_; rintro e w' ⟨rfl, rfl⟩)
        go_round
        case rel => exact ⟨i + 1, by omega, by go_num, Lib.hid (HS.out.trans HR.out)⟩
        case measure => simp [intOf]; omega
    · have HS := Lib.hid (runTo_end notNl s.data.toList i (by simp; omega))
      have hd : decide ((i : Int) < (s.size : Int)) = false := by simp; omega
      go_wp2
      go_ret
      exact ⟨ret_int (by rw [← HR.out, HS.out]), rfl⟩

set_option maxHeartbeats 1000000 in
theorem take_dig (B : Nat) (s : ByteArray) (hs : s.size ≤ 100000) (k : Nat) (hk : k ≤ s.size) (w : World) (_hB : B < w.heap.size) (hc : w.cell? ⟨B, 0, none⟩ = some (.string s)) :
    Calls Tryz.prog 96 #[.int .i64 (k : Int), .func (.func 85) #[] #[], .pointer (some ⟨B, 0, none⟩)] w fun e w' => e = .returned (.int .i64 ((runTo isDig s.data.toList k : Nat) : Int)) ∧ w = w' := by
  go_enter Tryz.func96, Tryz.ntmps96
  go_wp2
  go_loop [0] (fun a => ∃ i : Nat, i ≤ s.size ∧ a = .int .i64 i ∧ Hid (runTo isDig s.data.toList i = runTo isDig s.data.toList k)) (fun a => s.size - (intOf a).toNat)
  case atStart => exact ⟨k, hk, rfl, Lib.hid rfl⟩
  case round =>
    obtain ⟨i, hi, rfl, HR⟩ := hrel
    by_cases hlt : i < s.size
    · have hcall := Lib.hid (fun w => isDigit_calls s[i] w)
      have hlt' : i < s.data.toList.length := by simpa using hlt
      cases hp : isDig s[i]
      · have HS := Lib.hid (runTo_stop isDig s.data.toList i hlt' hp)
        rw [hp] at hcall
        clear hp hlt'
        go_wp2_with (go_at_call 85; refine (hcall.out _).mono ?_; rintro e w' ⟨rfl, rfl⟩)
        go_ret
        exact ⟨ret_int (by rw [← HR.out, HS.out]), rfl⟩
      · have HS := Lib.hid (runTo_step isDig s.data.toList i hlt' hp)
        rw [hp] at hcall
        clear hp hlt'
        go_wp2_with (go_at_call 85; refine (hcall.out _).mono ?_; rintro e w' ⟨rfl, rfl⟩)
        go_round
        case rel => exact ⟨i + 1, by omega, by go_num, Lib.hid (HS.out.trans HR.out)⟩
        case measure => simp [intOf]; omega
    · have HS := Lib.hid (runTo_end isDig s.data.toList i (by simp; omega))
      have hd : decide ((i : Int) < (s.size : Int)) = false := by simp; omega
      go_wp2
      go_ret
      exact ⟨ret_int (by rw [← HR.out, HS.out]), rfl⟩

set_option maxHeartbeats 1000000 in
theorem take_al (B : Nat) (s : ByteArray) (hs : s.size ≤ 100000) (k : Nat) (hk : k ≤ s.size) (w : World) (_hB : B < w.heap.size) (hc : w.cell? ⟨B, 0, none⟩ = some (.string s)) :
    Calls Tryz.prog 96 #[.int .i64 (k : Int), .func (.func 97) #[] #[], .pointer (some ⟨B, 0, none⟩)] w fun e w' => e = .returned (.int .i64 ((runTo isAl s.data.toList k : Nat) : Int)) ∧ w = w' := by
  go_enter Tryz.func96, Tryz.ntmps96
  go_wp2
  go_loop [0] (fun a => ∃ i : Nat, i ≤ s.size ∧ a = .int .i64 i ∧ Hid (runTo isAl s.data.toList i = runTo isAl s.data.toList k)) (fun a => s.size - (intOf a).toNat)
  case atStart => exact ⟨k, hk, rfl, Lib.hid rfl⟩
  case round =>
    obtain ⟨i, hi, rfl, HR⟩ := hrel
    by_cases hlt : i < s.size
    · have hcall := Lib.hid (fun w => isAl_calls s[i] w)
      have hlt' : i < s.data.toList.length := by simpa using hlt
      cases hp : isAl s[i]
      · have HS := Lib.hid (runTo_stop isAl s.data.toList i hlt' hp)
        rw [hp] at hcall
        clear hp hlt'
        go_wp2_with (go_at_call 97; refine (hcall.out _).mono ?_; rintro e w' ⟨rfl, rfl⟩)
        go_ret
        exact ⟨ret_int (by rw [← HR.out, HS.out]), rfl⟩
      · have HS := Lib.hid (runTo_step isAl s.data.toList i hlt' hp)
        rw [hp] at hcall
        clear hp hlt'
        go_wp2_with (go_at_call 97; refine (hcall.out _).mono ?_; rintro e w' ⟨rfl, rfl⟩)
        go_round
        case rel => exact ⟨i + 1, by omega, by go_num, Lib.hid (HS.out.trans HR.out)⟩
        case measure => simp [intOf]; omega
    · have HS := Lib.hid (runTo_end isAl s.data.toList i (by simp; omega))
      have hd : decide ((i : Int) < (s.size : Int)) = false := by simp; omega
      go_wp2
      go_ret
      exact ⟨ret_int (by rw [← HR.out, HS.out]), rfl⟩

set_option maxHeartbeats 1000000 in
theorem behind_calls (s : ByteArray) (hs : s.size ≤ 100000) (k : Nat) (hk : k ≤ s.size) (w : World) :
    Calls Tryz.prog 69 #[.string s, .int .i64 (k : Int)] w fun e w' => e = .returned (.int .i64 ((skipTo false s.data.toList k : Nat) : Int)) ∧ w.alloc (.cells #[.string s] 9) = w' := by
  go_enter Tryz.func69, Tryz.ntmps69
  go_wp2_with fail
  refine (taker_calls _ _).mono ?_
  rintro e w' ⟨rfl, rfl⟩
  have hc : (w.alloc (.cells #[.string s] 9)).cell? ⟨w.heap.size, 0, none⟩ = some (.string s) := by simp
  have hz : w.heap.size < (w.alloc (.cells #[.string s] 9)).heap.size := by simp
  obtain ⟨W, hW⟩ : ∃ W, w.alloc (.cells #[.string s] 9) = W := ⟨_, rfl⟩
  rw [hW] at hc hz ⊢
  have HW := Lib.hid hW
  clear hW
  have HC := Lib.hid hc
  clear hc
  go_wp2
  go_loop [1] (fun a => ∃ i : Nat, i ≤ s.size ∧ a = .int .i64 i ∧ Hid (skipTo false s.data.toList i = skipTo false s.data.toList k)) (fun a => s.size - (intOf a).toNat)
  case atStart => exact ⟨k, hk, rfl, Lib.hid rfl⟩
  case round =>
    obtain ⟨i, hi, rfl, HR⟩ := hrel
    have hr := runTo_le isBl s.data.toList i (by simpa using hi)
    rw [sizeL] at hr
    obtain ⟨hr1, hr2⟩ := hr
    have HS := Lib.hid ((skipTo_run s.data.toList i (by simpa using hi)).trans HR.out)
    have HA : ∀ h : runTo isBl s.data.toList i < s.data.toList.length, isBl (s.data.toList[runTo isBl s.data.toList i]) = false := runTo_after isBl s.data.toList i
    have HA := Lib.hid HA
    have ht := Lib.hid (take_bl w.heap.size s hs i hi W hz HC.out)
    generalize runTo isBl s.data.toList i = j at hr1 hr2 HS ht HA
    clear HR
    go_wp2_with fail
    refine ht.out.mono ?_
    rintro e w' ⟨rfl, rfl⟩
    by_cases hlt : j < s.size
    · have hlt' : j < s.data.toList.length := by simpa using hlt
      have hne : ((j : Int) == (s.size : Int)) = false := by rw [beq_eq_false_iff_ne]; omega
      by_cases hh : s[j] = 35
      · have hb : ((s[j].toNat : Int) != 35) = false := by rw [hh]; rfl
        have HG := Lib.hid (runTo_notNl_gt s.data.toList j hlt' hh)
        have hq := runTo_le notNl s.data.toList j (by omega)
        rw [sizeL] at hq
        obtain ⟨hq1, hq2⟩ := hq
        have HT := Lib.hid ((skipTo_nl s.data.toList j (by omega)).trans ((skipTo_hash s.data.toList j hlt' hh).trans HS.out))
        have hu := Lib.hid (take_nl w.heap.size s hs j (by omega) W hz HC.out)
        have hg := HG.out
        generalize runTo notNl s.data.toList j = m at hg hq1 hq2 HT hu
        clear hh HG HS ht
        go_wp2_with fail
        refine hu.out.mono ?_
        rintro e w' ⟨rfl, rfl⟩
        go_wp2
        go_round
        case rel => exact ⟨m, by omega, rfl, HT⟩
        case measure => simp [intOf]; omega
      · have hb : ((s[j].toNat : Int) != 35) = true := by
          rw [bne_iff_ne]; intro h; apply hh; apply UInt8.toNat_inj.1; simp; omega
        have HE := Lib.hid ((skipTo_other s.data.toList j hlt' (HA.out hlt') hh).symm.trans HS.out)
        clear hh HA ht
        go_wp2
        go_ret
        exact ⟨ret_int (by rw [← HE.out]), HW.out⟩
    · have he : ((j : Int) == (s.size : Int)) = true := by rw [beq_iff_eq]; omega
      have HE := Lib.hid ((skipTo_end false s.data.toList j (by rw [sizeL]; omega)).symm.trans HS.out)
      clear HA ht
      go_wp2
      go_ret
      exact ⟨ret_int (by rw [← HE.out]), HW.out⟩

end Go.Proofs.YtdknejmhlfpdfaaGreatDoor
