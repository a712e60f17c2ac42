/-
  strings.HasPrefix; the sign at a place.
-/
import Derived.Test.YtdknejmhlfpdfaaDoorTabs
import Derived.Test.YtdknejmhlfpdfaaDoorMathS
import Derived.Deep.MidRow
namespace Go.Proofs.YtdknejmhlfpdfaaDoor
open Go.RowKit

theorem hasP_eq (s p : ByteArray) (_h : p.size ≤ s.size) : ((s.extract 0 p.size).toList == p.toList) = hasP s.data.toList p.data.toList := by
  unfold hasP
  rw [ByteArray.toList_eq, ByteArray.toList_eq]
  have : (s.extract 0 p.size).data.toList = s.data.toList.take p.data.toList.length := by
    rw [sizeL]; simp
  rw [this]
theorem hasP_short (s p : ByteArray) (h : s.size < p.size) : hasP s.data.toList p.data.toList = false := by
  unfold hasP
  rw [beq_eq_false_iff_ne]
  intro e
  have := congrArg List.length e
  rw [List.length_take, sizeL, sizeL] at this
  omega

set_option maxRecDepth 100000 in
set_option maxHeartbeats 400000 in
theorem hasPrefix0 (s p : ByteArray) (_hs : s.size ≤ 100000) (w : World) : Calls Tryd.prog 90 #[.string s, .string p] w fun e w' => e = .returned (.bool (hasP s.data.toList p.data.toList)) ∧ w = w' := by
  by_cases h : p.size ≤ s.size
  · have he := hasP_eq s p h
    have hle : decide ((p.size : Int) ≤ (s.size : Int)) = true := by simp; omega
    have hle2 : (p.size : Int) ≤ (s.size : Int) := by omega
    cases hp : hasP s.data.toList p.data.toList
    all_goals
      rw [hp] at he
      clear hp
      go_enter Tryd.func90, Tryd.ntmps90
      go_wp2
      go_ret
      exact ⟨rfl, rfl⟩
  · have he := Lib.hid (hasP_short s p (by omega))
    have hle : decide ((p.size : Int) ≤ (s.size : Int)) = false := by simp; omega
    go_enter Tryd.func90, Tryd.ntmps90
    go_wp2
    go_ret
    exact ⟨ret_bool he.out.symm, rfl⟩
theorem hasPrefix_calls (s p : ByteArray) (hs : s.size ≤ 100000) (w : World) : Calls Tryd.prog 87 #[.string s, .string p] w fun e w' => e = .returned (.bool (hasP s.data.toList p.data.toList)) ∧ w = w' := by
  have h := Lib.hid (fun w => hasPrefix0 s p hs w)
  go_enter Tryd.func87, Tryd.ntmps87
  go_wp2_with fail
  refine (h.out _).mono ?_
  rintro e w' ⟨rfl, rfl⟩
  go_wp2
  go_ret
  exact ⟨rfl, rfl⟩

theorem Tryd.info_signs : (Tryd.prog.info? 123).map (·.size) = some signsV.toList.length := by kernel_rfl
theorem Tabs.range_signs {w : World} (h : Tabs w) : w.rangeAt 7 0 signsV.toList := fun j v hv => by
  have hj : j < 23 := by
    have := (List.getElem?_eq_some_iff.1 hv).1
    exact this
  have h1 := signsV_get j hj
  rw [Array.getElem?_toList, h1] at hv
  rw [Nat.zero_add, h.2.1 j hj, hv]

def signKL (r : List UInt8) : Nat := if signL r = 0 then 0 else 4
theorem drop_eq (s : ByteArray) (k : Nat) : (s.extract k s.size).data.toList = s.data.toList.drop k := by
  rw [ByteArray.data_extract, Array.toList_extract, List.extract_eq_take_drop]
  apply List.take_of_length_le
  rw [List.length_drop, sizeL]
  omega
theorem ret_two {k l : IntKind} {a b c d : Int} (h : a = b) (h2 : c = d) : Ending.returned (.tuple #[.int k a, .int l c]) = .returned (.tuple #[.int k b, .int l d]) := by rw [h, h2]

set_option maxRecDepth 100000 in
set_option maxHeartbeats 1000000 in
theorem signAt_calls (s : ByteArray) (hs : s.size ≤ 100000) (k : Nat) (hk : k ≤ s.size) (w : World) (hw : Tabs w) :
    Calls Tryd.prog 75 #[.string s, .int .i64 (k : Int)] w fun e w' => e = .returned (.tuple #[.int .i64 (signKL (s.data.toList.drop k) : Nat), .int .i64 ((k + signL (s.data.toList.drop k) : Nat) : Int)]) ∧ w = w' := by
  have hr := Lib.hid hw.range_signs
  clear hw
  go_enter Tryd.func75, Tryd.ntmps75
  go_wp2_with (with_reducible refine wpList_load_mid rfl 123 (.global 7) rfl 7 0 rfl signsV.toList _ hr.out Tryd.underlying123 rfl Tryd.info_signs ?_)
  go_loop [9] (fun a => ∃ i : Nat, i ≤ 23 ∧ a = .int .i64 i ∧ Hid (∀ j, j < i → hasP (s.data.toList.drop k) (signsL.getD j []) = false)) (fun a => 23 - (intOf a).toNat)
  case atStart => exact ⟨0, by omega, rfl, Lib.hid (fun j hj => by omega)⟩
  case round =>
    obtain ⟨i, hi, rfl, HN⟩ := hrel
    by_cases hlt : i < 23
    · have hix := signs_index w i hlt
      have hcall := Lib.hid (fun w => hasPrefix_calls (s.extract k s.size) (signB i) (by simp; omega) w)
      have hk' : (k : Int) ≤ (s.size : Int) := by omega
      have hz : (signB i).size ≤ 2 := by
        unfold signB; rw [bs_size, sgn_len i hlt]; split <;> omega
      rw [drop_eq, show (signB i).data.toList = signsL.getD i [] from bs_toList _] at hcall
      cases hp : hasP (s.data.toList.drop k) (signsL.getD i [])
      · rw [hp] at hcall
        have HE := Lib.hid hp
        clear hp
        go_wp2_with (go_at_call 87; refine (hcall.out _).mono ?_; rintro e w' ⟨rfl, rfl⟩)
        go_round
        case rel => exact ⟨i + 1, by omega, by go_num, Lib.hid (fun j hj => by
          by_cases h : j = i
          · subst h; exact HE.out
          · exact HN.out j (by omega))⟩
        case measure => simp [intOf]; omega
      · rw [hp] at hcall
        have HE := Lib.hid (sign_first _ i hlt HN.out hp)
        have HZ := Lib.hid (show (signB i).size = (signsL.getD i []).length from bs_size _)
        have HP : Hid (0 < (signsL.getD i []).length) := Lib.hid (by rw [sgn_len i hlt]; split <;> omega)
        clear hp
        go_wp2_with (go_at_call 87; refine (hcall.out _).mono ?_; rintro e w' ⟨rfl, rfl⟩)
        go_ret2
        have h1 := HE.out
        have h2 := HZ.out
        have h3 := HP.out
        exact ⟨ret_two (by unfold signKL; rw [if_neg (by omega)]; rfl) (by omega), rfl⟩
    · obtain rfl : i = 23 := by omega
      have HE := Lib.hid (sign_none _ HN.out)
      go_wp2
      go_ret2
      have h1 := HE.out
      exact ⟨ret_two (by unfold signKL; rw [if_pos h1]; rfl) (by omega), rfl⟩

end Go.Proofs.YtdknejmhlfpdfaaDoor
