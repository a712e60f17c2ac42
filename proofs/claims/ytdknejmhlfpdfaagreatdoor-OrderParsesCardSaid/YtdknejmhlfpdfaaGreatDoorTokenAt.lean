/-
  The token at a place: names and words, numbers, signs; and the one behind blanks.
-/
import Derived.Test.YtdknejmhlfpdfaaGreatDoorSign
namespace Go.Proofs.YtdknejmhlfpdfaaGreatDoor
open Go.RowKit

theorem extract_list (s : ByteArray) (a b : Nat) : (s.extract a b).data.toList = (s.data.toList.drop a).take (b - a) := by
  rw [ByteArray.data_extract, Array.toList_extract, List.extract_eq_take_drop]

set_option maxRecDepth 100000 in
set_option maxHeartbeats 1000000 in
theorem nameAt_calls (s : ByteArray) (hs : s.size ≤ 100000) (k : Nat) (hk : k < s.size) (w : World) (hw : Tabs w) :
    Calls Tryz.prog 84 #[.string s, .int .i64 (k : Int)] w fun e w' => e = .returned (.tuple #[.int .i64 ((nameK ((s.data.toList.drop k).take (run isAl (s.data.toList.drop k))) : Nat) : Int), .int .i64 ((k + run isAl (s.data.toList.drop k) : Nat) : Int)]) ∧ Below w.heap.size w w' := by
  have hT : Tabs (w.alloc (.cells #[.string s] 9)) := hw.below ((Below.refl _ w).alloc (Nat.le_refl _) _) hw.2.2
  have hle := runTo_le isAl s.data.toList k (by simp; omega)
  rw [sizeL] at hle
  obtain ⟨hl1, hl2⟩ := hle
  have hc : (w.alloc (.cells #[.string s] 9)).cell? ⟨w.heap.size, 0, none⟩ = some (.string s) := by simp
  have ht := Lib.hid (take_al w.heap.size s hs k (by omega) (w.alloc (.cells #[.string s] 9)) (by simp) hc)
  have hx : (s.extract k (runTo isAl s.data.toList k)).data.toList = (s.data.toList.drop k).take (run isAl (s.data.toList.drop k)) := by
    rw [extract_list]; unfold runTo; rw [Nat.add_sub_cancel_left]
  have hword := Lib.hid (isWord_calls (s.extract k (runTo isAl s.data.toList k)) (by simp; omega) (w.alloc (.cells #[.string s] 9)) hT)
  rw [hx] at hword
  have HR : Hid (k + run isAl (s.data.toList.drop k) = runTo isAl s.data.toList k) := Lib.hid rfl
  generalize runTo isAl s.data.toList k = m at hl1 hl2 ht hword HR
  clear hx hc hT hw
  have hB := (Below.refl w.heap.size w).alloc (Nat.le_refl _) (.cells #[.string s] 9)
  rw [HR.out]
  have HK : Hid (nameK ((s.data.toList.drop k).take (run isAl (s.data.toList.drop k))) = if isW ((s.data.toList.drop k).take (run isAl (s.data.toList.drop k))) then 3 else 1) := Lib.hid rfl
  generalize (s.data.toList.drop k).take (run isAl (s.data.toList.drop k)) = b at hword HK ⊢
  have h1 : (k : Int) ≤ (m : Int) := by omega
  have h2 : (m : Int) ≤ (s.size : Int) := by omega
  cases hb : isW b
  all_goals
    rw [hb] at hword HK
    clear hb
    go_enter Tryz.func84, Tryz.ntmps84
    go_wp2_with fail
    refine (taker_calls _ _).mono ?_
    rintro e w' ⟨rfl, rfl⟩
    go_wp2_with fail
    refine ht.out.mono ?_
    rintro e w' ⟨rfl, rfl⟩
    go_wp2_with fail
    refine hword.out.mono ?_
    rintro e w' ⟨rfl, rfl⟩
    go_wp2
    go_ret2
    exact ⟨ret_two (by rw [HK.out]; rfl) rfl, hB⟩

/-- What a number's test comes to. -/
theorem numBad_eq (s : ByteArray) (k : Nat) (hk : k < s.size) (m : Nat) (h1 : k ≤ m) (h2 : m ≤ s.size) :
    numBad (s.data.toList.drop k) (m - k) = ((decide ((18 : Int) < (m : Int) - (k : Int)) || (((s[k].toNat : Int) == 48) && decide ((1 : Int) < (m : Int) - (k : Int)))) || (if h : m < s.size then isLet s[m] else false)) := by
  unfold numBad
  have e1 : decide (18 < m - k) = decide ((18 : Int) < (m : Int) - (k : Int)) := by rw [Bool.eq_iff_iff]; simp; omega
  have e2 : decide (1 < m - k) = decide ((1 : Int) < (m : Int) - (k : Int)) := by rw [Bool.eq_iff_iff]; simp; omega
  have e3 : ((s.data.toList.drop k).head? == some 48) = ((s[k].toNat : Int) == 48) := by
    rw [List.drop_eq_getElem_cons (by rw [sizeL]; exact hk), List.head?_cons]
    have := beq_int s[k] 48 (by omega)
    rw [show ((48 : Int)) = ((48 : Nat) : Int) from rfl, ← this]
    rfl
  rw [e1, e2, e3, Bool.and_comm]
  congr 1
  rw [List.getElem?_drop, show k + (m - k) = m from by omega]
  by_cases h : m < s.size
  · rw [dif_pos h, List.getElem?_eq_getElem (by rw [sizeL]; exact h)]
    rfl
  · rw [dif_neg h, List.getElem?_eq_none (by rw [sizeL]; omega)]

set_option maxRecDepth 100000 in
set_option maxHeartbeats 2000000 in
theorem numberAt_calls (s : ByteArray) (hs : s.size ≤ 100000) (k : Nat) (hk : k < s.size) (w : World) :
    Calls Tryz.prog 86 #[.string s, .int .i64 (k : Int)] w fun e w' => e = .returned (.tuple #[.int .i64 (((if numBad (s.data.toList.drop k) (run isDig (s.data.toList.drop k)) then 0 else 2 : Nat)) : Int), .int .i64 ((k + (if numBad (s.data.toList.drop k) (run isDig (s.data.toList.drop k)) then 0 else run isDig (s.data.toList.drop k)) : Nat) : Int)]) ∧ Below w.heap.size w w' := by
  have hle := runTo_le isDig s.data.toList k (by simp; omega)
  rw [sizeL] at hle
  obtain ⟨hl1, hl2⟩ := hle
  have hc : (w.alloc (.cells #[.string s] 9)).cell? ⟨w.heap.size, 0, none⟩ = some (.string s) := by simp
  have ht := Lib.hid (take_dig w.heap.size s hs k (by omega) (w.alloc (.cells #[.string s] 9)) (by simp) hc)
  have hR : run isDig (s.data.toList.drop k) = runTo isDig s.data.toList k - k := by unfold runTo; omega
  rw [hR]
  generalize runTo isDig s.data.toList k = m at hl1 hl2 ht
  clear hR hc
  have HB := Lib.hid (numBad_eq s k hk m hl1 hl2)
  have hB := (Below.refl w.heap.size w).alloc (Nat.le_refl _) (.cells #[.string s] 9)
  by_cases hm : m < s.size
  · have hlet := Lib.hid (fun w => isLetter_calls s[m] w)
    have hnb := HB.out
    rw [dif_pos hm] at hnb
    clear HB
    cases he : isLet s[m] <;> cases ha : decide ((18 : Int) < (m : Int) - (k : Int)) <;> cases hb : ((s[k].toNat : Int) == 48) <;> cases hd : decide ((1 : Int) < (m : Int) - (k : Int))
    all_goals
      rw [he, ha, hb, hd] at hnb
      rw [he] at hlet
      simp only [Bool.or_true, Bool.or_false, Bool.and_true, Bool.and_false] at hnb
      rw [hnb]
      clear he hnb
      go_enter Tryz.func86, Tryz.ntmps86
      go_wp2_with fail
      refine (taker_calls _ _).mono ?_
      rintro e w' ⟨rfl, rfl⟩
      go_wp2_with fail
      refine ht.out.mono ?_
      rintro e w' ⟨rfl, rfl⟩
      go_wp2_with fail
      refine (hlet.out _).mono ?_
      rintro e w' ⟨rfl, rfl⟩
      go_wp2
      go_ret2
      exact ⟨ret_two (by simp) (by simp; try omega), hB⟩
  · have hmd : decide ((m : Int) < (s.size : Int)) = false := by simp; omega
    have hnb := HB.out
    rw [dif_neg hm] at hnb
    clear HB
    cases ha : decide ((18 : Int) < (m : Int) - (k : Int)) <;> cases hb : ((s[k].toNat : Int) == 48) <;> cases hd : decide ((1 : Int) < (m : Int) - (k : Int))
    all_goals
      rw [ha, hb, hd] at hnb
      simp only [Bool.or_true, Bool.or_false, Bool.and_true, Bool.and_false] at hnb
      rw [hnb]
      clear hnb
      go_enter Tryz.func86, Tryz.ntmps86
      go_wp2_with fail
      refine (taker_calls _ _).mono ?_
      rintro e w' ⟨rfl, rfl⟩
      go_wp2_with fail
      refine ht.out.mono ?_
      rintro e w' ⟨rfl, rfl⟩
      go_wp2
      go_ret2
      exact ⟨ret_two (by simp) (by simp; try omega), hB⟩

end Go.Proofs.YtdknejmhlfpdfaaGreatDoor
