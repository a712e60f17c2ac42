/-
  The statements' own small functions: the document's example (awake), and the line and column of a place byte by byte (the reference).
-/
import Derived.Test.YtjimkfniahndhaaAt
namespace Go.Proofs.Ytjimkfniahndhaa
open Go.RowKit Go.Shelf

theorem place_calls (s : ByteArray) (hs : s.size ≤ 1000) (k : Int) (hk : 0 ≤ k) (w : World) : Calls Try.prog 12 #[.string s, .int .i64 k] w fun e W' => PlacePost s k e ∧ Below w.heap.size w W' :=
  (callsIn_wide (n := 3)).1 (place_in Fence.wide 3 (fun _ => trivial) rfl (Nat.le_refl _) s hs k hk w)

theorem place_yes (s : ByteArray) (hs : s.size ≤ 1000) (k : Int) (hk : 0 ≤ k) (hk2 : k ≤ s.size) (w : World) : Calls Try.prog 12 #[.string s, .int .i64 k] w fun e W' => e = .returned (.tuple #[.int .i64 (placeOf s.data.toList k.toNat).1, .int .i64 (placeOf s.data.toList k.toNat).2, .int .i64 0]) ∧ Below w.heap.size w W' :=
  (place_calls s hs k hk w).mono fun e W' ⟨h, hB⟩ => by
    rcases h with ⟨_, h⟩ | ⟨h, _⟩
    · exact ⟨h, hB⟩
    · omega

theorem place_no (s : ByteArray) (hs : s.size ≤ 1000) (k : Int) (hk : k < 0 ∨ s.size < k) (w : World) : Calls Try.prog 12 #[.string s, .int .i64 k] w fun e W' => e = .returned (.tuple #[.int .i64 0, .int .i64 0, .int .i64 15]) ∧ Below w.heap.size w W' := by
  by_cases h0 : k < 0
  · exact (callsIn_wide (n := 3)).1 (place_neg_in Fence.wide 3 (fun _ => trivial) rfl s k h0 w)
  · exact (place_calls s hs k (by omega) w).mono fun e W' ⟨h, hB⟩ => by
      rcases h with ⟨h, _⟩ | ⟨_, h⟩
      · omega
      · exact ⟨h, hB⟩

theorem at_calls (s : ByteArray) (hs : s.size ≤ 1000) (line col : Int) (w : World) : Calls Try.prog 14 #[.string s, .int .i64 line, .int .i64 col] w fun e W' => AtPost s line col e ∧ Below w.heap.size w W' :=
  (callsIn_wide (n := 4)).1 (at_in Fence.wide 4 (fun _ => trivial) rfl (Nat.le_refl _) s hs line col w)

abbrev exText : ByteArray := ⟨#[97, 98, 10, 99]⟩

theorem exPlace : placeOf exText.data.toList 3 = (2, 1) := by decide

set_option maxHeartbeats 400000 in
theorem awake_calls (w : World) : Calls Try.prog 11 #[] w fun e W' => e = .returned (.bool true) ∧ Below w.heap.size w W' := by
  have hp := fun w => (place_yes exText (by decide) 3 (by omega) (by decide) w).mono (R' := fun e W' => e = .returned (.tuple #[.int .i64 2, .int .i64 1, .int .i64 0]) ∧ Below w.heap.size w W') (fun e W' ⟨h, hB⟩ => ⟨by rw [h, show (3 : Int).toNat = 3 from rfl, exPlace]; rfl, hB⟩)
  have HP := Lib.hid hp
  clear hp
  go_enter Try.func11, Try.ntmps11
  go_wp2_with (go_at_call 12; refine (HP.out _).mono ?_; rintro e w' ⟨rfl, hB⟩)
  go_ret
  exact ⟨rfl, hB⟩

theorem placeOf_le (t : List UInt8) (k : Nat) (h : k ≤ t.length) : (placeOf t k).1 ≤ k + 1 ∧ (placeOf t k).2 ≤ k + 1 := by
  induction k with
  | zero => simp [placeOf, goPlace]
  | succ k ih =>
    have := ih (by omega)
    rw [placeOf_succ t k (by omega)]
    split <;> simp <;> omega

set_option maxHeartbeats 400000 in
theorem refPlace_calls (s : ByteArray) (hs : s.size ≤ 1000) (k : Int) (hk : 0 ≤ k) (hk2 : k ≤ s.size) (w : World) : Calls Try.prog 13 #[.string s, .int .i64 k] w fun e W' => e = .returned (.tuple #[.int .i64 (placeOf s.data.toList k.toNat).1, .int .i64 (placeOf s.data.toList k.toNat).2]) ∧ w = W' := by
  obtain ⟨k, rfl⟩ := Int.eq_ofNat_of_zero_le hk
  have hk3 : k ≤ s.size := by omega
  go_enter Try.func13, Try.ntmps13
  go_wp2
  go_loop [6, 7, 8] (fun a b c => ∃ i : Nat, i ≤ k ∧ c = .int .i64 i ∧ a = .int .i64 (placeOf s.data.toList i).1 ∧ b = .int .i64 (placeOf s.data.toList i).2) (fun _ _ c => k - (intOf c).toNat)
  case atStart => exact ⟨0, Nat.zero_le _, rfl, rfl, rfl⟩
  case round =>
    obtain ⟨i, hi, rfl, rfl, rfl⟩ := hrel
    have hle := placeOf_le s.data.toList i (by simp; omega)
    have hl1 := hle.1
    have hl2 := hle.2
    clear hle
    by_cases hlt : i < k
    · have hsz : i < s.size := by omega
      have HS := Lib.hid (placeOf_succ s.data.toList i (by simpa using hsz))
      have HE : Hid (s.data.toList[i]'(by simpa using hsz) = s[i]) := rfl
      by_cases hc : s[i] = 10
      · have hcb : ((s[i].toNat : Int) == 10) = true := by simp [hc]
        have HC := Lib.hid hc
        clear hc
        go_wp2
        go_round
        case rel => exact ⟨i + 1, by omega, by go_num, by rw [HS.out, if_pos (HE.out.trans HC.out)]; go_num, by rw [HS.out, if_pos (HE.out.trans HC.out)]; go_num⟩
        case measure => simp [intOf]; omega
      · have hcb : ((s[i].toNat : Int) == 10) = false := by
          rw [beq_eq_false_iff_ne]; intro h; apply hc; apply UInt8.toNat_inj.1; simp; omega
        have HC := Lib.hid hc
        clear hc
        go_wp2
        go_round
        case rel => exact ⟨i + 1, by omega, by go_num, by rw [HS.out, if_neg (fun e => HC.out (HE.out.symm.trans e))], by rw [HS.out, if_neg (fun e => HC.out (HE.out.symm.trans e))]; go_num⟩
        case measure => simp [intOf]; omega
    · obtain rfl : i = k := by omega
      go_wp2
      go_ret2
      exact ⟨rfl, rfl⟩

end Go.Proofs.Ytjimkfniahndhaa
