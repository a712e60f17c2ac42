/-
  rewindref18.Text: an order's line.
-/
import Derived.Test.YtdknejmhlfpdfaaGreatDoorOrP
namespace Go.Proofs.YtdknejmhlfpdfaaGreatDoor
open Go.RowKit

theorem bs_app (a b : List UInt8) : bs a ++ bs b = bs (a ++ b) := WideShapes.bytes_inj (by rw [ByteArray.data_append, Array.toList_append, bs_toList, bs_toList, bs_toList])
theorem itoa_len6 {n : Int} (h : i64 n) : (bs (Lib.itoa n)).size ≤ 20 := by rw [bs_size]; exact (itoa_len20 h).2
set_option maxRecDepth 100000 in
set_option maxHeartbeats 2000000 in
theorem ordText_calls (k : Nat) (hk : k ≤ 20) (nm : List UInt8) (hnm : nm.length ≤ 1000) (n : Int) (hn : i64 n) (w : World) :
    Calls Tryz.prog 10 #[.int .i64 k, .string (bs nm), .int .i64 n] w fun e w' => e = .returned (.string (bs (txtO ⟨k, nm, n⟩))) ∧ Below w.heap.size w w' := by
  have HW := Lib.hid (ordWords_calls w)
  have xk := kwV_cell w k (by omega)
  have z0 : (bs (kwB k)).size ≤ 7 := by rw [bs_size]; exact (kw_word ⟨k, by omega⟩).2.1
  have z1 : (bs nm).size ≤ 1000 := by rw [bs_size]; exact hnm
  have z2 := itoa_len6 hn
  have hk0 : (0 : Int) ≤ (k : Int) := by omega
  have hk1 : (k : Int) < 21 := by omega
  have HD := Lib.hid (fun W => refDec_calls n hn W)
  have HB1 := Lib.hid ((Below.refl w.heap.size w).alloc (Nat.le_refl _) (.cells kwV 9))
  obtain ⟨A, hA⟩ : ∃ A, A = bs (kwB k) := ⟨_, rfl⟩
  obtain ⟨B, hB⟩ : ∃ B, B = bs nm := ⟨_, rfl⟩
  obtain ⟨D, hD⟩ : ∃ D, D = bs (Lib.itoa n) := ⟨_, rfl⟩
  have zz : (⟨#[32]⟩ : ByteArray).size = 1 ∧ (⟨#[91]⟩ : ByteArray).size = 1 ∧ (⟨#[93]⟩ : ByteArray).size = 1 := by decide
  have HN : Hid (n < 0 ∨ 0 ≤ n) := Lib.hid (by omega)
  have hE1 : ∀ S, S = bs [32] → A ++ S ++ D = bs (kwB k ++ 32 :: Lib.itoa n) := by
    rintro S rfl; subst hA hD; rw [bs_app, bs_app]; simp
  have hE2 : ∀ S, S = bs [32] → A ++ S ++ B = bs (kwB k ++ 32 :: nm) := by
    rintro S rfl; subst hA hB; rw [bs_app, bs_app]; simp
  have hE3 : ∀ S P Q, S = bs [32] → P = bs [91] → Q = bs [93] → A ++ S ++ B ++ P ++ D ++ Q = bs (kwB k ++ 32 :: (nm ++ 91 :: (Lib.itoa n ++ [93]))) := by
    rintro S P Q rfl rfl rfl; subst hA hB hD; rw [bs_app, bs_app, bs_app, bs_app, bs_app]; simp
  have HE1 := Lib.hid hE1
  have HE2 := Lib.hid hE2
  have HE3 := Lib.hid hE3
  clear hE1 hE2 hE3
  rw [← hA] at xk z0
  rw [← hB] at z1 ⊢
  rw [← hD] at z2 HD
  have HAA := Lib.hid hA
  clear hA hB hD
  by_cases h9 : 9 ≤ (k : Int) ∧ (k : Int) < 12
  · have HT : Hid (txtO ⟨k, nm, n⟩ = kwB k ++ 32 :: Lib.itoa n) := Lib.hid (by unfold txtO; rw [if_pos h9]; rfl)
    have f1 : decide ((9 : Int) ≤ (k : Int)) = true := decide_eq_true h9.1
    have f2 : decide ((k : Int) < 12) = true := decide_eq_true h9.2
    have g1 : (9223372036854775807 < A.size + 1) = False := eq_false (by omega)
    have g2 : (9223372036854775807 < A.size + 1 + D.size) = False := eq_false (by omega)
    clear h9
    go_enter Tryz.func10, Tryz.ntmps10
    go_wp2_with fail
    refine HW.out.mono ?_
    rintro e w1 ⟨rfl, rfl⟩
    go_wp2_with fail
    refine (HD.out _).mono ?_
    rintro e w2 ⟨rfl, hB2⟩
    have HB2 := Lib.hid (HB1.out.trans (hB2.mono HB1.out.size))
    clear hB2
    go_wp2
    go_ret
    exact ⟨by rw [HT.out, ← HE1.out ⟨#[32]⟩ rfl]; rfl, HB2.out⟩
  · have hcase : decide ((9 : Int) ≤ (k : Int)) = false ∨ (decide ((9 : Int) ≤ (k : Int)) = true ∧ decide ((k : Int) < 12) = false) := by
      by_cases h : 9 ≤ (k : Int)
      · exact .inr ⟨decide_eq_true h, decide_eq_false (fun h2 => h9 ⟨h, h2⟩)⟩
      · exact .inl (decide_eq_false h)
    by_cases h12 : 12 ≤ (k : Int) ∧ (k : Int) < 16
    · have f3 : decide ((12 : Int) ≤ (k : Int)) = true := decide_eq_true h12.1
      have f4 : decide ((k : Int) < 16) = true := decide_eq_true h12.2
      have g1 : (9223372036854775807 < A.size + 1) = False := eq_false (by omega)
      have g2 : (9223372036854775807 < A.size + 1 + B.size) = False := eq_false (by omega)
      have g3 : (9223372036854775807 < A.size + 1 + B.size + 1) = False := eq_false (by omega)
      have g4 : (9223372036854775807 < A.size + 1 + B.size + 1 + D.size) = False := eq_false (by omega)
      have g5 : (9223372036854775807 < A.size + 1 + B.size + 1 + D.size + 1) = False := eq_false (by omega)
      by_cases h0 : 0 ≤ n
      · have HT : Hid (txtO ⟨k, nm, n⟩ = kwB k ++ 32 :: (nm ++ 91 :: (Lib.itoa n ++ [93]))) := Lib.hid (by unfold txtO placeT; rw [if_neg h9, if_pos h12]; simp only; rw [if_pos h0]; rfl)
        have f5 : decide ((0 : Int) ≤ n) = true := decide_eq_true h0
        clear h9 h12 h0
        rcases hcase with f1 | ⟨f1, f2⟩
        all_goals
          go_enter Tryz.func10, Tryz.ntmps10
          go_wp2_with fail
          refine HW.out.mono ?_
          rintro e w1 ⟨rfl, rfl⟩
          go_wp2_with fail
          refine (HD.out _).mono ?_
          rintro e w2 ⟨rfl, hB2⟩
          have HB2 := Lib.hid (HB1.out.trans (hB2.mono HB1.out.size))
          clear hB2
          go_wp2
          go_ret
          exact ⟨by rw [HT.out, ← HE3.out ⟨#[32]⟩ ⟨#[91]⟩ ⟨#[93]⟩ rfl rfl rfl]; rfl, HB2.out⟩
      · have HT : Hid (txtO ⟨k, nm, n⟩ = kwB k ++ 32 :: nm) := Lib.hid (by unfold txtO placeT; rw [if_neg h9, if_pos h12]; simp only; rw [if_neg h0, List.append_nil]; rfl)
        have f5 : decide ((0 : Int) ≤ n) = false := decide_eq_false h0
        clear h9 h12 h0
        rcases hcase with f1 | ⟨f1, f2⟩
        all_goals
          go_enter Tryz.func10, Tryz.ntmps10
          go_wp2_with fail
          refine HW.out.mono ?_
          rintro e w1 ⟨rfl, rfl⟩
          go_wp2
          go_ret
          exact ⟨by rw [HT.out, ← HE2.out ⟨#[32]⟩ rfl]; rfl, HB1.out⟩
    · have HT : Hid (txtO ⟨k, nm, n⟩ = kwB k) := Lib.hid (by unfold txtO; rw [if_neg h9, if_neg h12]; rfl)
      have hcase2 : decide ((12 : Int) ≤ (k : Int)) = false ∨ (decide ((12 : Int) ≤ (k : Int)) = true ∧ decide ((k : Int) < 16) = false) := by
        by_cases h : 12 ≤ (k : Int)
        · exact .inr ⟨decide_eq_true h, decide_eq_false (fun h2 => h12 ⟨h, h2⟩)⟩
        · exact .inl (decide_eq_false h)
      clear h9 h12
      rcases hcase with f1 | ⟨f1, f2⟩ <;> rcases hcase2 with f3 | ⟨f3, f4⟩
      all_goals
        go_enter Tryz.func10, Tryz.ntmps10
        go_wp2_with fail
        refine HW.out.mono ?_
        rintro e w1 ⟨rfl, rfl⟩
        go_wp2
        go_ret
        exact ⟨by rw [HT.out, ← HAA.out]; rfl, HB1.out⟩
end Go.Proofs.YtdknejmhlfpdfaaGreatDoor
