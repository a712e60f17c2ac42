/-
  The statement TokenNames, gone through.
-/
import Derived.Test.YtgkgmlmipcnhbaaDoorGoesLaw
import Derived.Test.YtgkgmlmipcnhbaaDoorWordsLaw
import Derived.Lib.SlBytesRow
import Derived.Deep.RegionWith
import Derived.RegionTactic
import Derived.BigRegion
namespace Go.Proofs.YtgkgmlmipcnhbaaDoor
open Go.RowKit

def someB : ByteArray := ⟨#[97, 98, 99, 120, 121, 122, 65, 66, 67, 95, 48, 49, 57]⟩

theorem conv1 (w : World) (c : UInt8) : Sem.run Tryd.prog (convert 45 9 (.slice (some ⟨w.heap.size, 0, none⟩) 1 1)) (w.alloc (.cells #[.int .u8 (c.toNat : Int)] 5)) = .ok (.string ⟨#[c]⟩) (w.alloc (.cells #[.int .u8 (c.toNat : Int)] 5)) := by
  have hb : Lib.Bytes (w.alloc (.cells #[.int .u8 (c.toNat : Int)] 5)) w.heap.size 0 ⟨#[c]⟩ := by
    intro i hi
    have h0 : i = 0 := by
      have : i < 1 := hi
      omega
    subst h0
    simp
    rfl
  exact Lib.run_convert_whole (P := Tryd.prog) _ 45 5 9 Tryd.underlying45 Tryd.underlying5 Tryd.underlying9 w.heap.size 0 ⟨#[c]⟩ hb 1
theorem conv1d (w : World) (c : UInt8) : Sem.run Tryd.prog (convert 45 9 (.slice (some ⟨w.heap.size, 0, none⟩) 1 1)) (w.alloc (.cells #[.int .u8 (c.toNat : Int)] 5)).drew = .ok (.string ⟨#[c]⟩) (w.alloc (.cells #[.int .u8 (c.toNat : Int)] 5)).drew := by
  have hb : Lib.Bytes (w.alloc (.cells #[.int .u8 (c.toNat : Int)] 5)).drew w.heap.size 0 ⟨#[c]⟩ := by
    intro i hi
    have h0 : i = 0 := by
      have : i < 1 := hi
      omega
    subst h0
    simp
    rfl
  exact Lib.run_convert_whole (P := Tryd.prog) _ 45 5 9 Tryd.underlying45 Tryd.underlying5 Tryd.underlying9 w.heap.size 0 ⟨#[c]⟩ hb 1
theorem word_len (q : Nat) (h : q < wordsL.length) : (bs wordsL[q]).size ≤ 8 := by
  rw [bs_size]
  have : ∀ b ∈ wordsL, b.length ≤ 8 := by decide
  exact this _ (List.getElem_mem h)

def someL : List UInt8 := [97, 98, 99, 120, 121, 122, 65, 66, 67, 95, 48, 49, 57]
theorem name_list (q r : Nat) (hq : q < wordsL.length) (hr : r < (⟨#[97, 98, 99, 120, 121, 122, 65, 66, 67, 95, 48, 49, 57]⟩ : ByteArray).size) : (bs wordsL[q] ++ (⟨#[(⟨#[97, 98, 99, 120, 121, 122, 65, 66, 67, 95, 48, 49, 57]⟩ : ByteArray)[r]'hr]⟩ : ByteArray)).data.toList = wordsL[q] ++ [someL.getD r 0] := by
  rw [bs_append, bs_toList]
  congr 1
  have h13 : r < 13 := hr
  have : r = 0 ∨ r = 1 ∨ r = 2 ∨ r = 3 ∨ r = 4 ∨ r = 5 ∨ r = 6 ∨ r = 7 ∨ r = 8 ∨ r = 9 ∨ r = 10 ∨ r = 11 ∨ r = 12 := by omega
  rcases this with rfl | rfl | rfl | rfl | rfl | rfl | rfl | rfl | rfl | rfl | rfl | rfl | rfl <;> rfl
theorem name_all : ∀ b ∈ wordsL, ∀ c ∈ someL, isW (b ++ [c]) = true ∨ toks (b ++ [c]) 0 = ([⟨1, 0, (b ++ [c]).length⟩, ⟨0, (b ++ [c]).length, (b ++ [c]).length⟩], none) := by decide +kernel
theorem name_toks (q r : Nat) (hq : q < 13) (hr : r < 13) : isW (wordsL[q]'(by simpa [wordsL] using hq) ++ [someL.getD r 0]) = true ∨ toks (wordsL[q]'(by simpa [wordsL] using hq) ++ [someL.getD r 0]) 0 = ([⟨1, 0, (wordsL[q]'(by simpa [wordsL] using hq) ++ [someL.getD r 0]).length⟩, ⟨0, (wordsL[q]'(by simpa [wordsL] using hq) ++ [someL.getD r 0]).length, (wordsL[q]'(by simpa [wordsL] using hq) ++ [someL.getD r 0]).length⟩], none) := by
  refine name_all _ (List.getElem_mem _) _ ?_
  have h : r < someL.length := by simpa [someL] using hr
  rw [List.getD_eq_getElem?_getD, List.getElem?_eq_getElem h]
  exact List.getElem_mem h

set_option maxRecDepth 100000 in
set_option maxHeartbeats 2000000 in
/-- TokenNames answers true, and leaves what there was. -/
theorem names_walk (a0 : Int) (w0 : (Lit.int .u8 a0).wf = true) (a1 : Int) (w1 : (Lit.int .u8 a1).wf = true) (w : World) (hT : Tabs w) :
    Calls Tryd.prog 11 #[.int .u8 a0, .int .u8 a1] w fun e w' => e = .returned (.bool true) ∧ Below w.heap.size w w' := by
  obtain ⟨hu0, hu1⟩ := wf_u8 w0
  obtain ⟨hv0, hv1⟩ := wf_u8 w1
  clear w0 w1
  obtain ⟨n, rfl⟩ := Int.eq_ofNat_of_zero_le hu0
  obtain ⟨c, rfl⟩ := Int.eq_ofNat_of_zero_le hv0
  have HT := Lib.hid hT
  clear hT
  have hq : n % 13 < 13 := Nat.mod_lt _ (by omega)
  have hr : c % 13 < 13 := Nat.mod_lt _ (by omega)
  have eq1 : ((n : Int) % 13) = ((n % 13 : Nat) : Int) := by simp
  have er1 : ((c : Int) % 13) = ((c % 13 : Nat) : Int) := by simp
  have eq2 : (n : Int).tmod 13 = ((n % 13 : Nat) : Int) := by rw [Int.tmod_eq_emod_of_nonneg (by omega)]; simp
  have er2 : (c : Int).tmod 13 = ((c % 13 : Nat) : Int) := by rw [Int.tmod_eq_emod_of_nonneg (by omega)]; simp
  generalize n % 13 = q at hq eq1 eq2
  generalize c % 13 = r at hr er1 er2
  go_enter Tryd.func11, Tryd.ntmps11
  go_wp2_with fail
  refine (awake_calls _ HT.out).mono ?_
  rintro e w1 ⟨rfl, hB1⟩
  have HT1 := Lib.hid (HT.out.below hB1 HT.out.2.2)
  go_wp2_with fail
  refine (words_calls _ HT1.out).mono ?_
  rintro e w2 ⟨g, cap, rfl, hst, hB2⟩
  have hB12 := hB1.trans (hB2.mono hB1.size)
  have HST := Lib.hid hst
  have HT2 := Lib.hid (HT.out.below hB12 HT.out.2.2)
  have hw2 : 2 ≤ w2.heap.size := HT2.out.2.2
  clear hB1 hB2 hst HT1
  obtain ⟨b, off, hA, hbl, hxl, d0⟩ := HST.out.get q hq
  cases hA
  rw [Nat.zero_add] at d0
  have hq0 : (0 : Int) ≤ (q : Int) := by omega
  have hq1 : (q : Int) < 13 := by omega
  have hr0 : (0 : Int) ≤ (r : Int) := by omega
  have hr1 : (r : Int) < 13 := by omega
  have hr13 : r < (⟨#[97, 98, 99, 120, 121, 122, 65, 66, 67, 95, 48, 49, 57]⟩ : ByteArray).size := hr
  have hcv := conv1d w2 ((⟨#[97, 98, 99, 120, 121, 122, 65, 66, 67, 95, 48, 49, 57]⟩ : ByteArray)[r]'hr13)
  have hwl := word_len q hxl
  have hvs : (9223372036854775807 < (bs wordsL[q]).size + (⟨#[(⟨#[97, 98, 99, 120, 121, 122, 65, 66, 67, 95, 48, 49, 57]⟩ : ByteArray)[r]'hr13]⟩ : ByteArray).size) = False := eq_false (by rw [show (⟨#[(⟨#[97, 98, 99, 120, 121, 122, 65, 66, 67, 95, 48, 49, 57]⟩ : ByteArray)[r]'hr13]⟩ : ByteArray).size = 1 from rfl]; omega)
  have hvs2 : (9223372036854775807 < (bs wordsL[q]).size + 1) = False := eq_false (by omega)
  go_wp2
  go_region
  have hB3 : Below w2.heap.size w2 (w2.alloc (.cells #[.int .u8 (((⟨#[97, 98, 99, 120, 121, 122, 65, 66, 67, 95, 48, 49, 57]⟩ : ByteArray)[r]'hr13).toNat : Int)] 5)).drew := ((Below.refl _ w2).alloc (Nat.le_refl _) _).drew
  have hS : (bs wordsL[q] ++ (⟨#[(⟨#[97, 98, 99, 120, 121, 122, 65, 66, 67, 95, 48, 49, 57]⟩ : ByteArray)[r]'hr13]⟩ : ByteArray)).data.toList = wordsL[q] ++ [someL.getD r 0] := name_list q r hxl hr13
  have hSz : (bs wordsL[q] ++ (⟨#[(⟨#[97, 98, 99, 120, 121, 122, 65, 66, 67, 95, 48, 49, 57]⟩ : ByteArray)[r]'hr13]⟩ : ByteArray)).size ≤ 9 := by
    rw [← sizeL, hS, List.length_append, List.length_singleton]
    have := word_len q hxl
    rw [bs_size] at this
    omega
  clear hcv hvs hvs2
  generalize (w2.alloc (.cells #[.int .u8 (((⟨#[97, 98, 99, 120, 121, 122, 65, 66, 67, 95, 48, 49, 57]⟩ : ByteArray)[r]'hr13).toNat : Int)] 5)).drew = w3 at hB3 ⊢
  generalize (bs wordsL[q] ++ (⟨#[(⟨#[97, 98, 99, 120, 121, 122, 65, 66, 67, 95, 48, 49, 57]⟩ : ByteArray)[r]'hr13]⟩ : ByteArray)) = S at hS hSz ⊢
  have HS := Lib.hid hS
  have HNM := Lib.hid (name_toks q r (by simpa [wordsL] using hxl) hr)
  clear hS d0 eq1 eq2 er1 er2
  go_wp2
  go_loop [31] (fun a => ∃ i : Nat, i ≤ 13 ∧ a = .int .i64 i ∧ Hid (∀ j, j < i → S.data.toList ≠ wordsL.getD j [])) (fun a => 13 - (intOf a).toNat)
  case atStart => exact ⟨0, by omega, rfl, Lib.hid (fun j hj => by omega)⟩
  case round =>
    obtain ⟨i, hi, rfl, HN⟩ := hrel
    by_cases hlt : i < 13
    · obtain ⟨b, off, hA, hbl', hxl', d0⟩ := (HST.out.below hB3 (Nat.le_refl _)).get i hlt
      cases hA
      rw [Nat.zero_add] at d0
      have hwb : bs (wordsL[i]'hxl') = wordB i := by unfold wordB; rw [List.getD_eq_getElem?_getD, List.getElem?_eq_getElem hxl']; rfl
      rw [hwb] at d0
      have hi0 : (0 : Int) ≤ (i : Int) := by omega
      have hi1 : (i : Int) < 13 := by omega
      by_cases he : S = wordB i
      · have hb : ((wordB i).toList == S.toList) = true := by rw [he]; simp
        clear he hwb
        have hB4 := hB12.trans (hB3.mono hB12.size)
        go_wp2
        go_ret
        exact ⟨rfl, hB4⟩
      · have hb : ((wordB i).toList == S.toList) = false := str_ne (fun e => he e.symm)
        have HE := Lib.hid (show S.data.toList ≠ wordsL.getD i [] from fun h => he (bs_eq.2 h))
        clear he hwb
        go_wp2
        go_round
        case rel => exact ⟨i + 1, by omega, by go_num, Lib.hid (fun j hj => by
          by_cases h : j = i
          · subst h; exact HE.out
          · exact HN.out j (by omega))⟩
        case measure => simp [intOf]; omega
    · obtain rfl : i = 13 := by omega
      have hnw := isW_none S.data.toList HN.out
      have htk : toks S.data.toList 0 = ([⟨1, 0, S.size⟩, ⟨0, S.size, S.size⟩], none) := by
        rcases HNM.out with h | h
        · rw [← HS.out, hnw] at h; cases h
        · rw [← HS.out, sizeL] at h; exact h
      have HTK := Lib.hid htk
      have HA := Lib.hid (fun W hW => all_calls S (by omega) W hW)
      have HT3 := Lib.hid (HT2.out.below hB3 hw2)
      have hB4 := hB12.trans (hB3.mono hB12.size)
      clear htk hnw HN HNM HS
      go_wp2_with fail
      refine (HA.out _ HT3.out).mono ?_
      rintro e w5 ⟨hB5, h5⟩
      rw [HTK.out] at h5
      have hB15 := hB4.trans (hB5.mono hB4.size)
      rcases h5 with ⟨p, hp, _⟩ | ⟨_, A, c, rfl, ht⟩
      · cases hp
      · obtain ⟨b, off, rfl, hbl, hc⟩ := ht.2 (by simp)
        obtain ⟨c0, c1, c2⟩ := hc 0 (by simp)
        rw [Nat.zero_mul, Nat.add_zero] at c0 c1 c2
        clear hc ht hB5
        go_wp2
        go_ret
        exact ⟨rfl, hB15⟩
end Go.Proofs.YtgkgmlmipcnhbaaDoor
