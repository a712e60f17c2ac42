/-
  The reference's own answers: whether a place is in one of some spans, and a text blanked but for them, byte by byte.
-/
import Derived.Test.YtjimkfniahndhaaBlankW
import Derived.Lib.BufferRead
import Derived.Maps.AppendAt
namespace Go.Proofs.Ytjimkfniahndhaa
open Go.RowKit

theorem inB_take_succ (xs : List Sp) (k : Nat) (h : k < xs.length) (p : Int) : inB (xs.take (k + 1)) p = (inB (xs.take k) p || (decide ((xs[k]).1 ≤ p) && decide (p < (xs[k]).2))) := by
  rw [List.take_succ_eq_append_getElem h, inB_snoc]

theorem inB_prefix {xs : List Sp} {k : Nat} {p : Int} (h : inB (xs.take k) p = true) : inB xs p = true := by
  rw [inB_iff] at h ⊢
  obtain ⟨x, hx, h2⟩ := h
  exact ⟨x, List.mem_of_mem_take hx, h2⟩

set_option maxRecDepth 100000 in
set_option maxHeartbeats 1000000 in
theorem in_calls (A : Option Addr) (n c : Nat) (xs : List Sp) (hn : n ≤ 1000) (p : Int) (w : World) (hx : SpAt w w.heap.size A n xs) :
    Calls Try.prog 27 #[.slice A n c, .int .i64 p] w fun e w' => e = .returned (.bool (inB xs p)) ∧ w = w' := by
  have HX := Lib.hid hx
  have HL := Lib.hid hx.1
  clear hx
  go_enter Try.func27, Try.ntmps27
  go_wp2
  go_loop [8] (fun i => ∃ (k : Nat), k ≤ n ∧ i = .int .i64 k ∧ inB (xs.take k) p = false) (fun i => n - (intOf i).toNat)
  case atStart => exact ⟨0, Nat.zero_le _, rfl, rfl⟩
  case round =>
    obtain ⟨k, hk, rfl, hin⟩ := hrel
    have HI := Lib.hid hin
    clear hin
    by_cases hlt : k < n
    · have hkl : k < xs.length := by rw [HL.out]; exact hlt
      have HT := Lib.hid (inB_take_succ xs k hkl p)
      obtain ⟨b, off, hA, hbl, hcs⟩ := HX.out.2 (by omega)
      subst hA
      obtain ⟨hc1, hc2⟩ := hcs k hkl
      clear hcs
      generalize hgx : xs[k] = x at hc1 hc2 HT
      clear hgx
      obtain ⟨x1, x2⟩ := x
      dsimp only at hc1 hc2
      by_cases h1 : x1 ≤ p
      · by_cases h2 : p < x2
        · have HE := Lib.hid (show inB xs p = true from inB_prefix (k := k + 1) (by rw [HT.out]; simp [h1, h2]))
          go_wp2
          go_ret
          exact ⟨by rw [HE.out]; rfl, rfl⟩
        · have h2' : decide (p < x2) = false := by simp; omega
          have HE := Lib.hid (show inB (xs.take (k + 1)) p = false by rw [HT.out, HI.out, h2']; simp)
          go_wp2
          go_round
          case rel => exact ⟨k + 1, by omega, by go_num, HE.out⟩
          case measure => simp [intOf]; omega
      · have h1' : decide (x1 ≤ p) = false := by simp; omega
        have HE := Lib.hid (show inB (xs.take (k + 1)) p = false by rw [HT.out, HI.out, h1']; simp)
        go_wp2
        go_round
        case rel => exact ⟨k + 1, by omega, by go_num, HE.out⟩
        case measure => simp [intOf]; omega
    · have HE := Lib.hid (show inB xs p = false by
        have := HI.out
        rwa [List.take_of_length_le (by have := HL.out; omega)] at this)
      go_wp2
      go_ret
      exact ⟨by rw [HE.out]; rfl, rfl⟩

theorem byteCells_snoc (l : List UInt8) (c : UInt8) : Lib.byteCells (l ++ [c]) = Lib.byteCells l ++ [byteV c] := by simp [Lib.byteCells, byteV]

theorem blankL_take_succ (t : List UInt8) (L : List Sp) (i : Nat) (h : i < t.length) : (blankL t L).take (i + 1) = (blankL t L).take i ++ [if t[i] = 10 || inB L i then t[i] else 32] := by
  rw [List.take_succ_eq_append_getElem (by rw [blankL_length]; exact h), blankL_get t L i h]

set_option maxRecDepth 100000 in
set_option maxHeartbeats 1000000 in
theorem refBlank_calls (s : ByteArray) (hs : s.size ≤ 1000) (A : Option Addr) (n c : Nat) (xs : List Sp) (hn : n ≤ 1000) (w : World) (hx : SpAt w w.heap.size A n xs) :
    Calls Try.prog 19 #[.string s, .slice A n c] w fun e w' => e = .returned (.string (blankS s xs)) ∧ Below w.heap.size w w' := by
  obtain ⟨i0, hi, hz0, hz1, hz2⟩ := info_parts Try.info5
  have HX := Lib.hid hx
  clear hx
  go_enter Try.func19, Try.ntmps19
  go_wp2
  go_loopw [5, 6, 7] (fun v i _ wr => ∃ (k : Nat), k ≤ s.size ∧ i = .int .i64 k ∧ wr.ownsRow w.heap.size 5 1 v k (Lib.byteCells ((blankL s.data.toList xs).take k)) ∧ (k = 0 → v = .slice none 0 0) ∧ Below w.heap.size w wr) (fun _ i _ _ => s.size - (intOf i).toNat)
  case atStart => exact ⟨0, Nat.zero_le _, rfl, World.ownsRow_nil _ _ _ _, fun _ => rfl, Below.refl _ _⟩
  case round =>
    obtain ⟨k, hk, rfl, hown, hnil, hB⟩ := hrel
    have hbs := hB.size
    have HNil := Lib.hid hnil
    clear hnil
    by_cases hlt : k < s.size
    · have HT := Lib.hid (blankL_take_succ s.data.toList xs k (by simpa using hlt))
      have HE : Hid (s.data.toList[k]'(by simpa using hlt) = s[k]) := rfl
      have hinc := Lib.hid (fun wq (h : Below w.heap.size w wq) => in_calls A n c xs hn (k : Int) wq ((HX.out.below h (Nat.le_refl _)).mono h.size))
      by_cases h10 : s[k] = 10
      · have hcb : ((s[k].toNat : Int) != 10) = false := by simp [h10]
        have HV := Lib.hid (show byteV (if s.data.toList[k]'(by simpa using hlt) = 10 || inB xs k then s.data.toList[k]'(by simpa using hlt) else 32) = .int .u8 (s[k].toNat : Int) by rw [HE.out]; simp [h10, byteV])
        clear h10
        go_wp2_with (at_builtin; refine wpList_append_own _ rfl _ _ 49 rfl w.heap.size 5 i0 (.int .u8 0) 1 1 Try.underlying49 hi hz0 hz1 hz2 rfl (by decide) u5 _ _ rfl (hown.alloc _) ⟨wr.heap.size, 0, none⟩ 1 1 [.int .u8 (s[k].toNat : Int)] rfl rfl (cell_one_new _ _ _) (fun x hx => by simp at hx; subst hx; rfl) (by unfold maxLen; omega) (by omega) (by simp; omega) ?_; intro v' w3 hown' hgrow hn3)
        have hB3 := below_append (hB.alloc hbs _) (Nat.le_refl _) (hown.alloc _) hgrow
        go_roundw
        case rel =>
          refine ⟨k + 1, by omega, by go_num, ?_, fun h => absurd h (by omega), hB3⟩
          rw [HT.out, byteCells_snoc, HV.out]
          exact hown'
        case measure => simp [intOf]; omega
      · have hcb : ((s[k].toNat : Int) != 10) = true := by
          rw [bne_iff_ne]; intro h; apply h10; apply UInt8.toNat_inj.1; simp; omega
        by_cases hin : inB xs k = true
        · have HV := Lib.hid (show byteV (if s.data.toList[k]'(by simpa using hlt) = 10 || inB xs k then s.data.toList[k]'(by simpa using hlt) else 32) = .int .u8 (s[k].toNat : Int) by rw [HE.out, hin]; simp [byteV])
          rw [hin] at hinc
          clear h10 hin
          go_wp2_with (first | (go_at_call 27; refine (hinc.out _ hB).mono ?_; rintro e w2 ⟨rfl, rfl⟩) | (at_builtin; refine wpList_append_own _ rfl _ _ 49 rfl w.heap.size 5 i0 (.int .u8 0) 1 1 Try.underlying49 hi hz0 hz1 hz2 rfl (by decide) u5 _ _ rfl (hown.alloc _) ⟨wr.heap.size, 0, none⟩ 1 1 [.int .u8 (s[k].toNat : Int)] rfl rfl (cell_one_new _ _ _) (fun x hx => by simp at hx; subst hx; rfl) (by unfold maxLen; omega) (by omega) (by simp; omega) ?_; intro v' w3 hown' hgrow hn3))
          have hB3 := below_append (hB.alloc hbs _) (Nat.le_refl _) (hown.alloc _) hgrow
          go_roundw
          case rel =>
            refine ⟨k + 1, by omega, by go_num, ?_, fun h => absurd h (by omega), hB3⟩
            rw [HT.out, byteCells_snoc, HV.out]
            exact hown'
          case measure => simp [intOf]; omega
        · have hin' : inB xs k = false := by simpa using hin
          have HV := Lib.hid (show byteV (if s.data.toList[k]'(by simpa using hlt) = 10 || inB xs k then s.data.toList[k]'(by simpa using hlt) else 32) = .int .u8 32 by rw [HE.out, hin']; simp [byteV, h10])
          rw [hin'] at hinc
          clear h10 hin hin'
          go_wp2_with (first | (go_at_call 27; refine (hinc.out _ hB).mono ?_; rintro e w2 ⟨rfl, rfl⟩) | (at_builtin; refine wpList_append_own _ rfl _ _ 49 rfl w.heap.size 5 i0 (.int .u8 0) 1 1 Try.underlying49 hi hz0 hz1 hz2 rfl (by decide) u5 _ _ rfl (hown.alloc _) ⟨wr.heap.size, 0, none⟩ 1 1 [.int .u8 32] rfl rfl (cell_one_new _ _ _) (fun x hx => by simp at hx; subst hx; rfl) (by unfold maxLen; omega) (by omega) (by simp; omega) ?_; intro v' w3 hown' hgrow hn3))
          have hB3 := below_append (hB.alloc hbs _) (Nat.le_refl _) (hown.alloc _) hgrow
          go_roundw
          case rel =>
            refine ⟨k + 1, by omega, by go_num, ?_, fun h => absurd h (by omega), hB3⟩
            rw [HT.out, byteCells_snoc, HV.out]
            exact hown'
          case measure => simp [intOf]; omega
    · obtain rfl : k = s.size := by omega
      have hfull : (blankL s.data.toList xs).take s.size = blankL s.data.toList xs := List.take_of_length_le (by rw [blankL_length]; simp)
      rw [hfull] at hown
      clear hfull
      rcases hown.2 with ⟨rfl, h0⟩ | ⟨g, cap, cur, rfl, hb, hg, hnc, hcm, hcs, ht⟩
      · have hcv := Lib.run_convert_nil_bytes (P := Try.prog) wr 49 9 5 0 Try.underlying49 Try.underlying5 Try.underlying9
        have HE := Lib.hid (show blankS s xs = ⟨#[]⟩ by
          have hl := blankL_length s.data.toList xs
          have e0 : blankL s.data.toList xs = [] := List.eq_nil_of_length_eq_zero (by rw [hl]; simpa using h0)
          unfold blankS; rw [e0])
        have hs0 : s.size ≤ 0 := by omega
        clear hown h0
        go_wp2
        go_ret
        exact ⟨by rw [HE.out]; rfl, hB⟩
      · have hby : Lib.Bytes wr g 0 (blankS s xs) := by
          intro i hi'
          have hin : i < s.size := by rwa [blankS_size] at hi'
          have e : (blankS s xs)[i] = (blankL s.data.toList xs)[i]'(by rw [blankL_length]; simpa using hin) := rfl
          have hcc := hown.cellAt i (by omega)
          rw [Nat.zero_add, hcc, e, List.getElem?_eq_getElem (by rw [Lib.byteCells_length, blankL_length]; simpa using hin)]
          simp [Lib.byteCells]
        have hcv := Lib.run_convert_whole (P := Try.prog) wr 49 5 9 Try.underlying49 Try.underlying5 Try.underlying9 g 0 (blankS s xs) hby cap
        rw [blankS_size] at hcv
        clear hown hb hg hnc hcm hcs ht hby
        obtain ⟨out, ho⟩ : ∃ out, blankS s xs = out := ⟨_, rfl⟩
        rw [ho] at hcv
        have HO := Lib.hid ho
        clear ho
        go_wp2
        go_ret
        exact ⟨by rw [HO.out]; rfl, hB⟩

end Go.Proofs.Ytjimkfniahndhaa
