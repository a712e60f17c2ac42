/-
  Slices of texts in memory: rows of the call's own; token.Words.
-/
import Derived.Test.YtgkgmlmipcnhbaaDoorRefHas
namespace Go.Proofs.YtgkgmlmipcnhbaaDoor
open Go.RowKit

theorem Tryd.infoStr : (Tryd.prog.info? 9).map (fun i => (i.zero, i.size, i.bytes)) = some (some (.string ⟨#[]⟩), 1, 16) := by kernel_rfl
def flatW (ws : List (List UInt8)) : List Value := ws.map fun b => .string (bs b)
theorem flatW_append (xs ys : List (List UInt8)) : flatW (xs ++ ys) = flatW xs ++ flatW ys := by simp [flatW]
theorem flatW_length (xs : List (List UInt8)) : (flatW xs).length = xs.length := by simp [flatW]
theorem strAt_of_own {w : World} {base n c : Nat} {A : Option Addr} {xs : List (List UInt8)} (h : w.ownsRow base 9 1 (.slice A n c) n (flatW xs)) : StrAt w w.heap.size A n xs := by
  have hl := h.1
  rw [flatW_length] at hl
  refine ⟨by omega, fun hn => ?_⟩
  rcases h.2 with ⟨_, h0⟩ | ⟨g, cap, cur, hv, hb, hg, hnc, hcm, hcs, ht⟩
  · omega
  · have hA : A = some ⟨g, 0, none⟩ := by injection hv
    subst hA
    have hlt : g < w.heap.size := (Array.getElem?_eq_some_iff.1 hg).1
    refine ⟨g, 0, rfl, hlt, fun i hi => ?_⟩
    have h1 : (flatW xs)[i]? = some (.string (bs xs[i])) := by simp [flatW, hi]
    rw [← h1, ← ht, List.getElem?_take, if_pos (by omega)]
    simp [World.cell?, hg]
theorem news1 (W : World) (a : Value) (t : TypeId) : ∀ j u, [a][j]? = some u → (W.alloc (.cells #[a] t)).cell? ((⟨W.heap.size, 0, none⟩ : Addr).add j) = some u := by
  intro j u hu
  have hj : j = 0 := by
    have := (List.getElem?_eq_some_iff.1 hu).1
    simp at this; omega
  subst hj
  simp at hu
  subst hu
  simp [Addr.add]

/-- What Words answers. -/
def WordsPost (w : World) (e : Ending) (w' : World) : Prop :=
  ∃ g cap, e = .returned (.slice (some ⟨g, 0, none⟩) 13 cap) ∧ StrAt w' w'.heap.size (some ⟨g, 0, none⟩) 13 wordsL ∧ Below w.heap.size w w'

theorem Tabs.range_words {w : World} (h : Tabs w) : w.rangeAt 0 0 wordsV.toList := fun j v hv => by
  have hj : j < 13 := (List.getElem?_eq_some_iff.1 hv).1
  have h1 := wordsV_get j hj
  rw [Array.getElem?_toList, h1] at hv
  rw [Nat.zero_add, h.1 j hj, hv]
theorem Tryd.info_words : (Tryd.prog.info? 55).map (·.size) = some wordsV.toList.length := by kernel_rfl
theorem words_take (i : Nat) (hi : i < 13) : wordsL.take (i + 1) = wordsL.take i ++ [wordsL.getD i []] := by
  have h : i < wordsL.length := by simpa [wordsL] using hi
  rw [List.take_succ_eq_append_getElem h, List.getD_eq_getElem?_getD, List.getElem?_eq_getElem h]
  rfl

set_option maxRecDepth 100000 in
set_option maxHeartbeats 1000000 in
theorem words_calls (w : World) (hw : Tabs w) : Calls Tryd.prog 20 #[] w (WordsPost w) := by
  obtain ⟨i0, hi, hz0, hz1, hz2⟩ := info_parts Tryd.infoStr
  have hr := Lib.hid hw.range_words
  clear hw
  go_enter Tryd.func20, Tryd.ntmps20
  go_wp2_with (with_reducible refine wpList_load_mid rfl 55 (.global 0) rfl 0 0 rfl wordsV.toList _ hr.out Tryd.underlying55 rfl Tryd.info_words ?_)
  go_loopw [1, 5] (fun v a wr => ∃ i : Nat, i ≤ 13 ∧ a = .int .i64 i ∧ wr.ownsRow w.heap.size 9 1 v i (flatW (wordsL.take i)) ∧ Below w.heap.size w wr) (fun _ a _ => 13 - (intOf a).toNat)
  case atStart => exact ⟨0, by omega, rfl, ⟨by simp [flatW], .inl ⟨rfl, by simp⟩⟩, Below.refl _ _⟩
  case round =>
    obtain ⟨i, hi13, rfl, hown, hB⟩ := hrel
    have hbs := hB.size
    by_cases hlt : i < 13
    · have hix := words_index wr i hlt
      have HT := Lib.hid (words_take i hlt)
      go_wp2_with (at_builtin; refine wpList_append_own _ rfl _ _ 41 rfl w.heap.size 9 i0 (.string ⟨#[]⟩) 1 16 Tryd.underlying41 hi hz0 hz1 hz2 rfl (by decide) u1 _ _ rfl (hown.alloc _) ⟨wr.heap.size, 0, none⟩ 1 1 [.string (wordB i)] rfl rfl (news1 _ _ _) (fun x hx => by simp at hx; subst hx; rfl) (by unfold maxLen; omega) (by omega) (by simp; omega) ?_; intro v' w3 hown' hgrow _; have HG := Lib.hid hgrow; clear hgrow)
      have hB4 := below_append (hB.alloc hbs _) (Nat.le_refl _) (hown.alloc _) HG.out
      go_roundw
      case rel =>
        refine ⟨i + 1, by omega, by go_num, ?_, hB4⟩
        rw [HT.out, flatW_append]
        exact hown'
      case measure => simp [intOf]; omega
    · obtain rfl : i = 13 := by omega
      obtain ⟨g, cap, rfl⟩ := own_some hown
      have hsp := strAt_of_own (xs := wordsL) hown
      have HE := Lib.hid (show WordsPost w (.returned (.slice (some ⟨g, 0, none⟩) 13 cap)) wr from ⟨g, cap, rfl, hsp, hB⟩)
      clear hown hsp
      go_wp2
      go_ret
      exact HE.out

end Go.Proofs.YtgkgmlmipcnhbaaDoor
