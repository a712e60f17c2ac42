/-
  Package order: Words.
-/
import Derived.Test.YtdknejmhlfpdfaaDoorOrK
import Derived.Test.YtdknejmhlfpdfaaDoorOrLf
namespace Go.Proofs.YtdknejmhlfpdfaaDoor
open Go.RowKit

theorem kwd_len : (kw.drop 1).length = 20 := rfl
theorem kwd_take (i : Nat) (hi : i < 20) : (kw.drop 1).take (i + 1) = (kw.drop 1).take i ++ [kwB (i + 1)] := by
  have hl : i < (kw.drop 1).length := hi
  rw [List.take_succ_eq_append_getElem hl]
  have := kwd_get ⟨i, hi⟩
  simp only at this
  rw [List.getElem?_eq_getElem hl] at this
  rw [Option.some.inj this]
set_option maxRecDepth 100000 in
set_option maxHeartbeats 2000000 in
theorem words_calls (w : World) (hX : XO w) : Calls Tryd.prog 8 #[] w fun e w' => (∃ g c, e = .returned (.slice (some ⟨g, 0, none⟩) 20 c) ∧ RowS w' g (kw.drop 1)) ∧ Below w.heap.size w w' := by
  obtain ⟨i0, hi0, hz0, hz1, hz2⟩ := info_parts Tryd.infoStr
  have hr := Lib.hid hX.row
  clear hX
  go_enter Tryd.func8, Tryd.ntmps8
  go_wp2_with (with_reducible refine wpList_load_mid rfl 36 (.global 0) rfl 0 0 rfl shapesV.toList _ hr.out Tryd.underlying36 rfl Tryd.info_shapes ?_)
  go_loopw [1, 5] (fun v a wr => ∃ i : Nat, i ≤ 20 ∧ a = .int .i64 i ∧ Hid (wr.ownsRow w.heap.size 9 1 v i (strsP ((kw.drop 1).take i))) ∧ Hid (Below w.heap.size w wr)) (fun _ a _ => 20 - (intOf a).toNat)
  case atStart => exact ⟨0, by omega, rfl, Lib.hid ⟨rfl, .inl ⟨rfl, rfl⟩⟩, Lib.hid (Below.refl _ _)⟩
  case round =>
    obtain ⟨i, hi, rfl, HV, HB⟩ := hrel
    obtain ⟨A4, c4, hv⟩ := own_sliceC HV.out
    subst hv
    have hsw : w.heap.size ≤ wr.heap.size := HB.out.size
    by_cases hlt : i < 20
    · have hix := shapes_index wr i hlt
      have HTK := Lib.hid (kwd_take i hlt)
      generalize hy : bs (kwB (i + 1)) = y at *
      have HY := Lib.hid hy
      clear hy
      go_upto_region 5 with (fail)
      have HV1 := Lib.hid (HV.out.alloc (.cells #[.string y, .int .i64 (bhK (i + 1) : Nat)] 35))
      have HB1 := Lib.hid (HB.out.alloc hsw (.cells #[.string y, .int .i64 (bhK (i + 1) : Nat)] 35))
      have hH := heapOne wr #[.string y, .int .i64 (bhK (i + 1) : Nat)] 35
      generalize wr.alloc (.cells #[.string y, .int .i64 (bhK (i + 1) : Nat)] 35) = w1 at *
      have x0 : w1.cell? ⟨wr.heap.size, 0, none⟩ = some (.string y) := cellC hH 0
      have hsw1 : w.heap.size ≤ w1.heap.size := HB1.out.size
      clear hH hix
      go_wp2_with (at_builtin; refine wpList_append_own _ rfl _ _ 23 rfl w.heap.size 9 i0 (.string ⟨#[]⟩) 1 16 Tryd.underlying23 hi0 hz0 hz1 hz2 rfl (by decide) (.slice A4 i c4) i (strsP ((kw.drop 1).take i)) rfl (HV1.out.alloc _) ⟨w1.heap.size, 0, none⟩ 1 1 [.string y] (by rfl) rfl (newsI w1 (.string y) 9 w1.heap.size rfl) (oneStr _) (by unfold maxLen; omega) (by omega) (by simp; omega) ?_; intro v' w6 hown6 hgrow hnil; clear hnil; have HG6 := Lib.hid hgrow; have H6 := Lib.hid hown6; clear hgrow hown6)
      have HB6 := Lib.hid (below_appC (HB1.out.alloc hsw1 _) (Nat.le_refl _) (HV1.out.alloc _) HG6.out)
      have H7 : Hid (w6.ownsRow w.heap.size 9 1 v' (i + 1) (strsP ((kw.drop 1).take (i + 1)))) := Lib.hid (by
        rw [HTK.out, strsP_snoc, HY.out]
        exact H6.out)
      clear H6 HG6 x0
      go_wp2_with fail
      go_roundw
      case rel => exact ⟨i + 1, by omega, by go_num, H7, HB6⟩
      case measure => simp [intOf]; omega
    · obtain rfl : i = 20 := by omega
      have HR := Lib.hid (row_of HV.out (by decide) (by omega))
      go_wp2_with fail
      go_ret
      obtain ⟨g, c, hv, hrow⟩ := HR.out
      exact ⟨⟨g, c, by rw [← hv]; rfl, hrow⟩, HB.out⟩

end Go.Proofs.YtdknejmhlfpdfaaDoor
