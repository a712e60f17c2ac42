/-
  world.Text: a good world's.
-/
import Derived.Test.YtoailhkaenofpaaDoorWdB
namespace Go.Proofs.YtoailhkaenofpaaDoor
open Go.RowKit

/-- What Text answers. -/
def TxP (m : WoM) (w : World) (e : Ending) (w' : World) : Prop :=
  Below w.heap.size w w' ∧ ((GoodW m ∧ e = .returned (.string (bs (txtW m)))) ∨ (¬ GoodW m ∧ e = .returned (.string (bs []))))
set_option maxRecDepth 100000 in
set_option maxHeartbeats 2000000 in
theorem text_calls (m : WoM) (A : Option Addr) (c : Nat) (w : World) (hX : TX w) (h : WoAt w w.heap.size A c m) : Calls Tryd.prog 10 #[woV A c m] w (TxP m w) := by
  obtain ⟨i0, hi0, hz0, hz1, hz2⟩ := info_parts Tryd.infoStr
  have HX := Lib.hid (fun W (hW : Below w.heap.size w W) => hX.below hW (Nat.le_refl _))
  have HW := Lib.hid h
  have hfit := h.fit
  have hcap := h.cap
  have hfew := h.few
  unfold maxLen at hfew
  have HB0 := Lib.hid ((Below.refl w.heap.size w).alloc (Nat.le_refl _) (.cells #[.int .i64 m.stp, .slice A m.ins.length c] 24))
  have HX0 := Lib.hid (heapOne w #[.int .i64 m.stp, .slice A m.ins.length c] 24)
  have HGC := Lib.hid (fun W => good_calls m A c W)
  have HFIT := Lib.hid hfit
  unfold woV at HGC ⊢
  clear h hX hfit
  go_enter Tryd.func10, Tryd.ntmps10
  go_wp2_with fail
  generalize w.alloc (.cells #[.int .i64 m.stp, .slice A m.ins.length c] 24) = W0 at *
  refine (HGC.out _).mono ?_
  rintro e w1 ⟨hB1, h1⟩
  have HB1 := Lib.hid (HB0.out.trans (hB1.mono HB0.out.size))
  have HX1 := Lib.hid ((hB1.block _ (blkLt HX0.out)).trans HX0.out)
  clear hB1 HGC
  rcases h1 with ⟨hg, rfl⟩ | ⟨hg, rfl⟩
  rotate_left 1
  · have HG := Lib.hid hg
    clear hg
    go_wp2
    go_ret
    exact ⟨HB1.out, .inr ⟨HG.out, rfl⟩⟩
  · have HG := Lib.hid hg
    have hlen := hg.2
    clear hg
    have x0 : w1.cell? ⟨w.heap.size, 0, none⟩ = some (.int .i64 m.stp) := cellC HX1.out 0
    have x1 : w1.cell? ⟨w.heap.size, 1, none⟩ = some (.slice A m.ins.length c) := cellC HX1.out 1
    have HIT := Lib.hid (itoa_calls m.stp HFIT.out.1 w1 (HX.out _ HB1.out))
    obtain ⟨L, hL⟩ : ∃ L, L = txtW m := ⟨_, rfl⟩
    have HLD := Lib.hid hL
    have HLEN := Lib.hid (txtW_len m HFIT.out)
    rw [← hL] at HLEN
    clear hL
    have HPW : Hid (partsW m = [stepsB, Lib.itoa m.stp] ++ m.ins.map Lib.itoa) := Lib.hid rfl
    generalize hst : Lib.itoa m.stp = st at *
    have HST := Lib.hid hst
    clear hst
    go_wp2_with fail
    refine HIT.out.mono ?_
    rintro e w2 ⟨rfl, hB2⟩
    have HB2 := Lib.hid (HB1.out.trans (hB2.mono HB1.out.size))
    have HX2 := Lib.hid ((hB2.block _ (blkLt HX1.out)).trans HX1.out)
    clear hB2 HIT x0 x1
    have hzz : w.heap.size < w2.heap.size := blkLt HX2.out
    have HB3 := Lib.hid (HB2.out.alloc (by omega) (.cells #[.string ⟨#[115, 116, 101, 112, 115]⟩, .string (bs st)] 9))
    have HP3 := Lib.hid (heapOne w2 #[.string ⟨#[115, 116, 101, 112, 115]⟩, .string (bs st)] 9)
    have y1 : (w2.alloc (.cells #[.string ⟨#[115, 116, 101, 112, 115]⟩, .string (bs st)] 9)).cell? ⟨w.heap.size, 1, none⟩ = some (.slice A m.ins.length c) := newC (cellC HX2.out 1) _
    go_wp2
    generalize hW3 : w2.alloc (.cells #[.string ⟨#[115, 116, 101, 112, 115]⟩, .string (bs st)] 9) = W3 at *
    have hsz3 : w.heap.size ≤ W3.heap.size := HB3.out.size
    clear hW3 y1
    go_loopw [3, 16] (fun v i wr => ∃ (k : Nat), k ≤ m.ins.length ∧ i = .int .i64 k ∧ Hid (wr.ownsRow w.heap.size 9 1 v (2 + k) (strsP ([stepsB, st] ++ (m.ins.take k).map Lib.itoa))) ∧ Hid (Below w.heap.size w wr)) (fun _ i _ => m.ins.length - (intOf i).toNat)
    case atStart => exact ⟨0, by omega, rfl, Lib.hid (own_block HP3.out (by omega) rfl (by simp) (by decide)), HB3⟩
    case round =>
      obtain ⟨k, hk, rfl, HV, HB⟩ := hrel
      have hv := HV.out
      obtain ⟨A4, c4, rfl⟩ := own_sliceC hv
      clear hv
      have hsz := HB.out.size
      by_cases hlt : k < m.ins.length
      · obtain ⟨b, off, rfl, hb, hcl⟩ := HW.out.row (by omega)
        have hx : wr.cell? ⟨b, off + k, none⟩ = some (.int .i64 m.ins[k]) := keepC HB.out (hcl k hlt) hb
        have HTK : Hid ((m.ins.take (k + 1)).map Lib.itoa = (m.ins.take k).map Lib.itoa ++ [Lib.itoa m.ins[k]]) := Lib.hid (by rw [List.take_succ_eq_append_getElem hlt, List.map_append]; rfl)
        have hnf := HFIT.out.2 _ (List.getElem_mem hlt)
        generalize m.ins[k] = n at *
        have HIT := Lib.hid (itoa_calls n hnf wr (HX.out _ HB.out))
        generalize Lib.itoa n = t at *
        have hk0 : (0 : Int) ≤ (k : Int) := by omega
        have hk1 : (k : Int) < (m.ins.length : Int) := by omega
        clear hcl hnf
        go_wp2_with fail
        refine HIT.out.mono ?_
        rintro e w5 ⟨rfl, hB5⟩
        have HB5 := Lib.hid (HB.out.trans (hB5.mono (by omega)))
        have HV5 := Lib.hid (own_keepC HV.out fun g hg => hB5.block g (own_ltC HV.out g hg).2)
        have hz5 : w.heap.size ≤ w5.heap.size := HB5.out.size
        clear hB5 HIT hx
        go_wp2_with (at_builtin; refine wpList_append_own _ rfl _ _ 53 rfl w.heap.size 9 i0 (.string ⟨#[]⟩) 1 16 Tryd.underlying53 hi0 hz0 hz1 hz2 rfl (by decide) (.slice A4 (2 + k) c4) (2 + k) (strsP ([stepsB, st] ++ (m.ins.take k).map Lib.itoa)) rfl (HV5.out.alloc _) ⟨w5.heap.size, 0, none⟩ 1 1 [.string (bs t)] (by rfl) rfl (newsI w5 (.string (bs t)) 9 w5.heap.size rfl) (oneStr _) (by unfold maxLen; omega) (by omega) (by simp; omega) ?_; intro v' w6 hown6 hgrow hnil; clear hnil; have HG6 := Lib.hid hgrow; have H6 := Lib.hid hown6; clear hgrow hown6)
        go_roundw
        case rel => exact ⟨k + 1, by omega, by go_num, Lib.hid (by rw [HTK.out, ← List.append_assoc, strsP_snoc]; exact H6.out), Lib.hid (below_appC (HB5.out.alloc hz5 _) (Nat.le_refl _) (HV5.out.alloc _) HG6.out)⟩
        case measure => simp [intOf]; omega
      · obtain rfl : k = m.ins.length := by omega
        rw [List.take_length] at HV
        obtain ⟨g, cap, hvg, hgb, hgl, hcp, hcm, hcl⟩ := own_cellC HV.out (by omega)
        injection hvg with e1 _ e3
        subst e1 e3
        rw [← HPW.out] at hcl
        have hxl : ((partsW m).map bs).length = 2 + m.ins.length := by rw [HPW.out]; simp; omega
        have hmm : ((partsW m).map bs).map (fun (x : ByteArray) => x.data.toList) = partsW m := by
          rw [List.map_map]
          have : ((fun (x : ByteArray) => x.data.toList) ∘ bs) = id := by funext l; exact bs_toList l
          rw [this, List.map_id]
        have hjl : (Lib.join (partsW m) [32]).length + 1 = L.length := by rw [HLD.out]; simp [txtW, lineM]
        have hln := HLEN.out
        have HJ := Lib.hid (Tryd.joinW g 0 c4 ((partsW m).map bs) ⟨#[32]⟩ wr (by
          intro j x hj
          have hjlt : j < (partsW m).length := by
            rcases Nat.lt_or_ge j (partsW m).length with h | h
            · exact h
            · rw [List.getElem?_eq_none (by simpa using h)] at hj; cases hj
          have hjl2 : (partsW m).length = 2 + m.ins.length := by simpa using hxl
          have := hcl j (by omega)
          rw [Nat.zero_add, this]
          simp [strsP, hjlt] at hj ⊢
          exact hj) hgl (by rw [hxl]; omega) (by rw [hxl]; exact hcp) (by rw [hmm]; show (Lib.join (partsW m) [32]).length ≤ _; omega))
        rw [hxl, hmm] at HJ
        have HE : Hid ((⟨(Lib.join (partsW m) [32]).toArray⟩ : ByteArray) ++ (⟨#[10]⟩ : ByteArray) = bs (txtW m)) := Lib.hid (WideShapes.bytes_inj (by
          rw [bs_toList]; simp [txtW, lineM]))
        have hs0 : (⟨(Lib.join (partsW m) [32]).toArray⟩ : ByteArray).size = (Lib.join (partsW m) [32]).length := by show (Lib.join (partsW m) [32]).toArray.size = _; simp
        have hj2 : ([32] : List UInt8) = (⟨#[32]⟩ : ByteArray).data.toList := rfl
        rw [← hj2] at HJ
        have hsA : (⟨#[10]⟩ : ByteArray).size = 1 := rfl
        generalize (⟨(Lib.join (partsW m) [32]).toArray⟩ : ByteArray) = J at *
        have s1 : (9223372036854775807 < J.size + 1) = False := eq_false (by omega)
        have s2 : (9223372036854775807 < J.size + (⟨#[10]⟩ : ByteArray).size) = False := eq_false (by omega)
        clear hcl hmm hxl hlt hk hln hjl hs0 hj2 hsA
        go_wp2_with fail
        refine HJ.out.mono ?_
        rintro e w5 ⟨rfl, hB5⟩
        have HB5 := Lib.hid (HB.out.trans (hB5.mono (by omega)))
        clear hB5 HJ
        go_wp2
        go_ret
        exact ⟨HB5.out, .inl ⟨HG.out, ret_str HE.out⟩⟩
end Go.Proofs.YtoailhkaenofpaaDoor
