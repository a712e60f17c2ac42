/-
  The statement ArenaShelves, gone through.
-/
import Derived.Test.YthbhdmkbojjjkaaArShelvesA
import Derived.Test.YthbhdmkbojjjkaaArStr
import Derived.Deep.Cut
import Derived.Deep.CutBlock
import Derived.Deep.CutRange
namespace Go.Proofs.Ythbhdmkbojjjkaa
open Go.RowKit

theorem Try.infoInt : (Try.prog.info? 3).map (fun i => (i.zero, i.size, i.bytes)) = some (some (.int .i64 0), 1, 8) := by kernel_rfl
/-- The cells of numbers. -/
def intV (l : List Int) : List Value := l.map (.int .i64)
theorem below_grown {B : Nat} {a W w3 : World} {base n : Nat} {e : TypeId} {size : Nat} {v : Value} {xs : List Value} (h : Below B a W) (ho : W.ownsRow base e size v n xs) (hB : B ≤ base) (hW : B ≤ W.heap.size) (hg : W.grownBy w3 v.ownBlock) : Below B a w3 :=
  h.trans ((save_grown (S := v.ownBlock.toList) hg (fun g hg => by rw [hg]; simp)).below (fun g hg => by
    simp at hg
    have := (ho.lt g hg).1
    omega) hW)
theorem intV_append (a b : List Int) : intV (a ++ b) = intV a ++ intV b := by simp [intV]
theorem intV_len (l : List Int) : (intV l).length = l.length := by simp [intV]

set_option maxRecDepth 100000 in
set_option maxHeartbeats 4000000 in
theorem shelves_short (room : Int) (A : Option Addr) (c : Nat) (zs : List Int) (hz : ∀ z ∈ zs, 0 ≤ z ∧ z < 256) (w : World) (hn : zs.length ≤ 100) (hA : ByAt w w.heap.size A zs.length zs) :
    Calls Try.prog 4 #[.int .i64 room, .slice A zs.length c] w fun e w' => e = .returned (.bool true) ∧ Below w.heap.size w w' := by
  obtain ⟨i0, hi0, hz0, hz1', hz2⟩ := info_parts Try.infoInt
  have hd : decide ((100 : Int) < (zs.length : Int)) = false := decide_eq_false (by omega)
  have hd' : decide (100 < zs.length) = false := decide_eq_false (by omega)
  have HA := Lib.hid hA
  have HZ := Lib.hid hz
  clear hA hz
  go_enter Try.func4, Try.ntmps4
  go_wp2_with fail
  refine (awake_calls _).mono ?_
  rintro e w1 ⟨rfl, hB1⟩
  have hz1 := hB1.size
  have HB1 := Lib.hid hB1
  clear hB1
  go_wp2_with fail
  refine (room_shelf room w1).mono ?_
  rintro e w2 ⟨rfl, h2, hB2, hz2⟩
  have hl2 : w1.heap.size < w2.heap.size := by omega
  have HI0 : Hid (ShelvesI w1 w1.heap.size room 0 (.slice none 0 0) [] none 0 w2) := Lib.hid ⟨hB2, h2, ⟨rfl, fun h => absurd h (by simp)⟩, (fun g off h => by cases h), by simp, by simp [keys], by have := roomS_le room; simp; omega, by simp⟩
  clear h2 hB2 hz2
  go_upto_region 4 with (fail)
  go_cut [6] from 32 to 34 (fun s wx => s = .int .i64 (roomS room) ∧ wx = w2)
  case first =>
    go_wp2_with fail
    all_goals
      go_meet
      case rel =>
        refine ⟨?_, rfl⟩
        first
          | rw [show roomS room = 1 by unfold roomS; omega]
          | rw [show roomS room = 1000 by unfold roomS; omega]
          | rw [show roomS room = room by unfold roomS; omega]
  case rest =>
    obtain ⟨rfl, rfl⟩ := hcut
    go_wp2
    go_loopw [7, 8, 39] (fun mv fv iv wr => ∃ (k : Nat) (f : Int) (va : Value) (xa : List It) (Am : Option Addr) (cm : Nat), k ≤ zs.length ∧ iv = .int .i64 k ∧ mv = .slice Am xa.length cm ∧ fv = .int .i64 f ∧ Hid (ShelvesI w1 w1.heap.size room f va xa Am k wr)) (fun _ _ iv _ => zs.length - (intOf iv).toNat)
    case atStart => exact ⟨0, 0, _, [], none, 0, by omega, rfl, rfl, rfl, HI0⟩
    case round =>
      obtain ⟨k, f, va, xa, Am, cm, hk, rfl, rfl, rfl, HI⟩ := hrel
      clear HI0
      by_cases hlt : k < zs.length
      · obtain ⟨b, off, rfl, hb, hkl, hcl⟩ := HA.out.get k hlt
        have hx := (HI.out.low.cell (p := ⟨b, off + k, none⟩) (by simp; omega)).trans ((HB1.out.cell (p := ⟨b, off + k, none⟩) hb).trans hcl)
        obtain ⟨g0, g1⟩ := HZ.out zs[k] (List.getElem_mem hkl)
        clear hcl
        generalize zs[k] = zi at hx g0 g1
        have hlk : (k : Int) < (zs.length : Int) := by omega
        have hk0 : (0 : Int) ≤ (k : Int) := by omega
        have q0 : 0 ≤ zi % 16 := by omega
        have q1 : zi % 16 ≤ 15 := by omega
        have q2 : zi % 16 < 256 := by omega
        generalize hq : zi % 16 = q at q0 q1 q2
        have HQ := Lib.hid hq
        clear hq
        have hal := HI.out.a.lt
        have hfet := HI.out.fet
        obtain ⟨hf0, hf1⟩ := hfet
        have hrl := roomS_le room
        obtain ⟨hr1, hr2⟩ := hrl
        have hxl := HI.out.len
        have HW := Lib.hid (save_of_below [] ((Below.refl wr.heap.size wr).alloc (Nat.le_refl _) (.cells #[.int .i64 0] 3)) (Nat.le_refl _))
        have HC := Lib.hid (ask_count w1.heap.size (roomS room) f va xa q wr.heap.size (wr.alloc (.cells #[.int .i64 0] 3)) (by omega) (by omega) (by omega) (HI.out.a.save HW.out (by simp) (by simp)) HI.out.val q0 q1 (by simp) (by simp) (by omega) (fun e => by have := (HI.out.a.row _ e).2; omega))
        obtain ⟨wq, rfl⟩ : ∃ x, x = wr := ⟨_, rfl⟩
        go_wp2_with fail
        rw [HQ.out]
        refine HC.out.mono ?_
        rintro e w5 ⟨rfl, va', a5, c5, s5, n5⟩
        have hz5 := s5.size
        simp at hz5
        have S15 : Hid (Save (w1.heap.size :: va.ownBlock.toList) wq w5) := Lib.hid ((HW.out.mono (T := w1.heap.size :: va.ownBlock.toList) (by simp)).trans' s5 (fun x hx => by
          simp at hx ⊢
          rcases hx with rfl | rfl | hx
          · exact .inr (Nat.le_refl _)
          · exact .inl (.inl rfl)
          · exact .inl (.inr hx)))
        have M5 := Lib.hid (HI.out.m.save S15.out (fun g o hA h1 h2 => by
          simp
          exact ⟨by omega, HI.out.sep g o hA⟩))
        have A5 := Lib.hid a5
        have C5 := Lib.hid c5
        have S5 := Lib.hid s5
        have N5 := Lib.hid n5
        clear a5 c5 s5 n5
        go_wp2
        go_loopw [14, 15, 52] (fun lv tv iv wx => ∃ j : Nat, j ≤ xa.length ∧ iv = .int .i64 j ∧ tv = .bool (decide (q ∈ (keys xa).take j)) ∧ Hid (wx.ownsRow w5.heap.size 3 1 lv (Lq (keys xa) q j).length (intV (Lq (keys xa) q j))) ∧ Hid (Below w5.heap.size w5 wx)) (fun _ _ iv _ => xa.length - (intOf iv).toNat)
        case atStart => exact ⟨0, by omega, rfl, by simp, Lib.hid ⟨by simp [Lq, intV], .inl ⟨rfl, by simp [Lq]⟩⟩, Lib.hid (Below.refl _ _)⟩
        case round =>
          obtain ⟨j, hj, rfl, rfl, HO, HBx⟩ := hrel
          have hsx := HBx.out.size
          have hLl := Lq_len (keys xa) q j
          rw [keys_len] at hLl
          by_cases hlj : j < xa.length
          · obtain ⟨gm, om, hAm, hglo, hglt, hjl, hyc⟩ := M5.out.get j hlj
            subst hAm
            have hy := (HBx.out.cell (p := ⟨gm, om + j, none⟩) (by simp; omega)).trans hyc
            clear hyc
            have hL := Lib.hid (Lq_succ (keys xa) q j hjl)
            have hM := Lib.hid (mem_take_succ (keys xa) q j hjl)
            generalize (keys xa)[j] = y at hy hL hM
            have hj0 : (0 : Int) ≤ (j : Int) := by omega
            have hj1 : (j : Int) < (xa.length : Int) := by omega
            by_cases hyq : y = q
            · subst hyq
              have hL' := Lib.hid (hL.out.trans (if_pos rfl))
              have hM' := Lib.hid hM.out
              go_wp2
              go_roundw
              case rel => exact ⟨j + 1, by omega, by go_num, by rw [hM'.out]; simp, Lib.hid (by rw [hL'.out]; exact HO.out), HBx⟩
              case measure => simp [intOf]; omega
            · have hb : (y == q) = false := beq_eq_false_iff_ne.2 hyq
              have hL' := Lib.hid (hL.out.trans (if_neg hyq))
              have hM' := Lib.hid hM.out
              have hyd := Lib.hid (decide_eq_false hyq)
              clear hyq
              go_wp2_with (at_builtin; refine wpList_append_own _ rfl _ _ 35 rfl w5.heap.size 3 i0 (.int .i64 0) 1 8 Try.underlying35 hi0 hz0 hz1' hz2 rfl (by decide) u14 _ _ rfl (HO.out.alloc _) ⟨wr.heap.size, 0, none⟩ 1 1 [.int .i64 y] rfl rfl (news1 _ _ _ _ rfl) (fun x hx => by simp at hx; subst hx; rfl) (by unfold maxLen; omega) (by omega) (by simp <;> omega) ?_; intro v' w3 hown hgrow hsn; obtain ⟨A', c', rfl⟩ := own_slice hown; have HG := Lib.hid hgrow; clear hgrow)
              go_roundw
              case rel =>
                refine ⟨j + 1, by omega, by go_num, by rw [hM'.out, hyd.out, Bool.or_false], Lib.hid ?_, Lib.hid (below_grown (HBx.out.alloc hsx _) (HO.out.alloc _) (Nat.le_refl _) (by simp; omega) HG.out)⟩
                rw [hL'.out, List.length_append, intV_append]
                exact hown
              case measure => simp [intOf]; omega
          · obtain rfl : j = xa.length := by omega
            have hfull : (keys xa).take xa.length = keys xa := List.take_of_length_le (by rw [keys_len]; omega)
            have hLf : Lq (keys xa) q xa.length = (keys xa).filter (· ≠ q) := by unfold Lq; rw [hfull]
            rw [hLf] at HO hLl
            rw [hfull]
            have HLF := Lib.hid hLf
            have HN := Lib.hid HI.out.nod
            have HFL := Lib.hid (fun (h : q ∈ keys xa) => filter_len_in (keys xa) q HI.out.nod h)
            have HFN := Lib.hid (fun (h : q ∉ keys xa) => filter_none (keys xa) q h)
            clear hfull hLf hj hlj
            generalize hLs : (keys xa).filter (· ≠ q) = L at HO hLl HFL HFN
            have HLS := Lib.hid hLs
            clear hLs
            have hcase : (decide (q ∈ keys xa) = true ∧ (L.length : Int) + 1 ≤ roomS room ∧ Hid (q ∈ keys xa) ∧ Hid (w5.cell? ⟨wq.heap.size, 0, none⟩ = some (.int .i64 0))) ∨ (decide (q ∈ keys xa) = false ∧ (L.length : Int) + 1 ≤ roomS room ∧ Hid (q ∉ keys xa) ∧ Hid (w5.cell? ⟨wq.heap.size, 0, none⟩ = some (.int .i64 1))) ∨ (decide (q ∈ keys xa) = false ∧ roomS room ≤ (L.length : Int) ∧ Hid (q ∉ keys xa) ∧ Hid (w5.cell? ⟨wq.heap.size, 0, none⟩ = some (.int .i64 1))) := by
              by_cases hin : q ∈ keys xa
              · have h1 := HFL.out hin
                have h2 := List.length_pos_of_mem hin
                have h3 := C5.out
                rw [if_pos hin] at h3
                rw [keys_len] at h1 h2
                exact .inl ⟨decide_eq_true hin, by omega, hin, h3⟩
              · have h1 := HFN.out hin
                have h3 := C5.out
                rw [if_neg hin] at h3
                have h4 := congrArg List.length h1
                rw [keys_len] at h4
                by_cases hr : (L.length : Int) = roomS room
                · exact .inr (.inr ⟨decide_eq_false hin, by omega, hin, h3⟩)
                · exact .inr (.inl ⟨decide_eq_false hin, by omega, hin, h3⟩)
            rcases hcase with ⟨hdq, hlr, HIN, HC5⟩ | ⟨hdq, hlr, HIN, HC5⟩ | ⟨hdq, hlr, HIN, HC5⟩
            · rw [hdq]
              go_wp2_with (at_builtin; refine wpList_append_own _ rfl _ _ 35 rfl w5.heap.size 3 i0 (.int .i64 0) 1 8 Try.underlying35 hi0 hz0 hz1' hz2 rfl (by decide) u14 _ _ rfl (HO.out.alloc _) ⟨wr.heap.size, 0, none⟩ 1 1 [.int .i64 q] rfl rfl (news1 _ _ _ _ rfl) (fun x hx => by simp at hx; subst hx; rfl) (by unfold maxLen; omega) (by omega) (by simp <;> omega) ?_; intro v' w3 hown hgrow hsn; obtain ⟨gL, cL, rfl, hgL1, hgL2, hgL3, hgL4⟩ := own_pos hown (by omega); have HOWN := Lib.hid hown; have HB7 := Lib.hid (below_grown (HBx.out.alloc hsx _) (HO.out.alloc _) (Nat.le_refl _) (by simp; omega) hgrow); have hcb7 := (HB7.out.cell (p := ⟨wq.heap.size, 0, none⟩) (by simp; omega)).trans HC5.out; clear hgrow hown hsn)
              have HKS : Hid (keys (askS (roomS room) xa q (10 * q)) = (L ++ [q]).drop 0) := Lib.hid (by
                rw [keys_askS (roomS room) xa q (10 * q) HI.out.nod]
                obtain ⟨N, hN⟩ := Int.eq_ofNat_of_zero_le (show 0 ≤ roomS room by omega)
                have h1 := keyS_law N (keys xa) q HI.out.nod (by omega) (by rw [keys_len]; omega)
                rw [hN, ← h1, HLS.out]
                congr 1
                simp
                omega)
              have HLEN : Hid ((askS (roomS room) xa q (10 * q)).length = (L.length + 1)) := Lib.hid (by rw [← keys_len, HKS.out]; simp)
              have HFE : Hid (askF f xa q = f) := Lib.hid (by rw [askF_key, if_pos HIN.out])
              have HM7 : Hid (InAt w3 w1.heap.size (some ⟨gL, 0, none⟩) (L.length + 1) (keys (askS (roomS room) xa q (10 * q)))) := Lib.hid ⟨by rw [keys_len]; exact HLEN.out, fun _ => ⟨gL, 0, rfl, by omega, hgL2, fun i hi => by
                have hi' : i < ((L ++ [q]).drop 0).length := by rw [← HKS.out]; exact hi
                have hi2 : 0 + i < (L ++ [q]).length := by simp at hi' ⊢; omega
                have h1 := (own_cell1 HOWN.out (0 + i) (by simp at hi2; omega)).2.1
                rw [h1]
                have h2 : intV L ++ [Value.int .i64 q] = intV (L ++ [q]) := by rw [intV_append]; rfl
                rw [h2]
                have h3 : (keys (askS (roomS room) xa q (10 * q)))[i] = (L ++ [q])[0 + i] := by
                  simp only [HKS.out, List.getElem_drop]
                rw [h3]
                simp only [intV, List.getElem?_map, List.getElem?_eq_getElem hi2]
                rfl⟩⟩
              have HST := Lib.hid (fun w7 (h7 : Below w3.heap.size w3 w7) => shelves_step HI.out (Nat.le_refl _) A5.out S15.out (HB7.out.trans (h7.mono HB7.out.size)) (by rw [HLEN.out]; exact HM7.out.save (save_of_below [] h7 (Nat.le_refl _)) (by simp)) (fun g o e => by injection e with e; injection e with e; omega))
              have HSH := Lib.hid (A5.out.below HB7.out)
              refine (slen_calls _ _ _ _ _ w3 HSH.out).mono ?_
              rintro e w6 ⟨rfl, rfl⟩
              rw [HLEN.out]
              go_wp2_with fail
              refine (fetched_calls _ _ _ _ _ w3 HSH.out).mono ?_
              rintro e w6 ⟨rfl, rfl⟩
              rw [HFE.out]
              go_wp2
              go_loopw [106] (fun iv wy => ∃ j : Nat, j ≤ 16 ∧ iv = .int .i64 j ∧ Hid (Below w3.heap.size w3 wy)) (fun iv _ => 16 - (intOf iv).toNat)
              case atStart => exact ⟨0, by omega, rfl, Lib.hid (Below.refl _ _)⟩
              case round =>
                obtain ⟨j, hj, rfl, HBy⟩ := hrel
                by_cases hj16 : j < 16
                · have HM := Lib.hid (HM7.out.save (save_of_below [] HBy.out (Nat.le_refl _)) (by simp))
                  have HHAS := Lib.hid (has_calls w1.heap.size (roomS room) (askF f xa q) va' (askS (roomS room) xa q (10 * q)) j wr (by rw [HLEN.out]; omega) (HSH.out.below HBy.out))
                  rw [has_key] at HHAS
                  have hj0 : (0 : Int) ≤ (j : Int) := by omega
                  have hj1 : (j : Int) < 16 := by omega
                  generalize keys (askS (roomS room) xa q (10 * q)) = K at HM HHAS
                  go_wp2
                  go_loop [19, 111] (fun is iv => ∃ t : Nat, t ≤ (L.length + 1) ∧ iv = .int .i64 t ∧ is = .bool (decide ((j : Int) ∈ K.take t))) (fun _ iv => (L.length + 1) - (intOf iv).toNat)
                  case atStart => exact ⟨0, by omega, rfl, by simp⟩
                  case round =>
                    obtain ⟨t, ht', rfl, rfl⟩ := hrel
                    by_cases htn : t < (L.length + 1)
                    · obtain ⟨gk, ok, hAk, hk1, hk2, htl, hkc⟩ := HM.out.get t htn
                      injection hAk with hAk
                      injection hAk with e1 e2
                      subst e1 e2
                      have hmm := Lib.hid (mem_take_succ K j t htl)
                      have ht0 : (0 : Int) ≤ (t : Int) := by omega
                      have ht1 : (t : Int) < (((L.length + 1) : Nat) : Int) := by omega
                      push_cast at ht1
                      try simp only [Nat.zero_add] at hkc
                      generalize K[t] = y at hkc hmm
                      generalize decide ((j : Int) ∈ K.take t) = d at hmm ⊢
                      cases d
                      · by_cases hyj : y = (j : Int)
                        · subst hyj
                          go_wp2
                          go_round
                          case rel => exact ⟨t + 1, by omega, by go_num, by rw [hmm.out]; simp⟩
                          case measure => simp [intOf]; omega
                        · have hyb : (y == (j : Int)) = false := beq_eq_false_iff_ne.2 hyj
                          have hyd := Lib.hid (decide_eq_false hyj)
                          clear hyj
                          go_wp2
                          go_round
                          case rel => exact ⟨t + 1, by omega, by go_num, by rw [hmm.out, hyd.out]; rfl⟩
                          case measure => simp [intOf]; omega
                      · go_wp2
                        go_round
                        case rel => exact ⟨t + 1, by omega, by go_num, by rw [hmm.out]; rfl⟩
                        case measure => simp [intOf]; omega
                    · obtain rfl : t = (L.length + 1) := by omega
                      rw [List.take_of_length_le (by rw [HM.out.1]; omega)]
                      generalize decide ((j : Int) ∈ K) = d at HHAS ⊢
                      go_wp2_with fail
                      refine HHAS.out.mono ?_
                      rintro e w8 ⟨rfl, hB8⟩
                      have HB8 := Lib.hid (HBy.out.trans (hB8.mono HBy.out.size))
                      clear hB8
                      go_wp2
                      go_roundw
                      case rel => exact ⟨j + 1, by omega, by go_num, HB8⟩
                      case measure => simp [intOf]; omega
                · obtain rfl : j = 16 := by omega
                  have HF := Lib.hid (HST.out wr HBy.out)
                  go_wp2
                  go_roundw
                  case rel => exact ⟨k + 1, askF f xa q, va', _, _, cL, by omega, by go_num, by rw [HLEN.out], by rw [HFE.out], HF⟩
                  case measure => simp [intOf]; omega
            · rw [hdq]
              go_wp2_with (at_builtin; refine wpList_append_own _ rfl _ _ 35 rfl w5.heap.size 3 i0 (.int .i64 0) 1 8 Try.underlying35 hi0 hz0 hz1' hz2 rfl (by decide) u14 _ _ rfl (HO.out.alloc _) ⟨wr.heap.size, 0, none⟩ 1 1 [.int .i64 q] rfl rfl (news1 _ _ _ _ rfl) (fun x hx => by simp at hx; subst hx; rfl) (by unfold maxLen; omega) (by omega) (by simp <;> omega) ?_; intro v' w3 hown hgrow hsn; obtain ⟨gL, cL, rfl, hgL1, hgL2, hgL3, hgL4⟩ := own_pos hown (by omega); have HOWN := Lib.hid hown; have HB7 := Lib.hid (below_grown (HBx.out.alloc hsx _) (HO.out.alloc _) (Nat.le_refl _) (by simp; omega) hgrow); have hcb7 := (HB7.out.cell (p := ⟨wq.heap.size, 0, none⟩) (by simp; omega)).trans HC5.out; clear hgrow hown hsn)
              have HKS : Hid (keys (askS (roomS room) xa q (10 * q)) = (L ++ [q]).drop 0) := Lib.hid (by
                rw [keys_askS (roomS room) xa q (10 * q) HI.out.nod]
                obtain ⟨N, hN⟩ := Int.eq_ofNat_of_zero_le (show 0 ≤ roomS room by omega)
                have h1 := keyS_law N (keys xa) q HI.out.nod (by omega) (by rw [keys_len]; omega)
                rw [hN, ← h1, HLS.out]
                congr 1
                simp
                omega)
              have HLEN : Hid ((askS (roomS room) xa q (10 * q)).length = (L.length + 1)) := Lib.hid (by rw [← keys_len, HKS.out]; simp)
              have HFE : Hid (askF f xa q = f + 1) := Lib.hid (by rw [askF_key, if_neg HIN.out])
              have HM7 : Hid (InAt w3 w1.heap.size (some ⟨gL, 0, none⟩) (L.length + 1) (keys (askS (roomS room) xa q (10 * q)))) := Lib.hid ⟨by rw [keys_len]; exact HLEN.out, fun _ => ⟨gL, 0, rfl, by omega, hgL2, fun i hi => by
                have hi' : i < ((L ++ [q]).drop 0).length := by rw [← HKS.out]; exact hi
                have hi2 : 0 + i < (L ++ [q]).length := by simp at hi' ⊢; omega
                have h1 := (own_cell1 HOWN.out (0 + i) (by simp at hi2; omega)).2.1
                rw [h1]
                have h2 : intV L ++ [Value.int .i64 q] = intV (L ++ [q]) := by rw [intV_append]; rfl
                rw [h2]
                have h3 : (keys (askS (roomS room) xa q (10 * q)))[i] = (L ++ [q])[0 + i] := by
                  simp only [HKS.out, List.getElem_drop]
                rw [h3]
                simp only [intV, List.getElem?_map, List.getElem?_eq_getElem hi2]
                rfl⟩⟩
              have HST := Lib.hid (fun w7 (h7 : Below w3.heap.size w3 w7) => shelves_step HI.out (Nat.le_refl _) A5.out S15.out (HB7.out.trans (h7.mono HB7.out.size)) (by rw [HLEN.out]; exact HM7.out.save (save_of_below [] h7 (Nat.le_refl _)) (by simp)) (fun g o e => by injection e with e; injection e with e; omega))
              have HSH := Lib.hid (A5.out.below HB7.out)
              refine (slen_calls _ _ _ _ _ w3 HSH.out).mono ?_
              rintro e w6 ⟨rfl, rfl⟩
              rw [HLEN.out]
              go_wp2_with fail
              refine (fetched_calls _ _ _ _ _ w3 HSH.out).mono ?_
              rintro e w6 ⟨rfl, rfl⟩
              rw [HFE.out]
              go_wp2
              go_loopw [106] (fun iv wy => ∃ j : Nat, j ≤ 16 ∧ iv = .int .i64 j ∧ Hid (Below w3.heap.size w3 wy)) (fun iv _ => 16 - (intOf iv).toNat)
              case atStart => exact ⟨0, by omega, rfl, Lib.hid (Below.refl _ _)⟩
              case round =>
                obtain ⟨j, hj, rfl, HBy⟩ := hrel
                by_cases hj16 : j < 16
                · have HM := Lib.hid (HM7.out.save (save_of_below [] HBy.out (Nat.le_refl _)) (by simp))
                  have HHAS := Lib.hid (has_calls w1.heap.size (roomS room) (askF f xa q) va' (askS (roomS room) xa q (10 * q)) j wr (by rw [HLEN.out]; omega) (HSH.out.below HBy.out))
                  rw [has_key] at HHAS
                  have hj0 : (0 : Int) ≤ (j : Int) := by omega
                  have hj1 : (j : Int) < 16 := by omega
                  generalize keys (askS (roomS room) xa q (10 * q)) = K at HM HHAS
                  go_wp2
                  go_loop [19, 111] (fun is iv => ∃ t : Nat, t ≤ (L.length + 1) ∧ iv = .int .i64 t ∧ is = .bool (decide ((j : Int) ∈ K.take t))) (fun _ iv => (L.length + 1) - (intOf iv).toNat)
                  case atStart => exact ⟨0, by omega, rfl, by simp⟩
                  case round =>
                    obtain ⟨t, ht', rfl, rfl⟩ := hrel
                    by_cases htn : t < (L.length + 1)
                    · obtain ⟨gk, ok, hAk, hk1, hk2, htl, hkc⟩ := HM.out.get t htn
                      injection hAk with hAk
                      injection hAk with e1 e2
                      subst e1 e2
                      have hmm := Lib.hid (mem_take_succ K j t htl)
                      have ht0 : (0 : Int) ≤ (t : Int) := by omega
                      have ht1 : (t : Int) < (((L.length + 1) : Nat) : Int) := by omega
                      push_cast at ht1
                      try simp only [Nat.zero_add] at hkc
                      generalize K[t] = y at hkc hmm
                      generalize decide ((j : Int) ∈ K.take t) = d at hmm ⊢
                      cases d
                      · by_cases hyj : y = (j : Int)
                        · subst hyj
                          go_wp2
                          go_round
                          case rel => exact ⟨t + 1, by omega, by go_num, by rw [hmm.out]; simp⟩
                          case measure => simp [intOf]; omega
                        · have hyb : (y == (j : Int)) = false := beq_eq_false_iff_ne.2 hyj
                          have hyd := Lib.hid (decide_eq_false hyj)
                          clear hyj
                          go_wp2
                          go_round
                          case rel => exact ⟨t + 1, by omega, by go_num, by rw [hmm.out, hyd.out]; rfl⟩
                          case measure => simp [intOf]; omega
                      · go_wp2
                        go_round
                        case rel => exact ⟨t + 1, by omega, by go_num, by rw [hmm.out]; rfl⟩
                        case measure => simp [intOf]; omega
                    · obtain rfl : t = (L.length + 1) := by omega
                      rw [List.take_of_length_le (by rw [HM.out.1]; omega)]
                      generalize decide ((j : Int) ∈ K) = d at HHAS ⊢
                      go_wp2_with fail
                      refine HHAS.out.mono ?_
                      rintro e w8 ⟨rfl, hB8⟩
                      have HB8 := Lib.hid (HBy.out.trans (hB8.mono HBy.out.size))
                      clear hB8
                      go_wp2
                      go_roundw
                      case rel => exact ⟨j + 1, by omega, by go_num, HB8⟩
                      case measure => simp [intOf]; omega
                · obtain rfl : j = 16 := by omega
                  have HF := Lib.hid (HST.out wr HBy.out)
                  go_wp2
                  go_roundw
                  case rel => exact ⟨k + 1, askF f xa q, va', _, _, cL, by omega, by go_num, by rw [HLEN.out], by rw [HFE.out], HF⟩
                  case measure => simp [intOf]; omega
            · rw [hdq]
              have ht : ((L.length : Int) + 1 - roomS room).toNat = 1 := by omega
              have hLp : 1 ≤ L.length := by omega
              go_wp2_with (at_builtin; refine wpList_append_own _ rfl _ _ 35 rfl w5.heap.size 3 i0 (.int .i64 0) 1 8 Try.underlying35 hi0 hz0 hz1' hz2 rfl (by decide) u14 _ _ rfl (HO.out.alloc _) ⟨wr.heap.size, 0, none⟩ 1 1 [.int .i64 q] rfl rfl (news1 _ _ _ _ rfl) (fun x hx => by simp at hx; subst hx; rfl) (by unfold maxLen; omega) (by omega) (by simp <;> omega) ?_; intro v' w3 hown hgrow hsn; obtain ⟨gL, cL, rfl, hgL1, hgL2, hgL3, hgL4⟩ := own_pos hown (by omega); have HOWN := Lib.hid hown; have HB7 := Lib.hid (below_grown (HBx.out.alloc hsx _) (HO.out.alloc _) (Nat.le_refl _) (by simp; omega) hgrow); have hcb7 := (HB7.out.cell (p := ⟨wq.heap.size, 0, none⟩) (by simp; omega)).trans HC5.out; have hc1 : ¬ cL = 1 := (by omega); clear hgrow hown hsn)
              have HKS : Hid (keys (askS (roomS room) xa q (10 * q)) = (L ++ [q]).drop 1) := Lib.hid (by
                rw [keys_askS (roomS room) xa q (10 * q) HI.out.nod]
                obtain ⟨N, hN⟩ := Int.eq_ofNat_of_zero_le (show 0 ≤ roomS room by omega)
                have h1 := keyS_law N (keys xa) q HI.out.nod (by omega) (by rw [keys_len]; omega)
                rw [hN, ← h1, HLS.out]
                congr 1
                simp
                omega)
              have HLEN : Hid ((askS (roomS room) xa q (10 * q)).length = L.length) := Lib.hid (by rw [← keys_len, HKS.out]; simp)
              have HFE : Hid (askF f xa q = f + 1) := Lib.hid (by rw [askF_key, if_neg HIN.out])
              have HM7 : Hid (InAt w3 w1.heap.size (some ⟨gL, 1, none⟩) L.length (keys (askS (roomS room) xa q (10 * q)))) := Lib.hid ⟨by rw [keys_len]; exact HLEN.out, fun _ => ⟨gL, 1, rfl, by omega, hgL2, fun i hi => by
                have hi' : i < ((L ++ [q]).drop 1).length := by rw [← HKS.out]; exact hi
                have hi2 : 1 + i < (L ++ [q]).length := by simp at hi' ⊢; omega
                have h1 := (own_cell1 HOWN.out (1 + i) (by simp at hi2; omega)).2.1
                rw [h1]
                have h2 : intV L ++ [Value.int .i64 q] = intV (L ++ [q]) := by rw [intV_append]; rfl
                rw [h2]
                have h3 : (keys (askS (roomS room) xa q (10 * q)))[i] = (L ++ [q])[1 + i] := by
                  simp only [HKS.out, List.getElem_drop]
                rw [h3]
                simp only [intV, List.getElem?_map, List.getElem?_eq_getElem hi2]
                rfl⟩⟩
              have HST := Lib.hid (fun w7 (h7 : Below w3.heap.size w3 w7) => shelves_step HI.out (Nat.le_refl _) A5.out S15.out (HB7.out.trans (h7.mono HB7.out.size)) (by rw [HLEN.out]; exact HM7.out.save (save_of_below [] h7 (Nat.le_refl _)) (by simp)) (fun g o e => by injection e with e; injection e with e; omega))
              have HSH := Lib.hid (A5.out.below HB7.out)
              refine (slen_calls _ _ _ _ _ w3 HSH.out).mono ?_
              rintro e w6 ⟨rfl, rfl⟩
              rw [HLEN.out]
              go_wp2_with fail
              refine (fetched_calls _ _ _ _ _ w3 HSH.out).mono ?_
              rintro e w6 ⟨rfl, rfl⟩
              rw [HFE.out]
              go_wp2
              go_loopw [106] (fun iv wy => ∃ j : Nat, j ≤ 16 ∧ iv = .int .i64 j ∧ Hid (Below w3.heap.size w3 wy)) (fun iv _ => 16 - (intOf iv).toNat)
              case atStart => exact ⟨0, by omega, rfl, Lib.hid (Below.refl _ _)⟩
              case round =>
                obtain ⟨j, hj, rfl, HBy⟩ := hrel
                by_cases hj16 : j < 16
                · have HM := Lib.hid (HM7.out.save (save_of_below [] HBy.out (Nat.le_refl _)) (by simp))
                  have HHAS := Lib.hid (has_calls w1.heap.size (roomS room) (askF f xa q) va' (askS (roomS room) xa q (10 * q)) j wr (by rw [HLEN.out]; omega) (HSH.out.below HBy.out))
                  rw [has_key] at HHAS
                  have hj0 : (0 : Int) ≤ (j : Int) := by omega
                  have hj1 : (j : Int) < 16 := by omega
                  generalize keys (askS (roomS room) xa q (10 * q)) = K at HM HHAS
                  go_wp2
                  go_loop [19, 111] (fun is iv => ∃ t : Nat, t ≤ L.length ∧ iv = .int .i64 t ∧ is = .bool (decide ((j : Int) ∈ K.take t))) (fun _ iv => L.length - (intOf iv).toNat)
                  case atStart => exact ⟨0, by omega, rfl, by simp⟩
                  case round =>
                    obtain ⟨t, ht', rfl, rfl⟩ := hrel
                    by_cases htn : t < L.length
                    · obtain ⟨gk, ok, hAk, hk1, hk2, htl, hkc⟩ := HM.out.get t htn
                      injection hAk with hAk
                      injection hAk with e1 e2
                      subst e1 e2
                      have hmm := Lib.hid (mem_take_succ K j t htl)
                      have ht0 : (0 : Int) ≤ (t : Int) := by omega
                      have ht1 : (t : Int) < ((L.length : Nat) : Int) := by omega
                      push_cast at ht1
                      try simp only [Nat.zero_add] at hkc
                      generalize K[t] = y at hkc hmm
                      generalize decide ((j : Int) ∈ K.take t) = d at hmm ⊢
                      cases d
                      · by_cases hyj : y = (j : Int)
                        · subst hyj
                          go_wp2
                          go_round
                          case rel => exact ⟨t + 1, by omega, by go_num, by rw [hmm.out]; simp⟩
                          case measure => simp [intOf]; omega
                        · have hyb : (y == (j : Int)) = false := beq_eq_false_iff_ne.2 hyj
                          have hyd := Lib.hid (decide_eq_false hyj)
                          clear hyj
                          go_wp2
                          go_round
                          case rel => exact ⟨t + 1, by omega, by go_num, by rw [hmm.out, hyd.out]; rfl⟩
                          case measure => simp [intOf]; omega
                      · go_wp2
                        go_round
                        case rel => exact ⟨t + 1, by omega, by go_num, by rw [hmm.out]; rfl⟩
                        case measure => simp [intOf]; omega
                    · obtain rfl : t = L.length := by omega
                      rw [List.take_of_length_le (by rw [HM.out.1]; omega)]
                      generalize decide ((j : Int) ∈ K) = d at HHAS ⊢
                      go_wp2_with fail
                      refine HHAS.out.mono ?_
                      rintro e w8 ⟨rfl, hB8⟩
                      have HB8 := Lib.hid (HBy.out.trans (hB8.mono HBy.out.size))
                      clear hB8
                      go_wp2
                      go_roundw
                      case rel => exact ⟨j + 1, by omega, by go_num, HB8⟩
                      case measure => simp [intOf]; omega
                · obtain rfl : j = 16 := by omega
                  have HF := Lib.hid (HST.out wr HBy.out)
                  go_wp2
                  go_roundw
                  case rel => exact ⟨k + 1, askF f xa q, va', _, _, (cL - 1), by omega, by go_num, by rw [HLEN.out], by rw [HFE.out], HF⟩
                  case measure => simp [intOf]; omega
      · obtain rfl : k = zs.length := by omega
        have H := Lib.hid HI.out.a
        go_wp2_with fail
        refine (drop_calls w1.heap.size (roomS room) f va xa wr H.out).mono ?_
        rintro e w5 ⟨rfl, h5, s5⟩
        have H5 := Lib.hid h5
        have HB5 := Lib.hid (HI.out.low.trans (s5.below (B := w1.heap.size) (by simp) HI.out.low.size))
        have hz5 := HB5.out.size
        clear h5 s5
        go_wp2_with fail
        refine (slen_calls _ _ _ _ _ w5 H5.out).mono ?_
        rintro e w6 ⟨rfl, rfl⟩
        go_wp2_with fail
        refine (fetched_calls _ _ _ _ _ w5 H5.out).mono ?_
        rintro e w6 ⟨rfl, rfl⟩
        go_wp2_with fail
        refine (has_calls _ _ _ _ _ 0 w5 (by simp) H5.out).mono ?_
        rintro e w6 ⟨rfl, hB6⟩
        rw [show decide (0 ≤ plc 0 []) = false by rfl]
        go_wp2
        go_ret
        exact ⟨rfl, HB1.out.trans ((HB5.out.trans (hB6.mono (by omega))).mono hz1)⟩

set_option maxRecDepth 100000 in
set_option maxHeartbeats 2000000 in
theorem shelves_long (room : Int) (A : Option Addr) (c : Nat) (n : Nat) (w : World) (hn : 100 < n) :
    Calls Try.prog 4 #[.int .i64 room, .slice A n c] w fun e w' => e = .returned (.bool true) ∧ Below w.heap.size w w' := by
  have hd : decide ((100 : Int) < (n : Int)) = true := decide_eq_true (by omega)
  have hd' : decide (100 < n) = true := decide_eq_true hn
  go_enter Try.func4, Try.ntmps4
  go_wp2_with fail
  refine (awake_calls _).mono ?_
  rintro e w1 ⟨rfl, hB1⟩
  go_wp2_with fail
  refine (awake_calls _).mono ?_
  rintro e w2 ⟨rfl, hB2⟩
  go_wp2
  go_ret
  exact ⟨rfl, hB1.trans (hB2.mono hB1.size)⟩

theorem shelves_walk (room : Int) (A : Option Addr) (c : Nat) (zs : List Int) (hz : ∀ z ∈ zs, 0 ≤ z ∧ z < 256) (w : World) (hA : ByAt w w.heap.size A zs.length zs) :
    Calls Try.prog 4 #[.int .i64 room, .slice A zs.length c] w fun e w' => e = .returned (.bool true) ∧ Below w.heap.size w w' := by
  by_cases h : zs.length ≤ 100
  · exact shelves_short room A c zs hz w h hA
  · exact shelves_long room A c zs.length w (by omega)

end Go.Proofs.Ythbhdmkbojjjkaa
