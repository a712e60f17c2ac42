/-
  The statement about taking all inputs, walked.
-/
import Derived.Test.YtoailhkaenofpaaDoorWdT
import Derived.Deep.Cut
namespace Go.Proofs.YtoailhkaenofpaaDoor
open Go.RowKit

set_option maxRecDepth 100000 in
set_option maxHeartbeats 4000000 in
theorem worldAlls_law (m : WoM) (A : Option Addr) (c : Nat) (bk : Int) (w : World) (h : WoAt w w.heap.size A c m) (hb0 : 0 ≤ bk) (hb1 : bk ≤ 255) (hX : TX w) :
    Calls Tryd.prog 7 #[woV A c m, .int .u8 bk] w fun e w' => e = .returned (.bool true) ∧ Below w.heap.size w w' := by
  have HW := Lib.hid h
  have hcap := h.cap
  have hfew := h.few
  unfold maxLen at hfew
  have HAW := Lib.hid (fun W (hb : Below w.heap.size w W) => awake_calls W (hX.below hb (Nat.le_refl _)))
  have HGC := Lib.hid (fun W => good_calls m A c W)
  have HOC := Lib.hid (fun W (hb : Below w.heap.size w W) => open_calls m A c W ((h.below hb (Nat.le_refl _)).wide hb.size))
  have HB0 := Lib.hid ((Below.refl w.heap.size w).alloc (Nat.le_refl _) (.cells #[.int .i64 m.stp, .slice A m.ins.length c] 24))
  have HX0 := Lib.hid (heapOne w #[.int .i64 m.stp, .slice A m.ins.length c] 24)
  unfold woV at HGC HOC ⊢
  clear h hX
  go_enter Tryd.func7, Tryd.ntmps7
  go_wp2_with fail
  generalize w.alloc (.cells #[.int .i64 m.stp, .slice A m.ins.length c] 24) = W0 at *
  refine (HAW.out _ HB0.out).mono ?_
  rintro e w1 ⟨rfl, hB1⟩
  have HB1 := Lib.hid (HB0.out.trans (hB1.mono HB0.out.size))
  have HX1 := Lib.hid ((hB1.block _ (blkLt HX0.out)).trans HX0.out)
  clear hB1
  have x0 : w1.cell? ⟨w.heap.size, 0, none⟩ = some (.int .i64 m.stp) := cellC HX1.out 0
  have x1 : w1.cell? ⟨w.heap.size, 1, none⟩ = some (.slice A m.ins.length c) := cellC HX1.out 1
  by_cases h1 : m.ins.length ≤ 100
  · have d1 : decide ((100 : Int) < (m.ins.length : Int)) = false := decide_eq_false (by omega)
    have d2 : decide (100 < m.ins.length) = false := decide_eq_false (by omega)
    go_wp2_with fail
    refine (HGC.out _).mono ?_
    rintro e w2 ⟨hB2, h2⟩
    have HB2 := Lib.hid (HB1.out.trans (hB2.mono HB1.out.size))
    have HX2 := Lib.hid ((hB2.block _ (blkLt HX1.out)).trans HX1.out)
    clear hB2 x0 x1
    have x0 : w2.cell? ⟨w.heap.size, 0, none⟩ = some (.int .i64 m.stp) := cellC HX2.out 0
    have x1 : w2.cell? ⟨w.heap.size, 1, none⟩ = some (.slice A m.ins.length c) := cellC HX2.out 1
    rcases h2 with ⟨hg, rfl⟩ | ⟨hg, rfl⟩
    · have HG := Lib.hid hg
      clear hg
      go_wp2_with fail
      refine (HOC.out _ HB2.out).mono ?_
      rintro e w3 ⟨hB3, h3⟩
      have HB3 := Lib.hid (HB2.out.trans (hB3.mono HB2.out.size))
      have HX3 := Lib.hid ((hB3.block _ (blkLt HX2.out)).trans HX2.out)
      have hz2 : w.heap.size < w2.heap.size := blkLt HX2.out
      clear hB3 x0 x1
      rcases h3 with ⟨_, X, A', c', rfl, hT, hXX, _⟩ | ⟨hn, _⟩
      rotate_left 1
      · exact absurd HG.out hn
      have HT := Lib.hid hT
      have x0 : w3.cell? ⟨w.heap.size, 0, none⟩ = some (.int .i64 m.stp) := cellC HX3.out 0
      have x1 : w3.cell? ⟨w.heap.size, 1, none⟩ = some (.slice A m.ins.length c) := cellC HX3.out 1
      clear hT
      go_upto_region 8 with (fail)
      have hkb : 0 ≤ bk % ((m.ins.length : Int) + 1) ∧ bk % ((m.ins.length : Int) + 1) ≤ m.ins.length := by
        have q1 := Int.emod_nonneg bk (show ((m.ins.length : Int) + 1) ≠ 0 by omega)
        have q2 := Int.emod_lt_of_pos bk (show 0 < ((m.ins.length : Int) + 1) by omega)
        omega
      generalize bk % ((m.ins.length : Int) + 1) = kk at *
      obtain ⟨kn, rfl⟩ := Int.eq_ofNat_of_zero_le hkb.1
      have HKB : Hid (kn ≤ m.ins.length) := Lib.hid (by omega)
      have HIN := Lib.hid (fun W (hb : Below w.heap.size w W) => (HW.out.below hb (Nat.le_refl _)).row)
      clear hkb hb0 hb1 x0 x1
      go_loopw [49] (fun i wr => ∃ (j at_ : Nat), j ≤ 2 ∧ i = .int .i64 j ∧ at_ ≤ m.ins.length ∧ Hid (TpAt wr X A' c' m.stp m.ins at_) ∧ Hid (Chg X w3 wr)) (fun i _ => 2 - (intOf i).toNat)
      case atStart => exact ⟨0, 0, by omega, rfl, by omega, HT, Lib.hid (Chg.refl _ _)⟩
      case round =>
        obtain ⟨j, at0, hj, rfl, hat0, HTr, HCr⟩ := hrel
        by_cases hjt : j < 2
        · have hjt' := hjt
          have hfr : ∃ fr : Nat, fr ≤ m.ins.length ∧ ((j = 0 ∧ fr = 0) ∨ (j = 1 ∧ fr = kn)) := by
            by_cases h0 : j = 0
            · exact ⟨0, by omega, .inl ⟨h0, rfl⟩⟩
            · exact ⟨kn, HKB.out, .inr ⟨by omega, rfl⟩⟩
          obtain ⟨fr, hfb, hfj⟩ := hfr
          have HGO := Lib.hid (go_calls X A' c' m.stp m.ins at0 (fr : Int) wr HTr.out (by omega))
          have HXr := Lib.hid ((HCr.out.block w.heap.size (by omega)).trans HX3.out)
          have HBr := Lib.hid (HCr.out.below HB3.out (by omega))
          have hix : Sem.run Tryd.prog (Instr.index 50 (.agg #[.int .i64 0, .int .i64 (kn : Int)]) (.int .i64 (j : Int))) wr = .ok (.int .i64 (fr : Int)) wr := by
            rcases hfj with ⟨rfl, rfl⟩ | ⟨rfl, rfl⟩ <;> simp [Instr.index, go_sem]
          clear hfj hat0 hjt'
          have hj0 : (0 : Int) ≤ (j : Int) := by omega
          have hj1 : (j : Int) < 2 := by omega
          go_wp2_with fail
          refine HGO.out.mono ?_
          rintro e w4 ⟨hc4, h4⟩
          have HC4 := Lib.hid (HCr.out.trans hc4)
          clear hc4 HGO hix
          rcases h4 with ⟨_, _, rfl, hT4⟩ | ⟨hn, _⟩
          rotate_left 1
          · exact absurd ⟨by omega, by omega⟩ hn
          have HT4 : Hid (TpAt w4 X A' c' m.stp m.ins fr) := Lib.hid hT4
          clear hT4
          go_wp2_with fail
          go_loopw [10] (fun i wx => ∃ (q : Nat), q ≤ m.ins.length ∧ i = .int .i64 q ∧ Hid (TpAt wx X A' c' m.stp m.ins q) ∧ Hid (Chg X w3 wx)) (fun i _ => m.ins.length - (intOf i).toNat)
          case atStart => exact ⟨fr, hfb, rfl, HT4, HC4⟩
          case round =>
            clear HT4 HC4
            obtain ⟨q, hq, rfl, HTq, HCq⟩ := hrel
            obtain ⟨wo, rfl⟩ : ∃ x, x = wr := ⟨_, rfl⟩
            have HBo := Lib.hid (HCq.out.below HB3.out (by omega))
            have HXo := Lib.hid ((HCq.out.block w.heap.size (by omega)).trans HX3.out)
            have x1 : wo.cell? ⟨w.heap.size, 1, none⟩ = some (.slice A m.ins.length c) := cellC HXo.out 1
            have HTK := Lib.hid (take_calls X A' c' m.stp m.ins q wo HTq.out (by omega) (by omega))
            have hq0 : (0 : Int) ≤ (q : Int) := by omega
            by_cases hqt : q < m.ins.length
            · have hq1 : (q : Int) < (m.ins.length : Int) := by omega
              go_wp2_with fail
              refine HTK.out.mono ?_
              rintro e w5 ⟨hc5, h5⟩
              have HC5 := Lib.hid (HCq.out.trans hc5)
              have HX5 := Lib.hid ((hc5.block w.heap.size (by omega)).trans HXo.out)
              have HB5 := Lib.hid (hc5.below HBo.out (by omega))
              clear hc5 HTK x1
              rcases h5 with ⟨hx, rfl, hT5⟩ | ⟨hn, _⟩
              rotate_left 1
              · exact absurd hqt (by omega)
              have HT5 := Lib.hid hT5
              clear hT5
              obtain ⟨b, off, rfl, hbb, hcl⟩ := HIN.out w5 HB5.out (by omega)
              have y := hcl q hqt
              have y1 : w5.cell? ⟨w.heap.size, 1, none⟩ = some (.slice (some ⟨b, off, none⟩) m.ins.length c) := cellC HX5.out 1
              generalize m.ins[q] = v at *
              have hv1 : (v == v) = true := beq_self_eq_true v
              have hv2 : (v != v) = false := by simp [bne]
              clear hcl
              go_wp2
              go_roundw
              case rel => exact ⟨q + 1, by omega, by go_num, HT5, HC5⟩
              case measure => simp [intOf]; omega
            · obtain rfl : q = m.ins.length := by omega
              have HAT := Lib.hid (fun W hT => at_calls X A' c' m.stp m.ins m.ins.length W hT)
              clear hqt hq
              go_wp2_with fail
              refine HTK.out.mono ?_
              rintro e w5 ⟨hc5, h5⟩
              have HC5 := Lib.hid (HCq.out.trans hc5)
              have HX5 := Lib.hid ((hc5.block w.heap.size (by omega)).trans HXo.out)
              clear hc5 HTK x1
              rcases h5 with ⟨hx, _, _⟩ | ⟨_, rfl, hT5⟩
              · exact absurd hx (by omega)
              have HT5 := Lib.hid hT5
              have y1 : w5.cell? ⟨w.heap.size, 1, none⟩ = some (.slice A m.ins.length c) := cellC HX5.out 1
              have y1' : w5.drew.cell? ⟨w.heap.size, 1, none⟩ = some (.slice A m.ins.length c) := cellC HX5.out 1
              have HTD : Hid (∀ n, TpAt (w5.drewN n) X A' c' m.stp m.ins m.ins.length) := Lib.hid (fun n => hT5.put (chg_drew n) hT5.box)
              have hv1 : ((m.ins.length : Int) == (m.ins.length : Int)) = true := beq_self_eq_true _
              have hv2 : ((m.ins.length : Int) != (m.ins.length : Int)) = false := by simp [bne]
              clear hT5
              go_upto_region 19 with (fail)
              go_quiet ((go_at_call 20; exact Calls.quiet_of_same ((HAT.out _ (HTD.out _)).mono fun _ _ h => ⟨h.1, h.2.symm⟩)))
              go_wp2
              go_roundw
              case rel => exact ⟨j + 1, m.ins.length, by omega, by go_num, by omega, HTD.out _, Lib.hid (HC5.out.trans (chg_drew _))⟩
              case measure => simp [intOf]; omega
        · obtain rfl : j = 2 := by omega
          have HBf := Lib.hid (HCr.out.below HB3.out (by omega))
          go_wp2
          go_ret
          exact ⟨rfl, HBf.out⟩
    · clear hg
      go_wp2_with fail
      refine (HAW.out _ HB2.out).mono ?_
      rintro e w3 ⟨rfl, hB3⟩
      have HB3 := Lib.hid (HB2.out.trans (hB3.mono HB2.out.size))
      clear hB3
      go_wp2
      go_ret
      exact ⟨rfl, HB3.out⟩
  · have d1 : decide ((100 : Int) < (m.ins.length : Int)) = true := decide_eq_true (by omega)
    have d2 : decide (100 < m.ins.length) = true := decide_eq_true (by omega)
    clear h1
    go_wp2_with fail
    refine (HAW.out _ HB1.out).mono ?_
    rintro e w2 ⟨rfl, hB2⟩
    have HB2 := Lib.hid (HB1.out.trans (hB2.mono HB1.out.size))
    clear hB2
    go_wp2
    go_ret
    exact ⟨rfl, HB2.out⟩
end Go.Proofs.YtoailhkaenofpaaDoor
