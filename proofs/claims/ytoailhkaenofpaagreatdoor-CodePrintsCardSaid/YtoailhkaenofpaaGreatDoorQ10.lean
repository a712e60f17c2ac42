/-
  rewindlaw10.same, of two copies of one document: true.
  The statement about printed code, walked.
  The statement about printed code, walked.
-/
import Derived.Test.YtoailhkaenofpaaGreatDoorQ08
import Derived.Deep.QuietTactic
import Derived.BigQuiet
import Derived.IntWalk
import Derived.Test.YtoailhkaenofpaaGreatDoorCsCQ
import Derived.Test.YtoailhkaenofpaaGreatDoorCpQQ
import Derived.Test.YtoailhkaenofpaaGreatDoorQ07
import Derived.Test.YtoailhkaenofpaaGreatDoorCrEQ
namespace Go.Proofs.YtoailhkaenofpaaGreatDoor
open Go.RowKit

set_option maxRecDepth 100000 in
set_option maxHeartbeats 4000000 in
theorem sameC_calls (c : CoM) (A A2 B B2 : Option Addr) (c1 c2 d1 d2 : Nat) (w : World) (hc : CoAt w w.heap.size A c1 A2 c2 c) (hd : CoAt w w.heap.size B d1 B2 d2 c) (hn1 : c.ps.length ≤ 100000) (hn2 : c.is.length ≤ 100000) :
    Calls Tryz.prog 12 #[coV A c1 A2 c2 c, coV B d1 B2 d2 c] w fun e w' => e = .returned (.bool true) ∧ Below w.heap.size w w' := by
  have HC := Lib.hid hc
  have HD := Lib.hid hd
  unfold coV
  clear hc hd
  have HB0 := Lib.hid (((Below.refl w.heap.size w).alloc (Nat.le_refl _) (.cells #[.slice A c.ps.length c1, .slice A2 c.is.length c2] 35)).alloc (by simp) (.cells #[.slice B c.ps.length d1, .slice B2 c.is.length d2] 35))
  have HX := Lib.hid ((Below.heap_alloc (w.alloc (.cells #[.slice A c.ps.length c1, .slice A2 c.is.length c2] 35)) (.cells #[.slice B c.ps.length d1, .slice B2 c.is.length d2] 35) w.heap.size (by simp)).trans (heapOne w #[.slice A c.ps.length c1, .slice A2 c.is.length c2] 35))
  have hy := heapOne (w.alloc (.cells #[.slice A c.ps.length c1, .slice A2 c.is.length c2] 35)) #[.slice B c.ps.length d1, .slice B2 c.is.length d2] 35
  rw [World.size_alloc] at hy
  have HY := Lib.hid hy
  clear hy
  have e1 : ((c.ps.length : Int) == (c.ps.length : Int)) = true := beq_self_eq_true _
  have e2 : ((c.ps.length : Int) != (c.ps.length : Int)) = false := by simp [bne]
  have e3 : ((c.is.length : Int) == (c.is.length : Int)) = true := beq_self_eq_true _
  have e4 : ((c.is.length : Int) != (c.is.length : Int)) = false := by simp [bne]
  go_enter Tryz.func12, Tryz.ntmps12
  go_wp2_with fail
  generalize (w.alloc (.cells #[.slice A c.ps.length c1, .slice A2 c.is.length c2] 35)).alloc (.cells #[.slice B c.ps.length d1, .slice B2 c.is.length d2] 35) = W0 at *
  have x0 : W0.cell? ⟨w.heap.size, 0, none⟩ = some (.slice A c.ps.length c1) := cellC HX.out 0
  have x1 : W0.cell? ⟨w.heap.size, 1, none⟩ = some (.slice A2 c.is.length c2) := cellC HX.out 1
  have y0 : W0.cell? ⟨w.heap.size + 1, 0, none⟩ = some (.slice B c.ps.length d1) := cellC HY.out 0
  have y1 : W0.cell? ⟨w.heap.size + 1, 1, none⟩ = some (.slice B2 c.is.length d2) := cellC HY.out 1
  go_wp2
  go_loopw [26] (fun i wr => ∃ (k : Nat), k ≤ c.ps.length ∧ i = .int .i64 k ∧ ∃ z, wr = W0.drewN z) (fun i _ => c.ps.length - (intOf i).toNat)
  case atStart => exact ⟨0, by omega, rfl, 0, rfl⟩
  case round =>
    obtain ⟨k, hk, rfl, z, rfl⟩ := hrel
    by_cases hlt : k < c.ps.length
    · obtain ⟨b, off, rfl, hb, hcells⟩ := (HC.out.prs) (by omega)
      obtain ⟨q0, q1, q2, q3, q4, q5⟩ := hcells k hlt
      have q0 := keepC HB0.out q0 hb
      have q1 := keepC HB0.out q1 hb
      have q2 := keepC HB0.out q2 hb
      have q3 := keepC HB0.out q3 hb
      have q4 := keepC HB0.out q4 hb
      have q5 := keepC HB0.out q5 hb
      obtain ⟨b2, off2, rfl, hb2, hcells2⟩ := (HD.out.prs) (by omega)
      obtain ⟨r0, r1, r2, r3, r4, r5⟩ := hcells2 k hlt
      have r0 := keepC HB0.out r0 hb2
      have r1 := keepC HB0.out r1 hb2
      have r2 := keepC HB0.out r2 hb2
      have r3 := keepC HB0.out r3 hb2
      have r4 := keepC HB0.out r4 hb2
      have r5 := keepC HB0.out r5 hb2
      generalize c.ps[k] = p at *
      have hk0 : (0 : Int) ≤ (k : Int) := by omega
      have hk1 : (k : Int) < (c.ps.length : Int) := by omega
      clear hcells hcells2
      go_wp2
      go_quiet (fail)
      go_wp2
      go_roundw
      case rel => exact ⟨k + 1, by omega, by go_num, _, rfl⟩
      case measure => simp [intOf]; omega
    · obtain rfl : k = c.ps.length := by omega
      have x1 : (W0.drewN z).cell? ⟨w.heap.size, 1, none⟩ = some (.slice A2 c.is.length c2) := x1
      have y1 : (W0.drewN z).cell? ⟨w.heap.size + 1, 1, none⟩ = some (.slice B2 c.is.length d2) := y1
      have HBZ := Lib.hid (below_drewC HB0.out z)
      generalize W0.drewN z = W1 at *
      clear hlt hk x0 y0
      go_wp2
      go_loopw [44] (fun i wr => ∃ (k : Nat), k ≤ c.is.length ∧ i = .int .i64 k ∧ ∃ z, wr = W1.drewN z) (fun i _ => c.is.length - (intOf i).toNat)
      case atStart => exact ⟨0, by omega, rfl, 0, rfl⟩
      case round =>
        obtain ⟨k, hk, rfl, z, rfl⟩ := hrel
        by_cases hlt : k < c.is.length
        · obtain ⟨b, off, rfl, hb, hcells⟩ := (HC.out.ins) (by omega)
          obtain ⟨q0, q1, q2⟩ := hcells k hlt
          have q0 := keepC HBZ.out q0 hb
          have q1 := keepC HBZ.out q1 hb
          have q2 := keepC HBZ.out q2 hb
          obtain ⟨b2, off2, rfl, hb2, hcells2⟩ := (HD.out.ins) (by omega)
          obtain ⟨r0, r1, r2⟩ := hcells2 k hlt
          have r0 := keepC HBZ.out r0 hb2
          have r1 := keepC HBZ.out r1 hb2
          have r2 := keepC HBZ.out r2 hb2
          generalize c.is[k] = x at *
          have hk0 : (0 : Int) ≤ (k : Int) := by omega
          have hk1 : (k : Int) < (c.is.length : Int) := by omega
          clear hcells hcells2
          go_wp2
          go_quiet (fail)
          go_wp2
          go_roundw
          case rel => exact ⟨k + 1, by omega, by go_num, _, rfl⟩
          case measure => simp [intOf]; omega
        · obtain rfl : k = c.is.length := by omega
          clear hlt hk
          go_wp2
          go_ret
          exact ⟨rfl, below_drewC HBZ.out _⟩
end Go.Proofs.YtoailhkaenofpaaGreatDoor

namespace Go.Proofs.YtoailhkaenofpaaGreatDoor
open Go.RowKit

set_option maxRecDepth 100000 in
set_option maxHeartbeats 8000000 in
theorem codePrints_of (HRH : ∀ (c : CoM) (A A2 : Option Addr) (c1 c2 : Nat) (w : World), CoAt w w.heap.size A c1 A2 c2 c → (∀ p ∈ c.ps, p.name.length ≤ 20000) → c.ps.length ≤ 100000 → c.is.length ≤ 100000 → Calls Tryz.prog 8 #[coV A c1 A2 c2 c] w (RHgP c w))
    (c : CoM) (A A2 : Option Addr) (c1 c2 : Nat) (w : World) (hc : CoAt w w.heap.size A c1 A2 c2 c) (hnm : ∀ p ∈ c.ps, p.name.length ≤ maxLen) (hX : TX w) :
    Calls Tryz.prog 3 #[coV A c1 A2 c2 c] w fun e w' => e = .returned (.bool true) ∧ Below w.heap.size w w' := by
  have HFE := Lib.hid (fun W (hb : Below w.heap.size w W) => few_calls c A A2 c1 c2 W ((hc.below hb (Nat.le_refl _)).wide hb.size) hnm)
  have HAW := Lib.hid (fun W (hb : Below w.heap.size w W) => awakeC_calls W (hX.below hb (Nat.le_refl _)))
  have HLT : fewM c → GoodC c → (txtC c).length ≤ 20000 := fun hf hg => by
    have := len_txt hg.1 hc.fitP hc.fitI hf.1
    have := hf.2
    omega
  have HPT := Lib.hid (fun (hf : fewM c) W (hb : Below w.heap.size w W) => print_calls c A A2 c1 c2 W ((hc.below hb (Nat.le_refl _)).wide hb.size) (fun p hp => Nat.le_trans (hf.1 p hp) (by omega)) (Nat.le_trans hf.2.2 (by omega)) (hX.below hb (Nat.le_refl _)) (fun hg => Nat.le_trans (HLT hf hg) (by omega)))
  have HPS := Lib.hid (fun (hf : fewM c) (hg : GoodC c) W (hb : Below w.heap.size w W) => parse_calls (txtC c) (Nat.le_trans (HLT hf hg) (by omega)) W (hX.below hb (Nat.le_refl _)))
  have HPP := Lib.hid (fun (hg : GoodC c) => print_parse hg.1 hc.fitP hc.fitI)
  have HRF := Lib.hid (fun (hf : fewM c) W (hb : Below w.heap.size w W) => ref_calls c A A2 c1 c2 W ((hc.below hb (Nat.le_refl _)).wide hb.size) (Nat.le_trans hf.2.1 (by omega)) (Nat.le_trans hf.2.2 (by omega)) ⟨fun p hp => ⟨hc.fitP p hp, Nat.le_trans (hf.1 p hp) (by omega)⟩, hc.fitI⟩)
  have HRB := Lib.hid (fun (hf : fewM c) B B2 d1 d2 W (hW : CoAt W W.heap.size B d1 B2 d2 c) => ref_calls c B B2 d1 d2 W hW (Nat.le_trans hf.2.1 (by omega)) (Nat.le_trans hf.2.2 (by omega)) ⟨fun p hp => ⟨hc.fitP p hp, Nat.le_trans (hf.1 p hp) (by omega)⟩, hc.fitI⟩)
  have HRR := Lib.hid (fun (hf : fewM c) A A2 c1 c2 W hW => HRH c A A2 c1 c2 W hW (fun p hp => Nat.le_trans (hf.1 p hp) (by omega)) (Nat.le_trans hf.2.1 (by omega)) (Nat.le_trans hf.2.2 (by omega)))
  have HRP := Lib.hid (fun (hf : fewM c) (hg : GoodC c) A A2 c1 c2 W hW => refPrint_calls c A A2 c1 c2 W hW hg.1 hf.1 (Nat.le_trans (HLT hf hg) (by omega)))
  have HSM := Lib.hid (fun (hf : fewM c) A A2 B B2 c1 c2 d1 d2 W h1 h2 => sameC_calls c A A2 B B2 c1 c2 d1 d2 W h1 h2 (Nat.le_trans hf.2.1 (by omega)) (Nat.le_trans hf.2.2 (by omega)))
  unfold coV at HFE HPT HRF HRB HRR HRP HSM ⊢
  have HB0 := Lib.hid ((Below.refl w.heap.size w).alloc (Nat.le_refl _) (.cells #[.slice A c.ps.length c1, .slice A2 c.is.length c2] 25))
  have HX := Lib.hid (heapOne w #[.slice A c.ps.length c1, .slice A2 c.is.length c2] 25)
  clear hc hnm hX HRH HLT
  go_enter Tryz.func3, Tryz.ntmps3
  go_wp2_with fail
  generalize w.alloc (.cells #[.slice A c.ps.length c1, .slice A2 c.is.length c2] 25) = W0 at *
  have hsz0 : w.heap.size < W0.heap.size := blkLt HX.out
  refine (HAW.out _ HB0.out).mono ?_
  rintro e w1 ⟨rfl, hb1⟩
  have HB1 := Lib.hid (HB0.out.trans (hb1.mono (by omega)))
  have HX1 := Lib.hid ((hb1.block w.heap.size hsz0).trans HX.out)
  have x0 : w1.cell? ⟨w.heap.size, 0, none⟩ = some (.slice A c.ps.length c1) := cellC HX1.out 0
  have x1 : w1.cell? ⟨w.heap.size, 1, none⟩ = some (.slice A2 c.is.length c2) := cellC HX1.out 1
  have hsz1 : w.heap.size < w1.heap.size := blkLt HX1.out
  clear hb1
  go_wp2_with fail
  refine (HFE.out _ HB1.out).mono ?_
  rintro e w2 ⟨hb2, h2⟩
  have HB2 := Lib.hid (HB1.out.trans (hb2.mono (by omega)))
  have HX2 := Lib.hid ((hb2.block w.heap.size hsz1).trans HX1.out)
  have x0 : w2.cell? ⟨w.heap.size, 0, none⟩ = some (.slice A c.ps.length c1) := cellC HX2.out 0
  have x1 : w2.cell? ⟨w.heap.size, 1, none⟩ = some (.slice A2 c.is.length c2) := cellC HX2.out 1
  have hsz2 : w.heap.size < w2.heap.size := blkLt HX2.out
  clear hb2
  rcases h2 with ⟨hf, rfl⟩ | ⟨_, rfl⟩
  · have HF := Lib.hid hf
    clear hf
    go_wp2_with fail
    refine (HPT.out HF.out _ HB2.out).mono ?_
    rintro e w3 ⟨hb3, h3⟩
    have HB3 := Lib.hid (HB2.out.trans (hb3.mono (by omega)))
    have HX3 := Lib.hid ((hb3.block w.heap.size hsz2).trans HX2.out)
    have x0 : w3.cell? ⟨w.heap.size, 0, none⟩ = some (.slice A c.ps.length c1) := cellC HX3.out 0
    have x1 : w3.cell? ⟨w.heap.size, 1, none⟩ = some (.slice A2 c.is.length c2) := cellC HX3.out 1
    have hsz3 : w.heap.size < w3.heap.size := blkLt HX3.out
    clear hb3
    have HEX : Hid (∃ T : List UInt8, e = .returned (.string (bs T)) ∧ ((GoodC c ∧ T = txtC c) ∨ (¬ GoodC c ∧ T = []))) := Lib.hid (by
      rcases h3 with ⟨hg, rfl⟩ | ⟨hg, rfl⟩
      · exact ⟨_, rfl, .inl ⟨hg, rfl⟩⟩
      · exact ⟨_, rfl, .inr ⟨hg, rfl⟩⟩)
    obtain ⟨T, rfl, hT⟩ := HEX.out
    have HT := Lib.hid hT
    clear h3 HEX hT
    obtain ⟨S, hS⟩ : ∃ S, S = bs T := ⟨_, rfl⟩
    rw [← hS]
    have HS := Lib.hid hS
    clear hS
    go_wp2_with fail
    refine (HRF.out HF.out _ HB3.out).mono ?_
    rintro e w4 ⟨hb4, A4, c4, A5, c5, rfl, hco⟩
    have HB34 := Lib.hid hb4
    have HB4 := Lib.hid (HB3.out.trans (hb4.mono (by omega)))
    have HCO := Lib.hid hco
    clear hb4 hco
    unfold coV
    go_wp2_with fail
    refine (HRR.out HF.out A4 A5 c4 c5 w4 HCO.out).mono ?_
    rintro e w5 ⟨hb5, h5⟩
    have hs34 := HB34.out.size
    have HB35 := Lib.hid (HB34.out.trans (hb5.mono (by omega)))
    have HB5 := Lib.hid (HB4.out.trans (hb5.mono (by omega)))
    have HX5 := Lib.hid ((HB35.out.block w.heap.size hsz3).trans HX3.out)
    have hsz5 : w.heap.size < w5.heap.size := blkLt HX5.out
    clear hb5 x0 x1
    rcases h5 with ⟨hg, hs, g, _, rfl, _⟩ | ⟨hg, rfl⟩
    · have HG := Lib.hid hg
      obtain rfl : T = txtC c := by
        rcases HT.out with ⟨_, h⟩ | ⟨h, _⟩
        · exact h
        · exact absurd hg h
      have HPS2 := Lib.hid (HPS.out HF.out hg)
      have HRP2 := Lib.hid (HRP.out HF.out hg)
      have HPP2 := Lib.hid (HPP.out hg)
      rw [← HS.out] at HPS2 HRP2
      clear hg
      go_wp2_with fail
      refine (HPS2.out _ HB5.out).mono ?_
      rintro e w6 ⟨hb6, h6⟩
      have HB6 := Lib.hid (HB5.out.trans (hb6.mono (by omega)))
      have HX6 := Lib.hid ((hb6.block w.heap.size hsz5).trans HX5.out)
      have hsz6 : w.heap.size < w6.heap.size := blkLt HX6.out
      clear hb6
      rw [HPP2.out] at h6
      rcases h6 with ⟨k, h, _⟩ | ⟨c', k, h, hng, _⟩ | ⟨c', k, B, d1, B2, d2, h, _, _, rfl, hco6, _⟩
      · cases h
      · have h := Sum.inr.inj h
        injection h with h1 h2
        subst h1
        exact absurd HG.out hng
      · have h := Sum.inr.inj h
        injection h with h1 h2
        subst h1
        clear h2
        have HCB := Lib.hid hco6
        clear hco6
        unfold coV
        have HBL := Lib.hid ((Below.refl w6.heap.size w6).alloc (Nat.le_refl _) (.cells #[.slice B c.ps.length d1, .slice B2 c.is.length d2] 25))
        have HY := Lib.hid (heapOne w6 #[.slice B c.ps.length d1, .slice B2 c.is.length d2] 25)
        have HCB8 := Lib.hid ((HCB.out.below HBL.out (Nat.le_refl _)).wide HBL.out.size)
        have HB8 := Lib.hid (HB6.out.trans (HBL.out.mono (by omega)))
        have HX8 := Lib.hid ((HBL.out.block w.heap.size hsz6).trans HX6.out)
        go_upto_region 8 with (fail)
        generalize hG3 : w6.heap.size = G3 at *
        generalize w6.alloc (.cells #[.slice B c.ps.length d1, .slice B2 c.is.length d2] 25) = W8 at *
        clear hG3 HBL HB6 HX6 HCB HB5 HX5 HB35 HB4 HB34 HB3 HX3 HX2 HB2 HX1 HB1 HX HB0 HCO HPS HPS2 HPP HPP2 HRR HRP HPT HFE HAW
        have y0 : W8.drew.cell? ⟨w.heap.size, 0, none⟩ = some (.slice A c.ps.length c1) := cellC HX8.out 0
        have y1 : W8.drew.cell? ⟨w.heap.size, 1, none⟩ = some (.slice A2 c.is.length c2) := cellC HX8.out 1
        have z0 : W8.drew.cell? ⟨G3, 0, none⟩ = some (.slice B c.ps.length d1) := cellC HY.out 0
        have z1 : W8.drew.cell? ⟨G3, 1, none⟩ = some (.slice B2 c.is.length d2) := cellC HY.out 1
        have hs8 : w.heap.size ≤ W8.heap.size := HB8.out.size
        have HL : Hid (Below W8.heap.size W8 W8.drew) := Lib.hid (below_drewC (Below.refl _ _) 1)
        have HRC := Lib.hid (fun W (hb : Below W8.heap.size W8 W) => HRF.out HF.out W (HB8.out.trans (hb.mono hs8)))
        have HRD := Lib.hid (fun W (hb : Below W8.heap.size W8 W) => HRB.out HF.out B B2 d1 d2 W ((HCB8.out.below hb (Nat.le_refl _)).wide hb.size))
        have HSM2 := Lib.hid (HSM.out HF.out)
        have hseq : (S.toList == S.toList) = true := beq_self_eq_true _
        have HCOc : Hid (CoAt W8.drew W8.drew.heap.size B d1 B2 d2 c) := Lib.hid (HCB8.out.below HL.out (Nat.le_refl _))
        have HCOb : Hid (CoAt W8.drew W8.drew.heap.size B d1 B2 d2 c) := Lib.hid (HCB8.out.below HL.out (Nat.le_refl _))
        clear HRF HRB HSM
        go_region_held3 (fun w' => w'.cell? ⟨w.heap.size, 0, none⟩ = some (.slice A c.ps.length c1) ∧ w'.cell? ⟨w.heap.size, 1, none⟩ = some (.slice A2 c.is.length c2) ∧ w'.cell? ⟨G3, 0, none⟩ = some (.slice B c.ps.length d1) ∧ w'.cell? ⟨G3, 1, none⟩ = some (.slice B2 c.is.length d2))
          (with_reducible exact ⟨y0, y1, z0, z1⟩)
          (first
            | (go_at_call 9; (with_reducible refine (HRC.out _ HL.out).mono ?_); rintro e w9 ⟨hb, A6, e1, A7, e2, rfl, hco⟩; unfold coV; have HL := Lib.hid (HL.out.trans (hb.mono HL.out.size)); have HCOc := Lib.hid hco; have HCOb := Lib.hid ((HCOb.out.below hb (Nat.le_refl _)).wide hb.size); have k1 := (HL.out.block _ (blkLt HX8.out)).trans HX8.out; have y0 : w9.cell? ⟨w.heap.size, 0, none⟩ = some (.slice A c.ps.length c1) := cellC k1 0; have y1 : w9.cell? ⟨w.heap.size, 1, none⟩ = some (.slice A2 c.is.length c2) := cellC k1 1; have k2 := (HL.out.block _ (blkLt HY.out)).trans HY.out; have z0 : w9.cell? ⟨G3, 0, none⟩ = some (.slice B c.ps.length d1) := cellC k2 0; have z1 : w9.cell? ⟨G3, 1, none⟩ = some (.slice B2 c.is.length d2) := cellC k2 1; clear k1 k2 hb hco)
            | (go_at_call 9; (with_reducible refine (HRD.out _ HL.out).mono ?_); rintro e w9 ⟨hb, A8, e3, A9, e4, rfl, hco⟩; unfold coV; have HL := Lib.hid (HL.out.trans (hb.mono HL.out.size)); have HCOb := Lib.hid hco; have HCOc := Lib.hid ((HCOc.out.below hb (Nat.le_refl _)).wide hb.size); have k1 := (HL.out.block _ (blkLt HX8.out)).trans HX8.out; have y0 : w9.cell? ⟨w.heap.size, 0, none⟩ = some (.slice A c.ps.length c1) := cellC k1 0; have y1 : w9.cell? ⟨w.heap.size, 1, none⟩ = some (.slice A2 c.is.length c2) := cellC k1 1; have k2 := (HL.out.block _ (blkLt HY.out)).trans HY.out; have z0 : w9.cell? ⟨G3, 0, none⟩ = some (.slice B c.ps.length d1) := cellC k2 0; have z1 : w9.cell? ⟨G3, 1, none⟩ = some (.slice B2 c.is.length d2) := cellC k2 1; clear k1 k2 hb hco)
            | (go_at_call 11; (with_reducible refine (HRP2.out _ _ _ _ _ HCOc.out).mono ?_); rintro e w9 ⟨rfl, hb⟩; have HL := Lib.hid (HL.out.trans (hb.mono HL.out.size)); have HCOb := Lib.hid ((HCOb.out.below hb (Nat.le_refl _)).wide hb.size); have HCOc := Lib.hid ((HCOc.out.below hb (Nat.le_refl _)).wide hb.size); have k1 := (HL.out.block _ (blkLt HX8.out)).trans HX8.out; have y0 : w9.cell? ⟨w.heap.size, 0, none⟩ = some (.slice A c.ps.length c1) := cellC k1 0; have y1 : w9.cell? ⟨w.heap.size, 1, none⟩ = some (.slice A2 c.is.length c2) := cellC k1 1; have k2 := (HL.out.block _ (blkLt HY.out)).trans HY.out; have z0 : w9.cell? ⟨G3, 0, none⟩ = some (.slice B c.ps.length d1) := cellC k2 0; have z1 : w9.cell? ⟨G3, 1, none⟩ = some (.slice B2 c.is.length d2) := cellC k2 1; clear k1 k2 hb)
            | (go_at_call 12; (with_reducible refine (HSM2.out _ _ _ _ _ _ _ _ _ HCOb.out HCOc.out).mono ?_); rintro e w9 ⟨rfl, hb⟩; have HL := Lib.hid (HL.out.trans (hb.mono HL.out.size)); have k1 := (HL.out.block _ (blkLt HX8.out)).trans HX8.out; have y0 : w9.cell? ⟨w.heap.size, 0, none⟩ = some (.slice A c.ps.length c1) := cellC k1 0; have y1 : w9.cell? ⟨w.heap.size, 1, none⟩ = some (.slice A2 c.is.length c2) := cellC k1 1; have k2 := (HL.out.block _ (blkLt HY.out)).trans HY.out; have z0 : w9.cell? ⟨G3, 0, none⟩ = some (.slice B c.ps.length d1) := cellC k2 0; have z1 : w9.cell? ⟨G3, 1, none⟩ = some (.slice B2 c.is.length d2) := cellC k2 1; clear k1 k2 hb))
        all_goals
          have HBE := Lib.hid (HB8.out.trans (HL.out.mono hs8))
          clear y0 y1 z0 z1
          go_wp2
          go_ret
          exact ⟨rfl, HBE.out⟩
    · obtain rfl : T = [] := by
        rcases HT.out with ⟨h, _⟩ | ⟨_, h⟩
        · exact absurd h hg
        · exact h
      have hemp : (S.toList == []) = true := by rw [HS.out, ByteArray.toList_eq, bs_toList]; rfl
      clear hg
      go_wp2
      go_ret
      exact ⟨rfl, HB5.out⟩
  · go_wp2_with fail
    refine (HAW.out _ HB2.out).mono ?_
    rintro e w3 ⟨rfl, hb3⟩
    have HB3 := Lib.hid (HB2.out.trans (hb3.mono (by omega)))
    clear hb3
    go_wp2
    go_ret
    exact ⟨rfl, HB3.out⟩
end Go.Proofs.YtoailhkaenofpaaGreatDoor

namespace Go.Proofs.YtoailhkaenofpaaGreatDoor
open Go.RowKit

theorem codePrints_law (c : CoM) (A A2 : Option Addr) (c1 c2 : Nat) (w : World) (hc : CoAt w w.heap.size A c1 A2 c2 c) (hnm : ∀ p ∈ c.ps, p.name.length ≤ maxLen) (hX : TX w) :
    Calls Tryz.prog 3 #[coV A c1 A2 c2 c] w fun e w' => e = .returned (.bool true) ∧ Below w.heap.size w w' :=
  codePrints_of (fun c A A2 c1 c2 w h1 h2 h3 h4 => refHeights_calls c A A2 c1 c2 w h1 h2 h3 h4) c A A2 c1 c2 w hc hnm hX
end Go.Proofs.YtoailhkaenofpaaGreatDoor
