/-
  The statement about parsed code, walked upon the document's own Parse.
  The statement about parsed code, walked.
-/
import Derived.Test.YthkpnbekkoompabGreatDoorCsRmQ
import Derived.Test.YthkpnbekkoompabGreatDoorCsSQ
import Derived.Test.YthkpnbekkoompabGreatDoorCpQQ
import Derived.Test.YthkpnbekkoompabGreatDoorQ06
import Derived.Deep.RegionHeld3
import Derived.IntWalk
import Derived.Test.YthkpnbekkoompabGreatDoorQ12
namespace Go.Proofs.YthkpnbekkoompabGreatDoor
open Go.RowKit

/-- What a parser answers. -/
def AnP (an : CoM × Nat × Int) (n : Nat) (w : World) (e : Ending) (w' : World) : Prop :=
  Below w.heap.size w w' ∧ ∃ A c1 A2 c2, e = .returned (.tuple #[coV A c1 A2 c2 an.1, .int .i64 (an.2.1 : Int), .int .i64 an.2.2]) ∧ CoAt w' w'.heap.size A c1 A2 c2 an.1 ∧ CFit an.1 ∧ an.1.ps.length + an.1.is.length ≤ n + 1
theorem co_zero (w : World) : CoAt w w.heap.size none 0 none 0 ⟨[], []⟩ :=
  ⟨fun h => absurd h (by simp), fun h => absurd h (by simp), Nat.le_refl 0, Nat.le_refl 0, ⟨Nat.zero_le _, Nat.zero_le _⟩, fun p hp => (by cases hp), fun x hx => (by cases hx)⟩
theorem fit_zero : CFit ⟨[], []⟩ := ⟨fun p hp => (by cases hp), fun x hx => (by cases hx)⟩
/-- What is parsed of a text is the same for both. -/
theorem ans_ex (T : List UInt8) : ∃ an : CoM × Nat × Int, (∀ (w w' : World) (e : Ending), PsP T w e w' → AnP an T.length w e w') ∧ (an.2.2 = 3 ∨ (an.2.2 = 0 ∧ GoodC an.1 ∧ txtC an.1 = T)) := by
  by_cases hx : ∃ c k, parseM T = .inr (c, k) ∧ GoodC c
  · obtain ⟨c, k, hp, hg⟩ := hx
    refine ⟨(c, 0, 0), fun w w' e h => ?_, .inr ⟨rfl, hg, (parse_text hp).1⟩⟩
    obtain ⟨hb, h⟩ := h
    refine ⟨hb, ?_⟩
    rcases h with ⟨k2, h2, _⟩ | ⟨c2, k2, h2, hn, _⟩ | ⟨c2, k2, A, c1, A2, d2, h2, _, hf, rfl, hc, hn⟩
    · rw [hp] at h2; cases h2
    · rw [hp] at h2; cases h2; exact absurd hg hn
    · rw [hp] at h2; cases h2; exact ⟨A, c1, A2, d2, rfl, hc, hf, hn⟩
  · obtain ⟨k, hk⟩ : ∃ k, parseM T = .inl k ∨ ∃ c, parseM T = .inr (c, k) := by
      cases hp : parseM T with
      | inl k => exact ⟨k, .inl rfl⟩
      | inr ck => exact ⟨ck.2, .inr ⟨ck.1, rfl⟩⟩
    refine ⟨(⟨[], []⟩, k, 3), fun w w' e h => ?_, .inl rfl⟩
    obtain ⟨hb, h⟩ := h
    refine ⟨hb, ?_⟩
    rcases h with ⟨k2, h2, rfl⟩ | ⟨c2, k2, h2, _, rfl⟩ | ⟨c2, k2, _, _, _, _, h2, hg, _⟩
    · obtain rfl : k = k2 := by
        rcases hk with hk | ⟨c, hk⟩
        · rw [hk] at h2; cases h2; rfl
        · rw [hk] at h2; cases h2
      exact ⟨none, 0, none, 0, rfl, co_zero w', fit_zero, Nat.zero_le _⟩
    · obtain rfl : k = k2 := by
        rcases hk with hk | ⟨c, hk⟩
        · rw [hk] at h2; cases h2
        · rw [hk] at h2; cases h2; rfl
      exact ⟨none, 0, none, 0, rfl, co_zero w', fit_zero, Nat.zero_le _⟩
    · exact absurd ⟨c2, k2, h2, hg⟩ hx

set_option maxRecDepth 100000 in
set_option maxHeartbeats 8000000 in
theorem codeParses_of (HRPS : ∀ (T : List UInt8) (w : World), T.length ≤ 20000 → Calls Tryz.prog 6 #[.string (bs T)] w (PsP T w))
    (T : List UInt8) (w : World) (hX : TX w) : Calls Tryz.prog 3 #[.string (bs T)] w fun e w' => e = .returned (.bool true) ∧ Below w.heap.size w w' := by
  have hsz : (bs T).size = T.length := bs_size T
  have HAW := Lib.hid (fun W (hb : Below w.heap.size w W) => awakeC_calls W (hX.below hb (Nat.le_refl _)))
  by_cases hlen : 800 < T.length
  · have d1 : decide ((800 : Int) < (T.length : Int)) = true := decide_eq_true (by omega)
    have d2 : decide (800 < T.length) = true := decide_eq_true hlen
    clear hX HRPS hlen
    go_enter Tryz.func3, Tryz.ntmps3
    go_wp2_with fail
    refine (HAW.out _ (Below.refl _ _)).mono ?_
    rintro e w1 ⟨rfl, hb1⟩
    have HB1 := Lib.hid hb1
    clear hb1
    go_wp2_with fail
    refine (HAW.out _ HB1.out).mono ?_
    rintro e w2 ⟨rfl, hb2⟩
    have HB2 := Lib.hid (HB1.out.trans (hb2.mono HB1.out.size))
    clear hb2
    go_wp2
    go_ret
    exact ⟨rfl, HB2.out⟩
  · have d1 : decide ((800 : Int) < (T.length : Int)) = false := decide_eq_false (by omega)
    have d2 : decide (800 < T.length) = false := decide_eq_false hlen
    obtain ⟨an, hans, hgd⟩ := ans_ex T
    have HPS := Lib.hid (fun W (hb : Below w.heap.size w W) => (parse_calls T (by omega) W (hX.below hb (Nat.le_refl _))).mono (fun e w' h => hans _ _ _ h))
    have HRS := Lib.hid (fun W => (HRPS T W (by omega)).mono (fun e w' h => hans _ _ _ h))
    have HPT : Hid (∀ (c : CoM) (A A2 : Option Addr) (c1 c2 : Nat) (W : World), CoAt W W.heap.size A c1 A2 c2 c → CFit c → c.ps.length + c.is.length ≤ T.length + 1 → (GoodC c → txtC c = T) → Below w.heap.size w W → Calls Tryz.prog 9 #[coV A c1 A2 c2 c] W (PrtP c W)) := Lib.hid (fun c A A2 c1 c2 W hc hf hn ht hb => print_calls c A A2 c1 c2 W hc (fun p hp => (hf.prs p hp).2) (by omega) (hX.below hb (Nat.le_refl _)) (fun hg => by rw [ht hg]; omega))
    have HRF : Hid (∀ (c : CoM) (A A2 : Option Addr) (c1 c2 : Nat) (W : World), CoAt W W.heap.size A c1 A2 c2 c → CFit c → c.ps.length + c.is.length ≤ T.length + 1 → Calls Tryz.prog 8 #[coV A c1 A2 c2 c] W (RefP c W)) := Lib.hid (fun c A A2 c1 c2 W hc hf hn => ref_calls c A A2 c1 c2 W hc (by omega) (by omega) hf)
    have HSM : Hid (∀ (c : CoM) (A A2 B B2 : Option Addr) (c1 c2 d1 d2 : Nat) (W : World), c.ps.length + c.is.length ≤ T.length + 1 → CoAt W W.heap.size A c1 A2 c2 c → CoAt W W.heap.size B d1 B2 d2 c → Calls Tryz.prog 7 #[coV A c1 A2 c2 c, coV B d1 B2 d2 c] W fun e w' => e = .returned (.bool true) ∧ Below W.heap.size W w') := Lib.hid (fun c A A2 B B2 c1 c2 d1 d2 W hn h1 h2 => sameC_calls c A A2 B B2 c1 c2 d1 d2 W h1 h2 (by omega) (by omega))
    have HGD := Lib.hid hgd
    have HLN := Lib.hid hlen
    clear hans hgd
    obtain ⟨c, k, er⟩ := an
    dsimp only at HGD
    unfold AnP at HPS HRS
    dsimp only at HPS HRS
    unfold coV at HPS HRS HPT HRF HSM
    clear hX HRPS hlen
    go_enter Tryz.func3, Tryz.ntmps3
    go_wp2_with fail
    refine (HAW.out _ (Below.refl _ _)).mono ?_
    rintro e w1 ⟨rfl, hb1⟩
    have HB1 := Lib.hid hb1
    clear hb1
    go_wp2_with fail
    refine (HPS.out _ HB1.out).mono ?_
    rintro e w2 ⟨hb2, A, c1, A2, c2, rfl, hco, hfit, hfew⟩
    have HB2 := Lib.hid (HB1.out.trans (hb2.mono HB1.out.size))
    have HFIT := Lib.hid hfit
    have HFEW := Lib.hid hfew
    have HX := Lib.hid (heapOne w2 #[.slice A c.ps.length c1, .slice A2 c.is.length c2] 26)
    have HAL := Lib.hid ((Below.refl w2.heap.size w2).alloc (Nat.le_refl _) (.cells #[.slice A c.ps.length c1, .slice A2 c.is.length c2] 26))
    have HCO := Lib.hid ((hco.below HAL.out (Nat.le_refl _)).wide HAL.out.size)
    have HB3 := Lib.hid (HB2.out.trans (HAL.out.mono HB2.out.size))
    clear hb2 hco hfit hfew HPS
    go_wp2_with fail
    generalize hG2 : w2.heap.size = G2 at *
    generalize w2.alloc (.cells #[.slice A c.ps.length c1, .slice A2 c.is.length c2] 26) = W2 at *
    refine (HRS.out _).mono ?_
    rintro e w3 ⟨hb3, B, d1, B2, d2, rfl, hco3, _, _⟩
    have HB4 := Lib.hid (HB3.out.trans (hb3.mono HB3.out.size))
    have HX3 := Lib.hid ((hb3.block _ (blkLt HX.out)).trans HX.out)
    have HCO3 := Lib.hid ((HCO.out.below hb3 (Nat.le_refl _)).wide hb3.size)
    have HY := Lib.hid (heapOne w3 #[.slice B c.ps.length d1, .slice B2 c.is.length d2] 33)
    have HAL3 := Lib.hid ((Below.refl w3.heap.size w3).alloc (Nat.le_refl _) (.cells #[.slice B c.ps.length d1, .slice B2 c.is.length d2] 33))
    have HCB8 := Lib.hid ((hco3.below HAL3.out (Nat.le_refl _)).wide HAL3.out.size)
    have HCC8 := Lib.hid ((HCO3.out.below HAL3.out (Nat.le_refl _)).wide HAL3.out.size)
    have HX8 := Lib.hid ((HAL3.out.block _ (blkLt HX3.out)).trans HX3.out)
    have HB8 := Lib.hid (HB4.out.trans (HAL3.out.mono HB4.out.size))
    have b1 : (er != er) = false := by simp [bne]
    have b2 : ((k : Int) != (k : Int)) = false := by simp [bne]
    clear hb3 hco3 HRS
    go_upto_region 5 with (fail)
    generalize hG3 : w3.heap.size = G3 at *
    generalize w3.alloc (.cells #[.slice B c.ps.length d1, .slice B2 c.is.length d2] 33) = W8 at *
    clear hG3 hG2 HAL HAL3 HX HX3 HCO HCO3 HB4 HB3 HB2 HB1
    have y0 : W8.drew.cell? ⟨G2, 0, none⟩ = some (.slice A c.ps.length c1) := cellC HX8.out 0
    have y1 : W8.drew.cell? ⟨G2, 1, none⟩ = some (.slice A2 c.is.length c2) := cellC HX8.out 1
    have z0 : W8.drew.cell? ⟨G3, 0, none⟩ = some (.slice B c.ps.length d1) := cellC HY.out 0
    have z1 : W8.drew.cell? ⟨G3, 1, none⟩ = some (.slice B2 c.is.length d2) := cellC HY.out 1
    have hs8 : w.heap.size ≤ W8.heap.size := HB8.out.size
    have HL : Hid (Below W8.heap.size W8 W8.drew) := Lib.hid (below_drewC (Below.refl _ _) 1)
    have HRC := Lib.hid (fun W (hb : Below W8.heap.size W8 W) => HRF.out c A A2 c1 c2 W ((HCC8.out.below hb (Nat.le_refl _)).wide hb.size) HFIT.out HFEW.out)
    have HSM2 := Lib.hid (fun A A2 B B2 c1 c2 d1 d2 W h1 h2 => HSM.out c A A2 B B2 c1 c2 d1 d2 W HFEW.out h1 h2)
    have HCOb : Hid (CoAt W8.drew W8.drew.heap.size B d1 B2 d2 c) := Lib.hid (HCB8.out.below HL.out (Nat.le_refl _))
    clear HRF HSM
    go_region_held3 (fun w' => w'.cell? ⟨G2, 0, none⟩ = some (.slice A c.ps.length c1) ∧ w'.cell? ⟨G2, 1, none⟩ = some (.slice A2 c.is.length c2) ∧ w'.cell? ⟨G3, 0, none⟩ = some (.slice B c.ps.length d1) ∧ w'.cell? ⟨G3, 1, none⟩ = some (.slice B2 c.is.length d2))
      (with_reducible exact ⟨y0, y1, z0, z1⟩)
      (first
        | (go_at_call 8; (with_reducible refine (HRC.out _ HL.out).mono ?_); rintro e w9 ⟨hb, A6, e1, A7, e2, rfl, hco⟩; unfold coV; have HL := Lib.hid (HL.out.trans (hb.mono HL.out.size)); have HCOc := Lib.hid hco; have HCOb := Lib.hid ((HCOb.out.below hb (Nat.le_refl _)).wide hb.size); have k1 := (HL.out.block _ (blkLt HX8.out)).trans HX8.out; have y0 : w9.cell? ⟨G2, 0, none⟩ = some (.slice A c.ps.length c1) := cellC k1 0; have y1 : w9.cell? ⟨G2, 1, none⟩ = some (.slice A2 c.is.length c2) := cellC k1 1; have k2 := (HL.out.block _ (blkLt HY.out)).trans HY.out; have z0 : w9.cell? ⟨G3, 0, none⟩ = some (.slice B c.ps.length d1) := cellC k2 0; have z1 : w9.cell? ⟨G3, 1, none⟩ = some (.slice B2 c.is.length d2) := cellC k2 1; clear k1 k2 hb hco)
        | (go_at_call 7; (with_reducible refine (HSM2.out _ _ _ _ _ _ _ _ _ HCOc.out HCOb.out).mono ?_); rintro e w9 ⟨rfl, hb⟩; have HL := Lib.hid (HL.out.trans (hb.mono HL.out.size)); have k1 := (HL.out.block _ (blkLt HX8.out)).trans HX8.out; have y0 : w9.cell? ⟨G2, 0, none⟩ = some (.slice A c.ps.length c1) := cellC k1 0; have y1 : w9.cell? ⟨G2, 1, none⟩ = some (.slice A2 c.is.length c2) := cellC k1 1; have k2 := (HL.out.block _ (blkLt HY.out)).trans HY.out; have z0 : w9.cell? ⟨G3, 0, none⟩ = some (.slice B c.ps.length d1) := cellC k2 0; have z1 : w9.cell? ⟨G3, 1, none⟩ = some (.slice B2 c.is.length d2) := cellC k2 1; clear k1 k2 hb))
    all_goals
      have HBE := Lib.hid (HB8.out.trans (HL.out.mono hs8))
      have HCOe := Lib.hid ((HCC8.out.below HL.out (Nat.le_refl _)).wide HL.out.size)
      rcases HGD.out with rfl | ⟨rfl, hg, ht⟩
      · go_wp2
        go_ret
        exact ⟨rfl, HBE.out⟩
      · have HTX := Lib.hid ht
        have HGG := Lib.hid hg
        clear ht hg
        have hseq : ((bs T).toList == (bs T).toList) = true := beq_self_eq_true _
        go_wp2_with fail
        refine (HPT.out c A A2 c1 c2 _ HCOe.out HFIT.out HFEW.out (fun _ => HTX.out) HBE.out).mono ?_
        rintro e w10 ⟨hb, h⟩
        rcases h with ⟨_, rfl⟩ | ⟨hn, _⟩
        · rw [HTX.out]
          have HBF := Lib.hid (HBE.out.trans (hb.mono HBE.out.size))
          clear hb
          go_wp2
          go_ret
          exact ⟨rfl, HBF.out⟩
        · exact absurd HGG.out hn
end Go.Proofs.YthkpnbekkoompabGreatDoor

namespace Go.Proofs.YthkpnbekkoompabGreatDoor
open Go.RowKit

theorem codeParses_law (a : ByteArray) (w : World) (hX : TX w) :
    Calls Tryz.prog 3 #[.string a] w fun e w' => e = .returned (.bool true) ∧ Below w.heap.size w w' := by
  have h := codeParses_of (fun T w hT => refParse_calls T w hT) a.data.toList w hX
  rwa [show bs a.data.toList = a from rfl] at h
end Go.Proofs.YthkpnbekkoompabGreatDoor
