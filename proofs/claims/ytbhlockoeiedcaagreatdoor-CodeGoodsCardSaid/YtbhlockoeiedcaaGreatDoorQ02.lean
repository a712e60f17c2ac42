/-
  rewindref06.Ints upon two rows that are the same; the statement about good code, walked (but for the document's Heights).
  The statement about good code, walked.
-/
import Derived.Test.YtbhlockoeiedcaaGreatDoorQ03
import Derived.Test.YtbhlockoeiedcaaGreatDoorQ01
import Derived.BigQuiet
import Derived.Test.YtbhlockoeiedcaaGreatDoorCrEQ
namespace Go.Proofs.YtbhlockoeiedcaaGreatDoor
open Go.RowKit

/-- A slice value reads as ints. -/
def IsAt (w : World) (A : Option Addr) (l : List Int) : Prop := 0 < l.length → ∃ g, A = some ⟨g, 0, none⟩ ∧ ∀ j (h : j < l.length), w.cell? ⟨g, j, none⟩ = some (.int .i64 l[j])
theorem isAt_of {w : World} {g : Nat} {hs : List Int} (h : w.heap[g]? = some (.cells (intsL hs).toArray 3 (0, 0))) : IsAt w (some ⟨g, 0, none⟩) hs := fun _ => ⟨g, rfl, fun j hj => by
  rw [cellC h j]
  simp [intsL, hj]⟩
set_option maxRecDepth 100000 in
set_option maxHeartbeats 2000000 in
theorem ints_calls (A B : Option Addr) (c d : Nat) (l : List Int) (w : World) (hA : IsAt w A l) (hB : IsAt w B l) (hl : l.length ≤ 1000000) :
    Calls Tryz.prog 14 #[.slice A l.length c, .slice B l.length d] w fun e w' => e = .returned (.bool true) ∧ Below w.heap.size w w' := by
  have HA := Lib.hid hA
  have HB := Lib.hid hB
  clear hA hB
  go_enter Tryz.func14, Tryz.ntmps14
  go_wp2
  go_loopw [13] (fun i wr => ∃ (k : Nat), k ≤ l.length ∧ i = .int .i64 k ∧ ∃ z, wr = w.drewN z) (fun i _ => l.length - (intOf i).toNat)
  case atStart => exact ⟨0, by omega, rfl, 0, rfl⟩
  case round =>
    obtain ⟨k, hk, rfl, z, rfl⟩ := hrel
    by_cases hlt : k < l.length
    · obtain ⟨g, rfl, hc⟩ := HA.out (by omega)
      obtain ⟨g2, rfl, hc2⟩ := HB.out (by omega)
      have q := hc k hlt
      have q2 := hc2 k hlt
      generalize l[k] = a at *
      have hk0 : (0 : Int) ≤ (k : Int) := by omega
      have hk1 : (k : Int) < (l.length : Int) := by omega
      clear hc hc2
      go_wp2
      go_quiet (fail)
      go_wp2
      go_roundw
      case rel => exact ⟨k + 1, by omega, by go_num, _, rfl⟩
      case measure => simp [intOf]; omega
    · obtain rfl : k = l.length := by omega
      clear hlt hk
      go_wp2
      go_ret
      exact ⟨rfl, below_drewC (Below.refl _ _) _⟩

set_option maxRecDepth 100000 in
set_option maxHeartbeats 4000000 in
theorem codeGoods_of (HRH : ∀ (c : CoM) (A A2 : Option Addr) (c1 c2 : Nat) (w : World), CoAt w w.heap.size A c1 A2 c2 c → (∀ p ∈ c.ps, p.name.length ≤ 20000) → c.ps.length ≤ 100000 → c.is.length ≤ 100000 → Calls Tryz.prog 11 #[coV A c1 A2 c2 c] w (RHgP c w))
    (c : CoM) (A A2 : Option Addr) (c1 c2 : Nat) (w : World) (hc : CoAt w w.heap.size A c1 A2 c2 c) (hnm : ∀ p ∈ c.ps, p.name.length ≤ maxLen) (hX : TX w) :
    Calls Tryz.prog 3 #[coV A c1 A2 c2 c] w fun e w' => e = .returned (.bool true) ∧ Below w.heap.size w w' := by
  have hfew := hc.few
  have hcp := hc.capP
  have hci := hc.capI
  have HFE := Lib.hid (fun W (hb : Below w.heap.size w W) => few_calls c A A2 c1 c2 W ((hc.below hb (Nat.le_refl _)).wide hb.size) hnm)
  have HAW := Lib.hid (fun W (hb : Below w.heap.size w W) => awakeC_calls W (hX.below hb (Nat.le_refl _)))
  have HHG := Lib.hid (fun (hf : fewM c) W (hb : Below w.heap.size w W) => heights_calls c A A2 c1 c2 W ((hc.below hb (Nat.le_refl _)).wide hb.size) (fun p hp => Nat.le_trans (hf.1 p hp) (by omega)) (Nat.le_trans hf.2.2 (by omega)) (hX.below hb (Nat.le_refl _)).ts)
  have HGD := Lib.hid (fun (hf : fewM c) W (hb : Below w.heap.size w W) => good_calls c A A2 c1 c2 W ((hc.below hb (Nat.le_refl _)).wide hb.size) (fun p hp => Nat.le_trans (hf.1 p hp) (by omega)) (Nat.le_trans hf.2.2 (by omega)) (hX.below hb (Nat.le_refl _)).ts)
  have HRF := Lib.hid (fun (hf : fewM c) W (hb : Below w.heap.size w W) => ref_calls c A A2 c1 c2 W ((hc.below hb (Nat.le_refl _)).wide hb.size) (Nat.le_trans hf.2.1 (by omega)) (Nat.le_trans hf.2.2 (by omega)) ⟨fun p hp => ⟨hc.fitP p hp, Nat.le_trans (hf.1 p hp) (by omega)⟩, hc.fitI⟩)
  have HRR := Lib.hid (fun (hf : fewM c) A A2 c1 c2 W hW => HRH c A A2 c1 c2 W hW (fun p hp => Nat.le_trans (hf.1 p hp) (by omega)) (Nat.le_trans hf.2.1 (by omega)) (Nat.le_trans hf.2.2 (by omega)))
  unfold maxLen at hfew
  unfold coV at HFE HHG HGD HRF HRR ⊢
  have HB0 := Lib.hid ((Below.refl w.heap.size w).alloc (Nat.le_refl _) (.cells #[.slice A c.ps.length c1, .slice A2 c.is.length c2] 25))
  have HX := Lib.hid (heapOne w #[.slice A c.ps.length c1, .slice A2 c.is.length c2] 25)
  clear hc hnm hX HRH
  go_enter Tryz.func3, Tryz.ntmps3
  go_wp2_with fail
  generalize w.alloc (.cells #[.slice A c.ps.length c1, .slice A2 c.is.length c2] 25) = W0 at *
  have hsz0 : w.heap.size < W0.heap.size := blkLt HX.out
  refine (HAW.out _ HB0.out).mono ?_
  rintro e w1 ⟨rfl, hb1⟩
  have HB1 := Lib.hid (HB0.out.trans (hb1.mono (by omega)))
  have HX1 := Lib.hid ((hb1.block w.heap.size hsz0).trans HX.out)
  have x0 : w1.cell? ⟨w.heap.size, 0, none⟩ = some (.slice A c.ps.length c1) := cellC HX1.out 0
  have x1 : w1.cell? ⟨w.heap.size, 1, none⟩ = some (.slice A2 c.is.length c2) := cellC HX1.out 1
  have hsz1 : w.heap.size < w1.heap.size := blkLt HX1.out
  clear hb1
  go_wp2_with fail
  refine (HFE.out _ HB1.out).mono ?_
  rintro e w2 ⟨hb2, h2⟩
  have HB2 := Lib.hid (HB1.out.trans (hb2.mono (by omega)))
  have HX2 := Lib.hid ((hb2.block w.heap.size hsz1).trans HX1.out)
  have x0 : w2.cell? ⟨w.heap.size, 0, none⟩ = some (.slice A c.ps.length c1) := cellC HX2.out 0
  have x1 : w2.cell? ⟨w.heap.size, 1, none⟩ = some (.slice A2 c.is.length c2) := cellC HX2.out 1
  have hsz2 : w.heap.size < w2.heap.size := blkLt HX2.out
  clear hb2
  rcases h2 with ⟨hf, rfl⟩ | ⟨_, rfl⟩
  · have HF := Lib.hid hf
    clear hf
    go_wp2_with fail
    refine (HHG.out HF.out _ HB2.out).mono ?_
    rintro e w3 ⟨hb3, h3⟩
    have HB3 := Lib.hid (HB2.out.trans (hb3.mono (by omega)))
    have HX3 := Lib.hid ((hb3.block w.heap.size hsz2).trans HX2.out)
    have x0 : w3.cell? ⟨w.heap.size, 0, none⟩ = some (.slice A c.ps.length c1) := cellC HX3.out 0
    have x1 : w3.cell? ⟨w.heap.size, 1, none⟩ = some (.slice A2 c.is.length c2) := cellC HX3.out 1
    have hsz3 : w.heap.size < w3.heap.size := blkLt HX3.out
    clear hb3
    have HEX : Hid (∃ (L : Option Addr) (l : List Int) (ok : Bool), e = .returned (.tuple #[.slice L l.length l.length, .bool ok]) ∧ l.length ≤ 100000 ∧ (ok = true → StOk c ∧ HtsC c l) ∧ (ok = false → ¬ GoodC c ∧ l = []) ∧ (∀ W, Below w3.heap.size w3 W → IsAt W L l)) := Lib.hid (by
      rcases h3 with ⟨hst, hs, g, hh, rfl, hg, hgl⟩ | ⟨hbad, rfl⟩
      · exact ⟨_, hs, true, rfl, by rw [hh.1]; have := HF.out.2.2; omega, fun _ => ⟨hst, hh⟩, fun h => (by cases h), fun W hW => isAt_of ((hW.block g (blkLt hg)).trans hg)⟩
      · exact ⟨none, [], false, rfl, by simp, fun h => (by cases h), fun _ => ⟨hbad, rfl⟩, fun W hW h => absurd h (by simp)⟩)
    clear h3
    obtain ⟨L, l, ok, rfl, hll, hok, hnok, hIs⟩ := HEX.out
    have HOK := Lib.hid hok
    have HNOK := Lib.hid hnok
    have HIS := Lib.hid hIs
    clear hok hnok hIs HEX
    go_wp2_with fail
    refine (HRF.out HF.out _ HB3.out).mono ?_
    rintro e w4 ⟨hb4, A4, c4, A5, c5, rfl, hco⟩
    have HB34 := Lib.hid hb4
    have HB4 := Lib.hid (HB3.out.trans (hb4.mono (by omega)))
    have HCO := Lib.hid hco
    clear hb4 hco
    unfold coV
    go_wp2_with fail
    refine (HRR.out HF.out A4 A5 c4 c5 w4 HCO.out).mono ?_
    rintro e w5 ⟨hb5, h5⟩
    have hs34 := HB34.out.size
    have hs45 := hb5.size
    have HB35 := Lib.hid (HB34.out.trans (hb5.mono (by omega)))
    have HB5 := Lib.hid (HB4.out.trans (hb5.mono (by omega)))
    have HX5 := Lib.hid ((HB35.out.block w.heap.size hsz3).trans HX3.out)
    have x0 : w5.cell? ⟨w.heap.size, 0, none⟩ = some (.slice A c.ps.length c1) := cellC HX5.out 0
    have x1 : w5.cell? ⟨w.heap.size, 1, none⟩ = some (.slice A2 c.is.length c2) := cellC HX5.out 1
    have HEX : Hid (∃ (M : Option Addr) , e = .returned (.tuple #[.slice M l.length l.length, .bool ok]) ∧ (GoodC c ↔ ok = true) ∧ (∀ W, Below w5.heap.size w5 W → IsAt W M l)) := Lib.hid (by
      rcases h5 with ⟨hgood, hs, g, hh, rfl, hg⟩ | ⟨hbad, rfl⟩
      · cases ok with
        | false => exact absurd hgood (HNOK.out rfl).1
        | true =>
          obtain ⟨hst, hh2⟩ := HOK.out rfl
          obtain rfl := HtsC.one hst hh2 hh
          exact ⟨_, rfl, ⟨fun _ => rfl, fun _ => hgood⟩, fun W hW => isAt_of ((hW.block g (blkLt hg)).trans hg)⟩
      · cases ok with
        | true => exact absurd ⟨(HOK.out rfl).1, l, (HOK.out rfl).2⟩ hbad
        | false =>
          obtain rfl := (HNOK.out rfl).2
          exact ⟨none, rfl, ⟨fun h => absurd h hbad, fun h => (by cases h)⟩, fun W hW h => absurd h (by simp)⟩)
    clear h5 hb5
    obtain ⟨M, rfl, hiff, hIs2⟩ := HEX.out
    have HIF := Lib.hid hiff
    have HIS2 := Lib.hid hIs2
    have hsz5 : w.heap.size < w5.heap.size := blkLt HX5.out
    clear hiff hIs2 HEX HRR HRF HCO
    have e1 : (ok == ok) = true := by cases ok <;> rfl
    go_wp2_with fail
    refine (HGD.out HF.out _ HB5.out).mono ?_
    rintro e w6 ⟨hb6, h6⟩
    obtain rfl : e = .returned (.bool ok) := by
      rcases h6 with ⟨hg, rfl⟩ | ⟨hg, rfl⟩
      · rw [HIF.out.1 hg]
      · cases ok with
        | false => rfl
        | true => exact absurd (HIF.out.2 rfl) hg
    have HI := Lib.hid (ints_calls L M l.length l.length l w6 (HIS.out _ (HB35.out.trans (hb6.mono (by omega)))) (HIS2.out _ hb6) (by omega))
    have HB6 := Lib.hid (HB5.out.trans (hb6.mono (by omega)))
    clear hb6 h6
    go_wp2_with fail
    refine HI.out.mono ?_
    rintro e w7 ⟨rfl, hb7⟩
    have HB7 := Lib.hid (HB6.out.trans (hb7.mono HB6.out.size))
    clear hb7
    go_wp2
    go_ret
    exact ⟨rfl, HB7.out⟩
  · go_wp2_with fail
    refine (HAW.out _ HB2.out).mono ?_
    rintro e w3 ⟨rfl, hb3⟩
    have HB3 := Lib.hid (HB2.out.trans (hb3.mono (by omega)))
    clear hb3
    go_wp2
    go_ret
    exact ⟨rfl, HB3.out⟩
end Go.Proofs.YtbhlockoeiedcaaGreatDoor

namespace Go.Proofs.YtbhlockoeiedcaaGreatDoor
open Go.RowKit

theorem codeGoods_law (c : CoM) (A A2 : Option Addr) (c1 c2 : Nat) (w : World) (hc : CoAt w w.heap.size A c1 A2 c2 c) (hnm : ∀ p ∈ c.ps, p.name.length ≤ maxLen) (hX : TX w) :
    Calls Tryz.prog 3 #[coV A c1 A2 c2 c] w fun e w' => e = .returned (.bool true) ∧ Below w.heap.size w w' :=
  codeGoods_of (fun c A A2 c1 c2 w h1 h2 h3 h4 => refHeights_calls c A A2 c1 c2 w h1 h2 h3 h4) c A A2 c1 c2 w hc hnm hX
end Go.Proofs.YtbhlockoeiedcaaGreatDoor
