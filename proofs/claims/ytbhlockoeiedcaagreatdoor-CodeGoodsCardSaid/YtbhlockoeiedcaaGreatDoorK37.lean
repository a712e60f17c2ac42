/-
  The statements' own word for code that isn't long.
-/
import Derived.Test.YtbhlockoeiedcaaGreatDoorK36
import Derived.LoopTactic
namespace Go.Proofs.YtbhlockoeiedcaaGreatDoor
open Go.RowKit

/-- Code that isn't long. -/
def fewM (c : CoM) : Prop := (∀ p ∈ c.ps, p.name.length ≤ 60) ∧ c.ps.length ≤ 20 ∧ c.is.length ≤ 120

set_option maxRecDepth 100000 in
set_option maxHeartbeats 2000000 in
theorem few_calls (c : CoM) (A A2 : Option Addr) (c1 c2 : Nat) (w : World) (hc : CoAt w w.heap.size A c1 A2 c2 c) (hnm : ∀ p ∈ c.ps, p.name.length ≤ maxLen) :
    Calls Tryz.prog 9 #[coV A c1 A2 c2 c] w fun e w' => Below w.heap.size w w' ∧ ((fewM c ∧ e = .returned (.bool true)) ∨ (¬ fewM c ∧ e = .returned (.bool false))) := by
  have hfew := hc.few
  have hcp := hc.capP
  have hci := hc.capI
  unfold maxLen at hfew
  have HC := Lib.hid hc
  have HO := Lib.hid (show fewM c ↔ (∀ p ∈ c.ps, p.name.length ≤ 60) ∧ c.ps.length ≤ 20 ∧ c.is.length ≤ 120 from Iff.rfl)
  have HNM := Lib.hid hnm
  unfold coV
  generalize fewM c = r at HO ⊢
  have HB0 := Lib.hid ((Below.refl w.heap.size w).alloc (Nat.le_refl _) (.cells #[.slice A c.ps.length c1, .slice A2 c.is.length c2] 25))
  have HX := Lib.hid (heapOne w #[.slice A c.ps.length c1, .slice A2 c.is.length c2] 25)
  clear hc hnm
  go_enter Tryz.func9, Tryz.ntmps9
  go_wp2
  generalize w.alloc (.cells #[.slice A c.ps.length c1, .slice A2 c.is.length c2] 25) = W0 at *
  have hsz0 : w.heap.size < W0.heap.size := (Array.getElem?_eq_some_iff.1 HX.out).1
  go_loopw [8] (fun i wr => ∃ (k : Nat), k ≤ c.ps.length ∧ i = .int .i64 k ∧ Hid (∀ p ∈ c.ps.take k, p.name.length ≤ 60) ∧ Hid (Below W0.heap.size W0 wr)) (fun i _ => c.ps.length - (intOf i).toNat)
  case atStart => exact ⟨0, by omega, rfl, Lib.hid (by simp), Lib.hid (Below.refl _ _)⟩
  case round =>
    obtain ⟨k, hk, rfl, HR, HB⟩ := hrel
    have x0 : wr.cell? ⟨w.heap.size, 0, none⟩ = some (.slice A c.ps.length c1) := keepC HB.out (cellC HX.out 0) hsz0
    have x1 : wr.cell? ⟨w.heap.size, 1, none⟩ = some (.slice A2 c.is.length c2) := keepC HB.out (cellC HX.out 1) hsz0
    by_cases hlt : k < c.ps.length
    · obtain ⟨b, off, rfl, hb, hcells⟩ := (HC.out.prs) (by omega)
      obtain ⟨q0, q1, q2, q3, q4, q5⟩ := hcells k hlt
      have kk : ∀ {o : Nat} {u : Value}, w.cell? ⟨b, o, none⟩ = some u → wr.cell? ⟨b, o, none⟩ = some u := fun hq => keepC HB.out (keepC HB0.out hq hb) (by omega)
      have q0 := kk q0
      have q1 := kk q1
      have q2 := kk q2
      have q3 := kk q3
      have q4 := kk q4
      have q5 := kk q5
      have hmem : c.ps[k] ∈ c.ps := List.getElem_mem hlt
      have hml := HNM.out _ hmem
      have HT := Lib.hid (List.take_succ_eq_append_getElem hlt)
      have HM := Lib.hid hmem
      generalize c.ps[k] = p at *
      have hsz := bs_size p.name
      unfold maxLen at hml
      have hk0 : (0 : Int) ≤ (k : Int) := by omega
      have hk1 : (k : Int) < (c.ps.length : Int) := by omega
      clear kk hcells hmem
      by_cases h60 : p.name.length ≤ 60
      · have g1 : decide ((60 : Int) < ((bs p.name).size : Int)) = false := decide_eq_false (by omega)
        have g2 : decide (60 < (bs p.name).size) = false := decide_eq_false (by omega)
        have HR2 : Hid (∀ p ∈ c.ps.take (k + 1), p.name.length ≤ 60) := Lib.hid (by rw [HT.out]; intro q hq; rcases List.mem_append.1 hq with h | h; exact HR.out q h; rw [List.mem_singleton.1 h]; exact h60)
        clear HR HT HM
        go_wp2
        go_roundw
        case rel => exact ⟨k + 1, by omega, by go_num, HR2, Lib.hid (HB.out.alloc HB.out.size _)⟩
        case measure => simp [intOf]; omega
      · have g1 : decide ((60 : Int) < ((bs p.name).size : Int)) = true := decide_eq_true (by omega)
        have g2 : decide (60 < (bs p.name).size) = true := decide_eq_true (by omega)
        have HN : Hid (¬ r) := Lib.hid (fun h => h60 ((HO.out.1 h).1 p HM.out))
        clear HR HT HM
        go_wp2
        go_ret
        exact ⟨(HB0.out.trans (HB.out.mono (by omega))).alloc (by have := HB.out.size; omega) _, .inr ⟨HN.out, rfl⟩⟩
    · obtain rfl : k = c.ps.length := by omega
      have HR2 : Hid (∀ p ∈ c.ps, p.name.length ≤ 60) := Lib.hid (by have := HR.out; rwa [List.take_length] at this)
      clear hlt hk HR
      by_cases h20 : c.ps.length ≤ 20
      · by_cases h120 : c.is.length ≤ 120
        · have g1 : decide ((c.ps.length : Int) ≤ (20 : Int)) = true := decide_eq_true (by omega)
          have g3 : decide ((c.is.length : Int) ≤ (120 : Int)) = true := decide_eq_true (by omega)
          have HY : Hid r := Lib.hid (HO.out.2 ⟨HR2.out, h20, h120⟩)
          go_wp2
          go_ret
          exact ⟨HB0.out.trans (HB.out.mono (by omega)), .inl ⟨HY.out, rfl⟩⟩
        · have g1 : decide ((c.ps.length : Int) ≤ (20 : Int)) = true := decide_eq_true (by omega)
          have g3 : decide ((c.is.length : Int) ≤ (120 : Int)) = false := decide_eq_false (by omega)
          have HY : Hid (¬ r) := Lib.hid (fun h => h120 (HO.out.1 h).2.2)
          go_wp2
          go_ret
          exact ⟨HB0.out.trans (HB.out.mono (by omega)), .inr ⟨HY.out, rfl⟩⟩
      · have g1 : decide ((c.ps.length : Int) ≤ (20 : Int)) = false := decide_eq_false (by omega)
        have HY : Hid (¬ r) := Lib.hid (fun h => h20 (HO.out.1 h).2.1)
        go_wp2
        go_ret
        exact ⟨HB0.out.trans (HB.out.mono (by omega)), .inr ⟨HY.out, rfl⟩⟩
end Go.Proofs.YtbhlockoeiedcaaGreatDoor
