/-
  The statements' own small fact, walked.
-/
import Derived.Test.YtbhlockoeiedcaaGreatDoorK35
namespace Go.Proofs.YtbhlockoeiedcaaGreatDoor
open Go.RowKit

set_option maxRecDepth 100000 in
set_option maxHeartbeats 4000000 in
theorem awakeC_calls (w : World) (hX : TX w) : Calls Tryz.prog 8 #[] w fun e w' => e = .returned (.bool true) ∧ Below w.heap.size w w' := by
  have HP := Lib.hid (parse_calls exT (by decide) w hX)
  have HX := Lib.hid hX
  clear hX
  go_enter Tryz.func8, Tryz.ntmps8
  go_wp2_with fail
  refine HP.out.mono ?_
  intro e w1 h1
  obtain ⟨hB, A, c1, A2, c2, rfl, hc⟩ := ex_parsed h1
  obtain ⟨b, off, rfl, hb, hin⟩ := hc.ins (by decide)
  obtain ⟨i0, _, _⟩ := hin 0 (by decide)
  have hcap := hc.capI
  have i0 : w1.cell? ⟨b, off, none⟩ = some (.int .i64 27) := i0
  have HB1 := Lib.hid hB
  have HC := Lib.hid hc
  have HG := Lib.hid (fun W (hW : Below w1.heap.size w1 W) => good_calls exC A (some ⟨b, off, none⟩) c1 c2 W ((HC.out.below hW (Nat.le_refl _)).wide hW.size) (by decide) (by decide) ((HX.out.below (hB.trans (hW.mono hB.size)) (Nat.le_refl _)).ts))
  clear hin hc hB h1 HP HC HX
  unfold coV at HG ⊢
  rw [show exC.ps.length = 1 from rfl, show exC.is.length = 1 from rfl] at HG ⊢
  rw [show exC.is.length = 1 from rfl] at hcap
  have HBX0 := Lib.hid (heapOne w1 #[.slice A 1 c1, .slice (some ⟨b, off, none⟩) 1 c2] 25)
  have HBW0 := Lib.hid ((Below.refl w1.heap.size w1).alloc (Nat.le_refl _) (.cells #[.slice A 1 c1, .slice (some ⟨b, off, none⟩) 1 c2] 25))
  go_wp2_with fail
  generalize w1.alloc (.cells #[.slice A 1 c1, .slice (some ⟨b, off, none⟩) 1 c2] 25) = W1 at *
  have z0 : W1.cell? ⟨w1.heap.size, 0, none⟩ = some (.slice A 1 c1) := cellC HBX0.out 0
  have z1 : W1.cell? ⟨w1.heap.size, 1, none⟩ = some (.slice (some ⟨b, off, none⟩) 1 c2) := cellC HBX0.out 1
  have i0 : W1.cell? ⟨b, off, none⟩ = some (.int .i64 27) := keepC HBW0.out i0 hb
  have HZ := Lib.hid (blkLt HBX0.out)
  refine (HG.out _ HBW0.out).mono ?_
  rintro e w5 ⟨hb5, h5⟩
  obtain ⟨_, rfl⟩ : GoodC exC ∧ e = .returned (.bool true) := h5.resolve_right (fun h => h.1 exC_good)
  have HBc := Lib.hid (HB1.out.trans ((HBW0.out.trans (hb5.mono HBW0.out.size)).mono HB1.out.size))
  have z0 := keepC hb5 z0 (ltC z0)
  have z1 := keepC hb5 z1 (ltC z1)
  have i0 := keepC hb5 i0 (ltC i0)
  clear hb5 h5
  go_wp2
  go_ret
  exact ⟨rfl, HBc.out⟩
end Go.Proofs.YtbhlockoeiedcaaGreatDoor
