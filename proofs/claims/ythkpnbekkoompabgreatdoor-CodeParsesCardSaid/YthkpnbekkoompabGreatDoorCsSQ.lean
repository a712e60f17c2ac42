/-
  rewindlaw10.same, of two copies of one document: true.
-/
import Derived.Test.YthkpnbekkoompabGreatDoorQ08
import Derived.Deep.QuietTactic
import Derived.BigQuiet
import Derived.IntWalk
namespace Go.Proofs.YthkpnbekkoompabGreatDoor
open Go.RowKit

set_option maxRecDepth 100000 in
set_option maxHeartbeats 4000000 in
theorem sameC_calls (c : CoM) (A A2 B B2 : Option Addr) (c1 c2 d1 d2 : Nat) (w : World) (hc : CoAt w w.heap.size A c1 A2 c2 c) (hd : CoAt w w.heap.size B d1 B2 d2 c) (hn1 : c.ps.length ≤ 100000) (hn2 : c.is.length ≤ 100000) :
    Calls Tryz.prog 7 #[coV A c1 A2 c2 c, coV B d1 B2 d2 c] w fun e w' => e = .returned (.bool true) ∧ Below w.heap.size w w' := by
  have HC := Lib.hid hc
  have HD := Lib.hid hd
  unfold coV
  clear hc hd
  have HB0 := Lib.hid (((Below.refl w.heap.size w).alloc (Nat.le_refl _) (.cells #[.slice A c.ps.length c1, .slice A2 c.is.length c2] 33)).alloc (by simp) (.cells #[.slice B c.ps.length d1, .slice B2 c.is.length d2] 33))
  have HX := Lib.hid ((Below.heap_alloc (w.alloc (.cells #[.slice A c.ps.length c1, .slice A2 c.is.length c2] 33)) (.cells #[.slice B c.ps.length d1, .slice B2 c.is.length d2] 33) w.heap.size (by simp)).trans (heapOne w #[.slice A c.ps.length c1, .slice A2 c.is.length c2] 33))
  have hy := heapOne (w.alloc (.cells #[.slice A c.ps.length c1, .slice A2 c.is.length c2] 33)) #[.slice B c.ps.length d1, .slice B2 c.is.length d2] 33
  rw [World.size_alloc] at hy
  have HY := Lib.hid hy
  clear hy
  have e1 : ((c.ps.length : Int) == (c.ps.length : Int)) = true := beq_self_eq_true _
  have e2 : ((c.ps.length : Int) != (c.ps.length : Int)) = false := by simp [bne]
  have e3 : ((c.is.length : Int) == (c.is.length : Int)) = true := beq_self_eq_true _
  have e4 : ((c.is.length : Int) != (c.is.length : Int)) = false := by simp [bne]
  go_enter Tryz.func7, Tryz.ntmps7
  go_wp2_with fail
  generalize (w.alloc (.cells #[.slice A c.ps.length c1, .slice A2 c.is.length c2] 33)).alloc (.cells #[.slice B c.ps.length d1, .slice B2 c.is.length d2] 33) = W0 at *
  have x0 : W0.cell? ⟨w.heap.size, 0, none⟩ = some (.slice A c.ps.length c1) := cellC HX.out 0
  have x1 : W0.cell? ⟨w.heap.size, 1, none⟩ = some (.slice A2 c.is.length c2) := cellC HX.out 1
  have y0 : W0.cell? ⟨w.heap.size + 1, 0, none⟩ = some (.slice B c.ps.length d1) := cellC HY.out 0
  have y1 : W0.cell? ⟨w.heap.size + 1, 1, none⟩ = some (.slice B2 c.is.length d2) := cellC HY.out 1
  go_wp2
  go_loopw [26] (fun i wr => ∃ (k : Nat), k ≤ c.ps.length ∧ i = .int .i64 k ∧ ∃ z, wr = W0.drewN z) (fun i _ => c.ps.length - (intOf i).toNat)
  case atStart => exact ⟨0, by omega, rfl, 0, rfl⟩
  case round =>
    obtain ⟨k, hk, rfl, z, rfl⟩ := hrel
    by_cases hlt : k < c.ps.length
    · obtain ⟨b, off, rfl, hb, hcells⟩ := (HC.out.prs) (by omega)
      obtain ⟨q0, q1, q2, q3, q4, q5⟩ := hcells k hlt
      have q0 := keepC HB0.out q0 hb
      have q1 := keepC HB0.out q1 hb
      have q2 := keepC HB0.out q2 hb
      have q3 := keepC HB0.out q3 hb
      have q4 := keepC HB0.out q4 hb
      have q5 := keepC HB0.out q5 hb
      obtain ⟨b2, off2, rfl, hb2, hcells2⟩ := (HD.out.prs) (by omega)
      obtain ⟨r0, r1, r2, r3, r4, r5⟩ := hcells2 k hlt
      have r0 := keepC HB0.out r0 hb2
      have r1 := keepC HB0.out r1 hb2
      have r2 := keepC HB0.out r2 hb2
      have r3 := keepC HB0.out r3 hb2
      have r4 := keepC HB0.out r4 hb2
      have r5 := keepC HB0.out r5 hb2
      generalize c.ps[k] = p at *
      have hk0 : (0 : Int) ≤ (k : Int) := by omega
      have hk1 : (k : Int) < (c.ps.length : Int) := by omega
      clear hcells hcells2
      go_wp2
      go_quiet (fail)
      go_wp2
      go_roundw
      case rel => exact ⟨k + 1, by omega, by go_num, _, rfl⟩
      case measure => simp [intOf]; omega
    · obtain rfl : k = c.ps.length := by omega
      have x1 : (W0.drewN z).cell? ⟨w.heap.size, 1, none⟩ = some (.slice A2 c.is.length c2) := x1
      have y1 : (W0.drewN z).cell? ⟨w.heap.size + 1, 1, none⟩ = some (.slice B2 c.is.length d2) := y1
      have HBZ := Lib.hid (below_drewC HB0.out z)
      generalize W0.drewN z = W1 at *
      clear hlt hk x0 y0
      go_wp2
      go_loopw [44] (fun i wr => ∃ (k : Nat), k ≤ c.is.length ∧ i = .int .i64 k ∧ ∃ z, wr = W1.drewN z) (fun i _ => c.is.length - (intOf i).toNat)
      case atStart => exact ⟨0, by omega, rfl, 0, rfl⟩
      case round =>
        obtain ⟨k, hk, rfl, z, rfl⟩ := hrel
        by_cases hlt : k < c.is.length
        · obtain ⟨b, off, rfl, hb, hcells⟩ := (HC.out.ins) (by omega)
          obtain ⟨q0, q1, q2⟩ := hcells k hlt
          have q0 := keepC HBZ.out q0 hb
          have q1 := keepC HBZ.out q1 hb
          have q2 := keepC HBZ.out q2 hb
          obtain ⟨b2, off2, rfl, hb2, hcells2⟩ := (HD.out.ins) (by omega)
          obtain ⟨r0, r1, r2⟩ := hcells2 k hlt
          have r0 := keepC HBZ.out r0 hb2
          have r1 := keepC HBZ.out r1 hb2
          have r2 := keepC HBZ.out r2 hb2
          generalize c.is[k] = x at *
          have hk0 : (0 : Int) ≤ (k : Int) := by omega
          have hk1 : (k : Int) < (c.is.length : Int) := by omega
          clear hcells hcells2
          go_wp2
          go_quiet (fail)
          go_wp2
          go_roundw
          case rel => exact ⟨k + 1, by omega, by go_num, _, rfl⟩
          case measure => simp [intOf]; omega
        · obtain rfl : k = c.is.length := by omega
          clear hlt hk
          go_wp2
          go_ret
          exact ⟨rfl, below_drewC HBZ.out _⟩
end Go.Proofs.YthkpnbekkoompabGreatDoor
