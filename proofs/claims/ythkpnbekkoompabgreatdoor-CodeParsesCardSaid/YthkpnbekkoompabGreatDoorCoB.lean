/-
  code: what a procedure answers, what an instruction's More and Arg may be.
-/
import Derived.Test.YthkpnbekkoompabGreatDoorCoA
import Derived.RegionTactic
import Derived.Deep.QuietTactic
import Derived.BigQuiet
import Derived.Deep.RegionHeld3
import Derived.Deep.MidRow
namespace Go.Proofs.YthkpnbekkoompabGreatDoor
open Go.RowKit

theorem below_drewC {B : Nat} {a w : World} (h : Below B a w) (n : Nat) : Below B a (w.drewN n) := ⟨h.os, h.tape, h.output, h.size, h.block⟩

set_option maxRecDepth 100000 in
set_option maxHeartbeats 1000000 in
theorem answers_calls (p : PrM) (w : World) : Calls Tryz.prog 92 #[prV p] w fun e w' => e = .returned (.int .i64 (ansM p)) ∧ Below w.heap.size w w' := by
  unfold prV ansM
  by_cases h : p.typ = 1
  · have hb : (p.typ == 1) = true := beq_iff_eq.2 h
    rw [if_pos h]
    clear h
    go_enter Tryz.func92, Tryz.ntmps92
    go_wp2
    go_ret
    exact ⟨rfl, (Below.refl _ _).alloc (Nat.le_refl _) _⟩
  · have hb : (p.typ == 1) = false := beq_eq_false_iff_ne.2 h
    rw [if_neg h]
    clear h
    go_enter Tryz.func92, Tryz.ntmps92
    go_wp2
    go_ret
    exact ⟨rfl, (Below.refl _ _).alloc (Nat.le_refl _) _⟩

def morB (x : InM) : Bool := if x.op = 7 then decide (1 ≤ x.mor) && decide (x.mor ≤ 64) else x.mor == 0
theorem morB_iff (x : InM) : morB x = true ↔ morOk x := by
  unfold morB morOk
  split <;> simp
set_option maxRecDepth 100000 in
set_option maxHeartbeats 1000000 in
theorem moreFits_calls (x : InM) (w : World) : Calls Tryz.prog 73 #[inV x] w fun e w' => e = .returned (.bool (morB x)) ∧ Below w.heap.size w w' := by
  unfold inV
  by_cases h : x.op = 7
  · have hb : (x.op == 7) = true := beq_iff_eq.2 h
    have hm : Hid (morB x = (decide (1 ≤ x.mor) && decide (x.mor ≤ 64))) := Lib.hid (by unfold morB; rw [if_pos h])
    clear h
    go_enter Tryz.func73, Tryz.ntmps73
    go_wp2
    all_goals
      go_ret
      exact ⟨ret_bool (by rw [hm.out, Bool.eq_iff_iff]; simp; omega), (Below.refl _ _).alloc (Nat.le_refl _) _⟩
  · have hb : (x.op == 7) = false := beq_eq_false_iff_ne.2 h
    have hm : Hid (morB x = (x.mor == 0)) := Lib.hid (by unfold morB; rw [if_neg h])
    clear h
    go_enter Tryz.func73, Tryz.ntmps73
    go_wp2
    go_ret
    exact ⟨ret_bool (by rw [hm.out]), (Below.refl _ _).alloc (Nat.le_refl _) _⟩

/-- What argsOf asks: sums that fit. -/
def PrM.mild (p : PrM) : Prop := -9223372036854775808 < p.slo ∧ -9223372036854775808 < p.to ∧ p.fit
set_option maxRecDepth 100000 in
set_option maxHeartbeats 1000000 in
theorem argsOf_calls (k : Int) (p : PrM) (np : Nat) (w : World) (hk : 0 ≤ k ∧ k ≤ 7) (hp : p.mild) (hn : np ≤ maxLen) :
    Calls Tryz.prog 72 #[.int .i64 k, prV p, .int .i64 (np : Int)] w fun e w' => e = .returned (.tuple #[.int .i64 (loM k p), .int .i64 (hiM k p np)]) ∧ Below w.heap.size w w' := by
  obtain ⟨h1, h2, h3⟩ := hp
  obtain ⟨f1, f2, f3, f4, f5⟩ := h3
  unfold i64 at f1 f2 f3 f4 f5
  unfold maxLen at hn
  have HA := Lib.hid (fun W => answers_calls p W)
  unfold prV at HA ⊢
  have hkk : k = 0 ∨ k = 1 ∨ k = 2 ∨ k = 3 ∨ k = 4 ∨ k = 5 ∨ k = 6 ∨ k = 7 := by omega
  rcases hkk with rfl | rfl | rfl | rfl | rfl | rfl | rfl | rfl
  · rw [show loM 0 p = 0 from rfl, show hiM 0 p np = 0 from rfl]
    go_enter Tryz.func72, Tryz.ntmps72
    go_wp2
    go_ret2
    exact ⟨rfl, (Below.refl _ _).alloc (Nat.le_refl _) _⟩
  · rw [show loM 1 p = -9223372036854775808 from rfl, show hiM 1 p np = 9223372036854775807 from rfl]
    go_enter Tryz.func72, Tryz.ntmps72
    go_wp2
    go_ret2
    exact ⟨rfl, (Below.refl _ _).alloc (Nat.le_refl _) _⟩
  · rw [show loM 2 p = 0 from rfl, show hiM 2 p np = 999 from rfl]
    go_enter Tryz.func72, Tryz.ntmps72
    go_wp2
    go_ret2
    exact ⟨rfl, (Below.refl _ _).alloc (Nat.le_refl _) _⟩
  · rw [show loM 3 p = 0 from rfl, show hiM 3 p np = p.slo - 1 from rfl]
    go_enter Tryz.func72, Tryz.ntmps72
    go_wp2
    go_quiet (fail)
    go_wp2
    go_ret2
    exact ⟨rfl, below_drewC ((Below.refl _ _).alloc (Nat.le_refl _) _) _⟩
  · rw [show loM 4 p = p.frm from rfl, show hiM 4 p np = p.to - 1 from rfl]
    go_enter Tryz.func72, Tryz.ntmps72
    go_wp2
    go_quiet (fail)
    go_wp2
    go_ret2
    exact ⟨rfl, below_drewC ((Below.refl _ _).alloc (Nat.le_refl _) _) _⟩
  · rw [show loM 5 p = 0 from rfl, show hiM 5 p np = (np : Int) - 1 from rfl]
    go_enter Tryz.func72, Tryz.ntmps72
    go_wp2
    go_ret2
    exact ⟨rfl, (Below.refl _ _).alloc (Nat.le_refl _) _⟩
  · rw [show loM 6 p = ansM p from rfl, show hiM 6 p np = ansM p from rfl]
    go_enter Tryz.func72, Tryz.ntmps72
    go_wp2
    have HB0 := Lib.hid ((Below.refl w.heap.size w).alloc (Nat.le_refl _) (.cells #[.string (bs p.name), .int .i64 p.frm, .int .i64 p.to, .int .i64 p.par, .int .i64 p.slo, .int .i64 p.typ] 56))
    have HX := Lib.hid (heapOne w #[.string (bs p.name), .int .i64 p.frm, .int .i64 p.to, .int .i64 p.par, .int .i64 p.slo, .int .i64 p.typ] 56)
    generalize w.alloc (.cells #[.string (bs p.name), .int .i64 p.frm, .int .i64 p.to, .int .i64 p.par, .int .i64 p.slo, .int .i64 p.typ] 56) = W0 at *
    have d0 : W0.drew.cell? ⟨w.heap.size, 0, none⟩ = some (.string (bs p.name)) := cellC HX.out 0
    have d1 : W0.drew.cell? ⟨w.heap.size, 1, none⟩ = some (.int .i64 p.frm) := cellC HX.out 1
    have d2 : W0.drew.cell? ⟨w.heap.size, 2, none⟩ = some (.int .i64 p.to) := cellC HX.out 2
    have d3 : W0.drew.cell? ⟨w.heap.size, 3, none⟩ = some (.int .i64 p.par) := cellC HX.out 3
    have d4 : W0.drew.cell? ⟨w.heap.size, 4, none⟩ = some (.int .i64 p.slo) := cellC HX.out 4
    have d5 : W0.drew.cell? ⟨w.heap.size, 5, none⟩ = some (.int .i64 p.typ) := cellC HX.out 5
    have HBc := Lib.hid HB0.out.drew
    go_region_held3 (fun w' => w'.cell? ⟨w.heap.size, 0, none⟩ = some (.string (bs p.name)) ∧ w'.cell? ⟨w.heap.size, 1, none⟩ = some (.int .i64 p.frm) ∧ w'.cell? ⟨w.heap.size, 2, none⟩ = some (.int .i64 p.to) ∧ w'.cell? ⟨w.heap.size, 3, none⟩ = some (.int .i64 p.par) ∧ w'.cell? ⟨w.heap.size, 4, none⟩ = some (.int .i64 p.slo) ∧ w'.cell? ⟨w.heap.size, 5, none⟩ = some (.int .i64 p.typ))
      (with_reducible exact ⟨d0, d1, d2, d3, d4, d5⟩)
      ((go_at_call 92; refine (HA.out _).mono ?_; rintro e w5 ⟨rfl, hb5⟩; have HBc := Lib.hid (HBc.out.trans (hb5.mono HBc.out.size)); have d0 := keepC hb5 d0 (ltC d0); have d1 := keepC hb5 d1 (ltC d1); have d2 := keepC hb5 d2 (ltC d2); have d3 := keepC hb5 d3 (ltC d3); have d4 := keepC hb5 d4 (ltC d4); have d5 := keepC hb5 d5 (ltC d5); clear hb5))
    all_goals
      go_wp2
      go_ret2
      exact ⟨rfl, HBc.out⟩
  · rw [show loM 7 p = 1 from rfl, show hiM 7 p np = 2 from rfl]
    go_enter Tryz.func72, Tryz.ntmps72
    go_wp2
    go_ret2
    exact ⟨rfl, (Below.refl _ _).alloc (Nat.le_refl _) _⟩

end Go.Proofs.YthkpnbekkoompabGreatDoor
