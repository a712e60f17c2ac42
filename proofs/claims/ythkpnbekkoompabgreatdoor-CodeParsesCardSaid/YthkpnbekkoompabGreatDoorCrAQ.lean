/-
  rewindref10: what an instruction takes, and leaves; whether a text is a name.
-/
import Derived.Test.YthkpnbekkoompabGreatDoorCoA
import Derived.Test.YthkpnbekkoompabGreatDoorCoN
import Derived.Test.YthkpnbekkoompabGreatDoorQ01
import Derived.BigQuiet
namespace Go.Proofs.YthkpnbekkoompabGreatDoor
open Go.RowKit

theorem below2C (w : World) (a b : Obj) : Below w.heap.size w ((w.alloc a).alloc b) := ((Below.refl w.heap.size w).alloc (Nat.le_refl _) a).alloc (by simp) b
theorem op_cases {x : InM} (h1 : 1 ≤ x.op) (h2 : x.op ≤ 29) : x.op = 1 ∨ x.op = 2 ∨ x.op = 3 ∨ x.op = 4 ∨ x.op = 5 ∨ x.op = 6 ∨ x.op = 7 ∨ x.op = 8 ∨ x.op = 9 ∨ x.op = 10 ∨ x.op = 11 ∨ x.op = 12 ∨ x.op = 13 ∨ x.op = 14 ∨ x.op = 15 ∨ x.op = 16 ∨ x.op = 17 ∨ x.op = 18 ∨ x.op = 19 ∨ x.op = 20 ∨ x.op = 21 ∨ x.op = 22 ∨ x.op = 23 ∨ x.op = 24 ∨ x.op = 25 ∨ x.op = 26 ∨ x.op = 27 ∨ x.op = 28 ∨ x.op = 29 := by omega
/-- The procedure that a call names. -/
theorem call_pr {c : CoM} {w : World} {A : Option Addr} {p : PrM} {x : InM} (hp : PrAt w w.heap.size A c.ps) (hx : inOk p c.ps.length x) (e : x.op = 26) :
    ∃ k b off, x.arg = ((k : Nat) : Int) ∧ k < c.ps.length ∧ A = some ⟨b, off, none⟩ ∧ w.cell? ⟨b, off + k * 6 + 3, none⟩ = some (.int .i64 (c.ps.getD x.arg.toNat noPr).par) ∧ w.cell? ⟨b, off + k * 6 + 5, none⟩ = some (.int .i64 (c.ps.getD x.arg.toNat noPr).typ) := by
  have ha := hx.2.1
  unfold argOk at ha
  rw [if_neg (by omega), if_neg (by omega), if_neg (by omega), if_neg (by omega), if_pos e] at ha
  obtain ⟨k, hk⟩ : ∃ k : Nat, x.arg = (k : Int) := ⟨x.arg.toNat, by omega⟩
  have hkl : k < c.ps.length := by omega
  obtain ⟨b, off, rfl, hb, hc⟩ := hp (by omega)
  have e2 : c.ps.getD x.arg.toNat noPr = c.ps[k] := by
    rw [show x.arg.toNat = k by omega, List.getD_eq_getElem?_getD, List.getElem?_eq_getElem hkl]; rfl
  rw [e2]
  exact ⟨k, b, off, hk, hkl, rfl, (hc k hkl).2.2.2.1, (hc k hkl).2.2.2.2.2⟩

set_option maxRecDepth 100000 in
set_option maxHeartbeats 4000000 in
theorem refTakes_calls (c : CoM) (A A2 : Option Addr) (c1 c2 : Nat) (p : PrM) (x : InM) (w : World) (hp : PrAt w w.heap.size A c.ps) (hx : inOk p c.ps.length x) :
    Calls Tryz.prog 31 #[coV A c1 A2 c2 c, inV x] w fun e w' => e = .returned (.int .i64 (takesM c x)) ∧ Below w.heap.size w w' := by
  by_cases h26 : x.op = 26
  · obtain ⟨k, b, off, hk, hkl, rfl, g3, _⟩ := call_pr hp hx h26
    have ht : takesM c x = (c.ps.getD x.arg.toNat noPr).par := by unfold takesM; rw [if_pos h26]
    rw [ht]
    unfold coV inV
    rw [h26]
    generalize (c.ps.getD x.arg.toNat noPr).par = v at *
    rw [hk]
    generalize c.ps.length = n at *
    have hk0 : (0 : Int) ≤ (k : Int) := by omega
    have hk1 : (k : Int) < (n : Int) := by omega
    have g3a := fun o => newC g3 o
    have g3b := fun o o2 => newC (newC g3 o) o2
    clear hx h26 hk ht hp
    go_enter Tryz.func31, Tryz.ntmps31
    go_wp2
    go_ret
    exact ⟨rfl, below2C w _ _⟩
  · have hops := op_cases hx.1.1 hx.1.2
    clear hx hp
    obtain ⟨op, arg, mor⟩ := x
    dsimp only at h26 hops
    unfold coV inV
    dsimp only
    rcases hops with rfl | rfl | rfl | rfl | rfl | rfl | rfl | rfl | rfl | rfl | rfl | rfl | rfl | rfl | rfl | rfl | rfl | rfl | rfl | rfl | rfl | rfl | rfl | rfl | rfl | rfl | rfl | rfl | rfl
    case inr.inr.inr.inr.inr.inr.inr.inr.inr.inr.inr.inr.inr.inr.inr.inr.inr.inr.inr.inr.inr.inr.inr.inr.inr.inl => exact absurd rfl h26
    all_goals
      clear h26
      go_enter Tryz.func31, Tryz.ntmps31
      go_wp2
      go_ret
      exact ⟨rfl, below2C w _ _⟩

set_option maxRecDepth 100000 in
set_option maxHeartbeats 4000000 in
theorem refLeaves_calls (c : CoM) (A A2 : Option Addr) (c1 c2 : Nat) (p : PrM) (x : InM) (w : World) (hp : PrAt w w.heap.size A c.ps) (hx : inOk p c.ps.length x) :
    Calls Tryz.prog 50 #[coV A c1 A2 c2 c, inV x] w fun e w' => e = .returned (.int .i64 (leavesM c x)) ∧ Below w.heap.size w w' := by
  by_cases h26 : x.op = 26
  · obtain ⟨k, b, off, hk, hkl, rfl, _, g3⟩ := call_pr hp hx h26
    have ht : leavesM c x = if (c.ps.getD x.arg.toNat noPr).typ = 1 then 1 else 0 := by unfold leavesM; rw [if_pos h26]; rfl
    rw [ht]
    unfold coV inV
    rw [h26]
    generalize (c.ps.getD x.arg.toNat noPr).typ = v at *
    rw [hk]
    generalize c.ps.length = n at *
    have hk0 : (0 : Int) ≤ (k : Int) := by omega
    have hk1 : (k : Int) < (n : Int) := by omega
    have g3a := fun o => newC g3 o
    have g3b := fun o o2 => newC (newC g3 o) o2
    clear hx h26 hk ht hp
    by_cases hv : v = 1
    · subst hv
      rw [if_pos rfl]
      go_enter Tryz.func50, Tryz.ntmps50
      go_wp2
      go_ret
      exact ⟨rfl, below2C w _ _⟩
    · rw [if_neg hv]
      have e1 : (v == 1) = false := beq_eq_false_iff_ne.2 hv
      clear hv
      go_enter Tryz.func50, Tryz.ntmps50
      go_wp2
      go_ret
      exact ⟨rfl, below2C w _ _⟩
  · have hops := op_cases hx.1.1 hx.1.2
    clear hx hp
    obtain ⟨op, arg, mor⟩ := x
    dsimp only at h26 hops
    unfold coV inV
    dsimp only
    rcases hops with rfl | rfl | rfl | rfl | rfl | rfl | rfl | rfl | rfl | rfl | rfl | rfl | rfl | rfl | rfl | rfl | rfl | rfl | rfl | rfl | rfl | rfl | rfl | rfl | rfl | rfl | rfl | rfl | rfl
    case inr.inr.inr.inr.inr.inr.inr.inr.inr.inr.inr.inr.inr.inr.inr.inr.inr.inr.inr.inr.inr.inr.inr.inr.inr.inl => exact absurd rfl h26
    all_goals
      clear h26
      go_enter Tryz.func50, Tryz.ntmps50
      go_wp2
      go_ret
      exact ⟨rfl, below2C w _ _⟩
end Go.Proofs.YthkpnbekkoompabGreatDoor
