/-
  rewindref10: whether a text is a name; whether an instruction may be; where one leads.
-/
import Derived.Test.YthkpnbekkoompabGreatDoorCrAQ
namespace Go.Proofs.YthkpnbekkoompabGreatDoor
open Go.RowKit

theorem ret_boolC {a b : Bool} (h : a = b) : Ending.returned (.bool a) = .returned (.bool b) := by rw [h]
set_option maxRecDepth 100000 in
set_option maxHeartbeats 2000000 in
theorem refIsName_calls (t : List UInt8) (ht : t.length ≤ 20000) (w : World) :
    Calls Tryz.prog 26 #[.string (bs t)] w fun e w' => e = .returned (.bool (isNm t)) ∧ Below w.heap.size w w' := by
  have hsz : (bs t).size = t.length := bs_size t
  have HA := Lib.hid (refAll0_calls (bs t) (by omega) w)
  have HN := Lib.hid (isNm_toks t)
  unfold AllPost at HA
  rw [bs_toList] at HA
  generalize isNm t = r at *
  generalize toks t 0 = T at *
  obtain ⟨xs, o⟩ := T
  dsimp only at HA HN
  go_enter Tryz.func26, Tryz.ntmps26
  go_wp2_with fail
  refine HA.out.mono ?_
  rintro e w1 ⟨hB, h⟩
  have HB := Lib.hid hB
  clear hB HA
  rcases h with ⟨p, hp, rfl⟩ | ⟨hn, A, c, rfl, hk⟩
  · have HR : Hid (r = false) := Lib.hid (by
      cases r with
      | false => rfl
      | true => exact absurd ((HN.out.2 rfl).1) (by rw [hp]; simp))
    clear hp HN
    go_wp2
    go_ret
    exact ⟨ret_boolC HR.out.symm, HB.out⟩
  · by_cases h2 : xs.length = 2
    · obtain ⟨b, off, rfl, hb, hx, d0, d1, d2⟩ := hk.get 0 (by omega)
      have HR : Hid ((xs[0].kind = 1 ∧ xs[0].lo = 0 ∧ xs[0].hi = t.length) ↔ r = true) := Lib.hid (by
        rw [← HN.out]
        constructor
        · intro hh; exact ⟨hn, h2, xs[0], List.getElem?_eq_getElem hx, hh⟩
        · rintro ⟨_, _, x, hx0, hh⟩
          rw [List.getElem?_eq_getElem hx] at hx0
          obtain rfl := Option.some.inj hx0
          exact hh)
      generalize xs[0].kind = kd at *
      generalize xs[0].lo = lo at *
      generalize xs[0].hi = hi at *
      simp only [Nat.zero_mul, Nat.add_zero] at d0 d1 d2
      rw [h2]
      have HZ := Lib.hid hsz
      clear hk hx h2 HN hn hsz
      go_wp2
      all_goals
        go_ret
        refine ⟨ret_boolC ?_, HB.out⟩
        have hr := HR.out
        have hz := HZ.out
        rw [Bool.eq_iff_iff, ← hr]
        simp <;> omega
    · have HR : Hid (r = false) := Lib.hid (by
        cases r with
        | false => rfl
        | true => exact absurd ((HN.out.2 rfl).2.1) h2)
      have e1 : ((xs.length : Int) == 2) = false := beq_eq_false_iff_ne.2 (by omega)
      have e2 : (xs.length == 2) = false := beq_eq_false_iff_ne.2 h2
      clear hk HN h2 hn
      go_wp2
      go_ret
      exact ⟨ret_boolC HR.out.symm, HB.out⟩

theorem below3C (w : World) (a b c : Obj) : Below w.heap.size w (((w.alloc a).alloc b).alloc c) := (below2C w a b).alloc (by simp; omega) c
def FitP (p : PrM) (np : Nat) (x : InM) (w : World) (e : Ending) (w' : World) : Prop := (∃ b, e = .returned (.bool b) ∧ (b = true ↔ inOk p np x)) ∧ Below w.heap.size w w'
set_option maxRecDepth 100000 in
set_option maxHeartbeats 8000000 in
theorem refFits_calls (c : CoM) (A A2 : Option Addr) (c1 c2 : Nat) (p : PrM) (x : InM) (w : World) (hpt : p.typ = 1 ∨ p.typ = 4) :
    Calls Tryz.prog 30 #[coV A c1 A2 c2 c, prV p, inV x] w (FitP p c.ps.length x w) := by
  by_cases h1 : 1 ≤ x.op
  · by_cases h2 : x.op ≤ 29
    · have hops := op_cases h1 h2
      clear h1 h2
      obtain ⟨op, arg, mor⟩ := x
      obtain ⟨nm, frm, to, par, slo, typ⟩ := p
      unfold coV inV prV
      dsimp only at hops hpt ⊢
      generalize c.ps.length = np at *
      have HT := Lib.hid hpt
      clear hpt
      rcases hops with rfl | rfl | rfl | rfl | rfl | rfl | rfl | rfl | rfl | rfl | rfl | rfl | rfl | rfl | rfl | rfl | rfl | rfl | rfl | rfl | rfl | rfl | rfl | rfl | rfl | rfl | rfl | rfl | rfl
      all_goals
        go_enter Tryz.func30, Tryz.ntmps30
        go_wp2
        all_goals
          go_ret
          refine ⟨⟨_, rfl, ?_⟩, below3C w _ _ _⟩
          have hpt := HT.out
          simp_all [inOk, argOk, morOk, ansM] <;> omega
    · have e1 : decide (x.op < 1) = false := decide_eq_false (by omega)
      have e2 : decide (29 < x.op) = true := decide_eq_true (by omega)
      have HN : Hid (¬ inOk p c.ps.length x) := Lib.hid (fun h => h2 h.1.2)
      unfold coV inV prV
      generalize c.ps.length = np at *
      clear h1 h2
      go_enter Tryz.func30, Tryz.ntmps30
      go_wp2
      go_ret
      exact ⟨⟨false, rfl, ⟨fun h => (by cases h), fun h => absurd h HN.out⟩⟩, below3C w _ _ _⟩
  · have e1 : decide (x.op < 1) = true := decide_eq_true (by omega)
    have HN : Hid (¬ inOk p c.ps.length x) := Lib.hid (fun h => h1 h.1.1)
    unfold coV inV prV
    generalize c.ps.length = np at *
    clear h1
    go_enter Tryz.func30, Tryz.ntmps30
    go_wp2
    go_ret
    exact ⟨⟨false, rfl, ⟨fun h => (by cases h), fun h => absurd h HN.out⟩⟩, below3C w _ _ _⟩
end Go.Proofs.YthkpnbekkoompabGreatDoor
