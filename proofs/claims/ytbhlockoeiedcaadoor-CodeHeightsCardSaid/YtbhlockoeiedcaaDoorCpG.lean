/-
  code.take: a line's parts.
-/
import Derived.Test.YtbhlockoeiedcaaDoorCpE
namespace Go.Proofs.YtbhlockoeiedcaaDoor
open Go.RowKit

theorem TkP.cases {bc : Nat} {r : Option CoM} {w w' : World} {e : Ending} (h : TkP bc r w e w') : (r = none ∧ e = .returned (.bool false) ∧ Below bc w w') ∨ ∃ c' vP vI, r = some c' ∧ e = .returned (.bool true) ∧ Cc bc vP vI c' w' ∧ Below bc w w' := by
  obtain ⟨hb, h⟩ := h
  cases r with
  | none => exact .inl ⟨rfl, h, hb⟩
  | some c' =>
    obtain ⟨he, vP, vI, hc⟩ := h
    exact .inr ⟨c', vP, vI, rfl, he, hc, hb⟩
section
variable {bc : Nat} {vP vI : Value} {c : CoM} {w : World} {ps : List (List UInt8)}
set_option maxRecDepth 100000 in
set_option maxHeartbeats 2000000 in
theorem take_calls (hbc : bc ≤ w.heap.size) (hc : Cc bc vP vI c w) (b off n : Nat) (hn : ps.length = n) (hn1 : 1 ≤ n) (hn2 : n ≤ 1000000) (hA : SxAt w (some ⟨b, off, none⟩) ps) (hT : TX w) (hl : ∀ t ∈ ps, t.length ≤ 100000) (hfp : c.ps.length ≤ 1000000) (hfi : c.is.length ≤ 1000000) :
    Calls Tryd.prog 14 #[.pointer (some ⟨bc, 0, none⟩), .slice (some ⟨b, off, none⟩) n n] w (TkP bc (takeM c ps) w) := by
  obtain ⟨b', off', hbb, hb, hcl⟩ := hA (by omega)
  injection hbb with hbb
  injection hbb with e1 e2
  subst e1 e2
  have h0 : 0 < ps.length := by omega
  have q0 := hcl 0 h0
  rw [Nat.add_zero] at q0
  have g0 : ps.getD 0 [] = ps[0] := by rw [List.getD_eq_getElem?_getD, List.getElem?_eq_getElem h0]; rfl
  have hcmp : ((bs ps[0]).toList == [112, 114, 111, 99]) = decide (ps[0] = procB) := by
    rw [ByteArray.toList_eq, bs_toList]
    by_cases h : ps[0] = procB
    · rw [h, decide_eq_true rfl]; rfl
    · rw [decide_eq_false h]; exact beq_eq_false_iff_ne.2 h
  have hk0 : (1 : Int) ≤ (n : Int) := by omega
  have hk1 : (0 : Int) < (n : Int) := by omega
  by_cases hp : ps[0] = procB
  · have HM : Hid (takeM c ps = takePM c ps) := Lib.hid (by unfold takeM; rw [g0, if_pos hp])
    have b1 : ((bs ps[0]).toList == [112, 114, 111, 99]) = true := by rw [hcmp]; exact decide_eq_true hp
    have HTK : Hid (Calls Tryd.prog 22 #[.pointer (some ⟨bc, 0, none⟩), .slice (some ⟨b, off, none⟩) n n] w (TkP bc (takePM c ps) w)) := Lib.hid (by
      by_cases h5 : ps.length = 5
      · obtain rfl : n = 5 := by omega
        exact takeP_five hbc hc b off 5 h5 (by omega) hA hT hl hfp hfi
      · rw [← hn]
        exact takeP_len _ _ h5)
    generalize ps[0] = t0 at *
    clear hcl hA hT hl hc hn g0 hp hcmp
    go_enter Tryd.func14, Tryd.ntmps14
    go_wp2_with fail
    refine HTK.out.mono ?_
    intro e w1 h1
    rcases h1.cases with ⟨hr, rfl, hB⟩ | ⟨c', vP', vI', hr, rfl, hc', hB⟩
    · have HR := Lib.hid (HM.out.trans hr)
      have HB := Lib.hid hB
      clear hr hB h1
      go_wp2
      go_ret
      exact tk_none HR.out HB.out
    · have HR := Lib.hid (HM.out.trans hr)
      have HB := Lib.hid hB
      have HC := Lib.hid hc'
      clear hr hB h1 hc'
      go_wp2
      go_ret
      exact tk_some HR.out HB.out HC.out
  · have b1 : ((bs ps[0]).toList == [112, 114, 111, 99]) = false := by rw [hcmp]; exact decide_eq_false hp
    obtain ⟨AP, cP, rfl⟩ := own_sliceC hc.rowP
    have x0 := cellC hc.box 0
    by_cases hps : c.ps = []
    · have HR : Hid (takeM c ps = none) := Lib.hid (by unfold takeM; rw [g0, if_neg hp, if_pos hps])
      have hpl : c.ps.length = 0 := by rw [hps]; rfl
      rw [hpl] at x0
      generalize ps[0] = t0 at *
      clear hcl hA hT hl hc hn g0 hp hcmp hpl hps
      go_enter Tryd.func14, Tryd.ntmps14
      go_wp2
      go_ret
      exact tk_none HR.out (Below.refl _ _)
    · have HM : Hid (takeM c ps = takeIM c ps) := Lib.hid (by unfold takeM; rw [g0, if_neg hp, if_neg hps])
      have hpl : 0 < c.ps.length := List.length_pos_iff.2 hps
      have l1 : decide ((0 : Int) < (c.ps.length : Int)) = true := decide_eq_true (by omega)
      have l2 : decide (0 < c.ps.length) = true := decide_eq_true hpl
      have HTK := Lib.hid (takeI_calls hbc hc b off n hn hn1 hn2 hA hT hl hps hfp hfi)
      generalize ps[0] = t0 at *
      clear hcl hA hT hl hc hn g0 hp hcmp hps
      go_enter Tryd.func14, Tryd.ntmps14
      go_wp2_with fail
      refine HTK.out.mono ?_
      intro e w1 h1
      rcases h1.cases with ⟨hr, rfl, hB⟩ | ⟨c', vP', vI', hr, rfl, hc', hB⟩
      · have HR := Lib.hid (HM.out.trans hr)
        have HB := Lib.hid hB
        clear hr hB h1
        go_wp2
        go_ret
        exact tk_none HR.out HB.out
      · have HR := Lib.hid (HM.out.trans hr)
        have HB := Lib.hid hB
        have HC := Lib.hid hc'
        clear hr hB h1 hc'
        go_wp2
        go_ret
        exact tk_some HR.out HB.out HC.out
end
end Go.Proofs.YtbhlockoeiedcaaDoor
