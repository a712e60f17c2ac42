/-
  The statements' own small fact: the document's example is parsed, and printed.
-/
import Derived.Test.YtdeflloidhbpmaaGreatDoorK23
import Derived.Test.YtdeflloidhbpmaaGreatDoorK48
namespace Go.Proofs.YtdeflloidhbpmaaGreatDoor
open Go.RowKit

def exaP : List UInt8 := [102, 117, 110, 99, 32, 102, 40, 120, 41, 32, 123, 32, 112, 114, 105, 110, 116, 32, 40, 49, 43, 50, 41, 42, 45, 120, 59, 32, 125]
def outaP : List UInt8 := [102, 117, 110, 99, 32, 102, 40, 120, 41, 32, 123, 10, 32, 32, 112, 114, 105, 110, 116, 32, 40, 49, 32, 43, 32, 50, 41, 32, 42, 32, 45, 120, 59, 10, 125, 10]
def chkP (r : Res0) : Bool := match r with
  | .good s => byt (progG Lib.decDigits s) == outaP
  | _ => false
set_option maxRecDepth 100000 in
theorem exaP_chk : chkP (parseT exaP) = true := by decide +kernel
theorem exaP_good : ∃ s, parseT exaP = .good s ∧ byt (progG Lib.decDigits s) = outaP := by
  have h := exaP_chk
  cases hr : parseT exaP with
  | bad p c => rw [hr] at h; simp [chkP] at h
  | good s =>
    rw [hr] at h
    exact ⟨s, rfl, eq_of_beq h⟩
theorem PsPost.good {t : List UInt8} {w w' : World} {e : Ending} {s : Sg} (h : PsPost t w e w') (hs : parseT t = .good s) : Below w.heap.size w w' ∧ ∃ v, e = .returned (.tuple #[v, .int .i64 0, .int .i64 0]) ∧ TrAt w' v s := by
  unfold PsPost at h
  rw [hs] at h
  exact h
theorem PsPost.bad {t : List UInt8} {w w' : World} {e : Ending} {p c : Nat} (h : PsPost t w e w') (hs : parseT t = .bad p c) : Below w.heap.size w w' ∧ e = .returned (.tuple #[nilT, .int .i64 (p : Int), .int .i64 (c : Int)]) := by
  unfold PsPost at h
  rw [hs] at h
  exact h
/-- What the condition gives. -/
structure TabsP (w : World) : Prop where
  tabs : Tabs w
  pow : Lib.TabIs Tryz.prog w nameP .u64 Lib.pow10Tab
  lev : ∃ g c, Levs g c w
theorem TabsP.below {w w' : World} (h : TabsP w) (hB : Below w.heap.size w w') : TabsP w' :=
  ⟨h.tabs.below hB h.tabs.2.2, Joins.tab_stays Tryz.gPows h.pow hB (Nat.le_refl _), by obtain ⟨g, c, hl⟩ := h.lev; exact ⟨g, c, hl.below hB⟩⟩
/-- print.Print of a program that was parsed of a short text. -/
theorem print_parsed {w : World} (h : TabsP w) {t : List UInt8} (ht : t.length ≤ 900) {s : Sg} (hp : parseT t = .good s) {v : Value} (hv : TrAt w v s) : Calls Tryz.prog 11 #[v] w (PrP (byt (progG Lib.decDigits s)) w) := by
  obtain ⟨g, c, hl⟩ := h.lev
  have hc := parse_cnt hp
  have hf := parse_few t ht hp
  have hll := parse_len hp
  exact print_calls hl h.pow (by omega) hp (fun x hx => by have := hll.ex x hx; omega) (by omega) (by omega) (by omega) (parse_out ht hp (by omega)) hv
set_option maxRecDepth 100000 in
set_option maxHeartbeats 1000000 in
theorem awake_calls (w : World) (hw : TabsP w) : Calls Tryz.prog 7 #[] w fun e w' => e = .returned (.bool true) ∧ Below w.heap.size w w' := by
  have hf := front_calls (bs exaP) (by decide) w hw.tabs
  rw [bs_toList] at hf
  obtain ⟨s, hs, ho⟩ := exaP_good
  have HF := Lib.hid hf
  have HS := Lib.hid hs
  have HW := Lib.hid hw
  clear hf hs hw
  go_enter Tryz.func7, Tryz.ntmps7
  go_wp2_with fail
  refine HF.out.mono ?_
  intro e w1 h3
  obtain ⟨hB, v, rfl, ht⟩ := h3.good HS.out
  have HP : Hid (∀ W, Below w1.heap.size w1 W → Calls Tryz.prog 11 #[v] W (PrP outaP W)) := Lib.hid fun W hW => by
    have := print_parsed (HW.out.below (hB.trans (hW.mono hB.size))) (t := exaP) (by decide) HS.out (ht.below hW)
    rw [ho] at this
    exact this
  obtain ⟨A1, c1, A2, c2, A3, c3, rfl⟩ := ht.form
  have HB := Lib.hid hB
  have hq : ((bs outaP).toList == [102, 117, 110, 99, 32, 102, 40, 120, 41, 32, 123, 10, 32, 32, 112, 114, 105, 110, 116, 32, 40, 49, 32, 43, 32, 50, 41, 32, 42, 32, 45, 120, 59, 10, 125, 10]) = true := tx_eq rfl
  have hbl := Lib.hid (heap_one w1 #[.slice A1 s.ex.length c1, .slice A2 s.st.length c2, .slice A3 s.fn.length c3] 27)
  have q0 := cellK hbl.out 0
  have q1 := cellK hbl.out 1
  have q2 := cellK hbl.out 2
  clear hB HF ht HS ho
  go_wp2_with (go_at_call 11; refine (HP.out _ ((Below.refl w1.heap.size w1).alloc (Nat.le_refl _) _)).mono ?_)
  rintro e2 w2 ⟨rfl, hB2⟩
  have HB2 := Lib.hid ((HB.out.alloc HB.out.size _).trans (hB2.mono (Nat.le_trans HB.out.size (by simp))))
  clear hB2
  go_wp2
  go_ret
  exact ⟨rfl, HB2.out⟩
end Go.Proofs.YtdeflloidhbpmaaGreatDoor
