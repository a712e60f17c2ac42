/-
  world: Good, Text; the number that a part tells.
-/
import Derived.Test.YtoailhkaenofpaaDoorWdA
import Derived.Deep.QuietTactic
import Derived.BigQuiet
namespace Go.Proofs.YtoailhkaenofpaaDoor
open Go.RowKit

def woV (A : Option Addr) (c : Nat) (m : WoM) : Value := .agg #[.int .i64 m.stp, .slice A m.ins.length c]
/-- A slice value reads as ints, in a block below B. -/
def IsAt (w : World) (B : Nat) (A : Option Addr) (l : List Int) : Prop :=
  0 < l.length → ∃ b off, A = some ⟨b, off, none⟩ ∧ b < B ∧ ∀ i (h : i < l.length), w.cell? ⟨b, off + i, none⟩ = some (.int .i64 l[i])
theorem IsAt.keep {w w' : World} {B : Nat} {A : Option Addr} {l : List Int} (h : IsAt w B A l) (hk : ∀ b o, b < B → w'.cell? ⟨b, o, none⟩ = w.cell? ⟨b, o, none⟩) : IsAt w' B A l := fun hn => by
  obtain ⟨b, off, e, hb, hc⟩ := h hn
  exact ⟨b, off, e, hb, fun i hi => (hk b _ hb).trans (hc i hi)⟩
theorem IsAt.wide {w : World} {B B' : Nat} {A : Option Addr} {l : List Int} (h : IsAt w B A l) (hB : B ≤ B') : IsAt w B' A l := fun hn => by
  obtain ⟨b, off, e, hb, hc⟩ := h hn
  exact ⟨b, off, e, by omega, hc⟩
structure WoAt (w : World) (B : Nat) (A : Option Addr) (c : Nat) (m : WoM) : Prop where
  row : IsAt w B A m.ins
  cap : m.ins.length ≤ c
  few : c ≤ maxLen
  fit : m.fit
  nil : A = none → c = 0
theorem WoAt.below {w w' : World} {B B' c : Nat} {A : Option Addr} {m : WoM} (h : WoAt w B A c m) (hb : Below B' w w') (hB : B ≤ B') : WoAt w' B A c m :=
  ⟨h.row.keep fun b o hlt => hb.cell (p := ⟨b, o, none⟩) (by simp; omega), h.cap, h.few, h.fit, h.nil⟩
theorem WoAt.wide {w : World} {B B' c : Nat} {A : Option Addr} {m : WoM} (h : WoAt w B A c m) (hB : B ≤ B') : WoAt w B' A c m := ⟨h.row.wide hB, h.cap, h.few, h.fit, h.nil⟩

/-- What Good answers. -/
def GdP (m : WoM) (w : World) (e : Ending) (w' : World) : Prop :=
  Below w.heap.size w w' ∧ ((GoodW m ∧ e = .returned (.int .i64 0)) ∨ (¬ GoodW m ∧ e = .returned (.int .i64 15)))
set_option maxRecDepth 100000 in
set_option maxHeartbeats 1000000 in
theorem good_calls (m : WoM) (A : Option Addr) (c : Nat) (w : World) : Calls Tryd.prog 9 #[woV A c m] w (GdP m w) := by
  have HB0 := Lib.hid ((Below.refl w.heap.size w).alloc (Nat.le_refl _) (.cells #[.int .i64 m.stp, .slice A m.ins.length c] 24))
  unfold woV
  by_cases h0 : 0 ≤ m.stp
  · by_cases h1 : m.stp ≤ 100000
    · by_cases h2 : m.ins.length ≤ 1000
      · have HG : Hid (GoodW m) := Lib.hid ⟨⟨h0, h1⟩, h2⟩
        have d0 : decide (0 ≤ m.stp) = true := decide_eq_true h0
        have d1 : decide (m.stp ≤ 100000) = true := decide_eq_true h1
        have d2 : decide ((1000 : Int) < (m.ins.length : Int)) = false := decide_eq_false (by omega)
        have d3 : decide (1000 < m.ins.length) = false := decide_eq_false (by omega)
        clear h0 h1 h2
        go_enter Tryd.func9, Tryd.ntmps9
        go_wp2
        go_ret
        exact ⟨HB0.out, .inl ⟨HG.out, rfl⟩⟩
      · have HG : Hid (¬ GoodW m) := Lib.hid (fun h => h2 h.2)
        have d0 : decide (0 ≤ m.stp) = true := decide_eq_true h0
        have d1 : decide (m.stp ≤ 100000) = true := decide_eq_true h1
        have d2 : decide ((1000 : Int) < (m.ins.length : Int)) = true := decide_eq_true (by omega)
        have d3 : decide (1000 < m.ins.length) = true := decide_eq_true (by omega)
        clear h0 h1 h2
        go_enter Tryd.func9, Tryd.ntmps9
        go_wp2
        go_ret
        exact ⟨HB0.out, .inr ⟨HG.out, rfl⟩⟩
    · have HG : Hid (¬ GoodW m) := Lib.hid (fun h => h1 h.1.2)
      have d0 : decide (0 ≤ m.stp) = true := decide_eq_true h0
      have d1 : decide (m.stp ≤ 100000) = false := decide_eq_false h1
      clear h0 h1
      go_enter Tryd.func9, Tryd.ntmps9
      go_wp2
      go_ret
      exact ⟨HB0.out, .inr ⟨HG.out, rfl⟩⟩
  · have HG : Hid (¬ GoodW m) := Lib.hid (fun h => h0 h.1.1)
    have d0 : decide (0 ≤ m.stp) = false := decide_eq_false h0
    clear h0
    go_enter Tryd.func9, Tryd.ntmps9
    go_wp2
    go_ret
    exact ⟨HB0.out, .inr ⟨HG.out, rfl⟩⟩

/-- What numberOf answers. -/
def NofP (t : List UInt8) (w : World) (e : Ending) (w' : World) : Prop :=
  Below w.heap.size w w' ∧ ((∃ v, numM t = some v ∧ e = .returned (.tuple #[.int .i64 v, .bool true])) ∨ (numM t = none ∧ ∃ v, e = .returned (.tuple #[.int .i64 v, .bool false])))
set_option maxRecDepth 100000 in
set_option maxHeartbeats 1000000 in
theorem numberOf_calls (t : List UInt8) (ht : t.length ≤ 1000000) (w : World) (hT : TX w) : Calls Tryd.prog 34 #[.string (bs t)] w (NofP t w) := by
  have HT := Lib.hid hT
  have HAT := Lib.hid (atoi_calls t ht w hT)
  clear hT ht
  go_enter Tryd.func34, Tryd.ntmps34
  go_wp2_with fail
  refine HAT.out.mono ?_
  rintro e w1 ⟨hB1, hat⟩
  have HB1 := Lib.hid hB1
  have HT1 := Lib.hid (HT.out.below hB1 (Nat.le_refl _))
  clear hB1 HAT
  rcases hat with ⟨v, hv, rfl⟩ | ⟨hno, v, N, rfl⟩
  · have HIT := Lib.hid (itoa_calls v (atoi_i64 hv) w1 HT1.out)
    have hcmp := str_eqC (a := Lib.itoa v) (b := t)
    have HNM : Hid (numM t = if Lib.itoa v = t then some v else none) := Lib.hid (by unfold numM; rw [hv])
    generalize Lib.itoa v = u at *
    clear hv
    by_cases hu : u = t
    · have HV := Lib.hid (HNM.out.trans (if_pos hu))
      have b1 : ((bs u).toList == (bs t).toList) = true := by rw [hcmp]; exact decide_eq_true hu
      clear hcmp hu HNM
      go_wp2_with fail
      refine HIT.out.mono ?_
      rintro e w2 ⟨rfl, hB2⟩
      have HB2 := Lib.hid (HB1.out.trans (hB2.mono HB1.out.size))
      clear hB2 HIT
      go_wp2
      go_ret2
      exact ⟨HB2.out, .inl ⟨v, HV.out, rfl⟩⟩
    · have HV := Lib.hid (HNM.out.trans (if_neg hu))
      have b1 : ((bs u).toList == (bs t).toList) = false := by rw [hcmp]; exact decide_eq_false hu
      clear hcmp hu HNM
      go_wp2_with fail
      refine HIT.out.mono ?_
      rintro e w2 ⟨rfl, hB2⟩
      have HB2 := Lib.hid (HB1.out.trans (hB2.mono HB1.out.size))
      clear hB2 HIT
      go_wp2
      go_ret2
      exact ⟨HB2.out, .inr ⟨HV.out, v, rfl⟩⟩
  · have HV : Hid (numM t = none) := Lib.hid (by
      unfold numM
      split
      · rename_i v' hv'; exact absurd hv' (hno v')
      · rfl)
    clear hno
    go_wp2
    go_ret2
    exact ⟨HB1.out, .inr ⟨HV.out, v, rfl⟩⟩
end Go.Proofs.YtoailhkaenofpaaDoor
