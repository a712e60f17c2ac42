/-
  code.isName; may a procedure, an instruction be (but for heights).
-/
import Derived.Test.YtbhlockoeiedcaaGreatDoorCoB
import Derived.Test.YtbhlockoeiedcaaGreatDoorCoN
import Derived.Test.YtbhlockoeiedcaaGreatDoorNext
namespace Go.Proofs.YtbhlockoeiedcaaGreatDoor
open Go.RowKit

theorem isNm_b (t : List UInt8) : isNm t = ((!nextBad t 0) && (nextT t 0).kind == 1 && (nextT t 0).lo == 0 && (nextT t 0).hi == t.length) := by
  rw [Bool.eq_iff_iff, ← isNm_next t]
  simp [and_assoc]
set_option maxRecDepth 100000 in
set_option maxHeartbeats 1000000 in
theorem isName_calls (t : List UInt8) (ht : t.length ≤ 100000) (w : World) (hw : Tabs w) :
    Calls Tryz.prog 74 #[.string (bs t)] w fun e w' => e = .returned (.bool (isNm t)) ∧ Below w.heap.size w w' := by
  have HN := Lib.hid (tnext_calls (bs t) (by rw [bs_size]; exact ht) 0 (by omega) w hw)
  rw [bs_toList] at HN
  have HB := Lib.hid (isNm_b t)
  have hsz : (bs t).size = t.length := bs_size t
  unfold tokV at HN
  generalize nextBad t 0 = b at HN HB
  generalize (nextT t 0).kind = k at HN HB
  generalize (nextT t 0).lo = lo at HN HB
  generalize (nextT t 0).hi = hi at HN HB
  generalize isNm t = r at HB ⊢
  generalize hb : badC b = c at HN
  have HC := Lib.hid hb
  have HZ := Lib.hid hsz
  clear hb hsz hw
  go_enter Tryz.func74, Tryz.ntmps74
  go_wp2_with (go_at_call 103; refine HN.out.mono ?_; rintro e w1 ⟨rfl, hB1⟩; have HB1 := Lib.hid hB1; clear hB1)
  all_goals
    have hc := HC.out
    have hz := HZ.out
    clear HN
    go_ret
    refine ⟨ret_bool ?_, ?_⟩
    · rw [HB.out, Bool.eq_iff_iff]
      unfold badC at hc
      cases b <;> simp at hc ⊢ <;> omega
    · exact (HB1.out.alloc HB1.out.size _).alloc (Nat.le_trans HB1.out.size (by simp)) _


def prB (p : PrM) : Bool := decide (0 ≤ p.par) && decide (p.par ≤ p.slo) && decide (p.slo ≤ 64) && (p.typ == 1 || p.typ == 4) && isNm p.name
theorem prB_iff (p : PrM) : prB p = true ↔ prOk p := by
  unfold prB prOk
  simp [and_assoc]
set_option maxRecDepth 100000 in
set_option maxHeartbeats 1000000 in
theorem prFits_calls (p : PrM) (hn : p.name.length ≤ 100000) (w : World) (hw : Tabs w) :
    Calls Tryz.prog 48 #[prV p] w fun e w' => e = .returned (.bool (prB p)) ∧ Below w.heap.size w w' := by
  have HN := Lib.hid (fun W (hW : Tabs W) => isName_calls p.name hn W hW)
  have HT := Lib.hid (fun o => hw.below ((Below.refl w.heap.size w).alloc (Nat.le_refl _) o) hw.2.2)
  have HB := Lib.hid (show prB p = (decide (0 ≤ p.par) && decide (p.par ≤ p.slo) && decide (p.slo ≤ 64) && (p.typ == 1 || p.typ == 4) && isNm p.name) from rfl)
  unfold prV
  generalize prB p = r at HB ⊢
  generalize isNm p.name = q at HB HN
  clear hw
  go_enter Tryz.func48, Tryz.ntmps48
  go_wp2_with (go_at_call 74; refine (HN.out _ (HT.out _)).mono ?_; rintro e w1 ⟨rfl, hB1⟩; have HB1 := Lib.hid hB1; clear hB1)
  all_goals
    clear HN HT
    go_ret
    refine ⟨ret_bool ?_, ?_⟩
    · rw [HB.out, Bool.eq_iff_iff]
      simp
      try omega
    · first
        | exact ((Below.refl _ w).alloc (Nat.le_refl _) _).trans (HB1.out.mono (by simp))
        | exact (Below.refl _ w).alloc (Nat.le_refl _) _

end Go.Proofs.YtbhlockoeiedcaaGreatDoor
