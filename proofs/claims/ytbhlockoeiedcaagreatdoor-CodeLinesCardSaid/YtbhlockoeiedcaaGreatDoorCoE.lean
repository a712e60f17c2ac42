/-
  code.inOrder: do procedures follow one another.
-/
import Derived.Test.YtbhlockoeiedcaaGreatDoorCoD
import Derived.LoopTactic
namespace Go.Proofs.YtbhlockoeiedcaaGreatDoor
open Go.RowKit

def ordCB (c : CoM) : Bool := decide (0 < c.ps.length) && decide (ordB 0 c.ps = some (c.is.length : Int))
theorem ordCB_iff (c : CoM) : ordCB c = true ↔ ordC c := by
  unfold ordCB ordC
  simp [List.length_pos_iff]
theorem ordB_step (e : Int) (ps : List PrM) (k : Nat) (h : k < ps.length) : ordB e (ps.drop k) = if (ps[k]).frm = e ∧ e < (ps[k]).to then ordB (ps[k]).to (ps.drop (k + 1)) else none := by
  rw [List.drop_eq_getElem_cons h]; rfl

set_option maxRecDepth 100000 in
set_option maxHeartbeats 2000000 in
theorem inOrder_calls (c : CoM) (A A2 : Option Addr) (c1 c2 : Nat) (w : World) (hc : CoAt w w.heap.size A c1 A2 c2 c) :
    Calls Tryz.prog 23 #[coV A c1 A2 c2 c] w fun e w' => e = .returned (.bool (ordCB c)) ∧ Below w.heap.size w w' := by
  have hfew := hc.few
  have hcp := hc.capP
  have hci := hc.capI
  unfold maxLen at hfew
  have HC := Lib.hid hc
  have HO := Lib.hid (show ordCB c = (decide (0 < c.ps.length) && decide (ordB 0 c.ps = some (c.is.length : Int))) from rfl)
  unfold coV
  generalize ordCB c = r at HO ⊢
  have HB0 := Lib.hid ((Below.refl w.heap.size w).alloc (Nat.le_refl _) (.cells #[.slice A c.ps.length c1, .slice A2 c.is.length c2] 25))
  have HX := Lib.hid (heapOne w #[.slice A c.ps.length c1, .slice A2 c.is.length c2] 25)
  clear hc
  go_enter Tryz.func23, Tryz.ntmps23
  go_wp2
  generalize w.alloc (.cells #[.slice A c.ps.length c1, .slice A2 c.is.length c2] 25) = W0 at *
  have hsz0 : w.heap.size < W0.heap.size := (Array.getElem?_eq_some_iff.1 HX.out).1
  go_loopw [3, 9] (fun v i wr => ∃ (k : Nat) (e : Int), k ≤ c.ps.length ∧ i = .int .i64 k ∧ v = .int .i64 e ∧ Hid (ordB 0 c.ps = ordB e (c.ps.drop k)) ∧ Hid (Below W0.heap.size W0 wr)) (fun _ i _ => c.ps.length - (intOf i).toNat)
  case atStart => exact ⟨0, 0, by omega, rfl, rfl, Lib.hid (by rw [List.drop_zero]), Lib.hid (Below.refl _ _)⟩
  case round =>
    obtain ⟨k, e, hk, rfl, rfl, HR, HB⟩ := hrel
    have x0 : wr.cell? ⟨w.heap.size, 0, none⟩ = some (.slice A c.ps.length c1) := keepC HB.out (cellC HX.out 0) hsz0
    have x1 : wr.cell? ⟨w.heap.size, 1, none⟩ = some (.slice A2 c.is.length c2) := keepC HB.out (cellC HX.out 1) hsz0
    by_cases hlt : k < c.ps.length
    · obtain ⟨b, off, rfl, hb, hcells⟩ := (HC.out.prs) (by omega)
      obtain ⟨q0, q1, q2, q3, q4, q5⟩ := hcells k hlt
      have kk : ∀ {o : Nat} {u : Value}, w.cell? ⟨b, o, none⟩ = some u → wr.cell? ⟨b, o, none⟩ = some u := fun hq => keepC HB.out (keepC HB0.out hq hb) (by omega)
      have q0 := kk q0
      have q1 := kk q1
      have q2 := kk q2
      have q3 := kk q3
      have q4 := kk q4
      have q5 := kk q5
      have HS := Lib.hid (ordB_step e c.ps k hlt)
      generalize c.ps[k] = p at *
      have hk0 : (0 : Int) ≤ (k : Int) := by omega
      have hk1 : (k : Int) < (c.ps.length : Int) := by omega
      clear kk hcells
      go_wp2
      all_goals first
        | (go_ret
           exact ⟨ret_bool (by rw [HO.out, HR.out, HS.out, if_neg (by omega)]; simp), (HB0.out.trans (HB.out.mono (by omega))).alloc (by have := HB.out.size; omega) _⟩)
        | (have HR2 : Hid (ordB 0 c.ps = ordB p.to (c.ps.drop (k + 1))) := Lib.hid (by rw [HR.out, HS.out, if_pos (by omega)])
           go_roundw
           case rel => exact ⟨k + 1, p.to, by omega, by go_num, rfl, HR2, Lib.hid (HB.out.alloc HB.out.size _)⟩
           case measure => simp [intOf]; omega)
    · obtain rfl : k = c.ps.length := by omega
      have HR2 : Hid (ordB 0 c.ps = some e) := Lib.hid (by rw [HR.out, List.drop_length]; rfl)
      clear hlt hk HR
      go_wp2
      all_goals
        go_ret
        refine ⟨ret_bool ?_, HB0.out.trans (HB.out.mono (by omega))⟩
        rw [HO.out, HR2.out, Bool.eq_iff_iff]
        simp
        try omega

end Go.Proofs.YtbhlockoeiedcaaGreatDoor
