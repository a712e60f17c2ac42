/-
  rewindref04.ints: two slices that read as one list of numbers are the same.
-/
import Derived.BigQuiet
import Derived.Test.YtccmodefjgjpeaaGreatDoorPAt
namespace Go.Proofs.YtccmodefjgjpeaaGreatDoor
open Go.RowKit

theorem below_dq {w w' : World} {B : Nat} (h : Below B w w') (n : Nat) : Below B w (w'.drewN n) := ⟨h.os, h.tape, h.output, h.size, h.block⟩
theorem RwAt.form {w : World} {L : Nat → Prop} {v : Value} {vs : List Value} (h : RwAt w L v vs) : ∃ A c, v = .slice A vs.length c := by
  obtain ⟨A, c, e, _⟩ := h
  exact ⟨A, c, e⟩
/-- A number of a list in memory. -/
theorem RwAt.int {w : World} {L : Nat → Prop} {A : Option Addr} {n c : Nat} {l : List Nat} (h : RwAt w L (.slice A n c) (intsV l)) (i : Nat) (hi : i < l.length) : ∃ g, A = some ⟨g, 0, none⟩ ∧ g < w.heap.size ∧ w.cell? ⟨g, i, none⟩ = some (.int .i64 (l[i] : Int)) := by
  obtain ⟨A', c', e, h1, h2⟩ := h
  injection e with e1 e2 e3
  subst e1
  obtain ⟨g, rfl, h3⟩ := h2 (by rw [intsV_len]; omega)
  refine ⟨g, rfl, (h1 g rfl).2, h3 i _ ?_⟩
  simp [intsV, hi]
theorem RwAt.str {w : World} {L : Nat → Prop} {A : Option Addr} {n c : Nat} {l : List (List UInt8)} (h : RwAt w L (.slice A n c) (strsV l)) (i : Nat) (hi : i < l.length) : ∃ g, A = some ⟨g, 0, none⟩ ∧ g < w.heap.size ∧ w.cell? ⟨g, i, none⟩ = some (.string (bs l[i])) := by
  obtain ⟨A', c', e, h1, h2⟩ := h
  injection e with e1 e2 e3
  subst e1
  obtain ⟨g, rfl, h3⟩ := h2 (by rw [strsV_len]; omega)
  refine ⟨g, rfl, (h1 g rfl).2, h3 i _ ?_⟩
  simp [strsV, hi]
theorem RwAt.belowL {w w' : World} {L : Nat → Prop} {v : Value} {vs : List Value} (h : RwAt w L v vs) (hB : Below w.heap.size w w') : RwAt w' L v vs := h.keep hB.size fun g _ hL hg => ⟨hL, hB.block g hg⟩

set_option maxRecDepth 100000 in
set_option maxHeartbeats 1000000 in
theorem ints_calls (L M : Nat → Prop) (v1 v2 : Value) (l : List Nat) (hn : l.length ≤ 100000) (w : World) (h1 : RwAt w L v1 (intsV l)) (h2 : RwAt w M v2 (intsV l)) :
    Calls Tryz.prog 29 #[v1, v2] w fun e w' => e = .returned (.bool true) ∧ Below w.heap.size w w' := by
  obtain ⟨A1, c1, rfl⟩ := h1.form
  obtain ⟨A2, c2, rfl⟩ := h2.form
  rw [intsV_len] at h1 h2 ⊢
  have H1 := Lib.hid h1
  have H2 := Lib.hid h2
  clear h1 h2
  go_enter Tryz.func29, Tryz.ntmps29
  go_wp2
  go_loopw [5, 13] (fun _ a wr => ∃ i : Nat, i ≤ l.length ∧ a = .int .i64 i ∧ ∃ nq, wr = w.drewN nq) (fun _ a _ => l.length - (intOf a).toNat)
  case atStart => exact ⟨0, Nat.zero_le _, rfl, 0, rfl⟩
  case round =>
    obtain ⟨i, hi, rfl, nq, rfl⟩ := hrel
    by_cases hlt : i < l.length
    · obtain ⟨g, rfl, hb, d0⟩ := H1.out.int i hlt
      obtain ⟨g2, rfl, hb2, e0⟩ := H2.out.int i hlt
      have hi0 : (0 : Int) ≤ (i : Int) := by omega
      have hi1 : (i : Int) < (l.length : Int) := by omega
      go_wp2_with fail
      go_quiet (fail)
      go_wp2
      go_roundw
      case rel => exact ⟨i + 1, by omega, by go_num, _, rfl⟩
      case measure => simp [intOf]; omega
    · obtain rfl : i = l.length := by omega
      go_wp2
      go_ret
      exact ⟨rfl, below_dq (Below.refl _ _) _⟩

end Go.Proofs.YtccmodefjgjpeaaGreatDoor
