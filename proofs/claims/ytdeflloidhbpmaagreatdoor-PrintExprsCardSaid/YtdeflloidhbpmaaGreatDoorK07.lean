/-
  put: an expression is put, which ends with the token that was taken last.
-/
import Derived.Test.YtdeflloidhbpmaaGreatDoorK06
import Derived.Deep.RegionWith
namespace Go.Proofs.YtdeflloidhbpmaaGreatDoor
open Go.RowKit

theorem heap_one (W : World) (cs : Array Value) (t : TypeId) : (W.alloc (.cells cs t)).heap[W.heap.size]? = some (.cells cs t (0, 0)) := by
  show (W.heap.push _)[W.heap.size]? = _
  rw [Array.getElem?_push, if_pos (by simp)]
/-- What a call needs that puts something with a list. -/
theorem list_move {C : Cx} {S S' : Nat → Prop} {d : Nat} {s : Sg} {w w' : World} {l : Value} {vs : List Value} (h : PAt C S' d s w) (hl : RwAt w (Fresh C S) l vs) (hS : ∀ g, l.ownBlock = some g → S' g) (hB : Below w.heap.size w w') : RwAt w' (Fresh C S) l vs :=
  hl.keep hB.size fun g hg hf _ => ⟨hf, hB.block g (h.sLt g (hS g hg)).2⟩

set_option maxRecDepth 100000 in
set_option maxHeartbeats 2000000 in
theorem put_calls (C : Cx) (S : Nat → Prop) (d : Nat) (s : Sg) (lo : Nat) (x : Ex) (l : Value) (_hx : x.lo = 0 ∧ x.hi = 0) (w : World) (h : PAt C (With S l) (d + 1) s w) (hl : RwAt w (Fresh C S) l (intsV x.list)) :
    Calls Tryz.prog 172 #[.pointer (some ⟨C.q, 0, none⟩), .int .i64 (lo : Int), .agg #[.int .i64 (x.kind : Int), .int .i64 0, .int .i64 0, .int .i64 (x.num : Int), .string (bs x.name), .string (bs x.op), .int .i64 (x.a : Int), .int .i64 (x.b : Int), l]] w (OutP C S d natV (putE C.T lo x s) w) := by
  have HS := Lib.hid (fun W (hB : Below w.heap.size w W) => since_calls C (With S l) d s (lo : Int) W (h.below hB))
  have HP := Lib.hid (fun W (hB : Below w.heap.size w W) => putE_calls C S d s { x with lo := lo, hi := lastHi C.T s } l W (h.below hB) (list_move h hl (fun g hg => .inr hg) hB))
  have HK := Lib.hid (fun W (hB : Below w.heap.size w W) => (h.belowK hB).sub (fun b (hb : S b) => (.inl hb : With S l b)))
  unfold putE
  clear h hl
  generalize lastHi C.T s = hi' at *
  go_enter Tryz.func172, Tryz.ntmps172
  go_wp2_with fail
  refine (HS.out _ ((Below.refl w.heap.size w).alloc (Nat.le_refl _) _)).mono ?_
  rintro e w1 ⟨rfl, hB⟩
  have hB1 := Lib.hid (((Below.refl w.heap.size w).alloc (Nat.le_refl _) (.cells #[.int .i64 (x.kind : Int), .int .i64 0, .int .i64 0, .int .i64 (x.num : Int), .string (bs x.name), .string (bs x.op), .int .i64 (x.a : Int), .int .i64 (x.b : Int), l] 63)).trans (hB.mono (by simp)))
  have hb := Lib.hid ((hB.block w.heap.size (by simp)).trans (heap_one w _ _))
  have f1 : w1.frozen? ⟨w.heap.size, 1, none⟩ = false := by simp [World.frozen?, hb.out]
  have f2 : w1.frozen? ⟨w.heap.size, 2, none⟩ = false := by simp [World.frozen?, hb.out]
  have c0 : w1.cell? ⟨w.heap.size, 0, none⟩ = some (.int .i64 (x.kind : Int)) := by simp [World.cell?, hb.out]
  have c1 : w1.cell? ⟨w.heap.size, 1, none⟩ = some (.int .i64 0) := by simp [World.cell?, hb.out]
  have c2 : w1.cell? ⟨w.heap.size, 2, none⟩ = some (.int .i64 0) := by simp [World.cell?, hb.out]
  have c3 : w1.cell? ⟨w.heap.size, 3, none⟩ = some (.int .i64 (x.num : Int)) := by simp [World.cell?, hb.out]
  have c4 : w1.cell? ⟨w.heap.size, 4, none⟩ = some (.string (bs x.name)) := by simp [World.cell?, hb.out]
  have c5 : w1.cell? ⟨w.heap.size, 5, none⟩ = some (.string (bs x.op)) := by simp [World.cell?, hb.out]
  have c6 : w1.cell? ⟨w.heap.size, 6, none⟩ = some (.int .i64 (x.a : Int)) := by simp [World.cell?, hb.out]
  have c7 : w1.cell? ⟨w.heap.size, 7, none⟩ = some (.int .i64 (x.b : Int)) := by simp [World.cell?, hb.out]
  have c8 : w1.cell? ⟨w.heap.size, 8, none⟩ = some l := by simp [World.cell?, hb.out]
  clear hB
  go_wp2
  go_region_with (go_at_call 175; refine (HP.out _ (((hB1.out.setCell (p := ⟨w.heap.size, 1, none⟩) (Nat.le_refl _) _).setCell (p := ⟨w.heap.size, 2, none⟩) (Nat.le_refl _) _).drew)).mono ?_; intro e w2 h2; obtain ⟨rfl, h3⟩ := h2; have H3 := Lib.hid h3; clear h3; unfold natV)
  all_goals
    go_wp2
    go_ret
    exact ⟨rfl, H3.out.1, (HK.out _ (((hB1.out.setCell (p := ⟨w.heap.size, 1, none⟩) (Nat.le_refl _) _).setCell (p := ⟨w.heap.size, 2, none⟩) (Nat.le_refl _) _).drew)).trans H3.out.2⟩

end Go.Proofs.YtdeflloidhbpmaaGreatDoor
