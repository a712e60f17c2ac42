/-
  rewindref10: where an instruction may lead.
-/
import Derived.Test.YtbhlockoeiedcaaGreatDoorK48
import Derived.Deep.RegionHeld3
import Derived.IntWalk
import Derived.Deep.Cut
import Derived.Deep.CutBlock
import Derived.Deep.CutRange
import Derived.Test.YtbhlockoeiedcaaGreatDoorK15
namespace Go.Proofs.YtbhlockoeiedcaaGreatDoor
open Go.RowKit

/-- Ways on, in memory. -/
def WaysAt (w : World) (A : Option Addr) (l : List (Nat × Int)) : Prop :=
  0 < l.length → ∃ g, A = some ⟨g, 0, none⟩ ∧ g < w.heap.size ∧ ∀ j (h : j < l.length), w.cell? ⟨g, j * 2, none⟩ = some (.int .i64 (l[j].1 : Int)) ∧ w.cell? ⟨g, j * 2 + 1, none⟩ = some (.int .i64 l[j].2)
def AftP (l : List (Nat × Int)) (w : World) (e : Ending) (w' : World) : Prop :=
  Below w.heap.size w w' ∧ ∃ A cap, e = .returned (.slice A l.length cap) ∧ WaysAt w' A l ∧ ∀ g, A = some ⟨g, 0, none⟩ → w.heap.size ≤ g
theorem aft_nil {l : List (Nat × Int)} {w w' : World} (hl : l = []) (hb : Below w.heap.size w w') : AftP l w (.returned (.slice none 0 0)) w' := by
  subst hl; exact ⟨hb, none, 0, rfl, fun h => by simp at h, fun g h => by cases h⟩
theorem aft_one {l : List (Nat × Int)} {w wx : World} {a : Nat} {b : Int} {t : TypeId} (hl : l = [(a, b)]) (hb : Below w.heap.size w wx) : AftP l w (.returned (.slice (some ⟨wx.heap.size, 0, none⟩) 1 1)) (wx.alloc (.cells #[.int .i64 (a : Int), .int .i64 b] t)) := by
  subst hl
  refine ⟨hb.alloc hb.size _, _, _, rfl, fun _ => ⟨_, rfl, by simp, fun j hj => ?_⟩, fun g hg => by injection hg with hg; injection hg with hg; rw [← hg]; exact hb.size⟩
  obtain rfl : j = 0 := by simpa using hj
  exact ⟨cellC (heapOne wx _ _) 0, cellC (heapOne wx _ _) 1⟩
theorem aft_two {l : List (Nat × Int)} {w wx : World} {a a2 : Nat} {b b2 : Int} {t : TypeId} (hl : l = [(a, b), (a2, b2)]) (hb : Below w.heap.size w wx) : AftP l w (.returned (.slice (some ⟨wx.heap.size, 0, none⟩) 2 2)) (wx.alloc (.cells #[.int .i64 (a : Int), .int .i64 b, .int .i64 (a2 : Int), .int .i64 b2] t)) := by
  subst hl
  refine ⟨hb.alloc hb.size _, _, _, rfl, fun _ => ⟨_, rfl, by simp, fun j hj => ?_⟩, fun g hg => by injection hg with hg; injection hg with hg; rw [← hg]; exact hb.size⟩
  have : j = 0 ∨ j = 1 := by simp at hj; omega
  rcases this with rfl | rfl
  · exact ⟨cellC (heapOne wx _ _) 0, cellC (heapOne wx _ _) 1⟩
  · exact ⟨cellC (heapOne wx _ _) 2, cellC (heapOne wx _ _) 3⟩
theorem jump_nn {p : PrM} {np : Nat} {x : InM} (h : inOk p np x) (hf : 0 ≤ p.frm) (ho : 22 ≤ x.op ∧ x.op ≤ 25) : 0 ≤ x.arg := by
  have ha := h.2.1
  unfold argOk at ha
  rw [if_neg (by omega), if_neg (by omega), if_neg (by omega), if_pos ho] at ha
  omega

theorem below_undrew {W w' : World} (h : Below W.drew.heap.size W.drew w') : Below W.heap.size W w' := ⟨h.os, h.tape, h.output, h.size, h.block⟩
set_option maxRecDepth 100000 in
set_option maxHeartbeats 8000000 in
theorem refAfter_calls (c : CoM) (A A2 : Option Addr) (c1 c2 : Nat) (p : PrM) (i : Nat) (h : Int) (w : World) (hc : CoAt w w.heap.size A c1 A2 c2 c) (hi : i < c.is.length) (hx : inOk p c.ps.length c.is[i]) (hf : 0 ≤ p.frm)
    (ht : 0 ≤ takesM c c.is[i] ∧ takesM c c.is[i] ≤ 100000) (h0 : 0 ≤ h ∧ h ≤ 100000) :
    Calls Tryz.prog 30 #[coV A c1 A2 c2 c, .int .i64 (i : Int), .int .i64 h] w (AftP (nexts c i c.is[i] h) w) := by
  have hfw := hc.few
  have hci := hc.capI
  unfold maxLen at hfw
  obtain ⟨b, off, rfl, hb, hcells⟩ := hc.ins (by omega)
  obtain ⟨q0, q1, q2⟩ := hcells i hi
  have HTK := Lib.hid (fun W (hW : Below w.heap.size w W) => refTakes_calls c A (some ⟨b, off, none⟩) c1 c2 p c.is[i] W ((hc.below hW (Nat.le_refl _)).wide hW.size).prs hx)
  have HLV := Lib.hid (fun W (hW : Below w.heap.size w W) => refLeaves_calls c A (some ⟨b, off, none⟩) c1 c2 p c.is[i] W ((hc.below hW (Nat.le_refl _)).wide hW.size).prs hx)
  have HJN := Lib.hid (jump_nn hx hf)
  have hlv := leavesM_nn c c.is[i]
  have HNX := Lib.hid (show nexts c i c.is[i] h = (if (c.is[i]).op = 27 then [] else if (c.is[i]).op = 22 then [((c.is[i]).arg.toNat, h - takesM c c.is[i] + leavesM c c.is[i])]
    else if (c.is[i]).op = 23 then [((c.is[i]).arg.toNat, h - takesM c c.is[i] + leavesM c c.is[i]), (i + 1, h - takesM c c.is[i] + leavesM c c.is[i])]
    else if (c.is[i]).op = 24 ∨ (c.is[i]).op = 25 then [((c.is[i]).arg.toNat, h), (i + 1, h - takesM c c.is[i] + leavesM c c.is[i])] else [(i + 1, h - takesM c c.is[i] + leavesM c c.is[i])]) from rfl)
  generalize nexts c i c.is[i] h = l at *
  generalize takesM c c.is[i] = tk at *
  generalize leavesM c c.is[i] = lv at *
  unfold coV inV at HTK HLV
  unfold coV
  generalize c.is[i] = x at *
  obtain ⟨op, arg, mor⟩ := x
  dsimp only at HNX HJN q0 q1 q2 HTK HLV
  generalize c.ps.length = np at *
  clear hcells hc hx hf
  generalize c.is.length = nI at *
  have HB2 := Lib.hid (below2C w (.cells #[.slice A np c1, .slice (some ⟨b, off, none⟩) nI c2] 35) (.cells #[.int .i64 op, .int .i64 arg, .int .i64 mor] 71))
  have HX2 := Lib.hid (heapOne (w.alloc (.cells #[.slice A np c1, .slice (some ⟨b, off, none⟩) nI c2] 35)) #[.int .i64 op, .int .i64 arg, .int .i64 mor] 71)
  have HX1 := Lib.hid ((Below.heap_alloc (w.alloc (.cells #[.slice A np c1, .slice (some ⟨b, off, none⟩) nI c2] 35)) (.cells #[.int .i64 op, .int .i64 arg, .int .i64 mor] 71) w.heap.size (by simp)).trans (heapOne w #[.slice A np c1, .slice (some ⟨b, off, none⟩) nI c2] 35))
  rw [show (w.alloc (.cells #[.slice A np c1, .slice (some ⟨b, off, none⟩) nI c2] 35)).heap.size = w.heap.size + 1 by simp] at HX2
  have hi0 : (0 : Int) ≤ (i : Int) := by omega
  have hi1 : (i : Int) < (nI : Int) := by omega
  have q0 := fun o => newC q0 o
  have q1 := fun o => newC q1 o
  have q2 := fun o => newC q2 o
  go_enter Tryz.func30, Tryz.ntmps30
  go_upto_region 2 with (fail)
  generalize (w.alloc (.cells #[.slice A np c1, .slice (some ⟨b, off, none⟩) nI c2] 35)).alloc (.cells #[.int .i64 op, .int .i64 arg, .int .i64 mor] 71) = W1 at *
  have hn1 : w.heap.size + 1 < W1.heap.size := blkLt HX2.out
  go_cut [8] from 14 to 23 (fun s wx => s = .int .i64 (h - tk + lv) ∧ Hid (Below W1.heap.size W1 wx))
  case first =>
    have HD : Hid (Below w.heap.size w W1.drew) := Lib.hid (below_drewC HB2.out 1)
    have y0 : W1.drew.cell? ⟨w.heap.size, 0, none⟩ = some (.slice A np c1) := cellC HX1.out 0
    have y1 : W1.drew.cell? ⟨w.heap.size, 1, none⟩ = some (.slice (some ⟨b, off, none⟩) nI c2) := cellC HX1.out 1
    have z0 : W1.drew.cell? ⟨w.heap.size + 1, 0, none⟩ = some (.int .i64 op) := cellC HX2.out 0
    have z1 : W1.drew.cell? ⟨w.heap.size + 1, 1, none⟩ = some (.int .i64 arg) := cellC HX2.out 1
    have z2 : W1.drew.cell? ⟨w.heap.size + 1, 2, none⟩ = some (.int .i64 mor) := cellC HX2.out 2
    go_region_held3 (fun w' => w'.cell? ⟨w.heap.size, 0, none⟩ = some (.slice A np c1) ∧ w'.cell? ⟨w.heap.size, 1, none⟩ = some (.slice (some ⟨b, off, none⟩) nI c2) ∧ w'.cell? ⟨w.heap.size + 1, 0, none⟩ = some (.int .i64 op) ∧ w'.cell? ⟨w.heap.size + 1, 1, none⟩ = some (.int .i64 arg) ∧ w'.cell? ⟨w.heap.size + 1, 2, none⟩ = some (.int .i64 mor))
      (with_reducible exact ⟨y0, y1, z0, z1, z2⟩)
      (first | (go_at_call 29; ((with_reducible refine (HTK.out _ HC2.out).mono ?_); rintro e w3 ⟨rfl, hb⟩; have HZ := Lib.hid (HCk.out.trans (hb.mono HCk.out.size)); have k1 := (HZ.out.block _ (blkLt HX1.out)).trans HX1.out; have k2 := (HZ.out.block _ (blkLt HX2.out)).trans HX2.out; have y0 : w3.cell? ⟨w.heap.size, 0, none⟩ = some (.slice A np c1) := cellC k1 0; have y1 : w3.cell? ⟨w.heap.size, 1, none⟩ = some (.slice (some ⟨b, off, none⟩) nI c2) := cellC k1 1; have z0 : w3.cell? ⟨w.heap.size + 1, 0, none⟩ = some (.int .i64 op) := cellC k2 0; have z1 : w3.cell? ⟨w.heap.size + 1, 1, none⟩ = some (.int .i64 arg) := cellC k2 1; have z2 : w3.cell? ⟨w.heap.size + 1, 2, none⟩ = some (.int .i64 mor) := cellC k2 2; clear k1 k2 hb)) | (go_at_call 54; ((with_reducible refine (HLV.out _ HW2.out).mono ?_); rintro e w3 ⟨rfl, hb⟩; have HZ := Lib.hid (HWk.out.trans (hb.mono HWk.out.size)); have k1 := (HZ.out.block _ (blkLt HX1.out)).trans HX1.out; have k2 := (HZ.out.block _ (blkLt HX2.out)).trans HX2.out; have y0 : w3.cell? ⟨w.heap.size, 0, none⟩ = some (.slice A np c1) := cellC k1 0; have y1 : w3.cell? ⟨w.heap.size, 1, none⟩ = some (.slice (some ⟨b, off, none⟩) nI c2) := cellC k1 1; have z0 : w3.cell? ⟨w.heap.size + 1, 0, none⟩ = some (.int .i64 op) := cellC k2 0; have z1 : w3.cell? ⟨w.heap.size + 1, 1, none⟩ = some (.int .i64 arg) := cellC k2 1; have z2 : w3.cell? ⟨w.heap.size + 1, 2, none⟩ = some (.int .i64 mor) := cellC k2 2; clear k1 k2 hb)) | (go_at_call 29; ((with_reducible refine (HTK.out _ HD.out).mono ?_); rintro e w2 ⟨rfl, hb⟩; have HWk := Lib.hid (below_undrew hb); have HW2 := Lib.hid (HB2.out.trans (HWk.out.mono (by have := HB2.out.size; omega))); have k1 := (HWk.out.block _ (blkLt HX1.out)).trans HX1.out; have k2 := (HWk.out.block _ (blkLt HX2.out)).trans HX2.out; have y0 : w2.cell? ⟨w.heap.size, 0, none⟩ = some (.slice A np c1) := cellC k1 0; have y1 : w2.cell? ⟨w.heap.size, 1, none⟩ = some (.slice (some ⟨b, off, none⟩) nI c2) := cellC k1 1; have z0 : w2.cell? ⟨w.heap.size + 1, 0, none⟩ = some (.int .i64 op) := cellC k2 0; have z1 : w2.cell? ⟨w.heap.size + 1, 1, none⟩ = some (.int .i64 arg) := cellC k2 1; have z2 : w2.cell? ⟨w.heap.size + 1, 2, none⟩ = some (.int .i64 mor) := cellC k2 2; clear k1 k2 hb)) | (go_at_call 54; ((with_reducible refine (HLV.out _ HD.out).mono ?_); rintro e v2 ⟨rfl, hb⟩; have HCk := Lib.hid (below_undrew hb); have HC2 := Lib.hid (HB2.out.trans (HCk.out.mono (by have := HB2.out.size; omega))); have k1 := (HCk.out.block _ (blkLt HX1.out)).trans HX1.out; have k2 := (HCk.out.block _ (blkLt HX2.out)).trans HX2.out; have y0 : v2.cell? ⟨w.heap.size, 0, none⟩ = some (.slice A np c1) := cellC k1 0; have y1 : v2.cell? ⟨w.heap.size, 1, none⟩ = some (.slice (some ⟨b, off, none⟩) nI c2) := cellC k1 1; have z0 : v2.cell? ⟨w.heap.size + 1, 0, none⟩ = some (.int .i64 op) := cellC k2 0; have z1 : v2.cell? ⟨w.heap.size + 1, 1, none⟩ = some (.int .i64 arg) := cellC k2 1; have z2 : v2.cell? ⟨w.heap.size + 1, 2, none⟩ = some (.int .i64 mor) := cellC k2 2; clear k1 k2 hb)))
    all_goals
      go_wp2
      go_meet
      case rel => exact ⟨by rw [IntWalk.i64_in (h - tk) (by omega), IntWalk.i64_in (h - tk + lv) (by omega)], HZ⟩
  case rest =>
    obtain ⟨rfl, HZ⟩ := hcut
    have hcut0 := HZ.out.size
    have k1 := Lib.hid ((HZ.out.block _ (blkLt HX1.out)).trans HX1.out)
    have k2 := Lib.hid ((HZ.out.block _ (blkLt HX2.out)).trans HX2.out)
    have z0 : wc.cell? ⟨w.heap.size + 1, 0, none⟩ = some (.int .i64 op) := cellC k2.out 0
    have z1 : wc.cell? ⟨w.heap.size + 1, 1, none⟩ = some (.int .i64 arg) := cellC k2.out 1
    have HB3 := Lib.hid (HB2.out.trans (HZ.out.mono (by omega)))
    generalize h - tk + lv = bv at *
    have hiw : IntKind.i64.wrap ((i : Int) + 1) = ((i + 1 : Nat) : Int) := by rw [IntWalk.i64_in _ (by omega)]; omega
    clear hcut0 q0 q1 q2 HTK HLV HX1 HX2 k1 k2 HZ HB2
    by_cases h22 : op = 22
    · obtain ⟨a, rfl⟩ : ∃ a : Nat, arg = (a : Int) := ⟨arg.toNat, by have := HJN.out ⟨by omega, by omega⟩; omega⟩
      subst h22
      have HL : Hid (l = [(a, bv)]) := Lib.hid (by rw [HNX.out]; simp)
      clear HNX HJN
      go_wp2
      go_ret
      exact aft_one HL.out HB3.out
    by_cases h23 : op = 23
    · obtain ⟨a, rfl⟩ : ∃ a : Nat, arg = (a : Int) := ⟨arg.toNat, by have := HJN.out ⟨by omega, by omega⟩; omega⟩
      subst h23
      have HL : Hid (l = [(a, bv), (i + 1, bv)]) := Lib.hid (by rw [HNX.out]; simp)
      clear HNX HJN h22
      go_wp2
      go_ret
      exact aft_two HL.out HB3.out
    by_cases h24 : op = 24
    · obtain ⟨a, rfl⟩ : ∃ a : Nat, arg = (a : Int) := ⟨arg.toNat, by have := HJN.out ⟨by omega, by omega⟩; omega⟩
      subst h24
      have HL : Hid (l = [(a, h), (i + 1, bv)]) := Lib.hid (by rw [HNX.out]; simp)
      clear HNX HJN h22 h23
      go_wp2
      go_ret
      exact aft_two HL.out HB3.out
    by_cases h25 : op = 25
    · obtain ⟨a, rfl⟩ : ∃ a : Nat, arg = (a : Int) := ⟨arg.toNat, by have := HJN.out ⟨by omega, by omega⟩; omega⟩
      subst h25
      have HL : Hid (l = [(a, h), (i + 1, bv)]) := Lib.hid (by rw [HNX.out]; simp)
      clear HNX HJN h22 h23 h24
      go_wp2
      go_ret
      exact aft_two HL.out HB3.out
    by_cases h27 : op = 27
    · subst h27
      have HL : Hid (l = []) := Lib.hid (by rw [HNX.out]; simp)
      clear HNX HJN h22 h23 h24 h25
      go_wp2
      go_ret
      exact aft_nil HL.out HB3.out
    · have HL : Hid (l = [(i + 1, bv)]) := Lib.hid (by rw [HNX.out, if_neg h27, if_neg h22, if_neg h23, if_neg (by omega)])
      have e22 : (op == 22) = false := beq_eq_false_iff_ne.2 h22
      have e23 : (op == 23) = false := beq_eq_false_iff_ne.2 h23
      have e24 : (op == 24) = false := beq_eq_false_iff_ne.2 h24
      have e25 : (op == 25) = false := beq_eq_false_iff_ne.2 h25
      have e27 : (op == 27) = false := beq_eq_false_iff_ne.2 h27
      clear HNX HJN h22 h23 h24 h25 h27
      go_wp2
      go_ret
      exact aft_one HL.out HB3.out
end Go.Proofs.YtbhlockoeiedcaaGreatDoor
