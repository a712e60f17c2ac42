/-
  A parser's small functions: what comes next, and going behind it.
-/
import Derived.Test.YtccmodefjgjpeaaGreatDoorPAt
import Derived.LoopTactic
import Derived.RegionTactic
import Derived.Deep.QuietTactic
import Derived.BigQuiet
namespace Go.Proofs.YtccmodefjgjpeaaGreatDoor
open Go.RowKit

/-- A slice of texts at a block's beginning. -/
def SgAt (w : World) (g n : Nat) (l : List (List UInt8)) : Prop := l.length = n ∧ g < w.heap.size ∧ ∀ i (h : i < l.length), w.cell? ⟨g, i, none⟩ = some (.string (bs l[i]))
theorem SgAt.keep {w w' : World} {g n : Nat} {l : List (List UInt8)} (h : SgAt w g n l) (hs : w.heap.size ≤ w'.heap.size) (hb : w'.heap[g]? = w.heap[g]?) : SgAt w' g n l :=
  ⟨h.1, by have := h.2.1; omega, fun i hi => (World.cell?_of_block (a := ⟨g, i, none⟩) hb).trans (h.2.2 i hi)⟩
theorem below_drewN {B : Nat} {a w : World} (h : Below B a w) (n : Nat) : Below B a (w.drewN n) := ⟨h.os, h.tape, h.output, h.size, h.block⟩
theorem contains_yes {xs : List (List UInt8)} {b : List UInt8} (i : Nat) (h : i < xs.length) (e : b = xs[i]) : xs.contains b = true := by
  subst e; simp
theorem contains_no {xs : List (List UInt8)} {b : List UInt8} (h : ∀ i (h : i < xs.length), b ≠ xs[i]) : xs.contains b = false := by
  rw [Bool.eq_false_iff]
  intro hc
  obtain ⟨i, hi, e⟩ := List.mem_iff_getElem.1 (show b ∈ xs by simpa using hc)
  exact h i hi e.symm

def IndexPost (l : List (List UInt8)) (b : List UInt8) (w : World) (e : Ending) (w' : World) : Prop := (∃ i : Int, e = .returned (.int .i64 i) ∧ decide (0 ≤ i) = l.contains b) ∧ w = w'
set_option maxRecDepth 100000 in
set_option maxHeartbeats 1000000 in
theorem index_calls (g n c : Nat) (l : List (List UInt8)) (b : List UInt8) (hn : n ≤ 100000) (w : World) (hx : SgAt w g n l) :
    Calls Tryz.prog 143 #[.slice (some ⟨g, 0, none⟩) n c, .string (bs b)] w (IndexPost l b w) := by
  have HX := Lib.hid hx
  have HL := Lib.hid hx.1
  clear hx
  go_enter Tryz.func143, Tryz.ntmps143
  go_wp2
  go_loop [8] (fun a => ∃ i : Nat, i ≤ n ∧ a = .int .i64 i ∧ Hid (∀ j (h : j < l.length), j < i → b ≠ l[j])) (fun a => n - (intOf a).toNat)
  case atStart => exact ⟨0, by omega, rfl, Lib.hid (fun j _ hj => by omega)⟩
  case round =>
    obtain ⟨i, hi, rfl, HN⟩ := hrel
    by_cases hlt : i < n
    · have hc := HX.out.2.2 i (by rw [HL.out]; exact hlt)
      have hxl : i < l.length := by rw [HL.out]; exact hlt
      have h1 : (i : Int) < (n : Int) := by omega
      have h0 : (0 : Int) ≤ (i : Int) := by omega
      by_cases he : b = l[i]
      · have HE := Lib.hid (contains_yes i hxl he)
        have hq : ((bs b).toList == (bs l[i]).toList) = true := by rw [← he]; exact beq_self_eq_true _
        have HD : Hid (IndexPost l b w (.returned (.int .i64 (i : Int))) w) := Lib.hid ⟨⟨_, rfl, by rw [HE.out]; exact decide_eq_true h0⟩, rfl⟩
        clear he
        go_wp2
        go_ret
        exact HD.out
      · have HE := Lib.hid he
        have hq : ((bs b).toList == (bs l[i]).toList) = false := str_ne (fun e => he (by rw [← bs_toList b, e, bs_toList]))
        clear he
        go_wp2
        go_round
        case rel => exact ⟨i + 1, by omega, by go_num, Lib.hid (fun j hj hji => by
          by_cases h : j = i
          · subst h; exact HE.out
          · exact HN.out j hj (by omega))⟩
        case measure => simp [intOf]; omega
    · obtain rfl : i = n := by omega
      have HE := Lib.hid (contains_no (xs := l) (b := b) (fun j hj => HN.out j hj (by rw [← HL.out]; exact hj)))
      have HD : Hid (IndexPost l b w (.returned (.int .i64 (-1))) w) := Lib.hid ⟨⟨_, rfl, by rw [HE.out]; rfl⟩, rfl⟩
      go_wp2
      go_ret
      exact HD.out
set_option maxHeartbeats 1000000 in
theorem contains_calls (g n c : Nat) (l : List (List UInt8)) (b : List UInt8) (hn : n ≤ 100000) (w : World) (hx : SgAt w g n l) :
    Calls Tryz.prog 128 #[.slice (some ⟨g, 0, none⟩) n c, .string (bs b)] w fun e w' => e = .returned (.bool (l.contains b)) ∧ w' = w := by
  have hc := Lib.hid (index_calls g n c l b hn w hx)
  clear hx
  go_enter Tryz.func128, Tryz.ntmps128
  go_wp2_with fail
  refine hc.out.mono ?_
  rintro e w1 ⟨⟨i, rfl, hi⟩, rfl⟩
  have HI := Lib.hid hi
  clear hi
  go_wp2
  go_ret
  exact ⟨ret_bool HI.out, rfl⟩

theorem PAt.read {C : Cx} {S : Nat → Prop} {d : Nat} {s : Sg} {w : World} (h : PAt C S d s w) : ∃ bt ot ct bx ox cx, C.tv = .slice (some ⟨bt, ot, none⟩) C.T.length ct ∧ C.sv = .slice (some ⟨bx, ox, none⟩) C.T.length cx ∧
    w.cell? ⟨bt, ot + s.at_ * 3, none⟩ = some (.int .i64 ((cur C.T s).kind : Int)) ∧ w.cell? ⟨bt, ot + s.at_ * 3 + 1, none⟩ = some (.int .i64 ((cur C.T s).lo : Int)) ∧ w.cell? ⟨bx, ox + s.at_, none⟩ = some (.string (bs (cur C.T s).txt)) ∧
    w.cell? ⟨C.q, 0, none⟩ = some C.tv ∧ w.cell? ⟨C.q, 1, none⟩ = some C.sv ∧ w.cell? ⟨C.q, 2, none⟩ = some (.int .i64 (s.at_ : Int)) := by
  obtain ⟨_, ve, vs, vf, ce, cs, cf, h⟩ := h
  obtain ⟨bt, ot, ct, bx, ox, cx, h1, h2, _, _, hc⟩ := h.toks
  obtain ⟨c1, c2, _, c4⟩ := hc s.at_ h.lt
  rw [← cur_at h.lt] at c1 c2 c4
  exact ⟨bt, ot, ct, bx, ox, cx, h1, h2, c1, c2, c4, h.cells.1, h.cells.2.1, h.cells.2.2.1⟩

set_option maxRecDepth 100000 in
set_option maxHeartbeats 1000000 in
/-- is. -/
theorem is_calls (C : Cx) (S : Nat → Prop) (d : Nat) (s : Sg) (g n c : Nat) (l : List (List UInt8)) (hn : n ≤ 100000) (w : World) (h : PAt C S d s w) (hx : SgAt w g n l) :
    Calls Tryz.prog 98 #[.pointer (some ⟨C.q, 0, none⟩), .slice (some ⟨g, 0, none⟩) n c] w fun e w' => e = .returned (.bool (isP C.T l s)) ∧ Below w.heap.size w w' := by
  have hlt := h.lt
  have hlen := h.len
  obtain ⟨bt, ot, ct, bx, ox, cx, _, hsv, _, _, c4, _, d1, d2⟩ := h.read
  rw [hsv] at d1
  have hc := Lib.hid (fun m => contains_calls g n c l (cur C.T s).txt hn (w.drewN m) hx)
  clear h hx
  unfold isP
  generalize (cur C.T s).txt = t at *
  generalize hqq : C.q = q at *
  generalize hk : s.at_ = k at *
  have h0 : (0 : Int) ≤ (k : Int) := by omega
  have h1 : (k : Int) < (C.T.length : Int) := by omega
  clear hsv hqq hk
  go_enter Tryz.func98, Tryz.ntmps98
  go_wp2
  go_quiet ((go_at_call 128; exact Calls.quiet_of_same (hc.out _)))
  go_wp2
  go_ret
  exact ⟨rfl, below_drewN (Below.refl _ w) _⟩

set_option maxRecDepth 100000 in
set_option maxHeartbeats 1000000 in
theorem isA_calls (C : Cx) (S : Nat → Prop) (d : Nat) (s : Sg) (k : Nat) (w : World) (h : PAt C S d s w) :
    Calls Tryz.prog 65 #[.pointer (some ⟨C.q, 0, none⟩), .int .i64 (k : Int)] w fun e w' => e = .returned (.bool (isK C.T k s)) ∧ Below w.heap.size w w' := by
  have hlt := h.lt
  have hlen := h.len
  obtain ⟨bt, ot, ct, bx, ox, cx, htv, _, c1, _, _, d0, _, d2⟩ := h.read
  rw [htv] at d0
  have HR : Hid (isK C.T k s = (((cur C.T s).kind : Int) == (k : Int))) := Lib.hid (by
    unfold isK
    rw [Bool.eq_iff_iff]; simp only [beq_iff_eq]; omega)
  clear h
  generalize (cur C.T s).kind = t at *
  generalize hqq : C.q = q at *
  generalize hk : s.at_ = j at *
  have h0 : (0 : Int) ≤ (j : Int) := by omega
  have h1 : (j : Int) < (C.T.length : Int) := by omega
  clear htv hqq hk
  go_enter Tryz.func65, Tryz.ntmps65
  go_wp2
  go_quiet (fail)
  go_wp2
  go_ret
  exact ⟨ret_bool HR.out.symm, below_drewN (Below.refl _ w) _⟩

set_option maxRecDepth 100000 in
set_option maxHeartbeats 1000000 in
theorem from_calls (C : Cx) (S : Nat → Prop) (d : Nat) (s : Sg) (w : World) (h : PAt C S d s w) :
    Calls Tryz.prog 43 #[.pointer (some ⟨C.q, 0, none⟩)] w fun e w' => e = .returned (.int .i64 ((cur C.T s).lo : Int)) ∧ Below w.heap.size w w' := by
  have hlt := h.lt
  have hlen := h.len
  obtain ⟨bt, ot, ct, bx, ox, cx, htv, _, _, c2, _, d0, _, d2⟩ := h.read
  rw [htv] at d0
  clear h
  generalize (cur C.T s).lo = t at *
  generalize hqq : C.q = q at *
  generalize hk : s.at_ = j at *
  have h0 : (0 : Int) ≤ (j : Int) := by omega
  have h1 : (j : Int) < (C.T.length : Int) := by omega
  clear htv hqq hk
  go_enter Tryz.func43, Tryz.ntmps43
  go_wp2
  go_quiet (fail)
  go_wp2
  go_ret
  exact ⟨rfl, below_drewN (Below.refl _ w) _⟩

end Go.Proofs.YtccmodefjgjpeaaGreatDoor
