/-
  world's tapes: Left, gone through by the statement's own function.
-/
import Derived.Test.YtoailhkaenofpaaDoorWdT
import Derived.Deep.Cut
import Derived.Deep.RegionHeld3
import Derived.BigRegion
import Derived.RangeFuncBox
namespace Go.Proofs.YtoailhkaenofpaaDoor
open Go.RowKit

/-- What Left answers: a function with two boxes of its own. -/
def LfP (A : Option Addr) (c : Nat) (l : List Int) (at_ : Nat) (w : World) (e : Ending) (w' : World) : Prop :=
  Below w.heap.size w w' ∧ ∃ gi gf, e = .returned (.func (.func 26) #[] #[.pointer (some ⟨gf, 0, none⟩), .pointer (some ⟨gi, 0, none⟩)]) ∧ w.heap.size ≤ gi ∧ w.heap.size ≤ gf ∧
    w'.heap[gi]? = some (.cells #[.slice A l.length c] 22 (0, 0)) ∧ w'.heap[gf]? = some (.cells #[.int .i64 (at_ : Int)] 3 (0, 0))
set_option maxRecDepth 100000 in
set_option maxHeartbeats 2000000 in
theorem left_calls (X : Nat) (A : Option Addr) (c : Nat) (s : Int) (l : List Int) (at_ : Nat) (w : World) (h : TpAt w X A c s l at_) :
    Calls Tryd.prog 18 #[.pointer (some ⟨X, 0, none⟩)] w (LfP A c l at_ w) := by
  have x1 : w.cell? ⟨X, 1, none⟩ = some (.slice A l.length c) := cellC h.box 1
  have x2 : w.cell? ⟨X, 2, none⟩ = some (.int .i64 (at_ : Int)) := cellC h.box 2
  have hlt := blkLt h.box
  have y1 : w.drew.cell? ⟨X, 1, none⟩ = some (.slice A l.length c) := cellC h.box 1
  have y2 : w.drew.cell? ⟨X, 2, none⟩ = some (.int .i64 (at_ : Int)) := cellC h.box 2
  clear h
  have H1 : Hid (LfP A c l at_ w (.returned (.func (.func 26) #[] #[.pointer (some ⟨w.heap.size + 1, 0, none⟩), .pointer (some ⟨w.heap.size, 0, none⟩)])) ((w.alloc (.cells #[.slice A l.length c] 22)).alloc (.cells #[.int .i64 (at_ : Int)] 3)).drew) := Lib.hid
    ⟨(((Below.refl _ w).alloc (Nat.le_refl _) _).alloc (by simp) _).drew, w.heap.size, w.heap.size + 1, rfl, Nat.le_refl _, by omega, (Below.heap_alloc _ _ _ (by simp)).trans (newAt _ _ _ rfl), newAt _ _ _ (by simp)⟩
  have H2 : Hid (LfP A c l at_ w (.returned (.func (.func 26) #[] #[.pointer (some ⟨w.heap.size, 0, none⟩), .pointer (some ⟨w.heap.size + 1, 0, none⟩)])) ((w.alloc (.cells #[.int .i64 (at_ : Int)] 3)).alloc (.cells #[.slice A l.length c] 22)).drew) := Lib.hid
    ⟨(((Below.refl _ w).alloc (Nat.le_refl _) _).alloc (by simp) _).drew, w.heap.size + 1, w.heap.size, rfl, by omega, Nat.le_refl _, newAt _ _ _ (by simp), (Below.heap_alloc _ _ _ (by simp)).trans (newAt _ _ _ rfl)⟩
  go_enter Tryd.func18, Tryd.ntmps18
  go_wp2
  go_region
  all_goals go_wp2
  all_goals go_ret
  all_goals (first | exact H1.out | exact H2.out)

/-- All but two blocks as it was. -/
structure Ch2 (X Y : Nat) (w w' : World) : Prop where
  os : w'.os = w.os
  tape : w'.tape = w.tape
  output : w'.output = w.output
  size : w'.heap.size = w.heap.size
  block : ∀ k, k ≠ X → k ≠ Y → w'.heap[k]? = w.heap[k]?
theorem Ch2.refl (X Y : Nat) (w : World) : Ch2 X Y w w := ⟨rfl, rfl, rfl, rfl, fun _ _ _ => rfl⟩
theorem Ch2.trans {X Y : Nat} {a b c : World} (h : Ch2 X Y a b) (k : Ch2 X Y b c) : Ch2 X Y a c := ⟨k.os.trans h.os, k.tape.trans h.tape, k.output.trans h.output, k.size.trans h.size, fun i h1 h2 => (k.block i h1 h2).trans (h.block i h1 h2)⟩
theorem Ch2.cell {X Y : Nat} {a b : World} (h : Ch2 X Y a b) {g o : Nat} {u : Value} (hc : a.cell? ⟨g, o, none⟩ = some u) (h1 : g ≠ X) (h2 : g ≠ Y) : b.cell? ⟨g, o, none⟩ = some u := (World.cell?_of_block (a := ⟨g, o, none⟩) (h.block g h1 h2)).trans hc

set_option maxRecDepth 100000 in
set_option maxHeartbeats 2000000 in
/-- The statement's own function, told what should come next. -/
theorem cb_calls (A : Option Addr) (c : Nat) (s : Int) (l : List Int) (at0 k N Bo Ba Bn Bw : Nat) (w : World) (ho : Boxed w Bo 4 (.bool true)) (ha : Boxed w Ba 3 (.int .i64 (at0 : Int))) (hn : Boxed w Bn 3 (.int .i64 (k : Int)))
    (hw : w.heap[Bw]? = some (.cells #[.int .i64 s, .slice A l.length c] 24 (0, 0))) (hA : IsAt w N A l) (hlt : at0 + k < l.length) (hll : l.length ≤ 1000) (hno : Bo ≠ Bn) (hna : Bo ≠ Ba) (hnw : Bo ≠ Bw) (hnn : Ba ≠ Bn) :
    Calls Tryd.prog 19 #[.int .i64 l[at0 + k], .pointer (some ⟨Bo, 0, none⟩), .pointer (some ⟨Ba, 0, none⟩), .pointer (some ⟨Bn, 0, none⟩), .pointer (some ⟨Bw, 0, none⟩)] w
      fun e w' => e = .returned (.bool (decide (k + 1 < 5))) ∧ Ch2 Bo Bn w w' ∧ Boxed w' Bo 4 (.bool true) ∧ Boxed w' Bn 3 (.int .i64 ((k + 1 : Nat) : Int)) := by
  obtain ⟨b, off, rfl, _, hcl⟩ := hA (by omega)
  have y := hcl (at0 + k) hlt
  have c1 := ho.cell
  have f1 := ho.frozen
  have c2 := ha.cell
  have c3 := hn.cell
  have f3 := hn.frozen
  have c4 : w.cell? ⟨Bw, 1, none⟩ = some (.slice (some ⟨b, off, none⟩) l.length c) := cellC hw 1
  have HO := Lib.hid ho
  have HN := Lib.hid hn
  have j0 : (0 : Int) ≤ (at0 : Int) := by omega
  have j1 : (0 : Int) ≤ (k : Int) := by omega
  have j2 : (at0 : Int) + (k : Int) < (l.length : Int) := by omega
  have j3 : (at0 : Int) + (k : Int) ≤ 1000 := by omega
  have j4 : (k : Int) ≤ 1000 := by omega
  generalize l[at0 + k] = v at *
  have hv : (v == v) = true := beq_self_eq_true v
  clear hcl ho ha hn hw hA hlt
  have hput : Ch2 Bo Bn w ((w.setCell ⟨Bo, 0, none⟩ (.bool true)).setCell ⟨Bn, 0, none⟩ (.int .i64 ((k : Int) + 1))) := ⟨rfl, rfl, rfl, by simp [World.setCell], fun i h1 h2 => (setNe _ _ _ _ _ h2).trans (setNe _ _ _ _ _ h1)⟩
  have hb1 : Boxed ((w.setCell ⟨Bo, 0, none⟩ (.bool true)).setCell ⟨Bn, 0, none⟩ (.int .i64 ((k : Int) + 1))) Bo 4 (.bool true) := (HO.out.set _).other hno _
  have hb2 : Boxed ((w.setCell ⟨Bo, 0, none⟩ (.bool true)).setCell ⟨Bn, 0, none⟩ (.int .i64 ((k : Int) + 1))) Bn 3 (.int .i64 ((k + 1 : Nat) : Int)) := (HN.out.other (Ne.symm hno) _).set _
  have HF := Lib.hid (And.intro hput (And.intro hb1 hb2))
  clear hput hb1 hb2
  by_cases hk : k + 1 < 5
  · have d1 : decide ((k : Int) + 1 < 5) = true := decide_eq_true (by omega)
    have d2 : decide (k + 1 < 5) = true := decide_eq_true hk
    rw [d2]
    clear hk
    go_enter Tryd.func19, Tryd.ntmps19
    go_wp2
    go_ret
    exact ⟨rfl, HF.out⟩
  · have d1 : decide ((k : Int) + 1 < 5) = false := decide_eq_false (by omega)
    have d2 : decide (k + 1 < 5) = false := decide_eq_false hk
    rw [d2]
    clear hk
    go_enter Tryd.func19, Tryd.ntmps19
    go_wp2
    go_ret
    exact ⟨rfl, HF.out⟩

set_option maxRecDepth 100000 in
set_option maxHeartbeats 2000000 in
/-- The tape's function hands on what is left, five at most. -/
theorem each_calls (A A2 : Option Addr) (c c2 : Nat) (s : Int) (l : List Int) (at0 N N2 Bo Ba Bn Bw gi gf : Nat) (w : World) (ho : Boxed w Bo 4 (.bool true)) (ha : Boxed w Ba 3 (.int .i64 (at0 : Int))) (hn : Boxed w Bn 3 (.int .i64 0))
    (hw : w.heap[Bw]? = some (.cells #[.int .i64 s, .slice A l.length c] 24 (0, 0))) (hA : IsAt w N A l) (hA2 : IsAt w N2 A2 l) (hN : N ≤ Bo) (hNn : N ≤ Bn) (hgo : gi ≠ Bo) (hgn : gi ≠ Bn)
    (hNo2 : ∀ b off, A2 = some ⟨b, off, none⟩ → 0 < l.length → b ≠ Bo ∧ b ≠ Bn) (hi : w.heap[gi]? = some (.cells #[.slice A2 l.length c2] 22 (0, 0))) (hf : w.heap[gf]? = some (.cells #[.int .i64 (at0 : Int)] 3 (0, 0)))
    (hlt : at0 ≤ l.length) (hll : l.length ≤ 1000) (hno : Bo ≠ Bn) (hna : Bo ≠ Ba) (hnw : Bo ≠ Bw) (hnn : Ba ≠ Bn) (hwn : Bw ≠ Bn) :
    Calls Tryd.prog 26 #[.func (.func 19) #[] #[.pointer (some ⟨Bo, 0, none⟩), .pointer (some ⟨Ba, 0, none⟩), .pointer (some ⟨Bn, 0, none⟩), .pointer (some ⟨Bw, 0, none⟩)], .pointer (some ⟨gf, 0, none⟩), .pointer (some ⟨gi, 0, none⟩)] w
      fun e w' => (∃ v, e = .returned v) ∧ Ch2 Bo Bn w w' ∧ Boxed w' Bo 4 (.bool true) ∧ Boxed w' Bn 3 (.int .i64 ((min 5 (l.length - at0) : Nat) : Int)) := by
  have x0 : w.cell? ⟨gf, 0, none⟩ = some (.int .i64 (at0 : Int)) := cellC hf 0
  have HO := Lib.hid ho
  have HA := Lib.hid ha
  have HN := Lib.hid hn
  have HW := Lib.hid hw
  have HR := Lib.hid hA
  have HR2 := Lib.hid hA2
  have HNO := Lib.hid hNo2
  have HI := Lib.hid hi
  have HLT := Lib.hid hlt
  clear ho ha hn hw hA hA2 hNo2 hi hf
  go_enter Tryd.func26, Tryd.ntmps26
  go_wp2
  go_loopw [4] (fun i wr => ∃ k : Nat, at0 + k ≤ l.length ∧ k ≤ 4 ∧ i = .int .i64 ((at0 + k : Nat) : Int) ∧ Hid (Ch2 Bo Bn w wr) ∧ Hid (Boxed wr Bo 4 (.bool true)) ∧ Hid (Boxed wr Bn 3 (.int .i64 (k : Int)))) (fun i _ => l.length - (intOf i).toNat)
  case atStart => exact ⟨0, by omega, by omega, rfl, Lib.hid (Ch2.refl _ _ _), HO, HN⟩
  case round =>
    obtain ⟨k, hk, hk4, rfl, HC, HOr, HNr⟩ := hrel
    have x1 : wr.cell? ⟨gi, 0, none⟩ = some (.slice A2 l.length c2) := HC.out.cell (cellC HI.out 0) hgo hgn
    by_cases hkt : at0 + k < l.length
    · obtain ⟨b, off, rfl, _, hcl⟩ := HR2.out (by omega)
      obtain ⟨n1, n2⟩ := HNO.out b off rfl (by omega)
      have y : wr.cell? ⟨b, off + (at0 + k), none⟩ = some (.int .i64 l[at0 + k]) := HC.out.cell (hcl (at0 + k) hkt) n1 n2
      have HAr : Hid (IsAt wr N A l) := Lib.hid (HR.out.keep fun b o hb => World.cell?_of_block (a := ⟨b, o, none⟩) (HC.out.block b (by omega) (by omega)))
      have HCB := Lib.hid (cb_calls A c s l at0 k N Bo Ba Bn Bw wr HOr.out ((HC.out.block Ba (Ne.symm hna) hnn).trans HA.out) HNr.out ((HC.out.block Bw (Ne.symm hnw) hwn).trans HW.out) HAr.out hkt hll hno hna hnw hnn)
      have HKT := Lib.hid hkt
      generalize l[at0 + k] = v at *
      have j0 : (0 : Int) ≤ ((at0 + k : Nat) : Int) := by omega
      have j1 : ((at0 + k : Nat) : Int) < (l.length : Int) := by omega
      generalize hj : at0 + k = j at *
      have HJ := Lib.hid hj
      clear hcl hj hkt
      go_wp2_with fail
      refine HCB.out.mono ?_
      rintro e w5 ⟨rfl, hc5, ho5, hn5⟩
      have HC5 := Lib.hid (HC.out.trans hc5)
      have HO5 := Lib.hid ho5
      have HN5 := Lib.hid hn5
      clear hc5 ho5 hn5 x1 y
      by_cases hk5 : k + 1 < 5
      · have d2 : decide (k + 1 < 5) = true := decide_eq_true hk5
        rw [d2]
        go_wp2
        go_roundw
        case rel => exact ⟨k + 1, by have := HKT.out; have := HJ.out; omega, by omega, (by rw [← HJ.out]; go_num), HC5, HO5, HN5⟩
        case measure => simp [intOf]; omega
      · have d2 : decide (k + 1 < 5) = false := decide_eq_false hk5
        have HE : Hid (min 5 (l.length - at0) = k + 1) := Lib.hid (by have := HKT.out; have := HJ.out; omega)
        rw [d2]
        go_wp2
        refine bodyPost_ret (results_none rfl _ _ _) rfl ⟨⟨_, rfl⟩, HC5.out, HO5.out, ?_⟩
        rw [HE.out]; exact HN5.out
    · have HE : Hid (min 5 (l.length - at0) = k) := Lib.hid (by omega)
      have hjl : at0 + k = l.length := by omega
      rw [hjl]
      clear hk hkt hjl
      go_wp2
      go_end0
      refine ⟨⟨_, rfl⟩, HC.out, HOr.out, ?_⟩
      rw [HE.out]; exact HNr.out
end Go.Proofs.YtoailhkaenofpaaDoor
